import PyProof.Rows.All
import Wide.All
import OpenK.AllK
import Wide.FinOn
import HandS.ForMost
import HandS.Wide
import HandS.IsInst
import HandS.FStr
import HandS.NoneIn
import HandS.Conv
import HandS.Zip
import KE.KIndexOf
import HandS.Defaults
import HandS.RaiseMore
import PyProof.ReprBulk
import PyProof.ReprRoads
import PyProof.StrBlockL
import PySem.Challenge.RW_blockrooms_k29_arcs_told
set_option Elab.async false
set_option linter.all false
set_option maxRecDepth 100000
set_option maxHeartbeats 4000000
/-! Common to all laws: what stays, the reel, turns and blocks as plain Lean, and as they stand in the heap. -/
namespace Bk
open PySem PySem.Spec PyProof.Rows L2

/-! ### what stays -/
/-- all that was tracked but R is as it was -/
def Keep (R : Addr) (H H' : Hp) : Prop := ∀ b o, H b = some o → b ≠ R → H' b = some o
theorem Keep.refl (R : Addr) (H : Hp) : Keep R H H := fun _ _ h _ => h
theorem Keep.trans {R : Addr} {H H1 H2 : Hp} (a : Keep R H H1) (b : Keep R H1 H2) : Keep R H H2 := fun c o h n => b c o (a c o h n) n
theorem Keep.of {R : Addr} {H H' : Hp} (a : Same H H') : Keep R H H' := fun c o h _ => a c o h
theorem Keep.same {R : Addr} {H H1 H2 : Hp} (a : Keep R H H1) (b : Same H1 H2) : Keep R H H2 := a.trans (.of b)
theorem _root_.L2.Same.keep {R : Addr} {H H1 H2 : Hp} (a : Same H H1) (b : Keep R H1 H2) : Keep R H H2 := (Keep.of a).trans b
theorem same_new {H : Hp} {p : Addr} {o : HO} (h : H p = none) : Same H (upd H p o) := fun b x e => by
  rw [upd_ne (ne_of_none e h)]
  exact e
theorem keep_set {H : Hp} {p : Addr} {o : HO} : Keep p H (upd H p o) := fun b x e n => by
  rw [upd_ne n]
  exact e
/-- a list that a loop or comprehension fills, made since -/
theorem same_fill {H H1 : Hp} {D : Addr} {o : HO} (a : Same H H1) (h : H D = none) : Same H (upd H1 D o) := fun b x e => by
  rw [upd_ne (ne_of_none e h)]
  exact a b x e
theorem keep_fill {R : Addr} {H H1 : Hp} {D : Addr} {o : HO} (a : Keep R H H1) (h : H D = none) : Keep R H (upd H1 D o) := fun b x e n => by
  rw [upd_ne (ne_of_none e h)]
  exact a b x e n
theorem Keep.free {R : Addr} {H H' : Hp} (a : Keep R H H') {l : Addr} (h : H' l = none) (n : l ≠ R) : H l = none := by
  cases q : H l with
  | none => rfl
  | some o =>
    rw [a l o q n] at h
    cases h
theorem _root_.L2.Same.sqt {K : PySem.W.Frag} {H H' : Hp} {a : Addr} {xs : List V} (e : Same H H') (h : SqT K H a xs) : SqT K H' a xs := by
  rcases h with (h | ⟨o, h⟩) | h
  · exact .inl (.inl (e _ _ h))
  · exact .inl (.inr ⟨o, e _ _ h⟩)
  · exact .inr h
theorem lst_inj {H : Hp} {p : Addr} {xs ys : List V} (a : H p = some (.lst xs)) (b : H p = some (.lst ys)) : xs = ys := by
  rw [a] at b
  injection b with b
  injection b with b

/-! ### the reel -/
/-- the reel's four: great, cells, turned, stirred -/
structure Reel (R g c : Addr) (gs cs : List Int) (n st : Int) (H : Hp) : Prop where
  r : H R = some (.lst [.ref g, .ref c, .int n, .int st])
  g : H g = some (.lst (gs.map V.int))
  c : H c = some (.lst (cs.map V.int))
  gl : gs.length ≤ 63
  cl : cs.length ≤ 64
  g0 : ∀ x ∈ gs, 0 ≤ x
  c0 : ∀ x ∈ cs, 0 ≤ x ∧ x < 1000003
  ne : cs ≠ []
  s0 : 0 ≤ st
  s1 : st.natAbs < 2 ^ 127
def ReelOk (R : Addr) (H : Hp) : Prop := ∃ g c gs cs n st, Reel R g c gs cs n st H
theorem ReelOk.same {R : Addr} {H H' : Hp} (h : ReelOk R H) (s : Same H H') : ReelOk R H' := by
  obtain ⟨g, c, gs, cs, n, st, r⟩ := h
  exact ⟨g, c, gs, cs, n, st, ⟨s _ _ r.r, s _ _ r.g, s _ _ r.c, r.gl, r.cl, r.g0, r.c0, r.ne, r.s0, r.s1⟩⟩
/-- a list that is none of the reel's -/
def NotReel (xs : List V) : Prop := ∃ x r, xs = x :: r ∧ (∀ i : Int, x ≠ .int i) ∧ ∀ v ∈ xs, ∀ i : Int, v ≠ .int i
theorem ReelOk.set {R p : Addr} {H : Hp} {xs : List V} {o : HO} (h : ReelOk R H) (hp : H p = some (.lst xs)) (n : NotReel xs) : ReelOk R (upd H p o) ∧ p ≠ R := by
  obtain ⟨g, c, gs, cs, m, st, r⟩ := h
  obtain ⟨x, l, e, hx, hv⟩ := n
  have n1 : p ≠ R := fun z => by
    subst z
    have q := lst_inj hp r.r
    exact hv (.int m) (by rw [q]; simp) m rfl
  have nI : ∀ {q : Addr} {ns : List Int}, H q = some (.lst (ns.map V.int)) → p ≠ q := fun {q ns} hq z => by
    subst z
    have q := lst_inj hp hq
    rw [e] at q
    cases ns with
    | nil => cases q
    | cons y t =>
      injection q with q _
      exact hx y q
  have n2 := nI r.g
  have n3 := nI r.c
  exact ⟨⟨g, c, gs, cs, m, st, ⟨by rw [upd_ne n1.symm]; exact r.r, by rw [upd_ne n2.symm]; exact r.g, by rw [upd_ne n3.symm]; exact r.c, r.gl, r.cl, r.g0, r.c0, r.ne, r.s0, r.s1⟩⟩, n1⟩
/-- D is none of the reel's three lists -/
def Away (R D : Addr) (H : Hp) : Prop := ∃ g c gs cs n st, Reel R g c gs cs n st H ∧ D ≠ R ∧ D ≠ g ∧ D ≠ c
theorem Away.ok {R D : Addr} {H : Hp} (h : Away R D H) : ReelOk R H := by
  obtain ⟨g, c, gs, cs, n, st, r, _⟩ := h
  exact ⟨g, c, gs, cs, n, st, r⟩
theorem Away.ne {R D : Addr} {H : Hp} (h : Away R D H) : D ≠ R := by
  obtain ⟨g, c, gs, cs, n, st, r, h, _⟩ := h
  exact h
theorem Away.same {R D : Addr} {H H' : Hp} (h : Away R D H) (s : Same H H') : Away R D H' := by
  obtain ⟨g, c, gs, cs, n, st, r, q⟩ := h
  exact ⟨g, c, gs, cs, n, st, ⟨s _ _ r.r, s _ _ r.g, s _ _ r.c, r.gl, r.cl, r.g0, r.c0, r.ne, r.s0, r.s1⟩, q⟩
theorem Away.fill {R D : Addr} {H : Hp} {o : HO} (h : Away R D H) : Away R D (upd H D o) := by
  obtain ⟨g, c, gs, cs, n, st, r, h1, h2, h3⟩ := h
  exact ⟨g, c, gs, cs, n, st, ⟨by rw [upd_ne h1.symm]; exact r.r, by rw [upd_ne h2.symm]; exact r.g, by rw [upd_ne h3.symm]; exact r.c, r.gl, r.cl, r.g0, r.c0, r.ne, r.s0, r.s1⟩, h1, h2, h3⟩
theorem Away.fill' {R D D' : Addr} {H : Hp} {o : HO} (h : Away R D' H) (a : Away R D H) : Away R D' (upd H D o) := by
  obtain ⟨g, c, gs, cs, n, st, r, h1, h2, h3⟩ := a
  obtain ⟨g', c', _, _, _, _, r', z⟩ := h
  have e := r.r.symm.trans r'.r
  injection e with e
  injection e with e
  injection e with e1 e
  injection e with e2 e
  injection e1 with e1
  injection e2 with e2
  subst e1 e2
  exact ⟨g, c, _, _, _, _, ⟨by rw [upd_ne h1.symm]; exact r'.r, by rw [upd_ne h2.symm]; exact r'.g, by rw [upd_ne h3.symm]; exact r'.c, r'.gl, r'.cl, r'.g0, r'.c0, r'.ne, r'.s0, r'.s1⟩, z⟩
theorem ReelOk.away {R D : Addr} {H : Hp} {o : HO} (h : ReelOk R H) (hD : H D = none) : Away R D (upd H D o) := by
  obtain ⟨g, c, gs, cs, n, st, r⟩ := h
  have h1 : R ≠ D := ne_of_none r.r hD
  have h2 : g ≠ D := ne_of_none r.g hD
  have h3 : c ≠ D := ne_of_none r.c hD
  exact ⟨g, c, gs, cs, n, st, ⟨by rw [upd_ne h1]; exact r.r, by rw [upd_ne h2]; exact r.g, by rw [upd_ne h3]; exact r.c, r.gl, r.cl, r.g0, r.c0, r.ne, r.s0, r.s1⟩, h1.symm, h2.symm, h3.symm⟩
theorem Away.set {R D p : Addr} {H : Hp} {xs : List V} {o : HO} (h : Away R D H) (hp : H p = some (.lst xs)) (n : NotReel xs) : Away R D (upd H p o) ∧ p ≠ R := by
  obtain ⟨g, c, gs, cs, m, st, r, q⟩ := h
  obtain ⟨x, l, e, hx, hv⟩ := n
  have n1 : p ≠ R := fun z => by
    subst z
    have q := lst_inj hp r.r
    exact hv (.int m) (by rw [q]; simp) m rfl
  have nI : ∀ {q : Addr} {ns : List Int}, H q = some (.lst (ns.map V.int)) → p ≠ q := fun {q ns} hq z => by
    subst z
    have q := lst_inj hp hq
    rw [e] at q
    cases ns with
    | nil => cases q
    | cons y t =>
      injection q with q _
      exact hx y q
  exact ⟨⟨g, c, gs, cs, m, st, ⟨by rw [upd_ne n1.symm]; exact r.r, by rw [upd_ne (nI r.g).symm]; exact r.g, by rw [upd_ne (nI r.c).symm]; exact r.c, r.gl, r.cl, r.g0, r.c0, r.ne, r.s0, r.s1⟩, q⟩, n1⟩
/-- R's list is known by its third -/
theorem ReelOk.isR {R p : Addr} {H : Hp} {xs : List V} (h : ReelOk R H) (hp : H p = some (.lst xs)) (hx : ∀ v ∈ xs, ∀ i : Int, v ≠ .int i) : p ≠ R := fun z => by
  obtain ⟨g, c, gs, cs, m, st, r⟩ := h
  subst z
  have q := lst_inj hp r.r
  exact hx (.int m) (by rw [q]; simp) m rfl
theorem ReelOk.isT {R p : Addr} {H : Hp} {o : Obj} {u : HO} (h : ReelOk R H) (hp : H p = some (.frz o u)) : p ≠ R := fun z => by
  obtain ⟨g, c, gs, cs, m, st, r⟩ := h
  subst z
  rw [r.r] at hp
  cases hp
theorem Keep.tup {R p : Addr} {H H' : Hp} {o : Obj} {u : HO} (k : Keep R H H') (h : ReelOk R H) (hp : H p = some (.frz o u)) : H' p = some (.frz o u) := k _ _ hp (h.isT hp)

/-! ### lists of values -/
theorem small16 {n : Nat} (h : n ≤ 4000) : n < sizeLine := Nat.lt_of_le_of_lt h (by decide)
theorem get_map_int {ns : List Int} {i : Nat} {x : V} (h : (ns.map V.int)[i]? = some x) : ∃ k, x = .int k ∧ ns[i]? = some k := by
  rw [List.getElem?_map] at h
  cases e : ns[i]? with
  | none => rw [e] at h; cases h
  | some k =>
    rw [e] at h
    injection h with h
    exact ⟨k, h.symm, rfl⟩
theorem cut_to (xs : List V) (n : Nat) : cutV xs none (some (n : Int)) = xs.take n := by
  unfold cutV
  rw [HT.sIx_none, show HT.sIx xs.length xs.length (some (n : Int)) = min n xs.length from HT.sIx_nat xs.length xs.length n]
  show List.take (min n xs.length - 0) (xs.drop 0) = xs.take n
  rw [List.drop_zero, Nat.sub_zero]
  by_cases h : n ≤ xs.length
  · rw [Nat.min_eq_left h]
  · rw [Nat.min_eq_right (by omega), List.take_length, List.take_of_length_le (by omega)]
theorem cut_from1 (xs : List V) : cutV xs (some 1) none = xs.drop 1 := by
  unfold cutV
  rw [show HT.sIx xs.length 0 (some 1) = min 1 xs.length from HT.sIx_nat xs.length 0 1, HT.sIx_none]
  cases xs with
  | nil => rfl
  | cons x r =>
    rw [show min 1 (x :: r).length = 1 by
      rw [List.length_cons]
      omega]
    show (List.take ((x :: r).length - 1) r) = r
    rw [List.length_cons, Nat.add_sub_cancel]
    exact List.take_length
theorem fmod_pos {a b : Int} (h : 0 < b) : 0 ≤ a.fmod b ∧ a.fmod b < b := ⟨Int.fmod_nonneg_of_pos a h, Int.fmod_lt_of_pos a h⟩
theorem take_succ_map {α β : Type} {f : α → β} {xs : List α} {i : Nat} {x : α} (h : xs[i]? = some x) : (xs.take (i + 1)).map f = (xs.take i).map f ++ [f x] := by
  rw [List.take_add_one, h, List.map_append]
  rfl

/-! ### turns -/
abbrev Trn := List Nat
def turnsAB (a b : Nat) : List Trn := ((List.range 4).filter fun c => !(a == c || b == c)).map fun c => [a, b, c, 6 - a - b - c]
def bsOf (a : Nat) : List Nat := (List.range 4).filter fun b => !(b == a)
def turnsA (a : Nat) : List Trn := (bsOf a).flatMap (turnsAB a)
def turnsTo (n : Nat) : List Trn := (List.range n).flatMap turnsA
def allTurns : List Trn := turnsTo 4
def back (t : Trn) : Trn := (List.range 4).map fun c => t.idxOf c
def intV (n : Nat) : V := .int (n : Int)
def trnV (t : Trn) : List V := t.map intV
theorem turnsTo_succ (n : Nat) : turnsTo (n + 1) = turnsTo n ++ turnsA n := by
  unfold turnsTo
  rw [List.range_succ, List.flatMap_append]
  simp
theorem turns_len : allTurns.length = 24 := by decide +kernel
theorem turns4 : ∀ t ∈ allTurns, t.length = 4 ∧ (∀ x ∈ t, x < 4) ∧ back t ∈ allTurns ∧ (∀ x < 4, t[t.idxOf x]? = some x) ∧ t.Nodup := by decide +kernel
theorem turns_face : ∀ f < 4, ∀ a < 4, (allTurns.filter fun t => t[f]? == some a).length = 6 := by decide +kernel
theorem range_filter_succ (p : Nat → Bool) (n : Nat) : (List.range (n + 1)).filter p = (List.range n).filter p ++ (if p n then [n] else []) := by
  rw [List.range_succ, List.filter_append]
  by_cases h : p n
  · rw [if_pos h]
    simp [h]
  · rw [if_neg h]
    simp [h]

/-! ### as they stand -/
/-- a tuple stands at p, as the object o, that has no dict of its own -/
def FT (H : Hp) (p : Addr) (xs : List V) : Prop := ∃ o : Obj, o.dict = none ∧ H p = some (.frz o (.tup xs))
theorem FT.sqt {K : PySem.W.Frag} {H : Hp} {p : Addr} {xs : List V} (h : FT H p xs) : SqT K H p xs := by
  obtain ⟨o, _, h⟩ := h
  exact .inl (.inr ⟨o, h⟩)
/-- every such tuple stands -/
def Tups (H H' : Hp) : Prop := ∀ b o xs, H b = some (.frz o (.tup xs)) → H' b = some (.frz o (.tup xs))
theorem Tups.refl (H : Hp) : Tups H H := fun _ _ _ h => h
theorem Tups.trans {H H1 H2 : Hp} (a : Tups H H1) (b : Tups H1 H2) : Tups H H2 := fun c o xs h => b c o xs (a c o xs h)
theorem _root_.L2.Same.tups {H H' : Hp} (a : Same H H') : Tups H H' := fun b o xs h => a b _ h
theorem Keep.tups {R : Addr} {H H' : Hp} (k : Keep R H H') (h : ReelOk R H) : Tups H H' := fun b o xs e => k.tup h e
theorem tups_set {H : Hp} {p : Addr} {xs : List V} {o : HO} (h : H p = some (.lst xs)) : Tups H (upd H p o) := fun b _ ys e => by
  rw [upd_ne (ne_of e h (by intro z; cases z))]
  exact e
theorem FT.mono {H H' : Hp} {p : Addr} {xs : List V} (h : FT H p xs) (m : Tups H H') : FT H' p xs := by
  obtain ⟨o, d, h⟩ := h
  exact ⟨o, d, m _ _ _ h⟩
theorem FT.ne {H : Hp} {p q : Addr} {xs ys : List V} (h : FT H p xs) (k : H q = some (.lst ys)) : p ≠ q := by
  obtain ⟨o, d, h⟩ := h
  exact ne_of h k (by intro z; cases z)
theorem FT.new {H : Hp} {p : Addr} {xs : List V} {o : Obj} (d : o.dict = none) : FT (upd H p (.frz o (.tup xs))) p xs := ⟨o, d, upd_same⟩
theorem FT.inj {H : Hp} {p : Addr} {xs ys : List V} (h : FT H p xs) (k : FT H p ys) : xs = ys := by
  obtain ⟨o, d, h⟩ := h
  obtain ⟨o', d', k⟩ := k
  rw [h] at k
  injection k with k
  injection k with _ k
  injection k with k
def TAt (H : Hp) (v : V) (t : Trn) : Prop := ∃ p, v = .ref p ∧ FT H p (trnV t)
theorem TAt.mono {H H' : Hp} {v : V} {t : Trn} (h : TAt H v t) (m : Tups H H') : TAt H' v t := by
  obtain ⟨p, e, h⟩ := h
  exact ⟨p, e, h.mono m⟩
theorem pmono {α β : Type} {F G : α → β → Prop} {xs : List α} {ys : List β} (h : Paired F xs ys) (m : ∀ a b, F a b → G a b) : Paired G xs ys := Paired.mapP h m
theorem papp {α β : Type} {F : α → β → Prop} : ∀ {xs xs' : List α} {ys ys' : List β}, Paired F xs ys → Paired F xs' ys' → Paired F (xs ++ xs') (ys ++ ys')
  | _, _, _, _, .nil, h => h
  | _, _, _, _, .cons a t, h => .cons a (papp t h)
theorem plen {α β : Type} {F : α → β → Prop} {xs : List α} {ys : List β} (h : Paired F xs ys) : xs.length = ys.length := h.length
theorem pget {α β : Type} {F : α → β → Prop} : ∀ {xs : List α} {ys : List β} {i : Nat} {y : β}, Paired F xs ys → ys[i]? = some y → ∃ x, xs[i]? = some x ∧ F x y
  | _, _, _, _, .nil, e => by simp at e
  | _, _, 0, _, .cons r _, e => ⟨_, rfl, by simp at e; subst e; exact r⟩
  | _, _, i + 1, _, .cons _ t, e => by
    obtain ⟨x, h1, h2⟩ := pget (i := i) t (by simpa using e)
    exact ⟨x, by simpa using h1, h2⟩
theorem pget' {α β : Type} {F : α → β → Prop} : ∀ {xs : List α} {ys : List β} {i : Nat} {x : α}, Paired F xs ys → xs[i]? = some x → ∃ y, ys[i]? = some y ∧ F x y
  | _, _, _, _, .nil, e => by simp at e
  | _, _, 0, _, .cons r _, e => ⟨_, rfl, by simp at e; subst e; exact r⟩
  | _, _, i + 1, _, .cons _ t, e => by
    obtain ⟨x, h1, h2⟩ := pget' (i := i) t (by simpa using e)
    exact ⟨x, by simpa using h1, h2⟩

/-! ### rules with the written part K by name (a comprehension's own context has it, but not by that name) -/
section
variable {X : Cx} (K : PySem.W.Frag)
theorem kIxL (h : X.K = K) : IxR X (rIxL K) := h ▸ ix_list
theorem kIxT (h : X.K = K) : IxR X (rIxT K) := h ▸ ix_tup
theorem kSlL (h : X.K = K) : SlR X (rSlL K) := h ▸ sl_list
theorem kIn (h : X.K = K) : OpR X (compareOp .In) (rIn K false) := h ▸ op_in_seq
theorem kNotIn (h : X.K = K) : OpR X (compareOp .NotIn) (rIn K true) := h ▸ op_notIn_seq
theorem kEqD (h : X.K = K) (hu : X.A.units + 64 < cLine) : OpR X (compareOp .Eq) (rEqD K) := h ▸ op_eqD hu
theorem kNeD (h : X.K = K) (hu : X.A.units + 64 < cLine) : OpR X (compareOp .NotEq) (rNeD K) := h ▸ op_neD hu
def rLen (K : PySem.W.Frag) : List V → Hp → VK → Prop := fun xs H Q => ∃ p ys, xs = [.ref p] ∧ (SqL K H p ys ∨ SqT K H p ys) ∧ Q (.int ys.length) H
theorem kLen (h : X.K = K) : CallR X (.builtin "len") (rLen K) := h ▸ call_len_seq
def rListOf (K : PySem.W.Frag) : List V → Hp → VK → Prop := fun xs H Q => ∃ p ys, xs = [.ref p] ∧ (SqL K H p ys ∨ SqT K H p ys) ∧ ∀ l, H l = none → Q (.ref l) (upd H l (.lst ys))
theorem kList (h : X.K = K) : CallR X (.type "list") (rListOf K) := h ▸ call_list_of
def rTupleOf (K : PySem.W.Frag) : List V → Hp → VK → Prop := fun xs H Q => ∃ p ys, xs = [.ref p] ∧ ((SqL K H p ys ∧ ∀ l, H l = none → Q (.ref l) (upd H l (.tup ys))) ∨ (SqT K H p ys ∧ Q (.ref p) H))
theorem kTuple (h : X.K = K) : CallR X (.type "tuple") (rTupleOf K) := h ▸ call_tuple_of
theorem kIsi (h : X.K = K) : CallR X (.builtin "isinstance") (rIsi K) := h ▸ call_isi
theorem kIsiT (h : X.K = K) : CallR X (.builtin "isinstance") (rIsiT K) := h ▸ call_isiT
theorem kIndex (h : X.K = K) : MtR X "list.index" (rIndex K) := h ▸ mt_index
theorem kBM {e : Expr} {T : String} {r : V → List V → Hp → VK → Prop} {to : TE} {t : TA} (h : X.K = K) (x : PE X e (tBM X.K T r to t)) : PE X e (tBM K T r to t) := h ▸ x
theorem kBM0 {e : Expr} {T : String} {r : V → List V → Hp → VK → Prop} {to : TE} (h : X.K = K) (x : PE X e (tBM0 X.K T r to)) : PE X e (tBM0 K T r to) := h ▸ x
theorem kPiL {tg l : Expr} {tl : TE} (h : X.K = K) (x : PI X tg l (iList X.K tl)) : PI X tg l (iList K tl) := h ▸ x
theorem kPiT {tg l : Expr} {tl : TE} (h : X.K = K) (x : PI X tg l (iTup X.K tl)) : PI X tg l (iTup K tl) := h ▸ x
theorem kPgT {tg : Expr} {n : Nat} {t : TGs} (h : X.K = K) (x : PG X tg (gTup X.K n t)) : PG X tg (gTup K n t) := h ▸ x
def rJoin (K : PySem.W.Frag) : V → List V → Hp → VK → Prop := fun x xs H Q => ∃ a p, ∃ ys : List Str, x = .str a ∧ xs = [.ref p] ∧ (SqL K H p (ys.map V.str) ∨ SqT K H p (ys.map V.str)) ∧ (ys.map (·.length)).sum + ys.length * a.length ≤ 16777216 ∧ Q (.str (Txt.join a ys)) H
theorem kJoin {e : Expr} {to te : TE} (h : X.K = K) (x : PE X e (tM1 (rJoin X.K) to te)) : PE X e (tM1 (rJoin K) to te) := h ▸ x
theorem kAll (h : X.K = K) (hc : X.calm = true) : CallR X (.builtin "all") (rAll K) := h ▸ cr_all hc
/-- (a, b, ..), told as the object that it is -/
def tTupF (t : TA) : TE := fun σ H Q => t σ H fun xs H1 => xs.length ≤ sizeLine ∧ ∀ p o, H1 p = none → o.dict = none → Q (.ref p) (upd H1 p (.frz o (.tup xs)))
theorem pe_tupF {es : List Expr} {t : TA} {pos : Pos} {x1} (h : PA X es t) : PE X (.Tuple es x1 pos) (tTupF t) := by
  refine ⟨fun pins s σ H Q I hw => wpAny_Tuple_spliced (thn (h.run pos pins s σ H _ I hw) fun us s1 hv => ?_)⟩
  obtain ⟨xs, H1, J, r, z, q⟩ := hv
  refine ⟨by rw [← r.length]; exact z, .ref s1.heap.objs.size, upd H1 s1.heap.objs.size (.frz { cls := .type "tuple", data := .seq us.toArray } (.tup xs)), ?_, rfl, q _ _ (J.hok.fresh (Nat.le_refl _)) rfl⟩
  have g : (s1.heap.push { cls := .type "tuple", data := .seq us.toArray }).get? s1.heap.objs.size = some { cls := .type "tuple", data := .seq us.toArray } := Heap.get?_push_size _ rfl
  exact J.laid (t' := s1.toks) (fun _ _ e => Heap.get?_push_of_some _ e) (Nat.le_refl _) ⟨g, z, us, r, ⟨_, g, rfl, _, rfl⟩⟩
/-- tuple(x), likewise -/
def rTupleF (K : PySem.W.Frag) : List V → Hp → VK → Prop := fun xs H Q => ∃ p ys, xs = [.ref p] ∧ ((SqL K H p ys ∧ ∀ l o, H l = none → o.dict = none → Q (.ref l) (upd H l (.frz o (.tup ys)))) ∨ (SqT K H p ys ∧ Q (.ref p) H))
theorem kTupleF (h : X.K = K) : CallR X (.type "tuple") (rTupleF K) := by
  subst h
  rintro pins s σ H _ us Q I r ⟨p, ys, rfl, hw⟩
  obtain ⟨u, rfl, rx⟩ := vals1 r
  cases rx
  rcases hw with ⟨hq, q⟩ | ⟨hq, q⟩
  · obtain ⟨its, rv, pl, hz⟩ := I.list hq
    have hlen := rv.length
    refine call_tuple_list pl.isList (fun h' kp => ?_) (by simp only [List.size_toArray] <;> omega)
    have J : Inv X pins σ H { s with heap := h' } := I.kept (t' := s.toks) kp
    have g : (h'.push { cls := .type "tuple", data := .seq its.toArray }).get? h'.objs.size = some { cls := .type "tuple", data := .seq its.toArray } := Heap.get?_push_size _ rfl
    exact ⟨.ref h'.objs.size, _, J.laid (t' := s.toks) (fun _ _ e => Heap.get?_push_of_some _ e) (Nat.le_refl _) (show ObjOk X.prog X.w _ _ _ (.frz _ (.tup ys)) from ⟨g, hz, its, rv, ⟨_, g, rfl, _, rfl⟩⟩), rfl, q _ _ (J.hok.fresh (Nat.le_refl _)) rfl⟩
  · obtain ⟨its, _, pl, _⟩ := I.tuple hq
    exact call_tuple_same pl ⟨.ref p, H, I, rfl, q⟩
/-- t.m(e, ..), t such a tuple -/
def tBMF (r : V → List V → Hp → VK → Prop) (to : TE) (t : TA) : TE := fun σ H Q => to σ H fun x H1 => (∃ p xs, x = .ref p ∧ FT H1 p xs) ∧ t σ H1 fun vs H2 => r x vs H2 Q
theorem pe_bmF {o e : Expr} {es : List Expr} {to : TE} {t : TA} {name : Str} {apos cpos : Pos} {id : String} {r : V → List V → Hp → VK → Prop} (pa : PlainAttrs "tuple") (slot : Slot "tuple" name id) (hty : typeOf (.builtin id) = pure (.type "method_descriptor")) (hm : MtR X id r)
    (ho : PE X o to) (ha : PA X (e :: es) t) (h1 : attributeBase o name X.env (eval o X.env) = eval o X.env := by rfl)
    (h2 : ((backTo cpos (starEach (e :: es) X.env)).all (fun x => !x.1) && (backToKw cpos (keywordEach [] X.env)).all (fun x => x.1.isSome) && decide ((e :: es).length + ([] : List Keyword).length + (if ([] : List Keyword).isEmpty then 0 else 1) < 30)) = true := by rfl)
    (h3 : (apos.endLine == cpos.line) = true := by rfl) (h4 : starEach (e :: es) X.env = (false, eval e X.env) :: starEach es X.env := by rfl) (h5 : (backTo cpos (starEach es X.env)).any (·.1) = false := by rfl) :
    PE X (.Call (.Attribute o name apos) (e :: es) [] cpos) (tBMF r to t) := by
  refine ⟨fun pins s σ H Q I hw => wpAny_Call_method_late h1 h2 h3 rfl (thn (ho.run pins s σ H _ I hw) fun v s1 hv => ?_)⟩
  obtain ⟨x, H1, J, rx, ⟨p, xs, rfl, ob, dn, hp⟩, q⟩ := hv
  cases rx
  obtain ⟨g, _, its, _, ob', g', hc, _⟩ := J.hok p _ hp
  have eo : ob = ob' := Option.some.inj (g.symm.trans g')
  subst eo
  refine ⟨"tuple", id, pa, slot, hty, ⟨ob, g, hc⟩, fun a ea => ?_, ?_⟩
  · cases ea
    exact ⟨ob, g, dn⟩
  have hA := ha.run cpos pins s1 σ H1 _ J q
  rw [h4] at hA ⊢
  refine Calls.callWith_builtin (by show (false || (backTo cpos (starEach es X.env)).any (·.1)) = false; rw [h5] <;> rfl) (Calls.evalArgs_plain (thn hA fun us s2 hv => ?_))
  obtain ⟨vs, H2, J2, r2, q2⟩ := hv
  exact hm pins s2 σ H2 (.ref p) vs _ us Q J2 rfl r2 q2
/-- a walk over the list or the tuple at a, and what it leans on -/
inductive SeqIt (K : PySem.W.Frag) (a : Addr) : It → (Hp → List V → Prop) → Prop
  | l : SeqIt K a (Itl K a) fun H xs => SqL K H a xs
  | t : SeqIt K a (Itt K a) fun H xs => SqT K H a xs
theorem SeqIt.mono {a : Addr} {J : It} {C : Hp → List V → Prop} (h : SeqIt K a J C) {H H' : Hp} {xs : List V} (m : ∀ o, H a = some o → H' a = some o) (c : C H xs) : C H' xs := by
  cases h with
  | l =>
    rcases c with (c | ⟨o, c⟩) | c
    · exact .inl (.inl (m _ c))
    · exact .inl (.inr ⟨o, m _ c⟩)
    · exact .inr c
  | t =>
    rcases c with (c | ⟨o, c⟩) | c
    · exact .inl (.inl (m _ c))
    · exact .inl (.inr ⟨o, m _ c⟩)
    · exact .inr c
/-- a list or a tuple is walked -/
def iSeq (K : PySem.W.Frag) (tl : TE) : TI := fun σ H R => tl σ H fun x H1 => ∃ a xs, x = .ref a ∧ (SqL K H1 a xs ∨ SqT K H1 a xs) ∧ ∀ J C, SeqIt K a J C → C H1 xs → R J H1
theorem kPiS {tg l : Expr} {tl : TE} (h : X.K = K) (hl : PE X l tl) : PI X tg l (iSeq K tl) := by
  subst h
  refine ⟨fun pins s σ H R I hw => thn (hl.run pins s σ H _ I hw) fun v s1 hv => ?_⟩
  obtain ⟨x, H1, J, rx, a, xs, rfl, hq, q⟩ := hv
  cases rx
  have new : ∀ b ∈ [s1.heap.objs.size], FpOk X pins H1 b := fun b hb => by
    rw [List.mem_singleton.mp hb]
    exact J.fpOk (Nat.le_refl _) (J.hok.fresh (Nat.le_refl _))
  rcases hq with hq | hq
  · obtain ⟨its, _, pl, _⟩ := J.list hq
    exact wpAny_pyIter_list pl.isList ⟨_, _, _, _, H1, rfl, J.kept (t' := s1.toks) fun _ _ z => Heap.get?_push_of_some _ z, turn_list a _, ⟨_, Heap.get?_push_size _ rfl, rfl, rfl⟩, new, q _ _ .l hq⟩
  · obtain ⟨its, _, pt, _⟩ := J.tuple hq
    exact wpAny_pyIter_tuple (show s1.heap.IsTuple a its.toArray from pt) ⟨_, _, _, _, H1, rfl, J.kept (t' := s1.toks) fun _ _ z => Heap.get?_push_of_some _ z, turn_tuple a _, ⟨_, Heap.get?_push_size _ rfl, rfl, rfl⟩, new, q _ _ .t hq⟩
variable {K}
/-- what a comprehension's walk asks, and a loop's -/
def LcEnd (J : It) (g : TG) (tt : TT) (te : TE) (vs : List Nat) (σ : L2.St) (H1 : Hp) (D : Addr) (Qd : Hp → Prop) : Prop :=
  ∃ W : Nat → Nat → Hp → Prop, (∃ m, W 0 m (upd H1 D (.lst []))) ∧
    ∀ i m H, W i m H →
      (J.stop i H ∧ Qd H) ∨
      (J.go i H ∧ ∃ Nx : Hp → Prop, (∀ H', Nx H' → ∃ m', m' < m ∧ W (i + 1) m' H') ∧
        ∀ x H', J.yld i H x H' →
          g x (wipe σ vs) H' fun σ2 H2 => wipe σ2 vs = wipe σ vs ∧
            tt σ2 H2 fun b H3 => if b = true then te σ2 H3 fun y H4 =>
              ∃ acc, H4 D = some (.lst acc) ∧ acc.length < sizeLine ∧ Nx (upd H4 D (.lst (acc ++ [y])))
            else Nx H3)
theorem lc_seq {a : Addr} {J : It} {C : Hp → List V → Prop} {xs : List V} {g : TG} {tt : TT} {te : TE} {vs : List Nat} {σ : L2.St} {H1 : Hp} {D : Addr} {Qd : Hp → Prop} (hJ : SeqIt K a J C) (Pv : Nat → Hp → Prop) (h0 : Pv 0 (upd H1 D (.lst [])))
    (hl : ∀ i H, Pv i H → C H xs)
    (hs : ∀ i x H, xs[i]? = some x → Pv i H → g x (wipe σ vs) H fun σ2 H2 => wipe σ2 vs = wipe σ vs ∧ tt σ2 H2 fun b H3 =>
      if b = true then te σ2 H3 fun y H4 => ∃ acc, H4 D = some (.lst acc) ∧ acc.length < sizeLine ∧ Pv (i + 1) (upd H4 D (.lst (acc ++ [y]))) else Pv (i + 1) H3)
    (hd : ∀ H, Pv xs.length H → Qd H) : LcEnd J g tt te vs σ H1 D Qd := by
  cases hJ with
  | l => exact lc_list (xs := xs) Pv h0 (fun i H _ p => hl i H p) hs hd
  | t => exact lc_tup (xs := xs) Pv h0 (fun i H _ p => hl i H p) hs hd
def ForEnd (J : It) (g : TG) (tb : TS) (D : Ends) (σ : L2.St) (H1 : Hp) : Prop :=
  ∃ W : Nat → Nat → L2.St → Hp → Prop, (∃ m, W 0 m σ H1) ∧
    ∀ i m σ H, W i m σ H →
      (J.stop i H ∧ D.nx σ H) ∨
      (J.go i H ∧ ∃ N : L2.St → Hp → Prop, (∀ σ' H', N σ' H' → ∃ m', m' < m ∧ W (i + 1) m' σ' H') ∧
        ∀ x H', J.yld i H x H' → g x σ H' fun σ2 H2 => tb { D with nx := N, ct := N, bk := D.nx } σ2 H2)
/-- a loop over such a walk -/
theorem for_seq {a : Addr} {J : It} {C : Hp → List V → Prop} {xs : List V} {g : TG} {tb : TS} {D : Ends} {σ : L2.St} {H1 : Hp} (hJ : SeqIt K a J C) (Pv : Nat → L2.St → Hp → Prop) (h0 : Pv 0 σ H1)
    (hl : ∀ i σ H, Pv i σ H → C H xs)
    (hs : ∀ i x σ H, xs[i]? = some x → Pv i σ H → g x σ H fun σ2 H2 => tb { D with nx := Pv (i + 1), ct := Pv (i + 1), bk := D.nx } σ2 H2)
    (hd : ∀ σ H, Pv xs.length σ H → D.nx σ H) : ForEnd J g tb D σ H1 := by
  cases hJ with
  | l => exact for_list (xs := xs) Pv h0 (fun i σ H _ p => hl i σ H p) hs hd
  | t => exact for_tup (xs := xs) Pv h0 (fun i σ H _ p => hl i σ H p) hs hd
variable (K)
/-- (a, b, ..) = a list or a tuple of that length -/
def gSeq (K : PySem.W.Frag) (n : Nat) (t : TGs) : TG := fun v σ H Q => ∃ a xs, v = .ref a ∧ (SqL K H a xs ∨ SqT K H a xs) ∧ xs.length = n ∧ t xs σ H Q
theorem kPgS {tg : Expr} {n : Nat} {t : TGs} (h : X.K = K) (x : PG X tg (gTup X.K n t)) (y : PG X tg (gUnl X.K n t)) : PG X tg (gSeq K n t) := by
  subst h
  refine ⟨fun pins s σ H v u Q I r hw => ?_⟩
  obtain ⟨a, xs, e, hq | hq, hl, hw⟩ := hw
  · exact y.run pins s σ H v u Q I r ⟨a, xs, e, hq, hl, hw⟩
  · exact x.run pins s σ H v u Q I r ⟨a, xs, e, hq, hl, hw⟩
theorem kTupIx (h : X.K = K) : MtR X "tuple.index" (fun x xs H Q => ∃ p, ∃ ns : List Int, ∃ k : Int, x = .ref p ∧ xs = [.int k] ∧ SqT K H p (ns.map V.int) ∧ k ∈ ns ∧ Q (.int (ns.idxOf k : Nat)) H) := by
  subst h
  rintro pins s σ H x xs v us Q I rx rs ⟨p, ns, k, rfl, rfl, hq, hk, q⟩
  cases rx
  obtain ⟨u, rfl, ru⟩ := rs.one
  obtain ⟨t, rfl⟩ := ru
  obtain ⟨its, r, pl, _⟩ := I.tuple hq
  exact SeqAt.tuple_index_ints pl (intsAre_of r) hk ⟨.int _, H, I.tok _, ⟨_, rfl⟩, q⟩
end

/-! ### spaces -/
abbrev Jn := Option (Nat × Trn)
abbrev Blk := List Jn
abbrev Spc := List Blk
def free4 : Blk := [none, none, none, none]
/-- what stands at a face: none where there is no such face -/
def getJ (s : Spc) (b f : Nat) : Option Jn := s[b]?.bind fun l => l[f]?
def setJ (s : Spc) (b f : Nat) (j : Jn) : Spc := s.modify b fun l => l.set f j
def tf (t : Trn) (f : Nat) : Nat := t[f]?.getD 0
def joinJ (s : Spc) (b f n : Nat) (t : Trn) : Spc := setJ (setJ s b f (some (n, t))) n (tf t f) (some (b, back t))
theorem setJ_len (s : Spc) (b f : Nat) (j : Jn) : (setJ s b f j).length = s.length := List.length_modify ..
theorem joinJ_len (s : Spc) (b f n : Nat) (t : Trn) : (joinJ s b f n t).length = s.length := by
  unfold joinJ
  rw [setJ_len, setJ_len]
theorem getJ_set (s : Spc) (b f b' f' : Nat) (j : Jn) : getJ (setJ s b f j) b' f' = if b' = b ∧ f' = f then (getJ s b' f').map fun _ => j else getJ s b' f' := by
  unfold getJ setJ
  rw [List.getElem?_modify]
  cases h : s[b']? with
  | none => simp
  | some l =>
    show ((fun a => if b = b' then List.set a f j else a) l)[f']? = _
    by_cases hb : b = b'
    · subst hb
      show (if b = b then List.set l f j else l)[f']? = if b = b ∧ f' = f then (l[f']?).map fun _ => j else l[f']?
      rw [if_pos rfl, List.getElem?_set]
      by_cases hf : f = f'
      · subst hf
        rw [if_pos (show f = f from rfl), if_pos (show b = b ∧ f = f from ⟨rfl, rfl⟩)]
        by_cases hl : f < l.length
        · rw [if_pos hl, List.getElem?_eq_getElem hl]
          rfl
        · rw [if_neg hl, List.getElem?_eq_none (Nat.le_of_not_lt hl)]
          rfl
      · rw [if_neg hf, if_neg (fun z => hf z.2.symm)]
    · show (if b = b' then List.set l f j else l)[f']? = _
      rw [if_neg hb, if_neg (fun z => hb z.1.symm)]
      rfl
def L4 (s : Spc) : Prop := ∀ b ∈ s, b.length = 4
theorem L4.get {s : Spc} (h : L4 s) {b : Nat} (hb : b < s.length) {f : Nat} (hf : f < 4) : ∃ j, getJ s b f = some j := by
  unfold getJ
  rw [List.getElem?_eq_getElem hb]
  have := h _ (List.getElem_mem hb)
  exact ⟨_, List.getElem?_eq_getElem (by omega)⟩
theorem L4.of {s : Spc} (h : L4 s) {b f : Nat} {j : Jn} (e : getJ s b f = some j) : b < s.length ∧ f < 4 := by
  unfold getJ at e
  cases hs : s[b]? with
  | none =>
    rw [hs] at e
    cases e
  | some l =>
    rw [hs] at e
    have h1 := (List.getElem?_eq_some_iff.mp hs).1
    have h2 := (List.getElem?_eq_some_iff.mp (show l[f]? = some j from e)).1
    exact ⟨h1, by rw [h l (List.mem_of_getElem? hs)] at h2; exact h2⟩
theorem L4.set {s : Spc} (h : L4 s) (b f : Nat) (j : Jn) : L4 (setJ s b f j) := fun l hl => by
  obtain ⟨i, hi⟩ := List.mem_iff_getElem?.mp hl
  unfold setJ at hi
  rw [List.getElem?_modify] at hi
  cases hs : s[i]? with
  | none =>
    rw [hs] at hi
    simp at hi
  | some m =>
    rw [hs] at hi
    have hm := h m (List.mem_of_getElem? hs)
    simp at hi
    rw [← hi]
    split
    · rw [List.length_set]
      exact hm
    · exact hm
theorem L4.join {s : Spc} (h : L4 s) (b f n : Nat) (t : Trn) : L4 (joinJ s b f n t) := (h.set _ _ _).set _ _ _
/-- joinings go both ways -/
def Both (s : Spc) : Prop := ∀ b f n t, getJ s b f = some (some (n, t)) → t ∈ allTurns ∧ (n, tf t f) ≠ (b, f) ∧ getJ s n (tf t f) = some (some (b, back t))
structure Good (s : Spc) : Prop where
  l4 : L4 s
  both : Both s
theorem back_back : ∀ t ∈ allTurns, back (back t) = t := by decide +kernel
theorem tf_back : ∀ t ∈ allTurns, ∀ f < 4, tf (back t) (tf t f) = f := by decide +kernel
theorem tf_lt : ∀ t ∈ allTurns, ∀ f < 4, tf t f < 4 ∧ t[f]? = some (tf t f) := by decide +kernel
theorem back_mem {t : Trn} (h : t ∈ allTurns) : back t ∈ allTurns := (turns4 t h).2.2.1
theorem Good.lt {s : Spc} (h : Good s) {b f n : Nat} {t : Trn} (e : getJ s b f = some (some (n, t))) : n < s.length := (h.l4.of (h.both b f n t e).2.2).1
theorem Good.join {s : Spc} (h : Good s) {b f n : Nat} {t : Trn} (ht : t ∈ allTurns) (h1 : getJ s b f = some none) (h2 : getJ s n (tf t f) = some none) (hne : (n, tf t f) ≠ (b, f)) : Good (joinJ s b f n t) := by
  refine ⟨L4.join h.l4 b f n t, fun b' f' n' t' e => ?_⟩
  have hf := (h.l4.of h1).2
  have G : ∀ x y, getJ (joinJ s b f n t) x y = if x = n ∧ y = tf t f then some (some (b, back t)) else if x = b ∧ y = f then some (some (n, t)) else getJ s x y := fun x y => by
    unfold joinJ
    rw [getJ_set, getJ_set]
    by_cases c1 : x = n ∧ y = tf t f
    · rw [if_pos c1, if_pos c1, c1.1, c1.2]
      rw [if_neg (fun z => hne (Prod.ext z.1 z.2)), h2]
      rfl
    · rw [if_neg c1, if_neg c1]
      by_cases c2 : x = b ∧ y = f
      · rw [if_pos c2, if_pos c2, c2.1, c2.2, h1]
        rfl
      · rw [if_neg c2, if_neg c2]
  rw [G] at e ⊢
  by_cases c1 : b' = n ∧ f' = tf t f
  · rw [if_pos c1] at e
    obtain ⟨rfl, rfl⟩ := c1
    cases e
    refine ⟨back_mem ht, ?_, ?_⟩
    · rw [tf_back t ht f hf]
      exact fun z => hne z.symm
    · rw [tf_back t ht f hf, if_neg (fun z => hne (Prod.ext z.1.symm z.2.symm)), if_pos ⟨rfl, rfl⟩, back_back t ht]
  · rw [if_neg c1] at e
    by_cases c2 : b' = b ∧ f' = f
    · rw [if_pos c2] at e
      obtain ⟨rfl, rfl⟩ := c2
      cases e
      refine ⟨ht, hne, ?_⟩
      rw [if_pos ⟨rfl, rfl⟩]
    · rw [if_neg c2] at e
      obtain ⟨q1, q2, q3⟩ := h.both _ _ _ _ e
      refine ⟨q1, q2, ?_⟩
      rw [if_neg, if_neg]
      · exact q3
      · rintro ⟨rfl, hz⟩
        rw [hz, h1] at q3
        cases q3
      · rintro ⟨rfl, hz⟩
        rw [hz, h2] at q3
        cases q3
theorem getJ_join {s : Spc} {b f n : Nat} {t : Trn} {x y : Nat} (n1 : ¬ (x = b ∧ y = f)) (n2 : ¬ (x = n ∧ y = tf t f)) : getJ (joinJ s b f n t) x y = getJ s x y := by
  unfold joinJ
  rw [getJ_set, if_neg n2, getJ_set, if_neg n1]

/-! ### spaces as they stand -/
def JAt (H : Hp) (v : V) : Jn → Prop
  | none => v = .non
  | some (n, t) => ∃ p q, v = .ref p ∧ FT H p [intV n, .ref q] ∧ FT H q (trnV t)
theorem JAt.mono {H H' : Hp} {v : V} {j : Jn} (h : JAt H v j) (m : Tups H H') : JAt H' v j := by
  cases j with
  | none => exact h
  | some k =>
    obtain ⟨p, q, e, h1, h2⟩ := h
    exact ⟨p, q, e, h1.mono m, h2.mono m⟩
theorem JAt.kind {H : Hp} {v : V} {j : Jn} (h : JAt H v j) : v = .non ∨ ∃ p xs, v = .ref p ∧ FT H p xs := by
  cases j with
  | none => exact .inl h
  | some k =>
    obtain ⟨p, q, e, h1, h2⟩ := h
    exact .inr ⟨p, _, e, h1⟩
def BAt (H : Hp) (v : V) (b : Blk) : Prop := ∃ p vs, v = .ref p ∧ H p = some (.lst vs) ∧ Paired (JAt H) vs b
theorem BAt.mono {H H' : Hp} {v : V} {b : Blk} (h : BAt H v b) (m : Tups H H') (k : ∀ p xs, v = .ref p → H p = some (.lst xs) → H' p = some (.lst xs)) : BAt H' v b := by
  obtain ⟨p, vs, e, h1, h2⟩ := h
  exact ⟨p, vs, e, k p vs e h1, pmono h2 fun _ _ x => x.mono m⟩
structure SpAt (H : Hp) (l : Addr) (rs : List V) (s : Spc) : Prop where
  l : H l = some (.lst rs)
  b : Paired (BAt H) rs s
  nd : rs.Nodup
theorem notReel_blk {H : Hp} {vs : List V} {b : Blk} (h : Paired (JAt H) vs b) (hb : b ≠ []) : NotReel vs := by
  have hv : ∀ v ∈ vs, ∀ i : Int, v ≠ .int i := fun v hv i e => by
    obtain ⟨k, hk⟩ := List.mem_iff_getElem?.mp hv
    obtain ⟨j, _, hj⟩ := pget' h hk
    rcases hj.kind with z | ⟨p, xs, z, _⟩
    · rw [e] at z
      cases z
    · rw [e] at z
      cases z
  cases h with
  | nil => exact absurd rfl hb
  | cons a t => exact ⟨_, _, rfl, hv _ List.mem_cons_self, hv⟩
theorem notReel_refs {ps : List V} (hne : ps ≠ []) (h : ∀ v ∈ ps, ∃ p, v = .ref p) : NotReel ps := by
  have hv : ∀ v ∈ ps, ∀ i : Int, v ≠ .int i := fun v hv i e => by
    obtain ⟨p, z⟩ := h v hv
    rw [e] at z
    cases z
  cases ps with
  | nil => exact absurd rfl hne
  | cons a t => exact ⟨_, _, rfl, hv _ List.mem_cons_self, hv⟩
theorem bat_ref {H : Hp} {rs : List V} {s : Spc} (h : Paired (BAt H) rs s) : ∀ v ∈ rs, ∃ p, v = .ref p := fun v hv => by
  obtain ⟨k, hk⟩ := List.mem_iff_getElem?.mp hv
  obtain ⟨b, _, p, vs, e, _⟩ := pget' h hk
  exact ⟨p, e⟩
/-- what changes are inner lists of rs alone -/
def KeepB (rs : List V) (H H' : Hp) : Prop := ∀ b o, H b = some o → V.ref b ∉ rs → H' b = some o
theorem KeepB.trans {rs : List V} {H H1 H2 : Hp} (a : KeepB rs H H1) (b : KeepB rs H1 H2) : KeepB rs H H2 := fun c o h n => b c o (a c o h n) n
theorem KeepB.of {rs : List V} {H H' : Hp} (a : Same H H') : KeepB rs H H' := fun c o h _ => a c o h
theorem KeepB.tups {rs : List V} {H H' : Hp} {s : Spc} (k : KeepB rs H H') (h : Paired (BAt H) rs s) : Tups H H' := fun b o xs e => k b _ e fun z => by
  obtain ⟨i, hi⟩ := List.mem_iff_getElem?.mp z
  obtain ⟨y, _, p, vs, e1, e2, _⟩ := pget' h hi
  injection e1 with e1
  rw [e1, e2] at e
  cases e
/-- the outer list is none of its inner ones -/
theorem SpAt.out {H : Hp} {l : Addr} {rs : List V} {s : Spc} (h : SpAt H l rs s) : V.ref l ∉ rs := fun z => by
  obtain ⟨i, hi⟩ := List.mem_iff_getElem?.mp z
  obtain ⟨y, _, p, vs, e1, e2, e3⟩ := pget' h.b hi
  injection e1 with e1
  subst e1
  have q := lst_inj e2 h.l
  subst q
  obtain ⟨j, _, hj⟩ := pget' e3 hi
  rcases hj.kind with z | ⟨p, xs, z, hp⟩
  · cases z
  · injection z with z
    subst z
    exact hp.ne e2 rfl
theorem ReelOk.keepB {R : Addr} {rs : List V} {H H' : Hp} {s : Spc} (h : ReelOk R H) (k : KeepB rs H H') (hb : Paired (BAt H) rs s) (h4 : L4 s) : ReelOk R H' ∧ V.ref R ∉ rs := by
  obtain ⟨g, c, gs, cs, m, st, r⟩ := h
  have no : ∀ {a : Addr} {xs : List V}, H a = some (.lst xs) → (∀ x l, xs = x :: l → ∃ v ∈ xs, ∃ i : Int, v = .int i) → V.ref a ∉ rs := fun {a xs} ha hx z => by
    obtain ⟨i, hi⟩ := List.mem_iff_getElem?.mp z
    obtain ⟨y, hy, p, vs, e1, e2, e3⟩ := pget' hb hi
    injection e1 with e1
    subst e1
    have q := lst_inj ha e2
    subst q
    obtain ⟨x, l, e, _, hv⟩ := notReel_blk e3 (by
      intro z
      have := h4 y (List.mem_of_getElem? hy)
      rw [z] at this
      cases this)
    obtain ⟨v, hv1, j, hj⟩ := hx x l e
    exact hv v hv1 j hj
  have nI : ∀ {a : Addr} {ns : List Int}, H a = some (.lst (ns.map V.int)) → V.ref a ∉ rs := fun {a ns} ha => no ha fun x l e => by
    cases ns with
    | nil => cases e
    | cons n t => exact ⟨_, List.mem_cons_self, n, rfl⟩
  have nR := no r.r fun _ _ _ => ⟨.int m, by simp, m, rfl⟩
  exact ⟨⟨g, c, gs, cs, m, st, ⟨k _ _ r.r nR, k _ _ r.g (nI r.g), k _ _ r.c (nI r.c), r.gl, r.cl, r.g0, r.c0, r.ne, r.s0, r.s1⟩⟩, nR⟩

/-- the inner lists have come since H -/
def Fresh (H : Hp) (rs : List V) : Prop := ∀ p, V.ref p ∈ rs → H p = none
theorem Keep.inner {R : Addr} {rs : List V} {H H1 H2 : Hp} (k : Keep R H H1) (b : KeepB rs H1 H2) (f : Fresh H rs) : Keep R H H2 := fun c o h n => b c o (k c o h n) fun z => by
  rw [f c z] at h
  cases h
theorem _root_.L2.Same.inner {rs : List V} {H H1 H2 : Hp} (k : Same H H1) (b : KeepB rs H1 H2) (f : Fresh H rs) : Same H H2 := fun c o h => b c o (k c o h) fun z => by
  rw [f c z] at h
  cases h
def FcAt (H : Hp) (v : V) (x : Nat × Nat) : Prop := ∃ p, v = .ref p ∧ FT H p [intV x.1, intV x.2]
theorem FcAt.mono {H H' : Hp} {v : V} {x : Nat × Nat} (h : FcAt H v x) (m : Tups H H') : FcAt H' v x := by
  obtain ⟨p, e, h⟩ := h
  exact ⟨p, e, h.mono m⟩
def facesTo (n : Nat) : List (Nat × Nat) := (List.range n).map fun k => (k / 4, k % 4)
theorem facesTo_succ (n : Nat) : facesTo (n + 1) = facesTo n ++ [(n / 4, n % 4)] := by
  unfold facesTo
  rw [List.range_succ, List.map_append]
  rfl
theorem facesTo_nd (n : Nat) : (facesTo n).Nodup := by
  unfold facesTo
  refine List.Pairwise.map _ (fun a b h => ?_) (List.nodup_range (n := n))
  intro e
  injection e with e1 e2
  exact h (by omega)
theorem facesTo_mem {n : Nat} {x : Nat × Nat} (h : x ∈ facesTo (4 * n)) : x.1 < n ∧ x.2 < 4 := by
  unfold facesTo at h
  rw [List.mem_map] at h
  obtain ⟨k, hk, rfl⟩ := h
  rw [List.mem_range] at hk
  show k / 4 < n ∧ k % 4 < 4
  omega
theorem pperm_erase {α : Type} {l : List α} {i : Nat} {x : α} (h : l[i]? = some x) : (x :: l.eraseIdx i).Perm l := by
  induction l generalizing i with
  | nil => simp at h
  | cons y r ih =>
    cases i with
    | zero =>
      have e : y = x := by simpa using h
      subst e
      exact .refl _
    | succ i => exact (List.Perm.swap y x _).trans ((ih (by simpa using h)).cons y)
theorem perase {α β : Type} {F : α → β → Prop} : ∀ {xs : List α} {ys : List β} (i : Nat), Paired F xs ys → Paired F (xs.eraseIdx i) (ys.eraseIdx i)
  | _, _, _, .nil => .nil
  | _, _, 0, .cons _ t => t
  | _, _, i + 1, .cons r t => .cons r (perase i t)
def freeS (n : Nat) : Spc := List.replicate n free4
theorem freeS_get {n b f : Nat} {j : Jn} (h : getJ (freeS n) b f = some j) : j = none := by
  unfold getJ freeS at h
  cases e : (List.replicate n free4)[b]? with
  | none =>
    rw [e] at h
    cases h
  | some l =>
    rw [e] at h
    have el := List.eq_of_mem_replicate (List.mem_of_getElem? e)
    subst el
    have hm := List.mem_of_getElem? (show free4[f]? = some j from h)
    simpa [free4] using hm
theorem freeS_good (n : Nat) : Good (freeS n) := ⟨fun b hb => by rw [List.eq_of_mem_replicate hb]; rfl, fun b f m t e => by
  have := freeS_get e
  cases this⟩
theorem pmonoM {α β : Type} {F G : α → β → Prop} : ∀ {xs : List α} {ys : List β}, Paired F xs ys → (∀ a ∈ xs, ∀ b, F a b → G a b) → Paired G xs ys
  | _, _, .nil, _ => .nil
  | _, _, .cons r t, m => .cons (m _ List.mem_cons_self _ r) (pmonoM t fun a ha => m a (List.mem_cons_of_mem _ ha))
theorem SpAt.fresh {H : Hp} {l p : Addr} {rs : List V} {s : Spc} (h : SpAt H l rs s) (n : H p = none) : V.ref p ∉ rs := fun z => by
  obtain ⟨i, hi⟩ := List.mem_iff_getElem?.mp z
  obtain ⟨y, _, p', vs, e1, e2, _⟩ := pget' h.b hi
  injection e1 with e1
  rw [← e1, n] at e2
  cases e2
theorem SpAt.push {H1 H2 : Hp} {D p : Addr} {rs : List V} {S : Spc} {b : Blk} (h : SpAt H1 D rs S) (s : Same H1 H2) (n : H1 p = none) (hb : BAt H2 (.ref p) b) :
    SpAt (upd H2 D (.lst (rs ++ [.ref p]))) D (rs ++ [.ref p]) (S ++ [b]) := by
  have hD := s _ _ h.l
  have out := h.out
  refine ⟨upd_same, papp (pmonoM h.b fun v hv b z => z.mono (s.tups.trans (tups_set hD)) fun q xs e1 e2 => ?_) (.cons (hb.mono (tups_set hD) fun q xs e1 e2 => ?_) .nil), ?_⟩
  · rw [upd_ne (show q ≠ D from fun z => out (by rw [← z, ← e1]; exact hv))]
    exact s _ _ e2
  · injection e1 with e1
    subst e1
    rw [upd_ne (show p ≠ D from fun z => by rw [z, h.l] at n; cases n)]
    exact e2
  · rw [List.nodup_append]
    refine ⟨h.nd, by simp, fun a ha c hc e => ?_⟩
    rw [List.mem_singleton.mp hc] at e
    rw [e] at ha
    exact h.fresh n ha
theorem Fresh.push {H H1 : Hp} {rs : List V} {p : Addr} (h : Fresh H rs) (s : ∀ o, H p = some o → H1 p = some o) (n : H1 p = none) : Fresh H (rs ++ [.ref p]) := fun q z => by
  rcases List.mem_append.mp z with z | z
  · exact h q z
  · have e := List.mem_singleton.mp z
    injection e with e
    subst e
    cases hq : H q with
    | none => rfl
    | some o =>
      rw [s o hq] at n
      cases n
theorem fdiv_nat (a b : Nat) : (a : Int).fdiv (b : Int) = ((a / b : Nat) : Int) := by
  rw [Int.fdiv_eq_ediv_of_nonneg _ (by omega)]
  rfl
theorem fmod_nat (a b : Nat) : (a : Int).fmod (b : Int) = ((a % b : Nat) : Int) := by
  rw [Int.fmod_eq_emod_of_nonneg _ (by omega)]
  rfl
theorem seqIx_nat {n k : Nat} (h : k < n) : seqIndex? (k : Int) n = some k := by
  show (if (decide ((0 : Int) ≤ if (k : Int) < 0 then (k : Int) + n else k) && decide ((if (k : Int) < 0 then (k : Int) + n else k) < n)) = true then some (if (k : Int) < 0 then (k : Int) + n else k).toNat else none) = some k
  rw [if_neg (show ¬ (k : Int) < 0 by omega), decide_eq_true (show (0 : Int) ≤ k by omega), decide_eq_true (show (k : Int) < n by omega)]
  rfl
/-- a store into another list -/
theorem SpAt.other {H : Hp} {l p : Addr} {rs : List V} {s : Spc} {xs : List V} {o : HO} (h : SpAt H l rs s) (hp : H p = some (.lst xs)) (n1 : p ≠ l) (n2 : V.ref p ∉ rs) : SpAt (upd H p o) l rs s :=
  ⟨by rw [upd_ne n1.symm]; exact h.l, pmonoM h.b fun v hv b z => z.mono (tups_set hp) fun q xs e1 e2 => by
    rw [upd_ne (show q ≠ p from fun z => n2 (by rw [← z, ← e1]; exact hv))]
    exact e2, h.nd⟩
theorem refs_no_int {F : Hp → V → (Nat × Nat) → Prop} {H : Hp} {xs : List V} {fs : List (Nat × Nat)} (h : Paired (F H) xs fs) (hF : ∀ v x, F H v x → ∃ p, v = .ref p) : ∀ v ∈ xs, ∃ p, v = .ref p := fun v hv => by
  obtain ⟨k, hk⟩ := List.mem_iff_getElem?.mp hv
  obtain ⟨y, _, hy⟩ := pget' h hk
  exact hF v y hy
theorem fc_refs {H : Hp} {xs : List V} {fs : List (Nat × Nat)} (h : Paired (FcAt H) xs fs) : ∀ v ∈ xs, ∃ p, v = .ref p := refs_no_int (F := FcAt) h fun v x z => by
  obtain ⟨p, e, _⟩ := z
  exact ⟨p, e⟩
theorem no_int {xs : List V} (h : ∀ v ∈ xs, ∃ p, v = .ref p) : ∀ v ∈ xs, ∀ i : Int, v ≠ .int i := fun v hv i e => by
  obtain ⟨p, z⟩ := h v hv
  rw [e] at z
  cases z
theorem turns_face6 : ∀ f < 4, ∀ a < 4, (allTurns.filter fun t => tf t f == a).length = 6 := by decide +kernel
theorem filter_take_succ {α : Type} {l : List α} {i : Nat} {x : α} {p : α → Bool} (h : l[i]? = some x) : (l.take (i + 1)).filter p = (l.take i).filter p ++ (if p x then [x] else []) := by
  rw [List.take_add_one, h, List.filter_append]
  by_cases hp : p x
  · rw [if_pos hp]
    simp [hp]
  · rw [if_neg hp]
    simp [hp]
theorem tat_refs {H : Hp} {xs : List V} {ts : List Trn} (h : Paired (TAt H) xs ts) : ∀ v ∈ xs, ∃ p, v = .ref p := fun v hv => by
  obtain ⟨k, hk⟩ := List.mem_iff_getElem?.mp hv
  obtain ⟨y, _, p, e, _⟩ := pget' h hk
  exact ⟨p, e⟩
theorem dec_nat (a b : Nat) : decide ((intV a) = (intV b)) = (a == b) := by
  by_cases h : a = b
  · subst h
    simp
  · rw [beq_eq_false_iff_ne.mpr h]
    exact decide_eq_false (fun z => h (by injection z with z; omega))
theorem nodup_ne {α : Type} {l : List α} (h : l.Nodup) {i j : Nat} {x y : α} (hi : l[i]? = some x) (hj : l[j]? = some y) (n : i ≠ j) : x ≠ y := fun e => by
  subst e
  exact n (nd_ix h hi hj)
theorem ReelOk.isNot {R p : Addr} {H H' : Hp} {o : HO} (_ : ReelOk R H) (_ : H p = some o) (n : H' p = none) (h' : ReelOk R H') : p ≠ R := fun z => by
  obtain ⟨g, c, gs, cs, m, st, r⟩ := h'
  rw [z, r.r] at n
  cases n
/-- what was none of the reel's lists is none -/
def Aw (R : Addr) (H H' : Hp) : Prop := ∀ D, H D ≠ none → Away R D H → Away R D H'
theorem _root_.L2.Same.aw {R : Addr} {H H' : Hp} (s : Same H H') : Aw R H H' := fun _ _ z => z.same s
theorem Aw.trans {R : Addr} {H H1 H2 : Hp} (a : Aw R H H1) (k : Keep R H H1) (b : Aw R H1 H2) : Aw R H H2 := fun D n z => b D (fun y => n (k.free y z.ne)) (a D n z)
theorem Aw.set {R p : Addr} {H : Hp} {xs : List V} {o : HO} (hp : H p = some (.lst xs)) (n : NotReel xs) : Aw R H (upd H p o) := fun _ _ z => (z.set hp n).1
theorem Aw.fill {R L : Addr} {H : Hp} {o : HO} (a : Away R L H) : Aw R H (upd H L o) := fun _ _ z => z.fill' a
theorem Aw.keepB {R : Addr} {rs : List V} {H H' : Hp} {s : Spc} (k : KeepB rs H H') (hb : Paired (BAt H) rs s) (h4 : L4 s) : Aw R H H' := fun D _ z => by
  obtain ⟨g, c, gs, cs, m, st, r, q⟩ := z
  have no : ∀ {a : Addr} {xs : List V}, H a = some (.lst xs) → (∀ x l, xs = x :: l → ∃ v ∈ xs, ∃ i : Int, v = .int i) → V.ref a ∉ rs := fun {a xs} ha hx z => by
    obtain ⟨i, hi⟩ := List.mem_iff_getElem?.mp z
    obtain ⟨y, hy, p, vs, e1, e2, e3⟩ := pget' hb hi
    injection e1 with e1
    subst e1
    have q := lst_inj ha e2
    subst q
    obtain ⟨x, l, e, _, hv⟩ := notReel_blk e3 (by
      intro z
      have := h4 y (List.mem_of_getElem? hy)
      rw [z] at this
      cases this)
    obtain ⟨v, hv1, j, hj⟩ := hx x l e
    exact hv v hv1 j hj
  have nI : ∀ {a : Addr} {ns : List Int}, H a = some (.lst (ns.map V.int)) → V.ref a ∉ rs := fun {a ns} ha => no ha fun x l e => by
    cases ns with
    | nil => cases e
    | cons n t => exact ⟨_, List.mem_cons_self, n, rfl⟩
  have nR := no r.r fun _ _ _ => ⟨.int m, by simp, m, rfl⟩
  exact ⟨g, c, gs, cs, m, st, ⟨k _ _ r.r nR, k _ _ r.g (nI r.g), k _ _ r.c (nI r.c), r.gl, r.cl, r.g0, r.c0, r.ne, r.s0, r.s1⟩, q⟩
end Bk

namespace Bk
open PySem PySem.Spec PyProof.Rows L2
theorem cpow {i j : Int} (a : 0 ≤ j := by decide) (b : j ≤ 1000000 := by decide) (c : i.natAbs < 2 ^ 64 := by decide) : CPow i j := ⟨a, b, c⟩
def topS (i : Nat) : Stmt := PySem.Challenge.pw_blockrooms_k29_arcs_told.main.body.getD i (.Pass ⟨0, 0, 0, 0⟩)
section
variable {P : Program} {w : World} {K : PySem.W.Frag} {mg : Str → Option Value} {base : Heap}
theorem dp_ints {H : Hp} : ∀ ns : List Int, DpAll K H (ns.map V.int) (ns.map PyData.int)
  | [] => .nil
  | n :: ns => .cons (.int n) (dp_ints ns)
theorem ints_lay : ∀ ns : List Int, PyData.canLayAll0 (ns.map PyData.int) = true ∧ PyData.depthAll (ns.map PyData.int) ≤ 1
  | [] => by simp [PyData.canLayAll0, PyData.depthAll]
  | n :: ns => by
    have h := ints_lay ns
    simp only [List.map_cons, PyData.canLayAll0, PyData.depthAll, PyData.canLay0, PyData.depth, Bool.true_and]
    exact ⟨h.1, by omega⟩
theorem ints_shaped (ns : List Int) : SeqAt.shaped (.list (ns.map PyData.int)) = true := by
  have h := ints_lay ns
  have h2 : PyData.depth (.list (ns.map PyData.int)) ≤ 64 := by
    simp only [PyData.depth]
    omega
  show (PyData.canLay0 (.list (ns.map PyData.int)) && decide (PyData.depth (.list (ns.map PyData.int)) ≤ 64)) = true
  rw [Bool.and_eq_true]
  exact ⟨by simp only [PyData.canLay0]; exact h.1, decide_eq_true h2⟩
end
section
variable {X : Cx} (K : PySem.W.Frag)
def rIxE (K : PySem.W.Frag) : R2 := fun x y H Q => rIxL K x y H Q ∨ rIxT K x y H Q
theorem kIxE (h : X.K = K) : IxR X (rIxE K) := h ▸ ix_list.or ix_tup
end
end Bk

namespace Bk
open PySem PySem.Spec PyProof.Rows L2
/-! ### data: lists and tuples as they stand, apart from the reel -/
mutual
inductive Dq (N : Addr → Prop) (H : Hp) : V → PyData → Prop
  | non : Dq N H .non .none
  | bl (b : Bool) : Dq N H (.bl b) (.bool b)
  | int (i : Int) : Dq N H (.int i) (.int i)
  | str (x : Str) : Dq N H (.str x) (.str x)
  | lst {a : Addr} {xs : List V} {ds : List PyData} : H a = some (.lst xs) → ¬ N a → Dqs N H xs ds → Dq N H (.ref a) (.list ds)
  | tup {a : Addr} {xs : List V} {ds : List PyData} : FT H a xs → Dqs N H xs ds → Dq N H (.ref a) (.tuple ds)
inductive Dqs (N : Addr → Prop) (H : Hp) : List V → List PyData → Prop
  | nil : Dqs N H [] []
  | cons {v : V} {vs : List V} {d : PyData} {ds : List PyData} : Dq N H v d → Dqs N H vs ds → Dqs N H (v :: vs) (d :: ds)
end
mutual
theorem Dq.mono {N N' : Addr → Prop} {H H' : Hp} (m : Tups H H') (n : ∀ a, N' a → N a) (k : ∀ a xs, H a = some (.lst xs) → ¬ N a → H' a = some (.lst xs)) : ∀ {d : PyData} {v : V}, Dq N H v d → Dq N' H' v d
  | .none, _, h => by
    cases h
    exact .non
  | .bool b, _, h => by
    cases h
    exact .bl b
  | .int i, _, h => by
    cases h
    exact .int i
  | .str x, _, h => by
    cases h
    exact .str x
  | .list ds, _, h => by
    cases h with
    | lst h1 h2 h3 => exact .lst (k _ _ h1 h2) (fun z => h2 (n _ z)) (Dqs.mono m n k h3)
  | .tuple ds, _, h => by
    cases h with
    | tup h1 h2 => exact .tup (h1.mono m) (Dqs.mono m n k h2)
  | .dict _, _, h => by cases h
theorem Dqs.mono {N N' : Addr → Prop} {H H' : Hp} (m : Tups H H') (n : ∀ a, N' a → N a) (k : ∀ a xs, H a = some (.lst xs) → ¬ N a → H' a = some (.lst xs)) : ∀ {ds : List PyData} {vs : List V}, Dqs N H vs ds → Dqs N' H' vs ds
  | [], _, h => by
    cases h
    exact .nil
  | d :: ds, _, h => by
    cases h with
    | cons h1 h2 => exact .cons (Dq.mono m n k h1) (Dqs.mono m n k h2)
end
theorem Dq.weak {N N' : Addr → Prop} {H : Hp} {v : V} {d : PyData} (h : Dq N H v d) (n : ∀ a, N' a → N a) : Dq N' H v d := h.mono (Tups.refl _) n fun _ _ e _ => e
theorem Dqs.weak {N N' : Addr → Prop} {H : Hp} {v : List V} {d : List PyData} (h : Dqs N H v d) (n : ∀ a, N' a → N a) : Dqs N' H v d := h.mono (Tups.refl _) n fun _ _ e _ => e
theorem Dq.same {N : Addr → Prop} {H H' : Hp} {v : V} {d : PyData} (h : Dq N H v d) (s : Same H H') : Dq N H' v d := h.mono s.tups (fun _ z => z) fun a xs e _ => s a _ e
theorem Dqs.same {N : Addr → Prop} {H H' : Hp} {v : List V} {d : List PyData} (h : Dqs N H v d) (s : Same H H') : Dqs N H' v d := h.mono s.tups (fun _ z => z) fun a xs e _ => s a _ e
theorem Dq.keep {N : Addr → Prop} {R : Addr} {H H' : Hp} {v : V} {d : PyData} (h : Dq N H v d) (k : Keep R H H') (r : ReelOk R H) (n : N R) : Dq N H' v d := h.mono (k.tups r) (fun _ z => z) fun a xs e m => k a _ e fun z => m (by rw [z]; exact n)
theorem Dqs.keep {N : Addr → Prop} {R : Addr} {H H' : Hp} {v : List V} {d : List PyData} (h : Dqs N H v d) (k : Keep R H H') (r : ReelOk R H) (n : N R) : Dqs N H' v d := h.mono (k.tups r) (fun _ z => z) fun a xs e m => k a _ e fun z => m (by rw [z]; exact n)
/-- a list that they avoid is filled -/
theorem Dqs.fill {N : Addr → Prop} {H : Hp} {D : Addr} {xs : List V} {o : HO} {v : List V} {d : List PyData} (h : Dqs N H v d) (hD : H D = some (.lst xs)) (n : N D) : Dqs N (upd H D o) v d := h.mono (tups_set hD) (fun _ z => z) fun a ys e m => by
  rw [upd_ne (show a ≠ D from fun z => m (by rw [z]; exact n))]
  exact e
theorem Dq.fill {N : Addr → Prop} {H : Hp} {D : Addr} {xs : List V} {o : HO} {v : V} {d : PyData} (h : Dq N H v d) (hD : H D = some (.lst xs)) (n : N D) : Dq N (upd H D o) v d := h.mono (tups_set hD) (fun _ z => z) fun a ys e m => by
  rw [upd_ne (show a ≠ D from fun z => m (by rw [z]; exact n))]
  exact e
mutual
theorem Dq.dp {K : PySem.W.Frag} {N : Addr → Prop} {H : Hp} : ∀ {d : PyData} {v : V}, Dq N H v d → Dp K H v d
  | .none, _, h => by
    cases h
    exact .non
  | .bool b, _, h => by
    cases h
    exact .bl b
  | .int i, _, h => by
    cases h
    exact .int i
  | .str x, _, h => by
    cases h
    exact .str x
  | .list ds, _, h => by
    cases h with
    | lst h1 h2 h3 => exact .lst (.inl (.inl h1)) (Dqs.dp h3)
  | .tuple ds, _, h => by
    cases h with
    | tup h1 h2 => exact .tup h1.sqt (Dqs.dp h2)
  | .dict _, _, h => by cases h
theorem Dqs.dp {K : PySem.W.Frag} {N : Addr → Prop} {H : Hp} : ∀ {ds : List PyData} {vs : List V}, Dqs N H vs ds → DpAll K H vs ds
  | [], _, h => by
    cases h
    exact .nil
  | d :: ds, _, h => by
    cases h with
    | cons h1 h2 => exact .cons (Dq.dp h1) (Dqs.dp h2)
end
theorem Dqs.len {N : Addr → Prop} {H : Hp} : ∀ {ds : List PyData} {vs : List V}, Dqs N H vs ds → vs.length = ds.length
  | [], _, h => by
    cases h
    rfl
  | d :: ds, _, h => by
    cases h with
    | cons h1 h2 =>
      rw [List.length_cons, List.length_cons, h2.len]
theorem Dqs.get {N : Addr → Prop} {H : Hp} : ∀ {ds : List PyData} {vs : List V} {i : Nat} {v : V}, Dqs N H vs ds → vs[i]? = some v → ∃ d, ds[i]? = some d ∧ Dq N H v d
  | [], _, i, v, h, e => by
    cases h
    simp at e
  | d :: ds, _, i, v, h, e => by
    cases h with
    | cons h1 h2 =>
      cases i with
      | zero =>
        have e' := Option.some.inj (show some _ = some v from e)
        subst e'
        exact ⟨d, rfl, h1⟩
      | succ i =>
        have q := Dqs.get (i := i) h2 (show _ = some v from e)
        exact q
theorem Dqs.get' {N : Addr → Prop} {H : Hp} : ∀ {ds : List PyData} {vs : List V} {i : Nat} {d : PyData}, Dqs N H vs ds → ds[i]? = some d → ∃ v, vs[i]? = some v ∧ Dq N H v d
  | [], _, i, v, h, e => by simp at e
  | d :: ds, _, i, v, h, e => by
    cases h with
    | cons h1 h2 =>
      cases i with
      | zero =>
        have e' := Option.some.inj (show some d = some v from e)
        subst e'
        exact ⟨_, rfl, h1⟩
      | succ i =>
        have q := Dqs.get' (i := i) h2 (show _ = some v from e)
        exact q
theorem Dqs.snoc {N : Addr → Prop} {H : Hp} {v : V} {d : PyData} (h : Dq N H v d) : ∀ {ds : List PyData} {vs : List V}, Dqs N H vs ds → Dqs N H (vs ++ [v]) (ds ++ [d])
  | [], _, k => by
    cases k
    exact .cons h .nil
  | d :: ds, _, k => by
    cases k with
    | cons h1 h2 => exact .cons h1 (h2.snoc h)

/-! ### lists for tuples: what a mixture keeps -/
mutual
def norm : PyData → PyData
  | .list ds => .list (norms ds)
  | .tuple ds => .list (norms ds)
  | .none => .none
  | .bool b => .bool b
  | .int i => .int i
  | .str x => .str x
  | .dict k => .dict k
def norms : List PyData → List PyData
  | [] => []
  | d :: ds => norm d :: norms ds
end
theorem norms_map : ∀ ds : List PyData, norms ds = ds.map norm
  | [] => by simp only [norms, List.map_nil]
  | d :: ds => by simp only [norms, List.map_cons, norms_map ds]
mutual
theorem norm_same (B : Nat) : ∀ d : PyData, (norm d).bulk = d.bulk ∧ (norm d).depth = d.depth ∧ (norm d).leavesShort B = d.leavesShort B ∧ (norm d).showable = d.showable ∧ (norm d).hasDict = d.hasDict
  | .list ds => by
    have h := norms_same B ds
    simp only [norm, PyData.bulk, PyData.depth, PyData.leavesShort, PyData.showable, PyData.hasDict]
    exact ⟨h.1, by rw [h.2.1], h.2.2.1, h.2.2.2.1, h.2.2.2.2⟩
  | .tuple ds => by
    have h := norms_same B ds
    simp only [norm, PyData.bulk, PyData.depth, PyData.leavesShort, PyData.showable, PyData.hasDict]
    exact ⟨h.1, by rw [h.2.1], h.2.2.1, h.2.2.2.1, h.2.2.2.2⟩
  | .none => by simp only [norm, and_self]
  | .bool b => by simp only [norm, and_self]
  | .int i => by simp only [norm, and_self]
  | .str x => by simp only [norm, and_self]
  | .dict k => by simp only [norm, and_self]
theorem norms_same (B : Nat) : ∀ ds : List PyData, PyData.bulkAll (norms ds) = PyData.bulkAll ds ∧ PyData.depthAll (norms ds) = PyData.depthAll ds ∧ PyData.leavesShortAll B (norms ds) = PyData.leavesShortAll B ds ∧ PyData.showableAll (norms ds) = PyData.showableAll ds ∧ PyData.hasDictAll (norms ds) = PyData.hasDictAll ds
  | [] => by simp only [norms, and_self]
  | d :: ds => by
    have h1 := norm_same B d
    have h2 := norms_same B ds
    simp only [norms, PyData.bulkAll, PyData.depthAll, PyData.leavesShortAll, PyData.showableAll, PyData.hasDictAll]
    exact ⟨by rw [h1.1, h2.1], by rw [h1.2.1, h2.2.1], by rw [h1.2.2.1, h2.2.2.1], by rw [h1.2.2.2.1, h2.2.2.2.1], by rw [h1.2.2.2.2, h2.2.2.2.2]⟩
end
def isSeqD : PyData → Bool
  | .list _ => true
  | .tuple _ => true
  | _ => false
def tyD : PyData → String
  | .list _ => "list"
  | .tuple _ => "tuple"
  | .none => "NoneType"
  | .bool _ => "bool"
  | .int _ => "int"
  | .str _ => "str"
  | .dict _ => "dict"
theorem Dq.ty {K : PySem.W.Frag} {N : Addr → Prop} {H : Hp} {v : V} {d : PyData} (h : Dq N H v d) : TyX K H v (.type (tyD d)) := by
  cases d with
  | none =>
    cases h
    exact .base .non
  | bool b =>
    cases h
    exact .base (.bl b)
  | int i =>
    cases h
    exact .base (.int i)
  | str x =>
    cases h
    exact .base (.str x)
  | list ds =>
    cases h with
    | lst h1 _ _ => exact .base (.lst h1)
  | tuple ds =>
    cases h with
    | tup h1 _ =>
      obtain ⟨o, _, h1⟩ := h1
      exact .fTuple h1
  | dict k => cases h
/-! data of tuples alone leans on tuples alone -/
mutual
def tupled : PyData → Bool
  | .list _ => false
  | .tuple ds => tupleds ds
  | .dict _ => false
  | .none => true
  | .bool _ => true
  | .int _ => true
  | .str _ => true
def tupleds : List PyData → Bool
  | [] => true
  | d :: ds => tupled d && tupleds ds
end
mutual
theorem Dq.monoT {N N' : Addr → Prop} {H H' : Hp} (m : Tups H H') : ∀ {d : PyData} {v : V}, tupled d = true → Dq N H v d → Dq N' H' v d
  | .none, _, _, h => by
    cases h
    exact .non
  | .bool b, _, _, h => by
    cases h
    exact .bl b
  | .int i, _, _, h => by
    cases h
    exact .int i
  | .str x, _, _, h => by
    cases h
    exact .str x
  | .list ds, _, e, _ => by simp only [tupled] at e; cases e
  | .tuple ds, _, e, h => by
    cases h with
    | tup h1 h2 => exact .tup (h1.mono m) (Dqs.monoT m (by simpa only [tupled] using e) h2)
  | .dict _, _, _, h => by cases h
theorem Dqs.monoT {N N' : Addr → Prop} {H H' : Hp} (m : Tups H H') : ∀ {ds : List PyData} {vs : List V}, tupleds ds = true → Dqs N H vs ds → Dqs N' H' vs ds
  | [], _, _, h => by
    cases h
    exact .nil
  | d :: ds, _, e, h => by
    simp only [tupleds, Bool.and_eq_true] at e
    cases h with
    | cons h1 h2 => exact .cons (Dq.monoT m e.1 h1) (Dqs.monoT m e.2 h2)
end
end Bk

namespace Bk
open PySem PySem.Spec PyProof.Rows L2
section
variable {P : Program} {w : World} {K : PySem.W.Frag} {mg : Str → Option Value} {base : Heap}
/-! ### _law_shut -/

def intD (n : Nat) : PyData := .int (n : Int)
def jD : Jn → PyData
  | none => .none
  | some (n, t) => .tuple [intD n, .tuple (t.map intD)]
def shutD (S : Spc) : PyData := .tuple (S.map fun b => .tuple (b.map jD))
theorem dqs_ints {N : Addr → Prop} {H : Hp} : ∀ t : Trn, Dqs N H (trnV t) (t.map intD)
  | [] => .nil
  | n :: t => .cons (.int (n : Int)) (dqs_ints t)
theorem JAt.dq {N : Addr → Prop} {H : Hp} {v : V} {j : Jn} (h : JAt H v j) : Dq N H v (jD j) := by
  cases j with
  | none =>
    rw [show v = .non from h]
    exact .non
  | some k =>
    obtain ⟨n, t⟩ := k
    obtain ⟨p, q, rfl, h1, h2⟩ := h
    exact .tup h1 (.cons (.int (n : Int)) (.cons (.tup h2 (dqs_ints t)) .nil))
theorem jats_dqs {N : Addr → Prop} {H : Hp} : ∀ {vs : List V} {b : Blk}, Paired (JAt H) vs b → Dqs N H vs (b.map jD)
  | _, _, .nil => .nil
  | _, _, .cons r t => .cons r.dq (jats_dqs t)
theorem j_tupled (j : Jn) : tupled (jD j) = true := by
  cases j with
  | none => simp only [jD, tupled]
  | some k =>
    obtain ⟨n, t⟩ := k
    have h : tupleds (t.map intD) = true := by
      induction t with
      | nil => simp only [List.map_nil, tupleds]
      | cons x r ih => simp only [List.map_cons, tupleds, intD, tupled, Bool.true_and, ih]
    simp only [jD, tupled, tupleds, intD, h, Bool.and_self]
theorem js_tupled : ∀ b : Blk, tupleds (b.map jD) = true
  | [] => by simp only [List.map_nil, tupleds]
  | j :: b => by simp only [List.map_cons, tupleds, j_tupled j, js_tupled b, Bool.and_self]
theorem blks_tupled : ∀ S : Spc, tupleds (S.map fun b => .tuple (b.map jD)) = true
  | [] => by simp only [List.map_nil, tupleds]
  | b :: S => by simp only [List.map_cons, tupleds, tupled, js_tupled b, blks_tupled S, Bool.and_self]
theorem item_le : ∀ {ds : List PyData} {i : Nat} {d : PyData}, ds[i]? = some d → d.bulk ≤ PyData.bulkAll ds ∧ d.depth ≤ PyData.depthAll ds ∧ i < PyData.bulkAll ds
  | [], i, d, e => by simp at e
  | x :: xs, 0, d, e => by
    have e' := Option.some.inj (show some x = some d from e)
    subst e'
    simp only [PyData.bulkAll, PyData.depthAll]
    omega
  | x :: xs, i + 1, d, e => by
    have h := item_le (ds := xs) (i := i) (d := d) e
    simp only [PyData.bulkAll, PyData.depthAll]
    omega
theorem kit_seq {K : PySem.W.Frag} (d : PyData) : PySem.W.kitAny K (.type (tyD d)) [.type "list", .type "tuple"] = some (isSeqD d) := by
  have go : ∀ (a : String) (b1 b2 r : Bool), kitB a "list" = some b1 → kitB a "tuple" = some b2 → (b1 = false → b2 = r) → (b1 = true → r = true) → PySem.W.kitAny K (.type a) [.type "list", .type "tuple"] = some r := fun a b1 b2 r h1 h2 h3 h4 =>
    kitAny_cons (kit_ty h1) (fun e => by
      have e2 := h3 e
      subst e2
      exact kitAny_cons (kit_ty h2) (fun z => by rw [z]; rfl) fun z => z) h4
  cases d with
  | none => exact go "NoneType" false false _ (by decide +kernel) (by decide +kernel) (fun _ => rfl) (fun z => by cases z)
  | bool b => exact go "bool" false false _ (by decide +kernel) (by decide +kernel) (fun _ => rfl) (fun z => by cases z)
  | int i => exact go "int" false false _ (by decide +kernel) (by decide +kernel) (fun _ => rfl) (fun z => by cases z)
  | str x => exact go "str" false false _ (by decide +kernel) (by decide +kernel) (fun _ => rfl) (fun z => by cases z)
  | list ds => exact go "list" true false _ (by decide +kernel) (by decide +kernel) (fun z => by cases z) (fun _ => rfl)
  | tuple ds => exact go "tuple" false true _ (by decide +kernel) (by decide +kernel) (fun _ => rfl) (fun z => by cases z)
  | dict k => exact go "dict" false false _ (by decide +kernel) (by decide +kernel) (fun _ => rfl) (fun z => by cases z)
theorem norms_len : ∀ ds : List PyData, (norms ds).length = ds.length := fun ds => by rw [norms_map, List.length_map]
end
end Bk

namespace Bk
open PySem PySem.Spec PyProof.Rows L2
/-! ### places in a text -/
def stAt (l : List Stmt) (i : Nat) : Stmt := l.getD i (.Pass ⟨0, 0, 0, 0⟩)
def forBody (s : Stmt) : List Stmt := match s with
  | .For _ _ b _ _ => b
  | _ => []
def lcScope (s : Stmt) : Scope := match s with
  | .Assign _ (.ListComp _ _ sc _) _ => sc
  | _ => { kind := .function, names := [], isGenerator := false, isCoroutine := false }
def numT (n : Nat) : Str := Str.ofString (toString (n : Int))
def Jb (j : Jn) : Prop := ∀ n t, j = some (n, t) → n < 64 ∧ t.length = 4 ∧ ∀ x ∈ t, x < 4
theorem num_len : ∀ n < 64, (numT n).length ≤ 2 := by decide +kernel
theorem num_log {n : Nat} (h : n < 64) : (n : Int).natAbs.log2 < 1920 := by
  have h1 : ∀ n : Nat, n < 64 → n.log2 < 1920 := by decide +kernel
  rw [Int.natAbs_natCast]
  exact h1 n h
def Sb (S : Spc) : Prop := S.length ≤ 40 ∧ ∀ b ∈ S, b.length = 4 ∧ ∀ j ∈ b, Jb j
theorem Good.sb {S : Spc} (h : Good S) (hl : S.length ≤ 40) : Sb S := by
  refine ⟨hl, fun b hb => ⟨h.l4 b hb, fun j hj n t e => ?_⟩⟩
  subst e
  obtain ⟨i, hi⟩ := List.mem_iff_getElem?.mp hb
  obtain ⟨f, hf⟩ := List.mem_iff_getElem?.mp hj
  have g : getJ S i f = some (some (n, t)) := by
    unfold getJ
    rw [hi]
    exact hf
  have ht := (h.both _ _ _ _ g).1
  have h4 := turns4 t ht
  have := h.lt g
  exact ⟨by omega, h4.1, h4.2.1⟩
/-! ### data by their norms -/
theorem Dq.seq {K : PySem.W.Frag} {N : Addr → Prop} {H : Hp} {v : V} {d : PyData} {es : List PyData} (h : Dq N H v d) (e : norm d = .list es) : ∃ a xs ds, v = .ref a ∧ (SqL K H a xs ∨ SqT K H a xs) ∧ (∀ o, H a = some o → True) ∧ Dqs N H xs ds ∧ norms ds = es := by
  cases d with
  | list ds =>
    cases h with
    | lst h1 h2 h3 => exact ⟨_, _, ds, rfl, .inl (.inl (.inl h1)), fun _ _ => trivial, h3, by simpa only [norm, PyData.list.injEq] using e⟩
  | tuple ds =>
    cases h with
    | tup h1 h2 => exact ⟨_, _, ds, rfl, .inr h1.sqt, fun _ _ => trivial, h2, by simpa only [norm, PyData.list.injEq] using e⟩
  | none => simp only [norm] at e; cases e
  | bool b => simp only [norm] at e; cases e
  | int i => simp only [norm] at e; cases e
  | str x => simp only [norm] at e; cases e
  | dict k => simp only [norm] at e; cases e
theorem Dq.isInt {N : Addr → Prop} {H : Hp} {v : V} {d : PyData} {i : Int} (h : Dq N H v d) (e : norm d = .int i) : v = .int i := by
  cases h with
  | int j => simp only [norm, PyData.int.injEq] at e; rw [e]
  | non => simp only [norm] at e; cases e
  | bl b => simp only [norm] at e; cases e
  | str x => simp only [norm] at e; cases e
  | lst _ _ _ => simp only [norm] at e; cases e
  | tup _ _ => simp only [norm] at e; cases e
theorem Dq.isNon {N : Addr → Prop} {H : Hp} {v : V} {d : PyData} (h : Dq N H v d) (e : norm d = .none) : v = .non := by
  cases h with
  | non => rfl
  | int j => simp only [norm] at e; cases e
  | bl b => simp only [norm] at e; cases e
  | str x => simp only [norm] at e; cases e
  | lst _ _ _ => simp only [norm] at e; cases e
  | tup _ _ => simp only [norm] at e; cases e
def nJ (j : Jn) : PyData := norm (jD j)
theorem nJ_some (n : Nat) (t : Trn) : nJ (some (n, t)) = .list [intD n, .list (t.map intD)] := by
  have h : norms (t.map intD) = t.map intD := by
    rw [norms_map, List.map_map]
    exact List.map_congr_left fun x _ => by simp only [Function.comp, intD, norm]
  simp only [nJ, jD, norm, norms, h, intD]
theorem nJ_none : nJ none = .none := by simp only [nJ, jD, norm]
theorem norms_inv : ∀ {ds : List PyData} {e : PyData} {es : List PyData}, norms ds = e :: es → ∃ d ds', ds = d :: ds' ∧ norm d = e ∧ norms ds' = es
  | [], _, _, h => by
    simp only [norms] at h
    cases h
  | d :: ds, e, es, h => by
    simp only [norms, List.cons.injEq] at h
    exact ⟨d, ds, rfl, h.1, h.2⟩
theorem norms_nil_inv : ∀ {ds : List PyData}, norms ds = [] → ds = []
  | [], _ => rfl
  | d :: ds, h => by
    simp only [norms] at h
    cases h
theorem Dqs.uncons {N : Addr → Prop} {H : Hp} {xs : List V} {d : PyData} {ds : List PyData} (h : Dqs N H xs (d :: ds)) : ∃ v vs, xs = v :: vs ∧ Dq N H v d ∧ Dqs N H vs ds := by
  cases h with
  | cons h1 h2 => exact ⟨_, _, rfl, h1, h2⟩
theorem Dqs.pair {N : Addr → Prop} {H : Hp} {xs : List V} {ds : List PyData} {e1 e2 : PyData} (h : Dqs N H xs ds) (e : norms ds = [e1, e2]) :
    ∃ v1 v2 d1 d2, xs = [v1, v2] ∧ Dq N H v1 d1 ∧ norm d1 = e1 ∧ Dq N H v2 d2 ∧ norm d2 = e2 := by
  obtain ⟨d1, r, rfl, n1, e⟩ := norms_inv e
  obtain ⟨d2, r2, rfl, n2, e⟩ := norms_inv e
  obtain rfl := norms_nil_inv e
  obtain ⟨v1, w1, rfl, h1, h⟩ := h.uncons
  obtain ⟨v2, w2, rfl, h2, h⟩ := h.uncons
  cases h
  exact ⟨v1, v2, d1, d2, rfl, h1, n1, h2, n2⟩
def nB (b : Blk) : PyData := .list (b.map nJ)
def nS (S : Spc) : PyData := .list (S.map nB)
theorem norm_at {ds : List PyData} {α : Type} {l : List α} {f : α → PyData} {i : Nat} {d : PyData} (e : norms ds = l.map f) (h : ds[i]? = some d) : ∃ x, l[i]? = some x ∧ norm d = f x := by
  have z : (norms ds)[i]? = some (norm d) := by rw [norms_map, List.getElem?_map, h]; rfl
  rw [e, List.getElem?_map] at z
  cases hx : l[i]? with
  | none =>
    rw [hx] at z
    cases z
  | some x =>
    rw [hx] at z
    exact ⟨x, rfl, (Option.some.inj z).symm⟩
theorem norm_len {ds : List PyData} {α : Type} {l : List α} {f : α → PyData} (e : norms ds = l.map f) : ds.length = l.length := by
  rw [← norms_len, e, List.length_map]
theorem norm_jD (j : Jn) : norm (jD j) = nJ j := rfl
theorem norm_blk (b : Blk) : norms (b.map jD) = b.map nJ := by
  rw [norms_map, List.map_map]
  rfl
theorem norm_shut (S : Spc) : norm (shutD S) = nS S := by
  have h : norms (S.map fun b => PyData.tuple (b.map jD)) = S.map nB := by
    rw [norms_map, List.map_map]
    refine List.map_congr_left fun b _ => ?_
    show norm (PyData.tuple (b.map jD)) = nB b
    simp only [norm, norm_blk, nB]
  simp only [shutD, norm, h, nS]
theorem norm_open (S : Spc) : norm (.list (S.map fun b => PyData.list (b.map jD))) = nS S := by
  have h : norms (S.map fun b => PyData.list (b.map jD)) = S.map nB := by
    rw [norms_map, List.map_map]
    refine List.map_congr_left fun b _ => ?_
    show norm (PyData.list (b.map jD)) = nB b
    simp only [norm, norm_blk, nB]
  simp only [norm, h, nS]
/-- what data of ints and nothing else is: small -/
structure Tiny (d : PyData) (b k : Nat) : Prop where
  b : d.bulk ≤ b
  k : d.depth ≤ k
  s : d.showable = true
  h : d.hasDict = false
  l : d.leavesShort 8 = true
theorem ints_tiny : ∀ {t : Trn}, (∀ x ∈ t, x < 64) → PyData.bulkAll (t.map intD) = t.length ∧ PyData.depthAll (t.map intD) = 0 ∧ PyData.showableAll (t.map intD) = true ∧ PyData.hasDictAll (t.map intD) = false ∧ PyData.leavesShortAll 8 (t.map intD) = true
  | [], _ => by simp [PyData.bulkAll, PyData.depthAll, PyData.showableAll, PyData.hasDictAll, PyData.leavesShortAll]
  | x :: t, h => by
    obtain ⟨h1, h2, h3, h4, h5⟩ := ints_tiny (t := t) fun y hy => h y (List.mem_cons_of_mem _ hy)
    have hx := h x List.mem_cons_self
    have e1 : (intD x).showable = true := by
      simp only [intD, PyData.showable, decide_eq_true_eq]
      exact num_log hx
    have e2 : (intD x).leavesShort 8 = true := by
      simp only [intD, PyData.leavesShort, decide_eq_true_eq]
      exact Nat.le_trans (num_len x hx) (by decide)
    simp only [List.map_cons, PyData.bulkAll, PyData.depthAll, PyData.showableAll, PyData.hasDictAll, PyData.leavesShortAll, h1, h2, h3, h4, h5, e1, e2, List.length_cons]
    refine ⟨?_, ?_, rfl, ?_, rfl⟩
    · simp only [intD, PyData.bulk]
      omega
    · simp only [intD, PyData.depth]
      rfl
    · simp only [intD, PyData.hasDict]
      rfl
theorem j_tiny {j : Jn} (h : Jb j) : Tiny (jD j) 7 2 := by
  cases j with
  | none => exact ⟨by simp only [jD, PyData.bulk]; omega, by simp only [jD, PyData.depth]; omega, by simp only [jD, PyData.showable], by simp only [jD, PyData.hasDict], by simp only [jD, PyData.leavesShort]⟩
  | some k =>
    obtain ⟨n, t⟩ := k
    obtain ⟨hn, ht, hx⟩ := h n t rfl
    obtain ⟨h1, h2, h3, h4, h5⟩ := ints_tiny (t := t) fun y hy => Nat.lt_of_lt_of_le (hx y hy) (by decide)
    obtain ⟨g1, g2, g3, g4, g5⟩ := ints_tiny (t := [n]) fun y hy => by rw [List.mem_singleton.mp hy]; exact hn
    simp only [List.map_cons, List.map_nil, PyData.bulkAll, PyData.depthAll, PyData.showableAll, PyData.hasDictAll, PyData.leavesShortAll, Bool.and_true, Bool.or_false] at g1 g2 g3 g4 g5
    refine ⟨?_, ?_, ?_, ?_, ?_⟩
    · simp only [jD, PyData.bulk, PyData.bulkAll, h1, ht]
      simp only [intD, PyData.bulk]
      omega
    · simp only [jD, PyData.depth, PyData.depthAll, h2]
      simp only [intD, PyData.depth]
      omega
    · simp only [jD, PyData.showable, PyData.showableAll, h3, g3]
      rfl
    · simp only [jD, PyData.hasDict, PyData.hasDictAll, h4, g4]
      rfl
    · simp only [jD, PyData.leavesShort, PyData.leavesShortAll, h5, g5]
      rfl
theorem js_tiny : ∀ {b : Blk}, (∀ j ∈ b, Jb j) → PyData.bulkAll (b.map jD) ≤ 8 * b.length ∧ PyData.depthAll (b.map jD) ≤ 2 ∧ PyData.showableAll (b.map jD) = true ∧ PyData.hasDictAll (b.map jD) = false ∧ PyData.leavesShortAll 8 (b.map jD) = true
  | [], _ => by simp [PyData.bulkAll, PyData.depthAll, PyData.showableAll, PyData.hasDictAll, PyData.leavesShortAll]
  | j :: b, h => by
    obtain ⟨h1, h2, h3, h4, h5⟩ := js_tiny (b := b) fun y hy => h y (List.mem_cons_of_mem _ hy)
    obtain ⟨g1, g2, g3, g4, g5⟩ := j_tiny (h j List.mem_cons_self)
    simp only [List.map_cons, PyData.bulkAll, PyData.depthAll, PyData.showableAll, PyData.hasDictAll, PyData.leavesShortAll, h3, h4, h5, g3, g4, g5, List.length_cons]
    exact ⟨by omega, by omega, rfl, rfl, rfl⟩
theorem bs_tiny : ∀ {S : Spc}, (∀ b ∈ S, b.length = 4 ∧ ∀ j ∈ b, Jb j) → PyData.bulkAll (S.map fun b => PyData.tuple (b.map jD)) ≤ 33 * S.length ∧ PyData.depthAll (S.map fun b => PyData.tuple (b.map jD)) ≤ 3 ∧ PyData.showableAll (S.map fun b => PyData.tuple (b.map jD)) = true ∧
    PyData.hasDictAll (S.map fun b => PyData.tuple (b.map jD)) = false ∧ PyData.leavesShortAll 8 (S.map fun b => PyData.tuple (b.map jD)) = true
  | [], _ => by simp [PyData.bulkAll, PyData.depthAll, PyData.showableAll, PyData.hasDictAll, PyData.leavesShortAll]
  | b :: S, h => by
    obtain ⟨h1, h2, h3, h4, h5⟩ := bs_tiny (S := S) fun y hy => h y (List.mem_cons_of_mem _ hy)
    obtain ⟨l4, hj⟩ := h b List.mem_cons_self
    obtain ⟨g1, g2, g3, g4, g5⟩ := js_tiny hj
    simp only [List.map_cons, PyData.bulkAll, PyData.depthAll, PyData.showableAll, PyData.hasDictAll, PyData.leavesShortAll, PyData.bulk, PyData.depth, PyData.showable, PyData.hasDict, PyData.leavesShort, h3, h4, h5, g3, g4, g5, List.length_cons]
    exact ⟨by omega, by omega, rfl, rfl, rfl⟩
theorem shut_tiny {S : Spc} (h : Sb S) : Tiny (shutD S) 1320 4 := by
  obtain ⟨h1, h2, h3, h4, h5⟩ := bs_tiny h.2
  have hl := h.1
  exact ⟨by simp only [shutD, PyData.bulk]; omega, by simp only [shutD, PyData.depth]; omega, by simpa only [shutD, PyData.showable] using h3, by simpa only [shutD, PyData.hasDict] using h4, by simpa only [shutD, PyData.leavesShort] using h5⟩
/-- a mixture is as tiny -/
theorem Tiny.mix {d d' : PyData} {b k : Nat} (h : Tiny d b k) (e : norm d' = norm d) : Tiny d' b k := by
  obtain ⟨a1, a2, a3, a4, a5⟩ := norm_same 8 d
  obtain ⟨b1, b2, b3, b4, b5⟩ := norm_same 8 d'
  rw [e] at b1 b2 b3 b4 b5
  exact ⟨by rw [← b1, a1]; exact h.b, by rw [← b2, a2]; exact h.k, by rw [← b4, a4]; exact h.s, by rw [← b5, a5]; exact h.h, by rw [← b3, a3]; exact h.l⟩
theorem Tiny.shown {d : PyData} {b k : Nat} (h : Tiny d b k) (hb : b ≤ 100000) : d.shown.length ≤ sizeLine := by
  have h1 := PyData.shown_le_bulk 8 (by decide) d h.l
  have h2 := h.b
  have h3 : sizeLine = 16777216 := by decide +kernel
  omega
/-- a space of lists, as data -/
theorem SpAt.dq {H : Hp} {l : Addr} {rs : List V} {S : Spc} (h : SpAt H l rs S) : Dq (fun _ => False) H (.ref l) (.list (S.map fun b => .list (b.map jD))) := by
  have go : ∀ {rs : List V} {S : Spc}, Paired (BAt H) rs S → Dqs (fun _ => False) H rs (S.map fun b => .list (b.map jD)) := by
    intro rs S hp
    induction hp with
    | nil => exact .nil
    | cons r t ih =>
      obtain ⟨p, vs, rfl, h1, h2⟩ := r
      exact .cons (.lst h1 (fun z => z) (jats_dqs h2)) ih
  exact .lst h.l (fun z => z) (go h.b)
theorem Sb.set {S : Spc} (h : Sb S) (b f : Nat) {j : Jn} (hj : Jb j) : Sb (setJ S b f j) := by
  refine ⟨by rw [setJ_len]; exact h.1, fun c hc => ?_⟩
  obtain ⟨i, hi⟩ := List.mem_iff_getElem?.mp hc
  unfold setJ at hi
  rw [List.getElem?_modify] at hi
  cases hs : S[i]? with
  | none =>
    rw [hs] at hi
    cases hi
  | some m =>
    rw [hs] at hi
    obtain ⟨m4, mj⟩ := h.2 m (List.mem_of_getElem? hs)
    have e : (if b = i then List.set m f j else m) = c := Option.some.inj hi
    by_cases hb : b = i
    · rw [if_pos hb] at e
      subst e
      refine ⟨by rw [List.length_set]; exact m4, fun x hx => ?_⟩
      rcases List.mem_or_eq_of_mem_set hx with z | z
      · exact mj x z
      · rw [z]
        exact hj
    · rw [if_neg hb] at e
      subst e
      exact ⟨m4, mj⟩
theorem jb_none : Jb none := fun _ _ e => by cases e
theorem eqv_nil (ns : List Int) : PyData.eqv (.list (ns.map PyData.int)) (.list []) = ns.isEmpty := by
  cases ns with
  | nil => rfl
  | cons x r => rfl
end Bk

namespace Bk
open PySem PySem.Spec PyProof.Rows L2
/-! ### sorted(t), t a tuple of ints -/
section
variable {prog : Program} {w : World} {A : Around} {E : Value → Shared → Prop} {s : Shared}
theorem gather_tuple {l : Addr} {vs : List Value} {Q : List Value → Shared → Prop} (ht : s.heap.IsTuple l vs.toArray)
    (h : Q vs { s with heap := (s.heap.push (seqObj "list" #[] 0)).update s.heap.objs.size (Obj.mapSeq (· ++ vs.toArray)) }) (hz : vs.length ≤ sizeLine) : wpAny (model prog w) A (collect (.ref l)) Q E s := by
  obtain ⟨o, ho, hc, n, hd⟩ := ht
  have ho' := Heap.get?_push_of_some (seqObj "list" #[] 0) ho
  have hn : (s.heap.push (seqObj "list" #[] 0)).get? s.heap.objs.size = some (seqObj "list" #[] 0) := Heap.get?_push_size _ rfl
  unfold collect
  refine wpAny_bind (wpAny_runValue (codeAny_builtin entry_proto_collect' ?_))
  show wpAny _ _ (do again (.builtin "list.__iadd__" ⟨[← newList [], .ref l], []⟩)) _ _ s
  refine wpAny_bind (wpAny_newList (wpAny_pure ⟨Code.quiet_builtin _ (by decide +kernel), codeAny_builtin entry_list_iadd' ?_⟩))
  show wpAny _ _ (Builtin.List.listExtendWith (.ref s.heap.objs.size) (.ref l) (.ref s.heap.objs.size)) _ _ { s with heap := s.heap.push (seqObj "list" #[] 0) }
  unfold Builtin.List.listExtendWith
  refine wpAny_bind (wpAny_typeOf (T := "tuple") ⟨o, ho', hc⟩ ?_)
  rw [if_pos (by simp)]
  refine wpAny_bind (listItems_at ho' hd (wpAny_bind (listItems_at hn rfl ?_)))
  rw [if_neg (by simp)]
  refine wpAny_bind (listUpdate_at hn rfl (wpAny_pure ?_) (Nat.zero_le _) (by
    show (#[] ++ vs.toArray).size ≤ sizeLine + 1
    simp only [Array.size_append, List.size_toArray, List.length_nil]
    omega))
  refine wpAny_bind (wpAny_load (get?_update_seq hn _) ?_)
  have e : ((#[] : Array Value) ++ vs.toArray).toList = vs := by simp
  show wpAny _ _ (pure ((#[] : Array Value) ++ vs.toArray).toList) Q E _
  rw [e]
  exact wpAny_pure h
theorem sort_tuple {l : Addr} {vs : List Value} {ns : List Int} {Q : Value → Shared → Prop} (ht : s.heap.IsTuple l vs.toArray) (hI : IntsAre vs ns) (h64 : vs.length < 64)
    (h : ∀ (out : Array Value) (ns' : List Int), IntsAre out.toList ns' → ns'.Perm ns → ns'.Pairwise (· ≤ ·) → Q (.ref (s.heap.objs.size + 1)) { s with heap := sortedAll s.heap vs out }) : wpAny (model prog w) A (call (.builtin "sorted") [.ref l]) Q E s := by
  refine Calls.call_function_entry kind_sorted plain_sorted entry_sorted (args_sorted1 _) ?_
  unfold Builtin.«sorted»
  have hz : vs.length ≤ sizeLine := small64 h64
  refine wpAny_bind (m := checkCount "sorted" 1 1 _) (wpAny_pure (wpAny_bind (gather_tuple ht (wpAny_bind (wpAny_newList ?_)) hz)))
  have size1 : ((s.heap.push (seqObj "list" #[] 0)).update s.heap.objs.size (Obj.mapSeq (· ++ vs.toArray))).objs.size = s.heap.objs.size + 1 := by rw [Heap.size_update, size_push']
  have at1 : (((s.heap.push (seqObj "list" #[] 0)).update s.heap.objs.size (Obj.mapSeq (· ++ vs.toArray))).push (seqObj "list" vs.toArray 0)).get? (s.heap.objs.size + 1) = some (seqObj "list" vs.toArray 0) := by
    rw [← size1]
    exact Heap.get?_push_size _ rfl
  show wpAny _ _ _ _ _ { s with heap := ((s.heap.push (seqObj "list" #[] 0)).update s.heap.objs.size (Obj.mapSeq (· ++ vs.toArray))).push (seqObj "list" vs.toArray 0) }
  rw [size1]
  exact wpAny_bind (wpAny_holding (wpAny_call_entry slot_list_sort ⟨_, at1, rfl⟩ entry_list_sort (list_sort_tree at1 hI h64 fun out ns' a1 a2 a3 => ⟨_, rfl, wpAny_pure ⟨_, rfl, h out ns' a1 a2 a3⟩⟩) (args_list_sort _)))
end
section
variable {X : Cx} (K : PySem.W.Frag)
def rSortX (K : PySem.W.Frag) : List V → Hp → VK → Prop := fun vs H Q => ∃ (a : Addr) (ns : List Int), vs = [V.ref a] ∧ (SqL K H a (ns.map V.int) ∨ SqT K H a (ns.map V.int)) ∧ ns.length < 64 ∧
  ∀ (ns' : List Int) (p : Addr), ns'.Perm ns → ns'.Pairwise (· ≤ ·) → H p = none → Q (.ref p) (upd H p (.lst (ns'.map V.int)))
theorem kSorted (h : X.K = K) : CallR X (.builtin "sorted") (rSortX K) := by
  subst h
  rintro pins s σ H vs us Q I r ⟨a, ns, rfl, hq, h64, q⟩
  rcases hq with hq | hq
  · exact cr_sorted pins s σ H _ us Q I r ⟨a, ns, rfl, hq, h64, q⟩
  obtain ⟨its, rv, pt, _⟩ := I.tuple hq
  obtain ⟨u, rfl, rx⟩ := vals1 r
  cases rx
  have hi := rv.ints
  refine sort_tuple pt hi (by rw [hi.length]; exact h64) fun out ns' h1 h2 h3 => ?_
  obtain ⟨ep, he⟩ := sortedAll_at s.heap its out
  have hlen : (ns'.map V.int).length ≤ sizeLine := by
    rw [List.length_map, h2.length_eq]
    exact small64 h64
  exact ⟨.ref (s.heap.objs.size + 1), upd H (s.heap.objs.size + 1) (.lst (ns'.map V.int)), I.laid (t' := s.toks) (fun _ _ => sortedAll_old) (Nat.le_succ _) ⟨hlen, out.toList, ep, vals_of_ints h1, he⟩, rfl, q ns' _ h2 h3 (I.hok.fresh (Nat.le_succ _))⟩
end
end Bk

namespace Bk
open PySem PySem.Spec PyProof.Rows L2
def isIntD : PyData → Bool
  | .int _ => true
  | _ => false
theorem perm_same {a b : List Int} (hp : a.Perm b) (ha : a.Pairwise (· ≤ ·)) (hb : b.Pairwise (· ≤ ·)) : a = b := hp.eq_of_pairwise (fun x y _ _ h1 h2 => Int.le_antisymm h1 h2) ha hb
theorem range_up (m : Nat) : ((List.range m).map fun k : Nat => (k : Int)).Pairwise (· ≤ ·) := by
  rw [List.pairwise_map]
  exact List.pairwise_le_range.imp fun h => by omega
theorem turn_perm : ∀ t ∈ allTurns, t.Perm (List.range 4) := by decide +kernel
theorem intD_map (t : Trn) : t.map intD = (t.map fun c : Nat => (c : Int)).map PyData.int := by
  rw [List.map_map]
  rfl
theorem intV_map (t : Trn) : trnV t = (t.map fun c : Nat => (c : Int)).map V.int := by
  unfold trnV
  rw [List.map_map]
  rfl
/-- the values of data of ints -/
theorem Dqs.ints {N : Addr → Prop} {H : Hp} : ∀ {t : Trn} {vs : List V} {ds : List PyData}, Dqs N H vs ds → norms ds = t.map intD → vs = trnV t
  | [], vs, ds, h, e => by
    obtain rfl := norms_nil_inv e
    cases h
    rfl
  | n :: t, vs, ds, h, e => by
    obtain ⟨d, ds', rfl, e1, e2⟩ := norms_inv (show norms ds = intD n :: t.map intD from e)
    obtain ⟨v, vs', rfl, h1, h2⟩ := h.uncons
    have ev := h1.isInt (i := (n : Int)) e1
    have ih := h2.ints (t := t) e2
    rw [ev, ih]
    rfl
section
variable {P : Program} {w : World} {K : PySem.W.Frag} {mg : Str → Option Value} {base : Heap}
theorem kit_one {d : PyData} {s : String} {b : Bool} (h : ∀ a, a = tyD d → kitB a s = some b) : PySem.W.kitOne K (.type (tyD d)) (.type s) = some b := kit_ty (h _ rfl)
theorem kit_int (d : PyData) : PySem.W.kitOne K (.type (tyD d)) (.type "int") = some (isIntD d || tyD d == "bool") := by
  cases d with
  | none => exact kit_ty (a := "NoneType") (b := "int") (show kitB "NoneType" "int" = some false by decide +kernel)
  | bool b => exact kit_ty (a := "bool") (b := "int") (show kitB "bool" "int" = some true by decide +kernel)
  | int i => exact kit_ty (a := "int") (b := "int") (show kitB "int" "int" = some true by decide +kernel)
  | str x => exact kit_ty (a := "str") (b := "int") (show kitB "str" "int" = some false by decide +kernel)
  | list ds => exact kit_ty (a := "list") (b := "int") (show kitB "list" "int" = some false by decide +kernel)
  | tuple ds => exact kit_ty (a := "tuple") (b := "int") (show kitB "tuple" "int" = some false by decide +kernel)
  | dict k => exact kit_ty (a := "dict") (b := "int") (show kitB "dict" "int" = some false by decide +kernel)
theorem kit_bool (d : PyData) : PySem.W.kitOne K (.type (tyD d)) (.type "bool") = some (tyD d == "bool") := by
  cases d with
  | none => exact kit_ty (a := "NoneType") (b := "bool") (show kitB "NoneType" "bool" = some false by decide +kernel)
  | bool b => exact kit_ty (a := "bool") (b := "bool") (show kitB "bool" "bool" = some true by decide +kernel)
  | int i => exact kit_ty (a := "int") (b := "bool") (show kitB "int" "bool" = some false by decide +kernel)
  | str x => exact kit_ty (a := "str") (b := "bool") (show kitB "str" "bool" = some false by decide +kernel)
  | list ds => exact kit_ty (a := "list") (b := "bool") (show kitB "list" "bool" = some false by decide +kernel)
  | tuple ds => exact kit_ty (a := "tuple") (b := "bool") (show kitB "tuple" "bool" = some false by decide +kernel)
  | dict k => exact kit_ty (a := "dict") (b := "bool") (show kitB "dict" "bool" = some false by decide +kernel)
theorem whole_b (d : PyData) : ((isIntD d || tyD d == "bool") = true → (!(tyD d == "bool")) = isIntD d) ∧ ((isIntD d || tyD d == "bool") = false → isIntD d = false) := by
  cases d <;> simp [isIntD, tyD]
/-! ### is_whole, is_listed, is_below, is_order, is_turn -/
abbrev sis_whole : Stmt := topS 6
abbrev Nis_whole : List Str := ["thing"]
theorem scis_whole : FnScope Nis_whole ["thing"] (defScope sis_whole) := ⟨rfl, rfl, rfl, by decide +kernel, rfl, by decide +kernel, by decide +kernel⟩
def spWhole : Sp := fun vs H Q _ => ∃ (N : Addr → Prop) (v : V) (d : PyData), vs = [v] ∧ Dq N H v d ∧ Q (.bl (isIntD d)) H
theorem okis_whole {f : Addr} {fd : FuncData} (F : Fun K "is_whole" "is_whole" sis_whole f fd) (m_isinstance : mg "isinstance" = none) (m_int : mg "int" = none) (m_bool : mg "bool" = none) : FnOk P w K mg base CX0 1 f fd ["thing"] spWhole := by
  refine F.ok scis_whole (fun vs H Q E h => ?_) (fun cdv A outer s H vs Q E hr h => ?_)
  · obtain ⟨N, v, d, rfl, _⟩ := h
    rfl
  · obtain ⟨N, v, d, rfl, hd, q⟩ := h
    have nd := scis_whole.nd
    refine ⟨_, (pss_one (ps_ret (pe_and (pe_callB (kIsi K rfl) (by rfl) m_isinstance (by decide +kernel) (pa_cons (pv 0) (pa_cons (pe_bltn (v := .ty "int") (by rfl) m_int (by decide +kernel) rfl) pa_nil))) (pe_one (pe_not (pe_callB (kIsi K rfl) (by rfl) m_isinstance (by decide +kernel) (pa_cons (pv 0) (pa_cons (pe_bltn (v := .ty "bool") (by rfl) m_bool (by decide +kernel) rfl) pa_nil)))))))), ?_⟩
    refine ⟨v, rfl, v, .ty "int", _, .type "int", _, rfl, .ty _, hd.ty, kit_int d, _, rfl, ?_⟩
    obtain ⟨w1, w2⟩ := whole_b d
    refine ite2 (fun e => ?_) (fun e => ?_)
    · refine ⟨v, rfl, v, .ty "bool", _, .type "bool", _, rfl, .ty _, hd.ty, kit_bool d, _, rfl, ?_⟩
      rw [w1 e]
      exact q
    · rw [w2 (by simpa using e)] at q
      exact q
abbrev sis_listed : Stmt := topS 7
abbrev Nis_listed : List Str := ["thing"]
theorem scis_listed : FnScope Nis_listed ["thing"] (defScope sis_listed) := ⟨rfl, rfl, rfl, by decide +kernel, rfl, by decide +kernel, by decide +kernel⟩
def spListed : Sp := fun vs H Q _ => ∃ (N : Addr → Prop) (v : V) (d : PyData), vs = [v] ∧ Dq N H v d ∧ ∀ H', Same H H' → Q (.bl (isSeqD d)) H'
theorem okis_listed {f : Addr} {fd : FuncData} (F : Fun K "is_listed" "is_listed" sis_listed f fd) (m_isinstance : mg "isinstance" = none) (m_list : mg "list" = none) (m_tuple : mg "tuple" = none) : FnOk P w K mg base CX0 1 f fd ["thing"] spListed := by
  refine F.ok scis_listed (fun vs H Q E h => ?_) (fun cdv A outer s H vs Q E hr h => ?_)
  · obtain ⟨N, v, d, rfl, _⟩ := h
    rfl
  · obtain ⟨N, v, d, rfl, hd, q⟩ := h
    have nd := scis_listed.nd
    refine ⟨_, (pss_one (ps_ret (pe_callB (kIsiT K rfl) (by rfl) m_isinstance (by decide +kernel) (pa_cons (pv 0) (pa_cons (pe_tup (pa_cons (pe_bltn (v := .ty "list") (by rfl) m_list (by decide +kernel) rfl) (pa_cons (pe_bltn (v := .ty "tuple") (by rfl) m_tuple (by decide +kernel) rfl) pa_nil))) pa_nil))))), ?_⟩
    refine ⟨v, rfl, Nat.le_of_lt (small1000 (by show 2 ≤ 1000; decide)), fun tp ntp => ?_⟩
    have s1 : Same H (upd H tp (.tup [.ty "list", .ty "tuple"])) := same_new ntp
    exact ⟨v, tp, _, _, _, isSeqD d, rfl, upd_same, .cons (.ty _) (.cons (.ty _) .nil), (hd.same s1).ty, kit_seq d, q _ s1⟩
abbrev sis_below : Stmt := topS 8
abbrev Nis_below : List Str := ["thing", "many"]
theorem scis_below : FnScope Nis_below ["thing", "many"] (defScope sis_below) := ⟨rfl, rfl, rfl, by decide +kernel, rfl, by decide +kernel, by decide +kernel⟩
def spBelow : Sp := fun vs H Q _ => ∃ (i : Int) (m : Nat), vs = [.int i, intV m] ∧ Q (.bl (decide (0 ≤ i) && decide (i < m))) H
theorem okis_below {f fW : Addr} {fd fdW : FuncData} (F : Fun K "is_below" "is_below" sis_below f fd) (Fis_whole : Fun K "is_whole" "is_whole" sis_whole fW fdW) (gis_whole : mg "is_whole" = some (.ref fW)) (bis_whole : Binds K fdW ["thing"] [])
    (Gis_whole : FnOk P w K mg base CX0 1 fW fdW ["thing"] spWhole) : FnOk P w K mg base CX0 2 f fd ["thing", "many"] spBelow := by
  refine F.ok scis_below (fun vs H Q E h => ?_) (fun cdv A outer s H vs Q E hr h => ?_)
  · obtain ⟨i, m, rfl, _⟩ := h
    rfl
  · obtain ⟨i, m, rfl, q⟩ := h
    have nd := scis_below.nd
    refine ⟨_, (pss_one (ps_ret (pe_and (pe_call Gis_whole (hr.mono (by first | decide | omega)) (by rfl) gis_whole Fis_whole.kp bis_whole .nil pass0 (pa_cons (pv 0) pa_nil)) (pe_one (pe_chain op_le op_lt pe_int (pv 0) (pv 1)))))), ?_⟩
    refine ⟨.int i, rfl, fun _ => False, .int i, .int i, rfl, .int i, _, rfl, iteT ?_⟩
    refine ⟨.int i, rfl, _, _, rfl, rfl, _, rfl, ite2 (fun e => ?_) (fun e => ?_)⟩
    · refine ⟨intV m, rfl, _, _, rfl, rfl, ?_⟩
      rw [e, Bool.true_and] at q
      exact q
    · have e' : decide ((0 : Int) ≤ i) = false := by simpa using e
      rw [e', Bool.false_and] at q
      exact q
end
end Bk

namespace Bk
open PySem PySem.Spec PyProof.Rows L2
/-! ### defs that show things: no other showing is under way around them -/
section
variable {P : Program} {w : World} {K : PySem.W.Frag} {mg : Str → Option Value} {base : Heap}
structure FnG (P : Program) (w : World) (K : PySem.W.Frag) (mg : Str → Option Value) (base : Heap) (k : Nat) (f : Addr) (fd : FuncData) (ps : List Str) (sp : Sp) : Prop where
  len : ∀ vs H Q E, sp vs H Q E → vs.length = ps.length
  go : ∀ (A : Around) (outer : List Env) (s : Shared) (H : Hp) (args : Args) (us : List Value) (vs : List V) (Q : VK) (E : XK), A.guards = some [] → Room k A → Env0 P w K mg base A outer s H → BindsTo s fd args (ps.zip us) →
    Vals vs us → sp vs H Q E → codeAny (model P w) A (.call (.ref f) args) (CR CX0 outer P w H s Q E) s
theorem fnG_of {x qual : Str} {st : Stmt} {f : Addr} {fd : FuncData} {N ps : List Str} {k : Nat} {sp : Sp} (F : Fun K x qual st f fd) (S : FnScope N ps (defScope st)) (len : ∀ vs H Q E, sp vs H Q E → vs.length = ps.length)
    (body : ∀ (cdv : Value) (A : Around) (outer : List Env) (s : Shared) (H : Hp) (vs : List V) (Q : VK) (E : XK), A.guards = some [] → Room k (A.deeper (envOfC qual (defScope st) s.heap.objs.size f cdv)) → sp vs H Q E →
      ∃ t, PSs (cxOf CX0 P w K mg base N qual (defScope st) f cdv A outer s H E).nox (defBody st) t ∧ t { nx := fun _ H' => Q .non H', rt := Q } (start N vs) H) : FnG P w K mg base (k + 1) f fd ps sp := by
  obtain ⟨oc, od, kV, doc, pm, an, cdv, ct, osl, rfl, lk, hcd⟩ := F.ex
  refine ⟨len, fun A outer s H args us vs Q E hg hr e0 hb r hsp => ?_⟩
  obtain ⟨t, ht, hq⟩ := body cdv A outer s H vs Q E hg (hr.deeper _) hsp
  have up : ∀ b o, base.get? b = some o → s.heap.get? b = some o := fun b o e => (e0.bs b o e).1
  refine Att.call_fn (e0.mod.kin.keeps up) (e0.mod.nolimit.keeps up) lk hcd hr.depth hb ?_ (fun s1 x => ?_) S.co S.gen S.kind
  · rw [List.all_eq_true]
    rintro ⟨n, v⟩ hy
    rcases S.par n (List.of_mem_zip hy).1 with q | q
    · show ((defScope st).names.lookup n == some .local || (defScope st).names.lookup n == some .cell) = true
      rw [q]
      rfl
    · show ((defScope st).names.lookup n == some .local || (defScope st).names.lookup n == some .cell) = true
      rw [q]
      rfl
  · have I := inv_start (CX := CX0) (P := P) (E := E) S hr.hd e0 (len _ _ _ _ hsp) r x
    refine wpAny_mono (ht.nox.run [] s1 (start N vs) H _ I hq) (fun fl s' hs => ?_) fun _ _ z => z
    cases fl with
    | ret u =>
      obtain ⟨v, σ', H', J, rv, z⟩ := hs
      exact ⟨v, H', J.os, J.bare, J.base, J.hok, rv, z⟩
    | next =>
      obtain ⟨σ', H', J, z⟩ := hs
      exact ⟨V.non, H', J.os, J.bare, J.base, J.hok, rfl, z⟩
    | brk =>
      obtain ⟨_, _, _, z⟩ := hs
      exact z.elim
    | cont =>
      obtain ⟨_, _, _, z⟩ := hs
      exact z.elim
/-- the same called within another -/
theorem FnG.ok {k : Nat} {f : Addr} {fd : FuncData} {ps : List Str} {sp : Sp} (F : FnOk P w K mg base CX0 k f fd ps sp) : FnG P w K mg base k f fd ps sp := ⟨F.len, fun A outer s H args us vs Q E _ => F.run A outer s H args us vs Q E⟩
/-! ### repr of data -/
def rRepr : List V → Hp → VK → Prop := fun xs H Q => ∃ N v d es, xs = [v] ∧ Dq N H v d ∧ norm d = .list es ∧ d.showable = true ∧ d.hasDict = false ∧ d.depth ≤ 60 ∧ d.shown.length ≤ sizeLine ∧ Q (.str d.shown) H
theorem kRepr {X : Cx} {k : Nat} (hr : Room k X.A) (hg : X.A.guards = some []) : CallR X (.builtin "repr") rRepr := by
  rintro pins s σ H _ us Q I r ⟨N, v, d, es, rfl, hd, hn, h1, h2, h3, h4, q⟩
  obtain ⟨u, rfl, rx⟩ := vals1 r
  obtain ⟨as, rd⟩ := Dp.reads I d v u hd.dp rx
  obtain ⟨a, _, _, rfl, _⟩ := hd.seq (K := X.K) hn
  cases rx
  have hu := hr.units
  exact repr_of_reads' rd h1 (fun z => by rw [h2] at z; cases z) hg (by omega) (fun _ _ e => e) (fun h' t tk hk => ⟨.str d.shown, H, I.kept hk, ⟨t, rfl⟩, q⟩) h4
/-! ### the law called -/
/-- the heap ahead of the law's call: at most the script is told -/
theorem go_law {mb : Str → Option Value} {k : Nat} {fa a : Addr} {fd : FuncData} {x : Str} {sp : Sp} {s₁ : Shared} {vs : List Value} {ns : List Int}
    (KX : K.In s₁.heap) (h1 : s₁.heap.Ns mainGlobals mg) (h2 : s₁.heap.Ns builtinsNs mb) (h3 : ∀ x : Str, x ≠ "__name__" → mb x = bootBuiltins x) (h4 : s₁.heap.NoLimit) (h5 : s₁.gens = #[])
    (ha : s₁.heap.get? a = some { cls := .type "list", data := .seq vs.toArray }) (hi : IntsAre vs ns) (hl : ns.length ≤ sizeLine) (hr : Room k callerA)
    (F : ∀ base : Heap, K.In base → base.Ns mainGlobals mg → FnG P w K mg base k fa fd [x] sp) (hb : ∀ (s : Shared) (u : Value), BindsTo s fd ⟨[u], []⟩ [(x, u)])
    (hsp : ∀ H : Hp, Only H → SqL K H a (ns.map V.int) → sp [.ref a] H (fun v _ => v = .bl true) fun _ _ _ => False) :
    codeAny (model P w) callerA (.call (.ref fa) ⟨[.ref a], []⟩) (fun r s' => r = .ok (.ret (.bool true)) ∧ OldK s₁.heap s'.heap ∧ s'.os = s₁.os ∧ AllBare s'.gens) s₁ := by
  have rv := vals_ints hi
  have start : ∀ H : Hp, Only H → SqL K H a (ns.map V.int) → HOk P w H s₁.heap → (∀ b u, H b = some u → b = a ∧ K.lookup a = none) →
      codeAny (model P w) callerA (.call (.ref fa) ⟨[.ref a], []⟩) (fun r s' => r = .ok (.ret (.bool true)) ∧ OldK s₁.heap s'.heap ∧ s'.os = s₁.os ∧ AllBare s'.gens) s₁ := by
    intro H only hS ok told
    have none_at : ∀ {b : Addr} {o : Obj}, s₁.heap.get? b = some o → (b = a → K.lookup a = none → False) → (hidT s₁.heap H).get? b = some o := fun {b o} e n => hidT_get e (by
      cases z : H b with
      | none => rfl
      | some u => exact (n (told b u z).1 (told b u z).2).elim)
    have dicts : ∀ {b : Addr} {m : Str → Option Value}, s₁.heap.Ns b m → (hidT s₁.heap H).Ns b m := fun {b m} ⟨o, es, ep, e, d, r⟩ => ⟨o, es, ep, none_at e (fun z _ => by
      subst z
      rw [ha] at e
      cases e
      have d' : Data.seq vs.toArray _ = Data.dict es ep := d
      cases d'), d, r⟩
    have kb : K.In (hidT s₁.heap H) := fun b o e => none_at (KX b o e) fun z n => by
      subst z
      rw [n] at e
      cases e
    have md : Mod K mg (hidT s₁.heap H) := ⟨kb, dicts h1, ⟨mb, dicts h2, h3⟩, let ⟨mc, z1, z2⟩ := h4; ⟨mc, dicts z1, z2⟩⟩
    have e0 : Env0 P w K mg (hidT s₁.heap H) callerA [] s₁ H := ⟨rfl, md, fun b o e => of_hidT e, Nat.le_of_eq (hidT_size _ _), trivial, fun b z => (by cases z), ok, .of_eq h5⟩
    refine codeAny_mono ((F _ kb (dicts h1)).go callerA [] s₁ H ⟨[.ref a], []⟩ [.ref a] [.ref a] _ _ rfl hr e0 (hb s₁ (.ref a)) (.cons rfl .nil) (hsp H only hS)) fun r s' h => ?_
    match r, h with
    | .ok (.ret u), h =>
      obtain ⟨v, H', os, bare, un, ok', r', q⟩ := h
      obtain rfl : v = .bl true := q
      obtain rfl : u = Value.bool true := r'
      refine ⟨rfl, OldK.of_keep fun b o e => ?_, os, bare⟩
      cases z : H b with
      | none => exact un.keep b o e z (fun z => by cases z) (by simp)
      | some u =>
        obtain y | ⟨ob, xs, y⟩ := only b
        · rw [z] at y
          cases y
        · have c1 := (ok b _ y).1
          rw [e] at c1
          cases c1
          exact (ok' b _ (un.frzs b _ _ y)).1
  cases hk : K.lookup a with
  | some o =>
    have e := KX a o hk
    rw [ha] at e
    cases e
    have hn := hi.length
    exact start (fun _ => none) (fun _ => .inl rfl) (.inr ⟨_, vs.toArray, _, hk, rfl, rfl, rfl, by rw [List.size_toArray, hn]; exact hl, by simpa using rv⟩) (fun b u z => by cases z) fun b u z => by cases z
  | none =>
    let ob : Obj := { cls := .type "list", data := .seq vs.toArray }
    have at_ : ∀ b u, (fun b => if b = a then some (HO.frz ob (.lst (ns.map V.int))) else none) b = some u → b = a ∧ u = HO.frz ob (.lst (ns.map V.int)) := fun b u z => by
      by_cases c : b = a
      · exact ⟨c, (Option.some.inj ((if_pos c).symm.trans z)).symm⟩
      · cases (if_neg c).symm.trans z
    refine start (fun b => if b = a then some (HO.frz ob (.lst (ns.map V.int))) else none) (fun b => ?_) (.inl (.inr ⟨ob, if_pos rfl⟩)) (fun b u z => ?_) fun b u z => ⟨(at_ b u z).1, hk⟩
    · by_cases c : b = a
      · exact .inr ⟨_, _, if_pos c⟩
      · exact .inl (if_neg c)
    · obtain ⟨rfl, rfl⟩ := at_ b u z
      exact ⟨ha, by rw [List.length_map]; exact hl, vs, _, rv, ha⟩
end
theorem walk_G {l : PySem.W.OpenLaw} {n k : Nat} {q : Program} {loose : List Str} {XP : (Str → Option Value) → Heap → Prop} {YP : World → Heap → Prop} {d : DefRec} {K : Params → PySem.W.Frag} {sp : PySem.W.Frag → Sp} {x : Str}
    (hn : l.most = some n) (hn2 : n ≤ sizeLine) (hdf : d.params.defaults = []) (hr : Room k callerA) (hY : ∀ (w : World) (h : Heap), YP w h → (K w.params).In h)
    (F : ∀ (w : World) (mg : Str → Option Value) (fa : Addr) (h : Heap), (K w.params).In h → h.Ns mainGlobals mg → mg d.name = some (.ref fa) →
      ∃ fd : FuncData, (∀ (s : Shared) (u : Value), BindsTo s fd ⟨[u], []⟩ [(x, u)]) ∧ ∀ base : Heap, (K w.params).In base → base.Ns mainGlobals mg → FnG l.prog w (K w.params) mg base k fa fd [x] (sp (K w.params)))
    (hsp : ∀ (K : PySem.W.Frag) (H : Hp) (a : Addr) (ns : List Int), ns.length ≤ n → Only H → SqL K H a (ns.map V.int) → sp K [.ref a] H (fun v _ => v = .bl true) fun _ _ _ => False) :
    PySem.W.WalkO q loose XP YP l.row.toRowW d [] (fun f vs => PySem.call f vs) := by
  refine Att.attach_call hn hdf fun w s₀ s₁ mg mb fa o pm cd doc a vs ns G Y ho hd hcd hmg hobj hints hlen hg => ?_
  obtain ⟨fd, hb, hF⟩ := F w mg fa _ (hY w _ Y) G.T.g hmg
  exact go_law (hY w _ Y) G.T.g G.T.b G.T.builtins G.T.nolimit hg hobj hints (Nat.le_trans hlen hn2) hr hF hb fun H z1 z2 => hsp _ H a ns hlen z1 z2
end Bk

namespace Bk
open PySem PySem.Spec PyProof.Rows L2
/-! ### the call of a def that shows things -/
theorem pe_callG {X : Cx} {j : Nat} {a : Addr} {fn : FuncData} {names : List Str} {sq : Sp} {y : Str} {q q' : Pos} {e1 : Expr} {rest : List Expr} {tt : TA}
    (F : FnG X.prog X.w X.K X.mg X.base j a fn names sq) (hg : X.A.guards = some []) (room : Room j X.A) (gl : Gl X y) (at_ : X.mg y = some (.ref a))
    (kp : PySem.W.keepIn X.K (.ref a) = true) (bs : Binds X.K fn names []) (args : PA X (e1 :: rest) tt)
    (nd : (y == ("__debug__" : Str)) = false := by decide)
    (hs : starEach (e1 :: rest) X.env = (false, eval e1 X.env) :: starEach rest X.env := by rfl)
    (hp : (backTo q' (starEach rest X.env)).any (·.1) = false := by rfl) :
    PE X (.Call (.Name y q) (e1 :: rest) [] q') (tCall sq [] E0 tt) := by
  constructor
  intro pins s σ H Q I hq
  refine wpAny_Call_Name_kw (ld_glob I gl at_ ?_ nd)
  have ran := args.run q' pins s σ H _ I hq
  refine PySem.W.callWith_K (h₀ := X.base) I.ok.mod.kin kp (thn ran ?_) hs hp
  rintro us s1 ⟨vs, H1, I1, r, z⟩
  refine ⟨I1.kIn, wpAny_call ?_⟩
  have rr : Vals (vs ++ []) (us ++ []) := r.append Paired.nil
  have len : (us ++ []).length = names.length := (rr.length.symm).trans (F.len _ _ _ _ z)
  have run := F.go X.A X.stack s1 H1 ⟨us, []⟩ (us ++ []) (vs ++ []) Q E0 hg room I1.env0 (bs s1 us I1.kIn len) rr z
  refine codeAny_mono run ?_
  rintro (e | fl) s2 h2
  · exact h2.elim
  · match fl, h2 with
    | .ret u, h2 => exact I1.after h2
end Bk

namespace Bk
open PySem PySem.Spec PyProof.Rows L2
local macro_rules | `(tactic| walk_at "g") => `(tactic| (repeat first | refine ⟨_, rfl, ?_⟩ | refine ⟨cpow, ?_⟩ | refine ⟨_, _, rfl, rfl, ?_⟩ | refine ⟨rfl, ?_⟩))
section
variable {P : Program} {w : World} {K : PySem.W.Frag} {mg : Str → Option Value} {base : Heap}
/-! ### _law_spring, _law_draw -/
abbrev s_law_spring : Stmt := topS 16
abbrev N_law_spring : List Str := ["script", "figures", "stir", "cell"]
theorem sc_law_spring : FnScope N_law_spring ["script"] (defScope s_law_spring) := ⟨rfl, rfl, rfl, by decide +kernel, rfl, by decide +kernel, by decide +kernel⟩
def SprOk (R : Addr) (H : Hp) : Prop := ∃ f s n : Int, H R = some (.lst [.int f, .int s, .int n]) ∧ 0 ≤ f ∧ 0 ≤ s ∧ s < 2305843009213693951
theorem SprOk.same {R : Addr} {H H' : Hp} (h : SprOk R H) (s : Same H H') : SprOk R H' := by
  obtain ⟨f, t, n, r, q⟩ := h
  exact ⟨f, t, n, s _ _ r, q⟩
theorem T60 : (10 : Int) ^ (60 : Int).toNat = (((10 : Nat) ^ 60 : Nat) : Int) := by decide +kernel
theorem spring_up {x r : Int} {n : Nat} (h : 0 ≤ x) (hx : x < ((2 ^ (200 * n) : Nat) : Int)) (r0 : 0 ≤ r) (r1 : r < (10 : Int) ^ (60 : Int).toNat) : 0 ≤ x * (10 : Int) ^ (60 : Int).toNat + r ∧ x * (10 : Int) ^ (60 : Int).toNat + r < ((2 ^ (200 * (n + 1)) : Nat) : Int) := by
  rw [T60] at *
  have e : (10 : Nat) ^ 60 ≤ 2 ^ 200 := by decide +kernel
  obtain ⟨m, rfl⟩ : ∃ m : Nat, x = m := ⟨x.toNat, by omega⟩
  obtain ⟨k, rfl⟩ : ∃ m : Nat, r = m := ⟨r.toNat, by omega⟩
  have h1 : m < 2 ^ (200 * n) := by exact_mod_cast hx
  have h2 : k < 10 ^ 60 := by exact_mod_cast r1
  have h3 : m * 10 ^ 60 + k < 2 ^ (200 * (n + 1)) := by
    rw [show 200 * (n + 1) = 200 * n + 200 by omega, Nat.pow_add]
    calc m * 10 ^ 60 + k < m * 10 ^ 60 + 10 ^ 60 := by omega
      _ = (m + 1) * 10 ^ 60 := by rw [Nat.add_mul, Nat.one_mul]
      _ ≤ 2 ^ (200 * n) * 2 ^ 200 := Nat.mul_le_mul h1 e
  exact ⟨by omega, by exact_mod_cast h3⟩
def spSpring (K : PySem.W.Frag) : Sp := fun vs H Q _ => ∃ (a : Addr) (ns : List Int), vs = [.ref a] ∧ SqL K H a (ns.map V.int) ∧ ns.length ≤ 63 ∧
  ∀ H' R, Same H H' → H R = none → SprOk R H' → Q (.ref R) H'
theorem ok_law_spring {f : Addr} {fd : FuncData} (F : Fun K "_law_spring" "_law_spring" s_law_spring f fd) (m_abs : mg "abs" = none) : FnOk P w K mg base CX0 1 f fd ["script"] (spSpring K) := by
  refine F.ok sc_law_spring (fun vs H Q E h => ?_) (fun cdv A outer s H vs Q E hr h => ?_)
  · obtain ⟨a, ns, rfl, _⟩ := h
    rfl
  · obtain ⟨a, ns, rfl, hS, hlen, q⟩ := h
    have nd := sc_law_spring.nd
    refine ⟨_, (pss_cons (ps_set (i := 1) nd rfl (.inl rfl) pe_int)
      (pss_cons (ps_set (i := 2) nd rfl (.inl rfl) pe_int)
      (pss_cons (ps_for PassesOwn.never rfl (kPiL K rfl (pi_list (pe_slice (kSlL K rfl) (pv 0) po_none (po_some pe_int)))) (pg_name (i := 3) nd rfl (.inl rfl)) (pss_cons (ps_if (pt_cmpR op_ge (pe_callB call_abs (by rfl) m_abs (by decide +kernel) (pa_cons (pv 3) pa_nil)) (pe_op op_pow pe_int pe_int) (nomark _)) (pss_one (ps_set (i := 1) nd rfl (.inl rfl) (pe_op op_add (pe_op op_mulW (pv 1) (pe_op op_pow pe_int pe_int)) (pe_op op_modN (pe_callB call_abs (by rfl) m_abs (by decide +kernel) (pa_cons (pv 3) pa_nil)) (pe_op op_pow pe_int pe_int))))) pss_nil)
      (pss_one (ps_set (i := 2) nd rfl (.inl rfl) (pe_op op_modN (pe_op op_add (pe_op op_add (pe_op op_mul (pv 2) pe_int) (pe_op op_modN (pv 3) pe_int)) pe_int) pe_int)))))
      (pss_one (ps_ret (pe_lst (pa_cons (pv 1) (pa_cons (pv 2) (pa_cons pe_int pa_nil))))))))), ?_⟩
    refine ⟨.ref a, rfl, 63, rfl, a, ns.map V.int, rfl, hS, fun c nc => ?_⟩
    refine ⟨c, rfl, ⟨_, .inl (.inl upd_same)⟩, ?_⟩
    have s1 : Same H (upd H c (.lst (cutV (ns.map V.int) none (some 63)))) := same_new nc
    have e63 : cutV (ns.map V.int) none (some 63) = ns.map V.int := by
      rw [show (63 : Int) = ((63 : Nat) : Int) from rfl, cut_to]
      exact List.take_of_length_le (by rw [List.length_map]; exact hlen)
    rw [e63] at s1 ⊢
    refine for_list (xs := ns.map V.int) (fun i σ H3 => ∃ fg st y, σ = [some (.ref a), some (.int fg), some (.int st), y] ∧ 0 ≤ fg ∧ fg < ((2 ^ (200 * i) : Nat) : Int) ∧ 0 ≤ st ∧ st < 2305843009213693951 ∧ H3 = upd H c (.lst (ns.map V.int))) ⟨0, 88651, none, rfl, by decide, by decide, by decide, by decide, rfl⟩ ?_ ?_ ?_
    · rintro i σ H3 _ ⟨fg, st, y, rfl, _, _, _, _, rfl⟩
      exact .inl (.inl upd_same)
    · rintro i x σ H3 hx ⟨fg, st, y, rfl, f0, f1, t0, t1, rfl⟩
      obtain ⟨k, rfl, hk⟩ := get_map_int hx
      have hi : i < ns.length := (List.getElem?_eq_some_iff.mp hk).1
      have m1 : ∀ x : Int, 0 ≤ (x : Int).fmod 2305843009213693951 ∧ (x : Int).fmod 2305843009213693951 < 2305843009213693951 := fun x => fmod_pos (by decide)
      have p1 : (0 : Int) < (10 : Int) ^ (60 : Int).toNat := by decide +kernel
      walk_at "g"
      refine ite2 (fun e => ?_) (fun e => ?_)
      · walk_at "g"
        have hb : 0 ≤ (if k < 0 then -k else k).fmod ((10 : Int) ^ (60 : Int).toNat) ∧ (if k < 0 then -k else k).fmod ((10 : Int) ^ (60 : Int).toNat) < (10 : Int) ^ (60 : Int).toNat := fmod_pos p1
        have up := spring_up f0 f1 hb.1 hb.2
        refine ⟨wide_mul (a := 200 * i + 1) (b := 201) ?_ (by decide +kernel) (by omega) (by decide) (by omega), ?_⟩
        · obtain ⟨m, rfl⟩ : ∃ m : Nat, fg = m := ⟨fg.toNat, by omega⟩
          have h1 : m < 2 ^ (200 * i) := by exact_mod_cast f1
          rw [Int.natAbs_natCast]
          exact Nat.lt_of_lt_of_le h1 (Nat.pow_le_pow_right (by decide) (by omega))
        walk_at "g"
        refine ⟨Int.ne_of_gt p1, ?_⟩
        walk_at "g"
        refine ⟨.inr (by decide), ?_⟩
        walk_at "g"
        refine ⟨(show (2305843009213693921 : Int) ≠ 0 by decide), ?_⟩
        walk_at "g"
        refine ⟨(show (2305843009213693951 : Int) ≠ 0 by decide), ?_⟩
        exact ⟨_, _, _, rfl, up.1, up.2, (m1 _).1, (m1 _).2, rfl⟩
      · walk_at "g"
        refine ⟨.inr (by decide), ?_⟩
        walk_at "g"
        refine ⟨(show (2305843009213693921 : Int) ≠ 0 by decide), ?_⟩
        walk_at "g"
        refine ⟨(show (2305843009213693951 : Int) ≠ 0 by decide), ?_⟩
        refine ⟨_, _, _, rfl, f0, Int.lt_of_lt_of_le f1 ?_, (m1 _).1, (m1 _).2, rfl⟩
        exact_mod_cast Nat.pow_le_pow_right (by decide) (by omega)
    · rintro σ H3 ⟨fg, st, y, rfl, f0, f1, t0, t1, rfl⟩
      walk_at "g"
      refine ⟨Nat.le_of_lt (small1000 (by show 3 ≤ 1000; decide)), fun R nR => ?_⟩
      exact q _ R (s1.trans (same_new nR)) (s1.free nR) ⟨fg, st, 0, upd_same, f0, t0, t1⟩
abbrev s_law_draw : Stmt := topS 17
abbrev N_law_draw : List Str := ["spring", "many", "found", "stir"]
theorem sc_law_draw : FnScope N_law_draw ["spring", "many"] (defScope s_law_draw) := ⟨rfl, rfl, rfl, by decide +kernel, rfl, by decide +kernel, by decide +kernel⟩
def spSDraw : Sp := fun vs H Q _ => ∃ (R : Addr) (m : Int), vs = [.ref R, .int m] ∧ 0 < m ∧ m ≤ 1000000000000000000000000000000 ∧ SprOk R H ∧
  ∀ H' r, Keep R H H' → SprOk R H' → 0 ≤ r → r < m → Q (.int r) H'
theorem ok_law_draw {f : Addr} {fd : FuncData} (F : Fun K "_law_draw" "_law_draw" s_law_draw f fd) : FnOk P w K mg base CX0 1 f fd ["spring", "many"] spSDraw := by
  refine F.ok sc_law_draw (fun vs H Q E h => ?_) (fun cdv A outer s H vs Q E hr h => ?_)
  · obtain ⟨R, m, rfl, _⟩ := h
    rfl
  · obtain ⟨R, m, rfl, hm0, hm1, ⟨f, s, n, r, f0, s0, s1⟩, q⟩ := h
    have nd := sc_law_draw.nd
    refine ⟨_, (pss_cons (ps_if (pt_cmpR op_gt (pe_ix (kIxL K rfl) (pv 0) pe_int (fun _ _ => rfl)) pe_int (nomark _)) (pss_cons (ps_set (i := 2) nd rfl (.inl rfl) (pe_op op_modN (pe_ix (kIxL K rfl) (pv 0) pe_int (fun _ _ => rfl)) (pv 1)))
      (pss_cons (ps_asg (pe_op op_fdivW (pe_ix (kIxL K rfl) (pv 0) pe_int (fun _ _ => rfl)) (pv 1)) (pg_sub (pv 0) pe_int set_list))
      (pss_one (ps_ret (pv 2))))) pss_nil)
      (pss_cons (ps_asg (pe_op op_add (pe_ix (kIxL K rfl) (pv 0) pe_int (fun _ _ => rfl)) pe_int) (pg_sub (pv 0) pe_int set_list))
      (pss_cons (ps_set (i := 3) nd rfl (.inl rfl) (pe_op op_modN (pe_op op_mul (pe_ix (kIxL K rfl) (pv 0) pe_int (fun _ _ => rfl)) (pe_ix (kIxL K rfl) (pv 0) pe_int (fun _ _ => rfl))) pe_int))
      (pss_cons (ps_asg (pe_op op_modN (pe_op op_add (pe_op op_add (pv 3) (pe_op op_mul (pe_op op_mul pe_int (pe_ix (kIxL K rfl) (pv 0) pe_int (fun _ _ => rfl))) (pe_ix (kIxL K rfl) (pv 0) pe_int (fun _ _ => rfl)))) pe_int) pe_int) (pg_sub (pv 0) pe_int set_list))
      (pss_one (ps_ret (pe_op op_modN (pe_op op_fdivN (pe_ix (kIxL K rfl) (pv 0) pe_int (fun _ _ => rfl)) pe_int) (pv 1)))))))), ?_⟩
    have m1 : ∀ x : Int, 0 ≤ (x : Int).fmod 2305843009213693951 ∧ (x : Int).fmod 2305843009213693951 < 2305843009213693951 := fun x => fmod_pos (by decide)
    have mw : CDivW f m := wide_div (b := 101) hm0 (Nat.lt_of_le_of_lt (show m.natAbs ≤ 1000000000000000000000000000000 by omega) (by decide +kernel)) (by decide) (by decide)
    refine ⟨.ref R, rfl, R, _, 0, .int f, rfl, rfl, .inl (.inl r), rfl, ?_⟩
    walk_at "g"
    refine ite2 (fun e => ?_) (fun e => ?_)
    · refine ⟨.ref R, rfl, R, _, 0, .int f, rfl, rfl, .inl (.inl r), rfl, ?_⟩
      walk_at "g"
      refine ⟨Int.ne_of_gt hm0, ?_⟩
      refine ⟨.ref R, rfl, R, _, 0, .int f, rfl, rfl, .inl (.inl r), rfl, ?_⟩
      walk_at "g"
      refine ⟨mw, ?_⟩
      refine ⟨.ref R, rfl, R, _, 0, 0, rfl, rfl, r, rfl, ?_⟩
      walk_at "g"
      exact q _ _ keep_set ⟨_, _, _, upd_same, Int.ediv_nonneg f0 (by omega), s0, s1⟩ (fmod_pos hm0).1 (fmod_pos hm0).2
    · refine ⟨.ref R, rfl, R, _, 2, .int n, rfl, rfl, .inl (.inl r), rfl, ?_⟩
      walk_at "g"
      refine ⟨R, _, 2, 2, rfl, rfl, r, rfl, ?_⟩
      have h2 : (upd H R (.lst [.int f, .int s, .int (n + 1)])) R = some (.lst [.int f, .int s, .int (n + 1)]) := upd_same
      have k2 : Keep R H (upd H R (.lst [.int f, .int s, .int (n + 1)])) := keep_set
      show tSeq _ _ _ _ (upd H R (.lst [.int f, .int s, .int (n + 1)]))
      generalize upd H R (.lst [.int f, .int s, .int (n + 1)]) = H2 at k2 h2 ⊢
      have cs : CMul s s := .inl ⟨by omega, by omega⟩
      refine ⟨.ref R, rfl, R, _, 1, .int s, rfl, rfl, .inl (.inl h2), rfl, ?_⟩
      walk_at "g"
      refine ⟨R, _, 1, .int s, rfl, rfl, .inl (.inl h2), rfl, ?_⟩
      walk_at "g"
      refine ⟨cs, ?_⟩
      walk_at "g"
      refine ⟨(show (2305843009213693951 : Int) ≠ 0 by decide), ?_⟩
      walk_at "g"
      refine ⟨R, _, 2, .int (n + 1), rfl, rfl, .inl (.inl h2), rfl, ?_⟩
      walk_at "g"
      refine ⟨.inl ⟨by decide, by decide⟩, ?_⟩
      refine ⟨.ref R, rfl, R, _, 1, .int s, rfl, rfl, .inl (.inl h2), rfl, ?_⟩
      walk_at "g"
      refine ⟨.inr ⟨by omega, by omega⟩, ?_⟩
      walk_at "g"
      refine ⟨(show (2305843009213693951 : Int) ≠ 0 by decide), ?_⟩
      refine ⟨.ref R, rfl, R, _, 1, 1, rfl, rfl, h2, rfl, ?_⟩
      have ms := m1 ((s * s).fmod 2305843009213693951 + 7919 * (n + 1) * s + 104729)
      refine ⟨.ref R, rfl, R, _, 1, _, rfl, rfl, .inl (.inl upd_same), rfl, ?_⟩
      walk_at "g"
      refine ⟨⟨by decide, by decide⟩, ?_⟩
      walk_at "g"
      refine ⟨Int.ne_of_gt hm0, ?_⟩
      exact q _ _ (k2.trans keep_set) ⟨_, _, _, upd_same, f0, ms.1, ms.2⟩ (fmod_pos hm0).1 (fmod_pos hm0).2
end
end Bk

namespace Bk
open PySem PySem.Spec PyProof.Rows L2
local macro_rules | `(tactic| walk_at "g") => `(tactic| (repeat first | refine ⟨_, rfl, ?_⟩ | refine ⟨cpow, ?_⟩ | refine ⟨_, _, rfl, rfl, ?_⟩ | refine ⟨rfl, ?_⟩))
section
variable {P : Program} {w : World} {K : PySem.W.Frag} {mg : Str → Option Value} {base : Heap}
theorem intV_eq (a b : Nat) : eqV (intV a) (intV b) = (a == b) := by
  show ((a : Int) == (b : Int)) = (a == b)
  by_cases h : a = b
  · subst h
    simp
  · rw [beq_eq_false_iff_ne.mpr h]
    exact beq_eq_false_iff_ne.mpr (by omega)
theorem ne_int (a b : Nat) : (!decide ((V.int (a : Int)) = V.int (b : Int))) = !(a == b) := by
  by_cases h : a = b
  · subst h
    simp
  · rw [beq_eq_false_iff_ne.mpr h]
    rw [decide_eq_false (fun z => h (by injection z with z; omega))]
theorem bl_dec (x y : Bool) : decide (V.bl x = V.bl y) = (x == y) := by
  cases x <;> cases y <;> decide
/-! ### _law_arcs -/
def quadS (x y : Nat) : Nat := if x = 0 ∨ y = 0 then 3 + x + y else 9 - x - y
def arcsN (ns : List Int) (b f c : Nat) : Int := ns.getD (7 * b + c) 0 + ns.getD (7 * b + quadS c f) 0
def inB (x s : Nat) : Bool := 0 == x || (s - 3) == x
def othL (f c : Nat) : List Nat := (List.range 4).filter fun o => !(f == o || c == o)
def sameL (f c s i : Nat) : List Nat := ((othL f c).take i).filter fun o => inB o s == inB c s
theorem quad_one : ∀ f < 4, ∀ c < 4, c ≠ f → ∀ s < 7, 4 ≤ s → (sameL f c s (othL f c).length).isEmpty = (s == quadS c f) := by decide +kernel
theorem quad_lt : ∀ f < 4, ∀ c < 4, c ≠ f → 4 ≤ quadS c f ∧ quadS c f < 7 := by decide +kernel
theorem inV_two (x y z : Nat) : inV (intV x) [intV y, intV z] = (y == x || z == x) := by
  show (eqV (intV y) (intV x) || (eqV (intV z) (intV x) || false)) = _
  rw [intV_eq, intV_eq, Bool.or_false]
theorem getD_map {ns : List Int} {i : Nat} (h : i < ns.length) : (ns.map V.int)[i]? = some (.int (ns.getD i 0)) := by
  rw [List.getElem?_map, List.getElem?_eq_getElem h]
  show some (V.int ns[i]) = some (V.int (ns[i]?.getD 0))
  rw [List.getElem?_eq_getElem h]
  rfl
abbrev s_law_arcs : Stmt := topS 18
abbrev N_law_arcs : List Str := ["sums", "cell", "side", "tip", "found", "others", "sort", "here", "one"]
theorem sc_law_arcs : FnScope N_law_arcs ["sums", "cell", "side", "tip"] (defScope s_law_arcs) := ⟨rfl, rfl, rfl, by decide +kernel, rfl, by decide +kernel, by decide +kernel⟩
def spLawArcs : Sp := fun vs H Q _ => ∃ (a : Addr) (ns : List Int) (b f c : Nat), vs = [.ref a, intV b, intV f, intV c] ∧ H a = some (.lst (ns.map V.int)) ∧ 7 * b + 6 < ns.length ∧ f < 4 ∧ c < 4 ∧ c ≠ f ∧
  ∀ H', Same H H' → Q (.int (arcsN ns b f c)) H'
theorem ok_law_arcs {f : Addr} {fd : FuncData} (F : Fun K "_law_arcs" "_law_arcs" s_law_arcs f fd) (m_range : mg "range" = none) : FnOk P w K mg base CX0 1 f fd ["sums", "cell", "side", "tip"] spLawArcs := by
  refine F.ok sc_law_arcs (fun vs H Q E h => ?_) (fun cdv A outer s H vs Q E hr h => ?_)
  · obtain ⟨a, ns, b, f, c, rfl, _⟩ := h
    rfl
  · obtain ⟨a, ns, b, f, c, rfl, ha, hb, hf, hc, hcf, q⟩ := h
    have nd := sc_law_arcs.nd
    refine ⟨_, (pss_cons (ps_set (i := 4) nd rfl (.inl rfl) (pe_ix (kIxL K rfl) (pv 0) (pe_op op_add (pe_op op_mul pe_int (pv 1)) (pv 3)) (fun _ _ => rfl)))
      (pss_cons (ps_setLc (i := 5) (own := [("one", 8)]) (g := gName 8) rfl nd rfl rfl (sw_true rfl rfl rfl (by decide +kernel)) (pi_range1 (by rfl) m_range (pa_cons pe_int pa_nil)) (blkOk_by (own := [("one", 8)]) (N := N_law_arcs) (sc := defScope s_law_arcs) (by decide +kernel)) (fun _ _ _ _ _ => (pg_name (i := 8) nd rfl (Or.inl rfl))) (fun _ _ _ _ _ => (pts_one (pt_cmpR (kNotIn K rfl) (pv 8) (pe_tupF (pa_cons (pv 2) (pa_cons (pv 3) pa_nil))) (by rfl)))) (fun _ _ _ _ _ => (pv 8)))
      (pss_cons (ps_for PassesOwn.never rfl (pi_range2 (by rfl) m_range (pa_cons pe_int (pa_cons pe_int pa_nil))) (pg_name (i := 6) nd rfl (.inr rfl)) (pss_cons (ps_set (i := 7) nd rfl (.inr rfl) (pe_cmpR (kIn K rfl) (pv 3) (pe_tupF (pa_cons pe_int (pa_cons (pe_op op_sub (pv 6) pe_int) pa_nil))) (by rfl)))
      (pss_one (ps_if (pt_cmpR (kEqD K rfl hr.units) (pe_lc (own := [("one", 8)]) (g := gName 8) rfl nd (kPiL K rfl (pi_list (pv 5))) (blkOk_by (own := [("one", 8)]) (N := N_law_arcs) (sc := defScope s_law_arcs) (by decide +kernel)) (fun _ _ _ _ _ => (pg_name (i := 8) nd rfl (Or.inl rfl))) (fun _ _ _ _ _ => (pts_one (pt_cmpR op_eq (pe_cmpR (kIn K rfl) (pv 8) (pe_tupF (pa_cons pe_int (pa_cons (pe_op op_sub (pv 6) pe_int) pa_nil))) (by rfl)) (pv 7) (nomark _)))) (fun _ _ _ _ _ => pe_int)) (pe_lst pa_nil) (nomark _)) (pss_one (ps_set (i := 4) nd rfl (.inl rfl) (pe_op op_add (pv 4) (pe_ix (kIxL K rfl) (pv 0) (pe_op op_add (pe_op op_mul pe_int (pv 1)) (pv 6)) (fun _ _ => rfl))))) pss_nil))))
      (pss_one (ps_ret (pv 4)))))), ?_⟩
    walk_at "g"
    refine ⟨.inl (by decide), ?_⟩
    have ix : ∀ k : Nat, k < 7 → ∀ z : Int, z = 7 * (b : Int) + (k : Int) → atI (ns.map V.int) z = some (.int (ns.getD (7 * b + k) 0)) := fun k hk z hz => at_of (j := 7 * b + k) (by omega) (getD_map (by omega))
    walk_at "g"
    refine ⟨a, _, _, _, rfl, rfl, .inl (.inl ha), ix c (by omega) _ rfl, ?_⟩
    refine ⟨4, rfl, by decide, by decide, fun O nO => ?_⟩
    refine lc_range (lo := 0) (n := 4) (fun i H1 => H1 O = some (.lst (((List.range i).filter fun o => !(f == o || c == o)).map intV)) ∧ Same H H1) ⟨upd_same, same_new nO⟩ ?_ ?_
    · rintro o H1 ho ⟨h1, s1⟩
      rw [Int.zero_add]
      refine ⟨rfl, ?_⟩
      walk_at "g"
      refine ⟨Nat.le_of_lt (small1000 (by show 2 ≤ 1000; decide)), fun p2 o2 np2 d2 => ?_⟩
      refine ⟨p2, [intV f, intV c], rfl, .inr (FT.new d2).sqt, rfl, rfl, ?_⟩
      rw [if_pos rfl, show inV (V.int (o : Int)) [intV f, intV c] = (f == o || c == o) from inV_two o f c]
      have s2 : Same H1 (upd H1 p2 (.frz o2 (.tup [intV f, intV c]))) := same_new np2
      generalize upd H1 p2 (.frz o2 (.tup [intV f, intV c])) = H2 at s2 ⊢
      have rs : ((List.range (o + 1)).filter fun o => !(f == o || c == o)) = ((List.range o).filter fun o => !(f == o || c == o)) ++ (if (!(f == o || c == o)) = true then [o] else []) := range_filter_succ _ _
      refine ⟨_, rfl, ite2 (fun e => ?_) (fun e => ?_)⟩
      · rw [if_pos e] at rs
        refine ⟨_, rfl, _, s2 _ _ h1, small1000 (Nat.le_trans (by rw [List.length_map]; exact Nat.le_trans (List.length_filter_le _ _) (by rw [List.length_range]; exact Nat.le_of_lt ho)) (by decide : 4 ≤ 1000)), ?_, ?_⟩
        · rw [upd_same, rs, List.map_append]
          rfl
        · exact same_fill (s1.trans s2) nO
      · rw [if_neg e, List.append_nil] at rs
        exact ⟨by rw [rs]; exact s2 _ _ h1, s1.trans s2⟩
    rintro H1 ⟨h1, s1⟩
    refine ⟨4, 7, rfl, ⟨by decide, by decide, by decide, by decide⟩, ?_⟩
    have hq := quad_lt f hf c hc hcf
    refine for_range (lo := 4) (n := ((7 : Int) - 4).toNat) (fun i σ H2 => ∃ y6 y7, σ = [some (.ref a), some (intV b), some (intV f), some (intV c), some (.int (ns.getD (7 * b + c) 0 + if quadS c f < 4 + i then ns.getD (7 * b + quadS c f) 0 else 0)), some (.ref O), y6, y7, none] ∧ H2 O = some (.lst ((othL f c).map intV)) ∧ Same H H2)
      ⟨none, none, by rw [if_neg (by omega), Int.add_zero]; rfl, h1, s1⟩ ?_ ?_
    · rintro i σ H2 hi ⟨y6, y7, rfl, h2, s2⟩
      have hi3 : i < 3 := hi
      rw [show (4 : Int) + (i : Int) = ((4 + i : Nat) : Int) by omega]
      walk_at "g"
      refine ⟨Nat.le_of_lt (small1000 (by show 2 ≤ 1000; decide)), fun p2 o2 np2 d2 => ?_⟩
      have e3 : ([V.int 0, V.int (((4 + i : Nat) : Int) - 3)] : List V) = [intV 0, intV (4 + i - 3)] := congrArg (fun z => [V.int 0, V.int z]) (show (((4 + i : Nat) : Int)) - 3 = ((4 + i - 3 : Nat) : Int) by omega)
      have s3 : Same H2 (upd H2 p2 (.frz o2 (.tup [V.int 0, V.int (((4 + i : Nat) : Int) - 3)]))) := same_new np2
      have f3 : FT (upd H2 p2 (.frz o2 (.tup [V.int 0, V.int (((4 + i : Nat) : Int) - 3)]))) p2 [intV 0, intV (4 + i - 3)] := ⟨o2, d2, by rw [upd_same, e3]⟩
      generalize upd H2 p2 (.frz o2 (.tup [V.int 0, V.int (((4 + i : Nat) : Int) - 3)])) = H3 at s3 f3 ⊢
      refine ⟨p2, [intV 0, intV (4 + i - 3)], rfl, .inr f3.sqt, rfl, rfl, ?_⟩
      rw [if_neg Bool.false_ne_true, inV_two]
      have h3 := s3 _ _ h2
      refine ⟨.ref O, rfl, O, rfl, ⟨_, .inl (.inl h3)⟩, fun D nD => ?_⟩
      have nOD : O ≠ D := ne_of_none h3 nD
      refine lc_list (xs := (othL f c).map intV) (fun j H4 => H4 D = some (.lst ((List.replicate (sameL f c (4 + i) j).length 1).map V.int)) ∧ Same H3 H4) ⟨upd_same, same_new nD⟩ ?_ ?_ ?_
      · rintro j H4 _ ⟨h4, s4⟩
        exact .inl (.inl (s4 _ _ h3))
      · rintro j x H4 hx ⟨h4, s4⟩
        rw [List.getElem?_map] at hx
        cases ho : (othL f c)[j]? with
        | none =>
          rw [ho] at hx
          cases hx
        | some o =>
          rw [ho] at hx
          obtain rfl := Option.some.inj hx
          have hj4 : (sameL f c (4 + i) j).length ≤ 4 := Nat.le_trans (List.length_filter_le _ _) (Nat.le_trans (List.length_take_le' _ _) (Nat.le_trans (List.length_filter_le _ _) (by rw [List.length_range]; exact Nat.le_refl _)))
          refine ⟨rfl, ?_⟩
          walk_at "g"
          refine ⟨Nat.le_of_lt (small1000 (by show 2 ≤ 1000; decide)), fun p5 o5 np5 d5 => ?_⟩
          have s5 : Same H4 (upd H4 p5 (.frz o5 (.tup [V.int 0, V.int (((4 + i : Nat) : Int) - 3)]))) := same_new np5
          have f5 : FT (upd H4 p5 (.frz o5 (.tup [V.int 0, V.int (((4 + i : Nat) : Int) - 3)]))) p5 [intV 0, intV (4 + i - 3)] := ⟨o5, d5, by rw [upd_same, e3]⟩
          generalize upd H4 p5 (.frz o5 (.tup [V.int 0, V.int (((4 + i : Nat) : Int) - 3)])) = H5 at s5 f5 ⊢
          refine ⟨p5, [intV 0, intV (4 + i - 3)], rfl, .inr f5.sqt, rfl, rfl, ?_⟩
          rw [if_neg Bool.false_ne_true, inV_two]
          have st : sameL f c (4 + i) (j + 1) = sameL f c (4 + i) j ++ (if (inB o (4 + i) == inB c (4 + i)) = true then [o] else []) := filter_take_succ ho
          walk_at "g"
          have eb : decide (V.bl (0 == o || 4 + i - 3 == o) = V.bl (0 == c || 4 + i - 3 == c)) = (inB o (4 + i) == inB c (4 + i)) := bl_dec _ _
          rw [eb]
          refine ite2 (fun e => ?_) (fun e => ?_)
          · rw [if_pos e] at st
            refine ⟨_, s5 _ _ h4, small1000 (by rw [List.length_map, List.length_replicate]; omega), ?_, same_fill (s4.trans s5) nD⟩
            rw [upd_same, st, List.length_append, show [o].length = 1 from rfl, List.replicate_succ', List.map_append]
            rfl
          · rw [if_neg e, List.append_nil] at st
            exact ⟨by rw [st]; exact s5 _ _ h4, s4.trans s5⟩
      · rintro H4 ⟨h4, s4⟩
        rw [List.length_map] at h4
        refine ⟨Nat.zero_le _, fun p6 np6 => ?_⟩
        have s6 : Same H4 (upd H4 p6 (.lst [])) := same_new np6
        have h6 : (upd H4 p6 (.lst [])) p6 = some (.lst (([] : List Int).map V.int)) := upd_same
        generalize upd H4 p6 (.lst []) = H6 at s6 h6 ⊢
        refine ⟨.list ((List.replicate (sameL f c (4 + i) (othL f c).length).length 1).map PyData.int), .list (([] : List Int).map PyData.int), .lst (.inl (.inl (s6 _ _ h4))) (dp_ints _), .lst (.inl (.inl h6)) (dp_ints _), ints_shaped _, ints_shaped _, ?_⟩
        rw [show PyData.eqv (.list ((List.replicate (sameL f c (4 + i) (othL f c).length).length 1).map PyData.int)) (.list (([] : List Int).map PyData.int)) = (4 + i == quadS c f) by
          rw [show (([] : List Int).map PyData.int) = [] from rfl, eqv_nil, ← quad_one f hf c hc hcf (4 + i) (by omega) (by omega)]
          cases sameL f c (4 + i) (othL f c).length <;> rfl]
        have s7 := ((s2.trans s3).trans s4).trans s6
        refine ⟨_, rfl, ite2 (fun e => ?_) (fun e => ?_)⟩
        · have e : 4 + i = quadS c f := by simpa using e
          walk_at "g"
          refine ⟨.inl (by decide), ?_⟩
          walk_at "g"
          refine ⟨a, _, _, _, rfl, rfl, .inl (.inl (s7 _ _ ha)), ix (4 + i) (by omega) _ rfl, ?_⟩
          refine ⟨_, _, rfl, rfl, some (V.int ((4 + i : Nat) : Int)), some (V.bl (0 == c || 4 + i - 3 == c)), ?_, s6 _ _ (s4 _ _ h3), s7⟩
          rw [if_neg (show ¬ quadS c f < 4 + i by omega), Int.add_zero, if_pos (show quadS c f < 4 + (i + 1) by omega), ← e]
          rfl
        · have e : ¬ 4 + i = quadS c f := by simpa using e
          refine ⟨some (V.int ((4 + i : Nat) : Int)), some (V.bl (0 == c || 4 + i - 3 == c)), ?_, s6 _ _ (s4 _ _ h3), s7⟩
          have e5 : (if quadS c f < 4 + (i + 1) then ns.getD (7 * b + quadS c f) 0 else (0 : Int)) = if quadS c f < 4 + i then ns.getD (7 * b + quadS c f) 0 else 0 := by
            by_cases z : quadS c f < 4 + i
            · rw [if_pos z, if_pos (by omega)]
            · rw [if_neg z, if_neg (by omega)]
          rw [e5]
          rfl
    · rintro σ H2 ⟨y6, y7, rfl, h2, s2⟩
      refine ⟨_, rfl, ?_⟩
      rw [if_pos (show quadS c f < 4 + ((7 : Int) - 4).toNat from hq.2)]
      exact q _ s2
end
end Bk

namespace Bk
open PySem PySem.Spec PyProof.Rows L2
local macro_rules | `(tactic| walk_at "g") => `(tactic| (repeat first | refine ⟨_, rfl, ?_⟩ | refine ⟨cpow, ?_⟩ | refine ⟨_, _, rfl, rfl, ?_⟩ | refine ⟨rfl, ?_⟩))
section
variable {P : Program} {w : World} {K : PySem.W.Frag} {mg : Str → Option Value} {base : Heap}
/-! ### what is handed in: a list or a tuple of numbers -/
def Hd (H : Hp) (v : V) (ns : List Int) : Prop := ∃ a, v = .ref a ∧ (H a = some (.lst (ns.map V.int)) ∨ FT H a (ns.map V.int))
theorem Hd.same {H H' : Hp} {v : V} {ns : List Int} (h : Hd H v ns) (s : Same H H') : Hd H' v ns := by
  obtain ⟨a, e, h⟩ := h
  exact ⟨a, e, h.imp (fun z => s _ _ z) fun z => z.mono s.tups⟩
theorem dqs_num {N : Addr → Prop} {H : Hp} : ∀ ns : List Int, Dqs N H (ns.map V.int) (ns.map PyData.int)
  | [] => .nil
  | n :: ns => .cons (.int n) (dqs_num ns)
theorem Hd.dq {H : Hp} {v : V} {ns : List Int} (h : Hd H v ns) : ∃ d, Dq (fun _ => False) H v d ∧ isSeqD d = true := by
  obtain ⟨a, rfl, h | h⟩ := h
  · exact ⟨.list (ns.map PyData.int), .lst h (fun z => z) (dqs_num ns), rfl⟩
  · exact ⟨.tuple (ns.map PyData.int), .tup h (dqs_num ns), rfl⟩
theorem Hd.sq {K : PySem.W.Frag} {H : Hp} {v : V} {ns : List Int} (h : Hd H v ns) : ∃ a, v = .ref a ∧ (SqL K H a (ns.map V.int) ∨ SqT K H a (ns.map V.int)) := by
  obtain ⟨a, rfl, h | h⟩ := h
  · exact ⟨a, rfl, .inl (.inl (.inl h))⟩
  · exact ⟨a, rfl, .inr h.sqt⟩
theorem Hd.ix {K : PySem.W.Frag} {H : Hp} {v : V} {ns : List Int} (h : Hd H v ns) {i : Nat} (hi : i < ns.length) {z : Int} (hz : z = (i : Int)) {Q : VK} (q : Q (.int (ns.getD i 0)) H) : rIxE K v (.int z) H Q := by
  subst hz
  obtain ⟨a, rfl, h | h⟩ := h
  · exact .inl ⟨a, _, _, _, rfl, rfl, .inl (.inl h), atI_nat (getD_map hi), q⟩
  · exact .inr ⟨a, _, _, _, rfl, rfl, h.sqt, atI_nat (getD_map hi), q⟩
abbrev sare_numbers : Stmt := topS 11
abbrev Nare_numbers : List Str := ["thing", "number"]
theorem scare_numbers : FnScope Nare_numbers ["thing"] (defScope sare_numbers) := ⟨rfl, rfl, rfl, by decide +kernel, rfl, by decide +kernel, by decide +kernel⟩
def spAreNum : Sp := fun vs H Q _ => ∃ (v : V) (ns : List Int) (m : Nat), vs = [v] ∧ Hd H v ns ∧ ns.length = 7 * m ∧ 0 < m ∧ m ≤ 100 ∧ (∀ x ∈ ns, 0 ≤ x) ∧ ∀ H', Same H H' → Q (.bl true) H'
theorem okare_numbers {f fL fW : Addr} {fd fdL fdW : FuncData} {tS : Tok} (F : Fun K "are_numbers" "are_numbers" sare_numbers f fd)
    (Fis_listed : Fun K "is_listed" "is_listed" sis_listed fL fdL) (gis_listed : mg "is_listed" = some (.ref fL)) (bis_listed : Binds K fdL ["thing"] []) (Gis_listed : FnOk P w K mg base CX0 1 fL fdL ["thing"] spListed)
    (Fis_whole : Fun K "is_whole" "is_whole" sis_whole fW fdW) (gis_whole : mg "is_whole" = some (.ref fW)) (bis_whole : Binds K fdW ["thing"] []) (Gis_whole : FnOk P w K mg base CX0 1 fW fdW ["thing"] spWhole)
    (g_SORTS : mg "SORTS" = some (.int 7 tS)) (m_len : mg "len" = none) (m_all : mg "all" = none) : FnOk P w K mg base CX0 2 f fd ["thing"] spAreNum := by
  have r_SORTS : RelV (V.int 7) (.int 7 tS) := ⟨_, rfl⟩
  refine F.ok scare_numbers (fun vs H Q E h => ?_) (fun cdv A outer s H vs Q E hr h => ?_)
  · obtain ⟨v, ns, m, rfl, _⟩ := h
    rfl
  · obtain ⟨v, ns, m, rfl, hv, hl, m0, m1, hn, q⟩ := h
    have nd := scare_numbers.nd
    refine ⟨_, (pss_cons (ps_if (pw_or (pt_not (pt_val (pe_call Gis_listed (hr.mono (by first | decide | omega)) (by rfl) gis_listed Fis_listed.kp bis_listed .nil pass0 (pa_cons (pv 0) pa_nil)))) (pw_or (pt_cmpR op_eq (pe_callB (kLen K rfl) (by rfl) m_len (by decide +kernel) (pa_cons (pv 0) pa_nil)) pe_int (nomark _)) (pw_or1 (pt_cmpR op_ne (pe_op op_modN (pe_callB (kLen K rfl) (by rfl) m_len (by decide +kernel) (pa_cons (pv 0) pa_nil)) (pe_glob (by rfl) g_SORTS r_SORTS)) pe_int (nomark _))))).pt (pss_one (ps_ret pe_bl)) pss_nil)
      (pss_one (ps_ret (pe_callB (kAll K rfl rfl) (by rfl) m_all (by decide +kernel) (pa_cons (pe_lc (own := [("number", 1)]) (g := gName 1) (tt := tYes) rfl nd (kPiS K rfl (pv 0)) (blkOk_by (own := [("number", 1)]) (N := Nare_numbers) (sc := defScope sare_numbers) (by decide +kernel)) (fun _ _ _ _ _ => (pg_name (i := 1) nd rfl (Or.inl rfl))) (fun _ _ _ _ _ => pts_nil) (fun _ _ _ _ _ => (pe_and (pe_call Gis_whole (hr.mono (by first | decide | omega)) (by rfl) gis_whole Fis_whole.kp bis_whole .nil pass0 (pa_cons (pv 1) pa_nil)) (pe_one (pe_cmpR op_ge (pv 1) pe_int (nomark _)))))) pa_nil))))), ?_⟩
    obtain ⟨d, hd, sq⟩ := hv.dq
    refine ⟨v, rfl, _, v, d, rfl, hd, fun H1 s1 => ?_⟩
    rw [sq]
    have hv1 := hv.same s1
    obtain ⟨a, rfl, hq⟩ := hv1.sq (K := K)
    refine ⟨_, rfl, iteF ?_⟩
    have l7 : (ns.map V.int).length = 7 * m := by rw [List.length_map, hl]
    refine ⟨.ref a, rfl, a, _, rfl, hq, rfl, _, rfl, ?_⟩
    rw [decide_eq_false (show ¬ V.int ((ns.map V.int).length : Int) = V.int 0 from fun z => by injection z with z; omega)]
    have f7 : ((ns.map V.int).length : Int).fmod 7 = 0 := by
      rw [l7, show (7 : Int) = ((7 : Nat) : Int) from rfl, fmod_nat, Nat.mul_mod_right]
      rfl
    refine iteF ⟨.ref a, rfl, a, _, rfl, hq, _, _, rfl, rfl, (show (7 : Int) ≠ 0 by decide), rfl, _, rfl, iteNS (congrArg V.int f7) ?_⟩
    refine ⟨.ref a, rfl, a, _, rfl, hq, fun J C hJ hC => ?_⟩
    intro D nD
    refine lc_seq (xs := ns.map V.int) hJ (fun i H2 => H2 = upd H1 D (.lst ((List.replicate i true).map V.bl))) rfl ?_ ?_ ?_
    · rintro i H2 rfl
      exact SeqIt.mono K hJ (fun o e => same_new nD _ _ e) hC
    · rintro i x H2 hx rfl
      obtain ⟨k, rfl, hk⟩ := get_map_int hx
      have hi : i < ns.length := (List.getElem?_eq_some_iff.mp hk).1
      have k0 := hn k (List.mem_of_getElem? hk)
      refine ⟨rfl, .int k, rfl, fun _ => False, .int k, .int k, rfl, .int k, _, rfl, iteT ?_⟩
      refine ⟨.int k, rfl, _, _, rfl, rfl, _, upd_same, small1000 (by rw [List.length_map, List.length_replicate]; omega), ?_⟩
      rw [upd_upd, List.replicate_succ', List.map_append]
      show upd H1 D (.lst (List.map V.bl (List.replicate i true) ++ [V.bl (decide (0 ≤ k))])) = _
      rw [decide_eq_true k0]
      rfl
    · rintro H2 rfl
      refine ⟨D, _, rfl, .inl (.inl upd_same), ?_⟩
      rw [show (List.replicate (ns.map V.int).length true).all id = true by
        rw [List.all_eq_true]
        intro y hy
        rw [List.eq_of_mem_replicate hy]
        rfl]
      exact q _ (s1.trans (same_new nD))
abbrev squad_sort : Stmt := topS 14
abbrev Nquad_sort : List Str := ["one", "other"]
theorem scquad_sort : FnScope Nquad_sort ["one", "other"] (defScope squad_sort) := ⟨rfl, rfl, rfl, by decide +kernel, rfl, by decide +kernel, by decide +kernel⟩
def spQuad : Sp := fun vs H Q _ => ∃ x y : Nat, vs = [intV x, intV y] ∧ x < 4 ∧ y < 4 ∧ x ≠ y ∧ Q (intV (quadS x y)) H
theorem okquad_sort {f : Addr} {fd : FuncData} (F : Fun K "quad_sort" "quad_sort" squad_sort f fd) : FnOk P w K mg base CX0 1 f fd ["one", "other"] spQuad := by
  refine F.ok scquad_sort (fun vs H Q E h => ?_) (fun cdv A outer s H vs Q E hr h => ?_)
  · obtain ⟨x, y, rfl, _⟩ := h
    rfl
  · obtain ⟨x, y, rfl, hx, hy, hxy, q⟩ := h
    have nd := scquad_sort.nd
    refine ⟨_, (pss_cons (ps_if (pw_or (pt_cmpR op_eq (pv 0) pe_int (nomark _)) (pw_or1 (pt_cmpR op_eq (pv 1) pe_int (nomark _)))).pt (pss_one (ps_ret (pe_op op_add (pe_op op_add pe_int (pv 0)) (pv 1)))) pss_nil)
      (pss_one (ps_ret (pe_op op_sub (pe_op op_sub (pe_op op_add pe_int pe_int) (pv 0)) (pv 1))))), ?_⟩
    walk_at "g"
    have dz : ∀ n : Nat, intV n = V.int 0 ↔ n = 0 := fun n => ⟨fun z => by injection z with z; omega, fun z => by rw [z]; rfl⟩
    refine ite2 (fun e => ?_) (fun e => ?_)
    · have e : x = 0 := (dz x).mp (of_decide_eq_true e)
      walk_at "g"
      unfold quadS at q
      rw [if_pos (.inl e)] at q
      have e9 : (3 : Int) + (x : Int) + (y : Int) = ((3 + x + y : Nat) : Int) := by omega
      show Q (V.int (3 + (x : Int) + (y : Int))) H
      rw [e9]
      exact q
    · have e : ¬ x = 0 := fun z => e (decide_eq_true ((dz x).mpr z))
      walk_at "g"
      refine ite2 (fun e2 => ?_) (fun e2 => ?_)
      · have e2 : y = 0 := (dz y).mp (of_decide_eq_true e2)
        walk_at "g"
        unfold quadS at q
        rw [if_pos (.inr e2)] at q
        have e9 : (3 : Int) + (x : Int) + (y : Int) = ((3 + x + y : Nat) : Int) := by omega
        show Q (V.int (3 + (x : Int) + (y : Int))) H
        rw [e9]
        exact q
      · have e2 : ¬ y = 0 := fun z => e2 (decide_eq_true ((dz y).mpr z))
        walk_at "g"
        unfold quadS at q
        rw [if_neg (fun z => z.elim e e2)] at q
        have e9 : (3 : Int) + 6 - (x : Int) - (y : Int) = ((9 - x - y : Nat) : Int) := by omega
        show Q (V.int (3 + 6 - (x : Int) - (y : Int))) H
        rw [e9]
        exact q
abbrev sarcs_at : Stmt := topS 13
abbrev Narcs_at : List Str := ["numbers", "block", "face", "corner", "first"]
theorem scarcs_at : FnScope Narcs_at ["numbers", "block", "face", "corner"] (defScope sarcs_at) := ⟨rfl, rfl, rfl, by decide +kernel, rfl, by decide +kernel, by decide +kernel⟩
def spArcsAt : Sp := fun vs H Q _ => ∃ (v : V) (ns : List Int) (b f c : Nat), vs = [v, intV b, intV f, intV c] ∧ Hd H v ns ∧ 7 * b + 6 < ns.length ∧ f < 4 ∧ c < 4 ∧ c ≠ f ∧ Q (.int (arcsN ns b f c)) H
theorem okarcs_at {f fQ : Addr} {fd fdQ : FuncData} {tS : Tok} (F : Fun K "arcs_at" "arcs_at" sarcs_at f fd) (Fquad_sort : Fun K "quad_sort" "quad_sort" squad_sort fQ fdQ) (gquad_sort : mg "quad_sort" = some (.ref fQ)) (bquad_sort : Binds K fdQ ["one", "other"] []) (Gquad_sort : FnOk P w K mg base CX0 1 fQ fdQ ["one", "other"] spQuad)
    (g_SORTS : mg "SORTS" = some (.int 7 tS)) : FnOk P w K mg base CX0 2 f fd ["numbers", "block", "face", "corner"] spArcsAt := by
  have r_SORTS : RelV (V.int 7) (.int 7 tS) := ⟨_, rfl⟩
  refine F.ok scarcs_at (fun vs H Q E h => ?_) (fun cdv A outer s H vs Q E hr h => ?_)
  · obtain ⟨v, ns, b, f, c, rfl, _⟩ := h
    rfl
  · obtain ⟨v, ns, b, f, c, rfl, hv, hb, hf, hc, hcf, q⟩ := h
    have nd := scarcs_at.nd
    refine ⟨_, (pss_cons (ps_set (i := 4) nd rfl (.inl rfl) (pe_op op_mul (pe_glob (by rfl) g_SORTS r_SORTS) (pv 1)))
      (pss_one (ps_ret (pe_op op_add (pe_ix (kIxE K rfl) (pv 0) (pe_op op_add (pv 4) (pv 3)) (fun _ _ => rfl)) (pe_ix (kIxE K rfl) (pv 0) (pe_op op_add (pv 4) (pe_call Gquad_sort (hr.mono (by first | decide | omega)) (by rfl) gquad_sort Fquad_sort.kp bquad_sort .nil pass0 (pa_cons (pv 3) (pa_cons (pv 2) pa_nil)))) (fun _ _ => rfl)))))), ?_⟩
    have hq := quad_lt f hf c hc hcf
    walk_at "g"
    refine ⟨.inl (by decide), ?_⟩
    walk_at "g"
    refine hv.ix (K := K) (i := 7 * b + c) (by omega) (by omega) ?_
    walk_at "g"
    refine ⟨c, f, rfl, hc, hf, hcf, ?_⟩
    walk_at "g"
    refine hv.ix (K := K) (i := 7 * b + quadS c f) (by omega) (by omega) ?_
    walk_at "g"
    exact q
abbrev sarcs : Stmt := topS 12
abbrev Narcs : List Str := ["numbers", "block", "face", "corner"]
theorem scarcs : FnScope Narcs ["numbers", "block", "face", "corner"] (defScope sarcs) := ⟨rfl, rfl, rfl, by decide +kernel, rfl, by decide +kernel, by decide +kernel⟩
theorem kb_arcs_c {f : Addr} {fd : FuncData} (F : Fun K "arcs" "arcs" sarcs f fd) : KBn K fd ["numbers", "block", "face", "corner"] 3 ["corner"] (fun us ws => us ++ ws) (fun vs zs => vs ++ zs) := by
  obtain ⟨oc, od, kV, doc, pm, an, cdv, ct, osl, rfl, lk, hcd⟩ := F.ex
  exact ⟨fun s us ws _ l1 l2 => match us, ws, l1, l2 with | [_, _, _], [_], _, _ => .of_eq rfl, fun r1 r2 => r1.append r2⟩
def spArcs : Sp := fun vs H Q _ => ∃ (v : V) (ns : List Int) (m b f c : Nat), vs = [v, intV b, intV f, intV c] ∧ Hd H v ns ∧ ns.length = 7 * m ∧ m ≤ 100 ∧ (∀ x ∈ ns, 0 ≤ x) ∧ b < m ∧ f < 4 ∧ c < 4 ∧ c ≠ f ∧ ∀ H', Same H H' → Q (.int (arcsN ns b f c)) H'
theorem okarcs {f fN fB fA : Addr} {fd fdN fdB fdA : FuncData} {tS : Tok} (F : Fun K "arcs" "arcs" sarcs f fd)
    (Fare_numbers : Fun K "are_numbers" "are_numbers" sare_numbers fN fdN) (gare_numbers : mg "are_numbers" = some (.ref fN)) (bare_numbers : Binds K fdN ["thing"] []) (Gare_numbers : FnOk P w K mg base CX0 2 fN fdN ["thing"] spAreNum)
    (Fis_below : Fun K "is_below" "is_below" sis_below fB fdB) (gis_below : mg "is_below" = some (.ref fB)) (bis_below : Binds K fdB ["thing", "many"] []) (Gis_below : FnOk P w K mg base CX0 2 fB fdB ["thing", "many"] spBelow)
    (Farcs_at : Fun K "arcs_at" "arcs_at" sarcs_at fA fdA) (garcs_at : mg "arcs_at" = some (.ref fA)) (barcs_at : Binds K fdA ["numbers", "block", "face", "corner"] []) (Garcs_at : FnOk P w K mg base CX0 2 fA fdA ["numbers", "block", "face", "corner"] spArcsAt)
    (g_SORTS : mg "SORTS" = some (.int 7 tS)) (m_len : mg "len" = none) : FnOk P w K mg base CX0 3 f fd ["numbers", "block", "face", "corner"] spArcs := by
  have r_SORTS : RelV (V.int 7) (.int 7 tS) := ⟨_, rfl⟩
  refine F.ok scarcs (fun vs H Q E h => ?_) (fun cdv A outer s H vs Q E hr h => ?_)
  · obtain ⟨v, ns, m, b, f, c, rfl, _⟩ := h
    rfl
  · obtain ⟨v, ns, m, b, f, c, rfl, hv, hl, hm, hn, hb, hf, hc, hcf, q⟩ := h
    have nd := scarcs.nd
    refine ⟨_, (pss_cons (ps_if (pt_not (pt_val (pe_call Gare_numbers (hr.mono (by first | decide | omega)) (by rfl) gare_numbers Fare_numbers.kp bare_numbers .nil pass0 (pa_cons (pv 0) pa_nil)))) (pss_one ps_never) pss_nil)
      (pss_cons (ps_if (pw_or (pt_not (pt_val (pe_call Gis_below (hr.mono (by first | decide | omega)) (by rfl) gis_below Fis_below.kp bis_below .nil pass0 (pa_cons (pv 1) (pa_cons (pe_op op_fdivN (pe_callB (kLen K rfl) (by rfl) m_len (by decide +kernel) (pa_cons (pv 0) pa_nil)) (pe_glob (by rfl) g_SORTS r_SORTS)) pa_nil))))) (pw_or1 (pt_not (pt_val (pe_call Gis_below (hr.mono (by first | decide | omega)) (by rfl) gis_below Fis_below.kp bis_below .nil pass0 (pa_cons (pv 2) (pa_cons pe_int pa_nil))))))).pt (pss_one ps_never) pss_nil)
      (pss_cons (ps_if (pw_or (pt_not (pt_val (pe_call Gis_below (hr.mono (by first | decide | omega)) (by rfl) gis_below Fis_below.kp bis_below .nil pass0 (pa_cons (pv 3) (pa_cons pe_int pa_nil))))) (pw_or1 (pt_cmpR op_eq (pv 3) (pv 2) (nomark _)))).pt (pss_one ps_never) pss_nil)
      (pss_one (ps_ret (pe_call Garcs_at (hr.mono (by first | decide | omega)) (by rfl) garcs_at Farcs_at.kp barcs_at .nil pass0 (pa_cons (pv 0) (pa_cons (pv 1) (pa_cons (pv 2) (pa_cons (pv 3) pa_nil)))))))))), ?_⟩
    refine ⟨v, rfl, v, ns, m, rfl, hv, hl, by omega, hm, hn, fun H1 s1 => ?_⟩
    refine ⟨_, rfl, iteF ?_⟩
    have hv1 := hv.same s1
    obtain ⟨a, rfl, hq⟩ := hv1.sq (K := K)
    have l7 : (ns.map V.int).length = 7 * m := by rw [List.length_map, hl]
    have below : ∀ {x n : Nat}, x < n → (decide ((0 : Int) ≤ (x : Int)) && decide ((x : Int) < (n : Int))) = true := fun {x n} h => by
      rw [decide_eq_true (show (0 : Int) ≤ (x : Int) by omega), decide_eq_true (show (x : Int) < (n : Int) by omega)]
      rfl
    have f7 : ((ns.map V.int).length : Int).fdiv 7 = (m : Int) := by
      rw [l7, show (7 : Int) = ((7 : Nat) : Int) from rfl, fdiv_nat]
      omega
    refine ⟨intV b, rfl, .ref a, rfl, a, _, rfl, hq, _, _, rfl, rfl, ⟨by decide, by decide⟩, (b : Int), m, congrArg (fun z => [intV b, V.int z]) f7, ?_⟩
    rw [below hb]
    refine ⟨_, rfl, iteF ⟨intV f, rfl, (f : Int), 4, rfl, ?_⟩⟩
    rw [below hf]
    refine ⟨_, rfl, iteF ⟨intV c, rfl, (c : Int), 4, rfl, ?_⟩⟩
    rw [below hc]
    refine ⟨_, rfl, iteF ?_⟩
    walk_at "g"
    rw [show decide (intV c = intV f) = false from decide_eq_false fun z => hcf (by injection z with z; omega)]
    refine iteF ?_
    walk_at "g"
    exact ⟨.ref a, ns, b, f, c, rfl, hv1, by omega, hf, hc, hcf, q _ s1⟩
end
end Bk

namespace Bk
open PySem PySem.Spec PyProof.Rows L2
local macro_rules | `(tactic| walk_at "g") => `(tactic| (repeat first | refine ⟨_, rfl, ?_⟩ | refine ⟨cpow, ?_⟩ | refine ⟨_, _, rfl, rfl, ?_⟩ | refine ⟨rfl, ?_⟩))
section
variable {P : Program} {w : World} {K : PySem.W.Frag} {mg : Str → Option Value} {base : Heap}
/-! ### _law_right -/
theorem num_size {z : Int} (h0 : 0 ≤ z) (h1 : z < 2 * 1000000000000000000000000000001) : z.natAbs.log2 < 1920 := by
  have e : 2 * 1000000000000000000000000000001 < 2 ^ 102 := by decide +kernel
  have h := PySem.Flt.log2_lt_of (n := z.natAbs) (k := 102) (by decide) (Nat.lt_trans (show z.natAbs < 2 * 1000000000000000000000000000001 by omega) e)
  omega
theorem arcsN_size {ns : List Int} (h : ∀ x ∈ ns, 0 ≤ x ∧ x < 1000000000000000000000000000001) (b f c : Nat) : 0 ≤ arcsN ns b f c ∧ arcsN ns b f c < 2 * 1000000000000000000000000000001 := by
  have g : ∀ i, 0 ≤ ns.getD i 0 ∧ ns.getD i 0 < 1000000000000000000000000000001 := fun i => by
    show 0 ≤ ns[i]?.getD 0 ∧ ns[i]?.getD 0 < 1000000000000000000000000000001
    cases e : ns[i]? with
    | none => exact ⟨by decide, by decide⟩
    | some x => exact h x (List.mem_of_getElem? e)
  have g1 := g (7 * b + c)
  have g2 := g (7 * b + quadS c f)
  unfold arcsN
  omega
abbrev s_law_right : Stmt := topS 19
abbrev N_law_right : List Str := ["sums", "handed", "cell", "side", "tip", "found"]
theorem sc_law_right : FnScope N_law_right ["sums", "handed"] (defScope s_law_right) := ⟨rfl, rfl, rfl, by decide +kernel, rfl, by decide +kernel, by decide +kernel⟩
def spRight : Sp := fun vs H Q _ => ∃ (a : Addr) (v : V) (ns : List Int) (m : Nat), vs = [.ref a, v] ∧ H a = some (.lst (ns.map V.int)) ∧ Hd H v ns ∧ ns.length = 7 * m ∧ 0 < m ∧ m ≤ 12 ∧ (∀ x ∈ ns, 0 ≤ x ∧ x < 1000000000000000000000000000001) ∧ ∀ H', Same H H' → Q (.bl true) H'
theorem ok_law_right {f fA fL : Addr} {fd fdA fdL : FuncData} (F : Fun K "_law_right" "_law_right" s_law_right f fd)
    (Farcs : Fun K "arcs" "arcs" sarcs fA fdA) (garcs : mg "arcs" = some (.ref fA)) (kbarcs_corner : KBn K fdA ["numbers", "block", "face", "corner"] 3 ["corner"] (fun us ws => us ++ ws) (fun vs zs => vs ++ zs)) (Garcs : FnOk P w K mg base CX0 3 fA fdA ["numbers", "block", "face", "corner"] spArcs)
    (F_law_arcs : Fun K "_law_arcs" "_law_arcs" s_law_arcs fL fdL) (g_law_arcs : mg "_law_arcs" = some (.ref fL)) (b_law_arcs : Binds K fdL ["sums", "cell", "side", "tip"] []) (G_law_arcs : FnOk P w K mg base CX0 1 fL fdL ["sums", "cell", "side", "tip"] spLawArcs)
    (m_range : mg "range" = none) (m_len : mg "len" = none) (m_repr : mg "repr" = none) (m_list : mg "list" = none) : FnOk P w K mg base CX0 4 f fd ["sums", "handed"] spRight := by
  refine F.ok sc_law_right (fun vs H Q E h => ?_) (fun cdv A outer s H vs Q E hr h => ?_)
  · obtain ⟨a, v, ns, m, rfl, _⟩ := h
    rfl
  · obtain ⟨a, v, ns, m, rfl, ha, hv, hl, m0, m1, hn, q⟩ := h
    have nd := sc_law_right.nd
    refine ⟨_, (pss_cons (ps_for PassesOwn.never rfl (pi_range1 (by rfl) m_range (pa_cons (pe_op op_fdivN (pe_callB (kLen K rfl) (by rfl) m_len (by decide +kernel) (pa_cons (pv 0) pa_nil)) pe_int) pa_nil)) (pg_name (i := 2) nd rfl (.inl rfl)) (pss_one (ps_for PassesOwn.never rfl (pi_range1 (by rfl) m_range (pa_cons pe_int pa_nil)) (pg_name (i := 3) nd rfl (.inl rfl)) (pss_one (ps_for PassesOwn.never rfl (pi_range1 (by rfl) m_range (pa_cons pe_int pa_nil)) (pg_name (i := 4) nd rfl (.inl rfl)) (pss_one (ps_if (pt_cmpR op_ne (pv 4) (pv 3) (nomark _)) (pss_cons (ps_set (i := 5) nd rfl (.inl rfl) (pe_callN Garcs (hr.mono (by first | decide | omega)) (by rfl) garcs Farcs.kp kbarcs_corner pass0 (pa_cons (pv 1) (pa_cons (pv 2) (pa_cons (pv 3) pa_nil))) (pk_cons (pv 4) pk_nil)))
      (pss_one (ps_if (pt_cmpR op_ne (pe_callB SkE.call_repr_int (by rfl) m_repr (by decide +kernel) (pa_cons (pv 5) pa_nil)) (pe_callB SkE.call_repr_int (by rfl) m_repr (by decide +kernel) (pa_cons (pe_call G_law_arcs (hr.mono (by first | decide | omega)) (by rfl) g_law_arcs F_law_arcs.kp b_law_arcs .nil pass0 (pa_cons (pv 0) (pa_cons (pv 2) (pa_cons (pv 3) (pa_cons (pv 4) pa_nil))))) pa_nil)) (nomark _)) (pss_one (ps_ret pe_bl)) pss_nil))) pss_nil)))))))
      (pss_one (ps_ret (pe_cmpR (kEqD K rfl hr.units) (pe_callTy (kList K rfl) (by rfl) m_list (by decide +kernel) (pa_cons (pv 1) pa_nil)) (pv 0) (nomark _))))), ?_⟩
    have l7 : (ns.map V.int).length = 7 * m := by rw [List.length_map, hl]
    have f7 : ((ns.map V.int).length : Int).fdiv 7 = (m : Int) := by
      rw [l7, show (7 : Int) = ((7 : Nat) : Int) from rfl, fdiv_nat]
      omega
    have dn : ∀ x : Int, 0 ≤ x → x ∈ ns → 0 ≤ x := fun _ h _ => h
    refine ⟨.ref a, rfl, a, _, rfl, .inl (.inl (.inl ha)), _, _, rfl, rfl, ⟨by decide, by decide⟩, (m : Int), congrArg (fun z => [V.int z]) f7, by omega, by omega, ?_⟩
    refine for_range (lo := 0) (n := ((m : Int)).toNat) (fun i σ H1 => ∃ y2 y3 y4 y5, σ = [some (.ref a), some v, y2, y3, y4, y5] ∧ Same H H1) ⟨none, none, none, none, rfl, Same.refl _⟩ ?_ ?_
    · rintro b σ H1 hb ⟨y2, y3, y4, y5, rfl, s1⟩
      rw [Int.zero_add]
      refine ⟨4, rfl, by decide, by decide, ?_⟩
      refine for_range (lo := 0) (n := 4) (fun i σ H2 => ∃ y3 y4 y5, σ = [some (.ref a), some v, some (intV b), y3, y4, y5] ∧ Same H H2) ⟨y3, y4, y5, rfl, s1⟩ ?_ ?_
      · rintro f σ H2 hf ⟨y3, y4, y5, rfl, s2⟩
        rw [Int.zero_add]
        refine ⟨4, rfl, by decide, by decide, ?_⟩
        refine for_range (lo := 0) (n := 4) (fun i σ H3 => ∃ y4 y5, σ = [some (.ref a), some v, some (intV b), some (intV f), y4, y5] ∧ Same H H3) ⟨y4, y5, rfl, s2⟩ ?_ ?_
        · rintro c σ H3 hc ⟨y4, y5, rfl, s3⟩
          rw [Int.zero_add]
          walk_at "g"
          refine ite2 (fun e => ?_) (fun e => ?_)
          · have hcf : c ≠ f := fun z => by
              subst z
              exact absurd (show (!decide (intV c = intV c)) = true from e) (by rw [decide_eq_true rfl]; decide)
            refine ⟨v, rfl, intV b, rfl, intV f, rfl, intV c, rfl, rfl, rfl, ?_⟩
            refine ⟨v, ns, m, b, f, c, rfl, hv.same s3, hl, by omega, fun x hx => (hn x hx).1, by omega, hf, hc, hcf, fun H4 s4 => ?_⟩
            have sz := arcsN_size hn b f c
            refine ⟨_, rfl, _, rfl, num_size sz.1 sz.2, ?_⟩
            refine ⟨.ref a, rfl, intV b, rfl, intV f, rfl, intV c, rfl, a, ns, b, f, c, rfl, s4 _ _ (s3 _ _ ha), by omega, hf, hc, hcf, fun H5 s5 => ?_⟩
            refine ⟨_, rfl, num_size sz.1 sz.2, ?_⟩
            walk_at "g"
            refine iteNS rfl ?_
            exact ⟨_, _, rfl, (s3.trans s4).trans s5⟩
          · exact ⟨_, _, rfl, s3⟩
        · rintro σ H3 ⟨y4, y5, rfl, s3⟩
          exact ⟨_, _, _, rfl, s3⟩
      · rintro σ H2 ⟨y3, y4, y5, rfl, s2⟩
        exact ⟨_, _, _, _, rfl, s2⟩
    · rintro σ H1 ⟨y2, y3, y4, y5, rfl, s1⟩
      obtain ⟨p, rfl, hq⟩ := (hv.same s1).sq (K := K)
      refine ⟨.ref p, rfl, p, _, rfl, hq, fun l nl => ?_⟩
      have s2 : Same H1 (upd H1 l (.lst (ns.map V.int))) := same_new nl
      refine ⟨.ref a, rfl, .list (ns.map PyData.int), .list (ns.map PyData.int), .lst (.inl (.inl upd_same)) (dp_ints _), .lst (.inl (.inl (s2 _ _ (s1 _ _ ha)))) (dp_ints _), ints_shaped _, ints_shaped _, ?_⟩
      rw [SeqAt.eqv_refl _ (by have := ints_lay ns; simp only [PyData.canLay0]; exact this.1)]
      exact q _ (s1.trans s2)
def HX (R : Addr) (H : Hp) (l : Addr) (ns : List Int) : Prop := (H l = some (.lst (ns.map V.int)) ∧ l ≠ R) ∨ FT H l (ns.map V.int)
theorem HX.keep {R : Addr} {H H' : Hp} {l : Addr} {ns : List Int} (h : HX R H l ns) (r : SprOk R H) (k : Keep R H H') : HX R H' l ns := by
  rcases h with ⟨h, n⟩ | h
  · exact .inl ⟨k _ _ h n, n⟩
  · obtain ⟨f, s, n, e, _⟩ := r
    have ne := h.ne e
    obtain ⟨o, d, h⟩ := h
    exact .inr ⟨o, d, k _ _ h ne⟩
theorem HX.hd {R : Addr} {H : Hp} {l : Addr} {ns : List Int} (h : HX R H l ns) : Hd H (.ref l) ns := ⟨l, rfl, h.imp (fun z => z.1) fun z => z⟩
theorem ixN_nat {n k : Nat} (h : k < n) : ixN n (k : Int) = some k := by
  unfold ixN
  rw [if_pos (by omega), if_pos (by omega)]
  simp
/-! ### the law -/
abbrev slaw : Stmt := topS 20
abbrev Nlaw : List Str := ["script", "spring", "turn", "size", "kind", "sums", "k", "handed", "at", "side", "tip"]
theorem sclaw : FnScope Nlaw ["script"] (defScope slaw) := ⟨rfl, rfl, rfl, by decide +kernel, rfl, by decide +kernel, by decide +kernel⟩
def spLaw (K : PySem.W.Frag) : Sp := fun vs H Q _ => ∃ (a : Addr) (ns : List Int), vs = [.ref a] ∧ SqL K H a (ns.map V.int) ∧ ns.length ≤ 63 ∧ ∀ H', Q (.bl true) H'
theorem kit_list (d : PyData) : PySem.W.kitOne K (.type (tyD d)) (.type "list") = some (tyD d == "list") := by
  cases d with
  | none => exact kit_ty (a := "NoneType") (b := "list") (show kitB "NoneType" "list" = some false by decide +kernel)
  | bool b => exact kit_ty (a := "bool") (b := "list") (show kitB "bool" "list" = some false by decide +kernel)
  | int i => exact kit_ty (a := "int") (b := "list") (show kitB "int" "list" = some false by decide +kernel)
  | str x => exact kit_ty (a := "str") (b := "list") (show kitB "str" "list" = some false by decide +kernel)
  | list ds => exact kit_ty (a := "list") (b := "list") (show kitB "list" "list" = some true by decide +kernel)
  | tuple ds => exact kit_ty (a := "tuple") (b := "list") (show kitB "tuple" "list" = some false by decide +kernel)
  | dict k => exact kit_ty (a := "dict") (b := "list") (show kitB "dict" "list" = some false by decide +kernel)
theorem ok_law {f fS fD fR fA fL : Addr} {fd fdS fdD fdR fdA fdL : FuncData} (F : Fun K "law" "law" slaw f fd)
    (F_law_spring : Fun K "_law_spring" "_law_spring" s_law_spring fS fdS) (g_law_spring : mg "_law_spring" = some (.ref fS)) (b_law_spring : Binds K fdS ["script"] []) (G_law_spring : FnOk P w K mg base CX0 1 fS fdS ["script"] (spSpring K))
    (F_law_draw : Fun K "_law_draw" "_law_draw" s_law_draw fD fdD) (g_law_draw : mg "_law_draw" = some (.ref fD)) (b_law_draw : Binds K fdD ["spring", "many"] []) (G_law_draw : FnOk P w K mg base CX0 1 fD fdD ["spring", "many"] spSDraw)
    (F_law_right : Fun K "_law_right" "_law_right" s_law_right fR fdR) (g_law_right : mg "_law_right" = some (.ref fR)) (b_law_right : Binds K fdR ["sums", "handed"] []) (G_law_right : FnOk P w K mg base CX0 4 fR fdR ["sums", "handed"] spRight)
    (Farcs : Fun K "arcs" "arcs" sarcs fA fdA) (garcs : mg "arcs" = some (.ref fA)) (kbarcs_corner : KBn K fdA ["numbers", "block", "face", "corner"] 3 ["corner"] (fun us ws => us ++ ws) (fun vs zs => vs ++ zs)) (Garcs : FnOk P w K mg base CX0 3 fA fdA ["numbers", "block", "face", "corner"] spArcs)
    (F_law_arcs : Fun K "_law_arcs" "_law_arcs" s_law_arcs fL fdL) (g_law_arcs : mg "_law_arcs" = some (.ref fL)) (b_law_arcs : Binds K fdL ["sums", "cell", "side", "tip"] []) (G_law_arcs : FnOk P w K mg base CX0 1 fL fdL ["sums", "cell", "side", "tip"] spLawArcs)
    (m_range : mg "range" = none) (m_len : mg "len" = none) (m_min : mg "min" = none) (m_list : mg "list" = none) (m_tuple : mg "tuple" = none) (m_isinstance : mg "isinstance" = none) : FnOk P w K mg base CX0 5 f fd ["script"] (spLaw K) := by
  refine F.ok sclaw (fun vs H Q E h => ?_) (fun cdv A outer s H vs Q E hr h => ?_)
  · obtain ⟨a, ns, rfl, _⟩ := h
    rfl
  · obtain ⟨sa, ns0, rfl, hS, hlen, q⟩ := h
    have nd := sclaw.nd
    refine ⟨_, (pss_cons (ps_set (i := 1) nd rfl (.inl rfl) (pe_call G_law_spring (hr.mono (by first | decide | omega)) (by rfl) g_law_spring F_law_spring.kp b_law_spring .nil pass0 (pa_cons (pv 0) pa_nil)))
      (pss_cons (ps_for PassesOwn.never rfl (pi_range1 (by rfl) m_range (pa_cons (pe_op op_add pe_int (pe_callB (call_min2 rfl) (by rfl) m_min (by decide +kernel) (pa_cons (pe_callB (kLen K rfl) (by rfl) m_len (by decide +kernel) (pa_cons (pv 0) pa_nil)) (pa_cons pe_int pa_nil)))) pa_nil)) (pg_name (i := 2) nd rfl (.inl rfl)) (pss_cons (ps_set (i := 3) nd rfl (.inl rfl) (pe_op op_mul pe_int (pe_op op_add pe_int (pe_call G_law_draw (hr.mono (by first | decide | omega)) (by rfl) g_law_draw F_law_draw.kp b_law_draw .nil pass0 (pa_cons (pv 1) (pa_cons (pe_ix (kIxL K rfl) (pe_lst (pa_cons pe_int (pa_cons pe_int pa_nil))) (pe_call G_law_draw (hr.mono (by first | decide | omega)) (by rfl) g_law_draw F_law_draw.kp b_law_draw .nil pass0 (pa_cons (pv 1) (pa_cons pe_int pa_nil))) (fun _ _ => rfl)) pa_nil))))))
      (pss_cons (ps_set (i := 4) nd rfl (.inl rfl) (pe_call G_law_draw (hr.mono (by first | decide | omega)) (by rfl) g_law_draw F_law_draw.kp b_law_draw .nil pass0 (pa_cons (pv 1) (pa_cons pe_int pa_nil))))
      (pss_cons (ps_set (i := 5) nd rfl (.inl rfl) (pe_lst pa_nil))
      (pss_cons (ps_for PassesOwn.never rfl (pi_range1 (by rfl) m_range (pa_cons (pv 3) pa_nil)) (pg_name (i := 6) nd rfl (.inl rfl)) (pss_one (ps_expr (kBM K rfl (pe_bm PySem.F.plainAttrs_list PySem.F.slot_list_append PySem.F.type_list_append mt_append (pv 5) (pa_cons (pe_ix (kIxL K rfl) (pe_lst (pa_cons (pe_call G_law_draw (hr.mono (by first | decide | omega)) (by rfl) g_law_draw F_law_draw.kp b_law_draw .nil pass0 (pa_cons (pv 1) (pa_cons pe_int pa_nil))) (pa_cons (pe_call G_law_draw (hr.mono (by first | decide | omega)) (by rfl) g_law_draw F_law_draw.kp b_law_draw .nil pass0 (pa_cons (pv 1) (pa_cons pe_int pa_nil))) (pa_cons (pe_call G_law_draw (hr.mono (by first | decide | omega)) (by rfl) g_law_draw F_law_draw.kp b_law_draw .nil pass0 (pa_cons (pv 1) (pa_cons (pe_op op_pow pe_int pe_int) pa_nil))) pa_nil)))) (pv 4) (fun _ _ => rfl)) pa_nil))))))
      (pss_cons (ps_set (i := 7) nd rfl (.inl rfl) (pe_ifExp (pt_cmpR op_eq (pe_call G_law_draw (hr.mono (by first | decide | omega)) (by rfl) g_law_draw F_law_draw.kp b_law_draw .nil pass0 (pa_cons (pv 1) (pa_cons pe_int pa_nil))) pe_int (nomark _)) (pe_callTy (kTupleF K rfl) (by rfl) m_tuple (by decide +kernel) (pa_cons (pv 5) pa_nil)) (pe_callTy (kList K rfl) (by rfl) m_list (by decide +kernel) (pa_cons (pv 5) pa_nil))))
      (pss_cons (ps_if (pt_not (pt_val (pe_call G_law_right (hr.mono (by first | decide | omega)) (by rfl) g_law_right F_law_right.kp b_law_right .nil pass0 (pa_cons (pv 5) (pa_cons (pv 7) pa_nil))))) (pss_one (ps_ret pe_bl)) pss_nil)
      (pss_cons (ps_if (pt_val (pe_callB (kIsi K rfl) (by rfl) m_isinstance (by decide +kernel) (pa_cons (pv 7) (pa_cons (pe_bltn (v := .ty "list") (by rfl) m_list (by decide +kernel) rfl) pa_nil)))) (pss_cons (ps_set (i := 8) nd rfl (.inl rfl) (pe_call G_law_draw (hr.mono (by first | decide | omega)) (by rfl) g_law_draw F_law_draw.kp b_law_draw .nil pass0 (pa_cons (pv 1) (pa_cons (pv 3) pa_nil))))
      (pss_cons (ps_asg (pe_call G_law_draw (hr.mono (by first | decide | omega)) (by rfl) g_law_draw F_law_draw.kp b_law_draw .nil pass0 (pa_cons (pv 1) (pa_cons pe_int pa_nil))) (pg_sub (pv 7) (pv 8) set_list))
      (pss_cons (ps_asg (pe_ix (kIxL K rfl) (pv 7) (pv 8) (fun _ _ => rfl)) (pg_sub (pv 5) (pv 8) set_list))
      (pss_one (ps_if (pt_not (pt_val (pe_call G_law_right (hr.mono (by first | decide | omega)) (by rfl) g_law_right F_law_right.kp b_law_right .nil pass0 (pa_cons (pv 5) (pa_cons (pv 7) pa_nil))))) (pss_one (ps_ret pe_bl)) pss_nil))))) pss_nil)
      (pss_cons (ps_set (i := 9) nd rfl (.inl rfl) (pe_call G_law_draw (hr.mono (by first | decide | omega)) (by rfl) g_law_draw F_law_draw.kp b_law_draw .nil pass0 (pa_cons (pv 1) (pa_cons pe_int pa_nil))))
      (pss_cons (ps_set (i := 10) nd rfl (.inl rfl) (pe_op op_modN (pe_op op_add (pe_op op_add (pv 9) pe_int) (pe_call G_law_draw (hr.mono (by first | decide | omega)) (by rfl) g_law_draw F_law_draw.kp b_law_draw .nil pass0 (pa_cons (pv 1) (pa_cons pe_int pa_nil)))) pe_int))
      (pss_one (ps_if (pt_cmpR op_ne (pe_callN Garcs (hr.mono (by first | decide | omega)) (by rfl) garcs Farcs.kp kbarcs_corner pass0 (pa_cons (pv 7) (pa_cons pe_int (pa_cons (pv 9) pa_nil))) (pk_cons (pv 10) pk_nil)) (pe_call G_law_arcs (hr.mono (by first | decide | omega)) (by rfl) g_law_arcs F_law_arcs.kp b_law_arcs .nil pass0 (pa_cons (pv 5) (pa_cons pe_int (pa_cons (pv 9) (pa_cons (pv 10) pa_nil))))) (nomark _)) (pss_one (ps_ret pe_bl)) pss_nil))))))))))))
      (pss_one (ps_ret pe_bl)))), ?_⟩
    refine ⟨.ref sa, rfl, sa, ns0, rfl, hS, hlen, fun H1 R s1 nR hR => ?_⟩
    have dq7 : ∀ x : Int, 0 ≤ x ∧ x < 1000000000000000000000000000001 → 0 ≤ x := fun _ h => h.1
    walk_at "g"
    refine ⟨sa, ns0.map V.int, rfl, .inl (s1.seq hS), ?_⟩
    rw [List.length_map]
    obtain ⟨n, hn1, hn2⟩ : ∃ n : Nat, (1 : Int) + (if (4 : Int) < (ns0.length : Int) then (4 : Int) else (ns0.length : Int)) = (n : Int) ∧ n ≤ 5 := ⟨((1 : Int) + (if (4 : Int) < (ns0.length : Int) then (4 : Int) else (ns0.length : Int))).toNat, by split <;> omega, by split <;> omega⟩
    refine ⟨_, _, rfl, _, _, rfl, rfl, (n : Int), congrArg (fun z => [V.int z]) hn1, by omega, by omega, ?_⟩
    refine for_range (lo := 0) (n := ((n : Int)).toNat) (fun i σ H2 => ∃ y2 y3 y4 y5 y6 y7 y8 y9 y10, σ = [some (.ref sa), some (.ref R), y2, y3, y4, y5, y6, y7, y8, y9, y10] ∧ SprOk R H2) ⟨none, none, none, none, none, none, none, none, none, rfl, hR⟩ ?_ ?_
    · rintro tn σ H2 htn ⟨y2, y3, y4, y5, y6, y7, y8, y9, y10, rfl, hR2⟩
      have neR : ∀ {H : Hp} {p : Addr}, SprOk R H → H p = none → p ≠ R := fun {H p} ⟨f, s, n, e, _⟩ z y => by
        rw [y, e] at z
        cases z
      -- the size
      walk_at "g"
      refine ⟨Nat.le_of_lt (small1000 (by show 2 ≤ 1000; decide)), fun p np => ?_⟩
      have pR := neR hR2 np
      have hR3 : SprOk R (upd H2 p (.lst [.int 3, .int 12])) := hR2.same (same_new np)
      have h3 : (upd H2 p (.lst [.int 3, .int 12])) p = some (.lst [.int 3, .int 12]) := upd_same
      generalize upd H2 p (.lst [.int 3, .int 12]) = H3 at hR3 h3 ⊢
      refine ⟨.ref R, rfl, R, 2, rfl, by decide, by decide, hR3, fun H4 r k4 hR4 r0 r1 => ?_⟩
      obtain ⟨z, hz, z0, z1⟩ : ∃ z : Int, atI [V.int 3, V.int 12] r = some (.int z) ∧ 0 < z ∧ z ≤ 12 := by
        have : r = 0 ∨ r = 1 := by omega
        rcases this with rfl | rfl
        · exact ⟨3, rfl, by decide, by decide⟩
        · exact ⟨12, rfl, by decide, by decide⟩
      refine ⟨p, _, r, .int z, rfl, rfl, .inl (.inl (k4 _ _ h3 pR)), hz, ?_⟩
      refine ⟨R, z, rfl, z0, by omega, hR4, fun H5 r2 k5 hR5 r20 r21 => ?_⟩
      obtain ⟨m, hm, m0, m1⟩ : ∃ m : Nat, (7 : Int) * (1 + r2) = ((7 * m : Nat) : Int) ∧ 0 < m ∧ m ≤ 12 := ⟨(1 + r2).toNat, by omega, by omega, by omega⟩
      refine ⟨_, _, rfl, rfl, _, _, rfl, rfl, .inl ⟨by decide, by decide⟩, ?_⟩
      -- the kind
      refine ⟨.ref R, rfl, R, 3, rfl, by decide, by decide, hR5, fun H6 kd k6 hR6 kd0 kd1 => ?_⟩
      refine ⟨Nat.zero_le _, fun S nS => ?_⟩
      have SR := neR hR6 nS
      have hR7 : SprOk R (upd H6 S (.lst [])) := hR6.same (same_new nS)
      have h7 : (upd H6 S (.lst [])) S = some (.lst (([] : List Int).map V.int)) := upd_same
      generalize upd H6 S (.lst []) = H7 at hR7 h7 ⊢
      refine ⟨_, rfl, ((7 * m : Nat) : Int), congrArg (fun z => [V.int z]) hm, by omega, by omega, ?_⟩
      refine for_range (lo := 0) (n := (((7 * m : Nat) : Int)).toNat) (fun i σ H8 => ∃ y6 ns, σ = [some (.ref sa), some (.ref R), some (intV tn), some (intV (7 * m)), some (.int kd), some (.ref S), y6, y7, y8, y9, y10] ∧ H8 S = some (.lst (ns.map V.int)) ∧ ns.length = i ∧ (∀ x ∈ ns, 0 ≤ x ∧ x < 1000000000000000000000000000001) ∧ SprOk R H8)
        ⟨y6, [], ?_, h7, rfl, (fun x hx => absurd hx List.not_mem_nil), hR7⟩ ?_ ?_
      · rw [Int.zero_add]
        show _ = [some (V.ref sa), some (V.ref R), some (intV tn), some (V.int ((7 * m : Nat) : Int)), some (.int kd), some (.ref S), y6, y7, y8, y9, y10]
        rw [← hm]
        rfl
      · rintro i σ H8 hi ⟨y6, ns, rfl, h8, hl, hn, hR8⟩
        refine ⟨_, rfl, .inl ⟨rfl, _, .inl (.inl h8)⟩, ?_⟩
        have e30 : (10 : Int) ^ (30 : Int).toNat = 1000000000000000000000000000000 := by decide +kernel
        refine ⟨.ref R, rfl, R, 3, rfl, by decide, by decide, hR8, fun H9 d1 k9 hR9 d10 d11 => ?_⟩
        refine ⟨.ref R, rfl, R, 30, rfl, by decide, by decide, hR9, fun H10 d2 k10 hR10 d20 d21 => ?_⟩
        refine ⟨.ref R, rfl, _, _, rfl, rfl, cpow, ?_⟩
        refine ⟨R, _, rfl, (show (0 : Int) < 10 ^ (30 : Int).toNat by rw [e30]; decide), (show (10 : Int) ^ (30 : Int).toNat ≤ 1000000000000000000000000000000 by rw [e30]; decide), hR10, fun H11 d3 k11 hR11 d30 d31 => ?_⟩
        rw [e30] at d31
        refine ⟨Nat.le_of_lt (small1000 (by show 3 ≤ 1000; decide)), fun p np => ?_⟩
        have h11 := k11 _ _ (k10 _ _ (k9 _ _ h8 SR) SR) SR
        have pS : S ≠ p := ne_of_none h11 np
        obtain ⟨d, hd, hd0, hd1⟩ : ∃ d : Int, atI [V.int d1, V.int d2, V.int d3] kd = some (.int d) ∧ 0 ≤ d ∧ d < 1000000000000000000000000000001 := by
          have : kd = 0 ∨ kd = 1 ∨ kd = 2 := by omega
          rcases this with rfl | rfl | rfl
          · exact ⟨d1, rfl, by omega, by omega⟩
          · exact ⟨d2, rfl, by omega, by omega⟩
          · exact ⟨d3, rfl, by omega, by omega⟩
        refine ⟨_, rfl, p, _, kd, .int d, rfl, rfl, .inl (.inl upd_same), hd, ?_⟩
        have h12 : (upd H11 p (.lst [.int d1, .int d2, .int d3])) S = some (.lst (ns.map V.int)) := by
          rw [upd_ne pS]
          exact h11
        have hR12 : SprOk R (upd H11 p (.lst [.int d1, .int d2, .int d3])) := hR11.same (same_new np)
        generalize upd H11 p (.lst [.int d1, .int d2, .int d3]) = H12 at h12 hR12 ⊢
        refine ⟨S, _, _, rfl, rfl, h12, small1000 (by rw [List.length_map, hl]; omega), ?_⟩
        refine ⟨_, ns ++ [d], rfl, ?_, by rw [List.length_append, hl]; rfl, fun x hx => ?_, ?_⟩
        · rw [upd_same, List.map_append]
          rfl
        · rcases List.mem_append.mp hx with hx | hx
          · exact hn x hx
          · rw [List.mem_singleton.mp hx]
            exact ⟨hd0, hd1⟩
        · obtain ⟨f, s, n, e, z⟩ := hR12
          exact ⟨f, s, n, by rw [upd_ne SR.symm]; exact e, z⟩
      · rintro σ H8 ⟨y6, ns, rfl, h8, hl, hn, hR8⟩
        rw [Int.toNat_natCast] at hl
        refine ⟨.ref R, rfl, R, 3, rfl, by decide, by decide, hR8, fun H9 w1 k9 hR9 w10 w11 => ?_⟩
        have h9 := k9 _ _ h8 SR
        walk_at "g"
        refine ite2 ?A ?B
        case' A =>
          intro e
          refine ⟨.ref S, rfl, S, _, rfl, .inl ⟨.inl (.inl h9), fun l o nl dl => ?_⟩⟩
          have s10 : Same H9 (upd H9 l (.frz o (.tup (ns.map V.int)))) := same_new nl
          have hx : ((upd H9 l (.frz o (.tup (ns.map V.int)))) l = some (.lst (ns.map V.int)) ∧ l ≠ R ∧ l ≠ S) ∨ FT (upd H9 l (.frz o (.tup (ns.map V.int)))) l (ns.map V.int) := .inr (FT.new dl)
          generalize upd H9 l (.frz o (.tup (ns.map V.int))) = H10 at s10 hx ⊢
          clear nl dl o
        case' B =>
          intro e
          refine ⟨.ref S, rfl, S, _, rfl, .inl (.inl (.inl h9)), fun l nl => ?_⟩
          have s10 : Same H9 (upd H9 l (.lst (ns.map V.int))) := same_new nl
          have hx : ((upd H9 l (.lst (ns.map V.int))) l = some (.lst (ns.map V.int)) ∧ l ≠ R ∧ l ≠ S) ∨ FT (upd H9 l (.lst (ns.map V.int))) l (ns.map V.int) := .inl ⟨upd_same, neR hR9 nl, (ne_of_none h9 nl).symm⟩
          generalize upd H9 l (.lst (ns.map V.int)) = H10 at s10 hx ⊢
          clear nl
        all_goals
          have h10 := s10 _ _ h9
          have hR10 := hR9.same s10
          refine ⟨.ref S, rfl, .ref l, rfl, S, .ref l, ns, m, rfl, h10, ⟨l, rfl, hx.imp (fun z => z.1) fun z => z⟩, hl, m0, m1, hn, fun H11 s11 => ⟨_, rfl, iteF ?_⟩⟩
          have h11 := s11 _ _ h10
          have hR11 := hR10.same s11
          have hx1 : (H11 l = some (.lst (ns.map V.int)) ∧ l ≠ R ∧ l ≠ S) ∨ FT H11 l (ns.map V.int) := hx.imp (fun z => ⟨s11 _ _ z.1, z.2⟩) fun z => z.mono s11.tups
          clear hx
          rcases hx1 with ⟨hL, lR, lS⟩ | hF
          case' inl =>
            refine ⟨.ref l, rfl, .ref l, .ty "list", _, .type "list", _, rfl, .ty _, (Dq.lst (N := fun _ => False) hL (fun z => z) (dqs_num ns)).ty, kit_list _, _, rfl, iteT ?_⟩
            refine ⟨.ref R, rfl, intV (7 * m), rfl, R, ((7 * m : Nat) : Int), rfl, by omega, by omega, hR11, fun H12 at_ k12 hR12 a0 a1 => ?_⟩
            refine ⟨.ref R, rfl, R, 9, rfl, by decide, by decide, hR12, fun H13 nu k13 hR13 u0 u1 => ?_⟩
            have hL13 := k13 _ _ (k12 _ _ hL lR) lR
            have hS13 := k13 _ _ (k12 _ _ h11 SR) SR
            obtain ⟨j, rfl⟩ : ∃ j : Nat, at_ = j := ⟨at_.toNat, by omega⟩
            have hj : j < ns.length := by omega
            refine ⟨.ref l, rfl, .int j, rfl, l, _, j, j, rfl, rfl, hL13, ixN_nat (by rw [List.length_map]; exact hj), ?_⟩
            have es : (ns.map V.int).set j (.int nu) = (ns.set j nu).map V.int := by rw [List.map_set]
            have hL14 : (upd H13 l (.lst ((ns.map V.int).set j (.int nu)))) l = some (.lst ((ns.set j nu).map V.int)) := by rw [upd_same, es]
            have hS14 : (upd H13 l (.lst ((ns.map V.int).set j (.int nu)))) S = some (.lst (ns.map V.int)) := by
              rw [upd_ne lS.symm]
              exact hS13
            have hR14 : SprOk R (upd H13 l (.lst ((ns.map V.int).set j (.int nu)))) := by
              obtain ⟨f, s, n, e, z⟩ := hR13
              exact ⟨f, s, n, by rw [upd_ne lR.symm]; exact e, z⟩
            generalize upd H13 l (.lst ((ns.map V.int).set j (.int nu))) = H14 at hL14 hS14 hR14 ⊢
            have gj : ((ns.set j nu).map V.int)[j]? = some (.int nu) := by
              rw [List.getElem?_map, List.getElem?_set_self hj]
              rfl
            refine ⟨.ref l, rfl, .int j, rfl, l, _, j, .int nu, rfl, rfl, .inl (.inl hL14), atI_nat gj, ?_⟩
            refine ⟨.ref S, rfl, .int j, rfl, S, _, j, j, rfl, rfl, hS14, ixN_nat (by rw [List.length_map]; exact hj), ?_⟩
            have hS15 : (upd H14 S (.lst ((ns.map V.int).set j (.int nu)))) S = some (.lst ((ns.set j nu).map V.int)) := by rw [upd_same, es]
            have hd15 : Hd (upd H14 S (.lst ((ns.map V.int).set j (.int nu)))) (.ref l) (ns.set j nu) := ⟨l, rfl, .inl (by rw [upd_ne lS]; exact hL14)⟩
            have hR15 : SprOk R (upd H14 S (.lst ((ns.map V.int).set j (.int nu)))) := by
              obtain ⟨f, s, n, e, z⟩ := hR14
              exact ⟨f, s, n, by rw [upd_ne SR.symm]; exact e, z⟩
            generalize upd H14 S (.lst ((ns.map V.int).set j (.int nu))) = H15 at hS15 hd15 hR15 ⊢
            have hl15 : (ns.set j nu).length = 7 * m := by rw [List.length_set, hl]
            have hn15 : ∀ x ∈ ns.set j nu, 0 ≤ x ∧ x < 1000000000000000000000000000001 := fun x hx => by
              rcases List.mem_or_eq_of_mem_set hx with z | z
              · exact hn x z
              · rw [z]
                omega
            refine ⟨.ref S, rfl, .ref l, rfl, S, .ref l, ns.set j nu, m, rfl, hS15, hd15, hl15, m0, m1, hn15, fun H16 s16 => ⟨_, rfl, iteF ?_⟩⟩
            have hS16 := s16 _ _ hS15
            have hx16 : HX R H16 l (ns.set j nu) := by
              obtain ⟨a2, ea, hz⟩ := hd15
              obtain rfl : l = a2 := by injection ea
              exact hz.imp (fun z => ⟨s16 _ _ z, lR⟩) fun z => z.mono s16.tups
            have hR16 := hR15.same s16
            clear hS15 hd15 hR15 hL14 hS14 hR14 hS13 hL13 hL hn hl h11 h10 h9 h8 gj es
            generalize ns.set j nu = ns at hl15 hn15 hS16 hx16
          case' inr =>
            refine ⟨.ref l, rfl, .ref l, .ty "list", _, .type "list", _, rfl, .ty _, (Dq.tup (N := fun _ => False) hF (dqs_num ns)).ty, kit_list _, _, rfl, iteF ?_⟩
            have hS16 := h11
            have hx16 : HX R H11 l ns := .inr hF
            have hR16 := hR11
            have hl15 := hl
            have hn15 := hn
            generalize H11 = H16 at hS16 hx16 hR16 ⊢
          all_goals
            refine ⟨.ref R, rfl, R, 4, rfl, by decide, by decide, hR16, fun H17 sd k17 hR17 sd0 sd1 => ?_⟩
            have hS17 := k17 _ _ hS16 SR
            have hx17 := hx16.keep hR16 k17
            refine ⟨_, rfl, _, _, rfl, rfl, ?_⟩
            refine ⟨.ref R, rfl, R, 3, rfl, by decide, by decide, hR17, fun H18 dd k18 hR18 dd0 dd1 => ?_⟩
            have hS18 := k18 _ _ hS17 SR
            have hx18 := hx17.keep hR17 k18
            obtain ⟨f, rfl⟩ : ∃ f : Nat, sd = f := ⟨sd.toNat, by omega⟩
            obtain ⟨c, hc, hc4, hcf⟩ : ∃ c : Nat, ((f : Int) + 1 + dd).fmod 4 = (c : Int) ∧ c < 4 ∧ c ≠ f := by
              rw [Int.fmod_eq_emod_of_nonneg _ (by decide)]
              exact ⟨(((f : Int) + 1 + dd) % 4).toNat, by omega, by omega, by omega⟩
            refine ⟨_, _, rfl, rfl, _, _, rfl, rfl, (show (4 : Int) ≠ 0 by decide), ?_⟩
            refine ⟨.ref l, rfl, .int f, rfl, _, rfl, rfl, rfl, .ref l, ns, m, 0, f, c, congrArg (fun z => [V.ref l, .int 0, .int f, .int z]) hc, hx18.hd, hl15, by omega, fun x hx => (hn15 x hx).1, by omega, by omega, hc4, hcf, fun H19 s19 => ?_⟩
            refine ⟨.ref S, rfl, .int f, rfl, _, rfl, S, ns, 0, f, c, congrArg (fun z => [V.ref S, .int 0, .int f, .int z]) hc, s19 _ _ hS18, by omega, by omega, hc4, hcf, fun H20 s20 => ?_⟩
            refine ⟨rfl, _, rfl, iteNS rfl ?_⟩
            exact ⟨_, _, _, _, _, _, _, _, _, rfl, (hR18.same s19).same s20⟩
    · rintro σ H2 ⟨y2, y3, y4, y5, y6, y7, y8, y9, y10, rfl, hR2⟩
      exact q _
end
end Bk

namespace Bk
open PySem PySem.Spec PyProof.Rows L2 RZ
theorem all_mk {l : PySem.W.OpenLaw} {w : World} {K : PySem.W.Frag} {h : Heap} {mg : Str → Option Value} {fa fis_whole fis_listed fis_below fare_numbers farcs farcs_at fquad_sort f_law_spring f_law_draw f_law_arcs f_law_right flaw : Addr} (X : K.In h) (G : h.Ns mainGlobals mg) (hfa : mg "law" = some (.ref fa))
    {odis_whole anis_whole odis_listed anis_listed odis_below anis_below odare_numbers anare_numbers odarcs anarcs odarcs_at anarcs_at odquad_sort anquad_sort od_law_spring an_law_spring od_law_draw an_law_draw od_law_arcs an_law_arcs od_law_right an_law_right odlaw anlaw : Option Addr} {slis_whole slis_listed slis_below slare_numbers slarcs slarcs_at slquad_sort sl_law_spring sl_law_draw sl_law_arcs sl_law_right sllaw : Array (Option Value)} {ocis_whole kVis_whole dcis_whole pmis_whole cdis_whole ctis_whole ocis_listed kVis_listed dcis_listed pmis_listed cdis_listed ctis_listed ocis_below kVis_below dcis_below pmis_below cdis_below ctis_below ocare_numbers kVare_numbers dcare_numbers pmare_numbers cdare_numbers ctare_numbers ocarcs kVarcs dcarcs pmarcs cdarcs ctarcs ocarcs_at kVarcs_at dcarcs_at pmarcs_at cdarcs_at ctarcs_at ocquad_sort kVquad_sort dcquad_sort pmquad_sort cdquad_sort ctquad_sort oc_law_spring kV_law_spring dc_law_spring pm_law_spring cd_law_spring ct_law_spring oc_law_draw kV_law_draw dc_law_draw pm_law_draw cd_law_draw ct_law_draw oc_law_arcs kV_law_arcs dc_law_arcs pm_law_arcs cd_law_arcs ct_law_arcs oc_law_right kV_law_right dc_law_right pm_law_right cd_law_right ct_law_right oclaw kVlaw dclaw pmlaw cdlaw ctlaw : Value}
    {tSORTS : Tok}
    (ais_whole : PySem.W.nsIn K mainGlobals "is_whole" = some (some (.ref fis_whole))) (lis_whole : K.lookup fis_whole = some ⟨ocis_whole, odis_whole, .func (PySem.W.fnOf "is_whole" "is_whole" (defArgs sis_whole) (defBody sis_whole) (defScope sis_whole) .none kVis_whole dcis_whole pmis_whole anis_whole cdis_whole ctis_whole), slis_whole⟩) (cis_whole : PySem.W.codeIn K cdis_whole "is_whole" = true) (kis_whole : PySem.W.keepIn K (.ref fis_whole) = true)
    (ais_listed : PySem.W.nsIn K mainGlobals "is_listed" = some (some (.ref fis_listed))) (lis_listed : K.lookup fis_listed = some ⟨ocis_listed, odis_listed, .func (PySem.W.fnOf "is_listed" "is_listed" (defArgs sis_listed) (defBody sis_listed) (defScope sis_listed) .none kVis_listed dcis_listed pmis_listed anis_listed cdis_listed ctis_listed), slis_listed⟩) (cis_listed : PySem.W.codeIn K cdis_listed "is_listed" = true) (kis_listed : PySem.W.keepIn K (.ref fis_listed) = true)
    (ais_below : PySem.W.nsIn K mainGlobals "is_below" = some (some (.ref fis_below))) (lis_below : K.lookup fis_below = some ⟨ocis_below, odis_below, .func (PySem.W.fnOf "is_below" "is_below" (defArgs sis_below) (defBody sis_below) (defScope sis_below) .none kVis_below dcis_below pmis_below anis_below cdis_below ctis_below), slis_below⟩) (cis_below : PySem.W.codeIn K cdis_below "is_below" = true) (kis_below : PySem.W.keepIn K (.ref fis_below) = true)
    (aare_numbers : PySem.W.nsIn K mainGlobals "are_numbers" = some (some (.ref fare_numbers))) (lare_numbers : K.lookup fare_numbers = some ⟨ocare_numbers, odare_numbers, .func (PySem.W.fnOf "are_numbers" "are_numbers" (defArgs sare_numbers) (defBody sare_numbers) (defScope sare_numbers) .none kVare_numbers dcare_numbers pmare_numbers anare_numbers cdare_numbers ctare_numbers), slare_numbers⟩) (care_numbers : PySem.W.codeIn K cdare_numbers "are_numbers" = true) (kare_numbers : PySem.W.keepIn K (.ref fare_numbers) = true)
    (aarcs : PySem.W.nsIn K mainGlobals "arcs" = some (some (.ref farcs))) (larcs : K.lookup farcs = some ⟨ocarcs, odarcs, .func (PySem.W.fnOf "arcs" "arcs" (defArgs sarcs) (defBody sarcs) (defScope sarcs) .none kVarcs dcarcs pmarcs anarcs cdarcs ctarcs), slarcs⟩) (carcs : PySem.W.codeIn K cdarcs "arcs" = true) (karcs : PySem.W.keepIn K (.ref farcs) = true)
    (aarcs_at : PySem.W.nsIn K mainGlobals "arcs_at" = some (some (.ref farcs_at))) (larcs_at : K.lookup farcs_at = some ⟨ocarcs_at, odarcs_at, .func (PySem.W.fnOf "arcs_at" "arcs_at" (defArgs sarcs_at) (defBody sarcs_at) (defScope sarcs_at) .none kVarcs_at dcarcs_at pmarcs_at anarcs_at cdarcs_at ctarcs_at), slarcs_at⟩) (carcs_at : PySem.W.codeIn K cdarcs_at "arcs_at" = true) (karcs_at : PySem.W.keepIn K (.ref farcs_at) = true)
    (aquad_sort : PySem.W.nsIn K mainGlobals "quad_sort" = some (some (.ref fquad_sort))) (lquad_sort : K.lookup fquad_sort = some ⟨ocquad_sort, odquad_sort, .func (PySem.W.fnOf "quad_sort" "quad_sort" (defArgs squad_sort) (defBody squad_sort) (defScope squad_sort) .none kVquad_sort dcquad_sort pmquad_sort anquad_sort cdquad_sort ctquad_sort), slquad_sort⟩) (cquad_sort : PySem.W.codeIn K cdquad_sort "quad_sort" = true) (kquad_sort : PySem.W.keepIn K (.ref fquad_sort) = true)
    (a_law_spring : PySem.W.nsIn K mainGlobals "_law_spring" = some (some (.ref f_law_spring))) (l_law_spring : K.lookup f_law_spring = some ⟨oc_law_spring, od_law_spring, .func (PySem.W.fnOf "_law_spring" "_law_spring" (defArgs s_law_spring) (defBody s_law_spring) (defScope s_law_spring) .none kV_law_spring dc_law_spring pm_law_spring an_law_spring cd_law_spring ct_law_spring), sl_law_spring⟩) (c_law_spring : PySem.W.codeIn K cd_law_spring "_law_spring" = true) (k_law_spring : PySem.W.keepIn K (.ref f_law_spring) = true)
    (a_law_draw : PySem.W.nsIn K mainGlobals "_law_draw" = some (some (.ref f_law_draw))) (l_law_draw : K.lookup f_law_draw = some ⟨oc_law_draw, od_law_draw, .func (PySem.W.fnOf "_law_draw" "_law_draw" (defArgs s_law_draw) (defBody s_law_draw) (defScope s_law_draw) .none kV_law_draw dc_law_draw pm_law_draw an_law_draw cd_law_draw ct_law_draw), sl_law_draw⟩) (c_law_draw : PySem.W.codeIn K cd_law_draw "_law_draw" = true) (k_law_draw : PySem.W.keepIn K (.ref f_law_draw) = true)
    (a_law_arcs : PySem.W.nsIn K mainGlobals "_law_arcs" = some (some (.ref f_law_arcs))) (l_law_arcs : K.lookup f_law_arcs = some ⟨oc_law_arcs, od_law_arcs, .func (PySem.W.fnOf "_law_arcs" "_law_arcs" (defArgs s_law_arcs) (defBody s_law_arcs) (defScope s_law_arcs) .none kV_law_arcs dc_law_arcs pm_law_arcs an_law_arcs cd_law_arcs ct_law_arcs), sl_law_arcs⟩) (c_law_arcs : PySem.W.codeIn K cd_law_arcs "_law_arcs" = true) (k_law_arcs : PySem.W.keepIn K (.ref f_law_arcs) = true)
    (a_law_right : PySem.W.nsIn K mainGlobals "_law_right" = some (some (.ref f_law_right))) (l_law_right : K.lookup f_law_right = some ⟨oc_law_right, od_law_right, .func (PySem.W.fnOf "_law_right" "_law_right" (defArgs s_law_right) (defBody s_law_right) (defScope s_law_right) .none kV_law_right dc_law_right pm_law_right an_law_right cd_law_right ct_law_right), sl_law_right⟩) (c_law_right : PySem.W.codeIn K cd_law_right "_law_right" = true) (k_law_right : PySem.W.keepIn K (.ref f_law_right) = true)
    (alaw : PySem.W.nsIn K mainGlobals "law" = some (some (.ref flaw))) (llaw : K.lookup flaw = some ⟨oclaw, odlaw, .func (PySem.W.fnOf "law" "law" (defArgs slaw) (defBody slaw) (defScope slaw) .none kVlaw dclaw pmlaw anlaw cdlaw ctlaw), sllaw⟩) (claw : PySem.W.codeIn K cdlaw "law" = true) (klaw : PySem.W.keepIn K (.ref flaw) = true)
    (aSORTS : PySem.W.nsIn K mainGlobals "SORTS" = some (some (.int 7 tSORTS)))
    (zabs : PySem.W.nsIn K mainGlobals "abs" = some none)
    (zall : PySem.W.nsIn K mainGlobals "all" = some none)
    (zbool : PySem.W.nsIn K mainGlobals "bool" = some none)
    (zint : PySem.W.nsIn K mainGlobals "int" = some none)
    (zisinstance : PySem.W.nsIn K mainGlobals "isinstance" = some none)
    (zlen : PySem.W.nsIn K mainGlobals "len" = some none)
    (zlist : PySem.W.nsIn K mainGlobals "list" = some none)
    (zmin : PySem.W.nsIn K mainGlobals "min" = some none)
    (zrange : PySem.W.nsIn K mainGlobals "range" = some none)
    (zrepr : PySem.W.nsIn K mainGlobals "repr" = some none)
    (ztuple : PySem.W.nsIn K mainGlobals "tuple" = some none)
    : ∃ fd : FuncData, (∀ (s : Shared) (v : Value), BindsTo s fd ⟨[v], []⟩ [("script", v)]) ∧ ∀ base : Heap, K.In base → base.Ns mainGlobals mg → FnG l.prog w K mg base 5 fa fd ["script"] (spLaw K) := by
  have e := hfa.symm.trans (PySem.W.mg_of X G alaw)
  cases e
  have Fis_whole := fun_mk (st := sis_whole) lis_whole cis_whole kis_whole
  have bis_whole := Fis_whole.binds (ps := ["thing"]) fun _ _ _ _ _ _ us hl => match us, hl with | [_], _ => rfl
  have gis_whole := PySem.W.mg_of X G ais_whole
  have Fis_listed := fun_mk (st := sis_listed) lis_listed cis_listed kis_listed
  have bis_listed := Fis_listed.binds (ps := ["thing"]) fun _ _ _ _ _ _ us hl => match us, hl with | [_], _ => rfl
  have gis_listed := PySem.W.mg_of X G ais_listed
  have Fis_below := fun_mk (st := sis_below) lis_below cis_below kis_below
  have bis_below := Fis_below.binds (ps := ["thing", "many"]) fun _ _ _ _ _ _ us hl => match us, hl with | [_, _], _ => rfl
  have gis_below := PySem.W.mg_of X G ais_below
  have Fare_numbers := fun_mk (st := sare_numbers) lare_numbers care_numbers kare_numbers
  have bare_numbers := Fare_numbers.binds (ps := ["thing"]) fun _ _ _ _ _ _ us hl => match us, hl with | [_], _ => rfl
  have gare_numbers := PySem.W.mg_of X G aare_numbers
  have Farcs := fun_mk (st := sarcs) larcs carcs karcs
  have garcs := PySem.W.mg_of X G aarcs
  have Farcs_at := fun_mk (st := sarcs_at) larcs_at carcs_at karcs_at
  have barcs_at := Farcs_at.binds (ps := ["numbers", "block", "face", "corner"]) fun _ _ _ _ _ _ us hl => match us, hl with | [_, _, _, _], _ => rfl
  have garcs_at := PySem.W.mg_of X G aarcs_at
  have Fquad_sort := fun_mk (st := squad_sort) lquad_sort cquad_sort kquad_sort
  have bquad_sort := Fquad_sort.binds (ps := ["one", "other"]) fun _ _ _ _ _ _ us hl => match us, hl with | [_, _], _ => rfl
  have gquad_sort := PySem.W.mg_of X G aquad_sort
  have F_law_spring := fun_mk (st := s_law_spring) l_law_spring c_law_spring k_law_spring
  have b_law_spring := F_law_spring.binds (ps := ["script"]) fun _ _ _ _ _ _ us hl => match us, hl with | [_], _ => rfl
  have g_law_spring := PySem.W.mg_of X G a_law_spring
  have F_law_draw := fun_mk (st := s_law_draw) l_law_draw c_law_draw k_law_draw
  have b_law_draw := F_law_draw.binds (ps := ["spring", "many"]) fun _ _ _ _ _ _ us hl => match us, hl with | [_, _], _ => rfl
  have g_law_draw := PySem.W.mg_of X G a_law_draw
  have F_law_arcs := fun_mk (st := s_law_arcs) l_law_arcs c_law_arcs k_law_arcs
  have b_law_arcs := F_law_arcs.binds (ps := ["sums", "cell", "side", "tip"]) fun _ _ _ _ _ _ us hl => match us, hl with | [_, _, _, _], _ => rfl
  have g_law_arcs := PySem.W.mg_of X G a_law_arcs
  have F_law_right := fun_mk (st := s_law_right) l_law_right c_law_right k_law_right
  have b_law_right := F_law_right.binds (ps := ["sums", "handed"]) fun _ _ _ _ _ _ us hl => match us, hl with | [_, _], _ => rfl
  have g_law_right := PySem.W.mg_of X G a_law_right
  have Flaw := fun_mk (st := slaw) llaw claw klaw
  have glaw := PySem.W.mg_of X G alaw
  have g_SORTS := PySem.W.mg_of X G aSORTS
  have m_abs := PySem.W.mg_none_of X G zabs
  have m_all := PySem.W.mg_none_of X G zall
  have m_bool := PySem.W.mg_none_of X G zbool
  have m_int := PySem.W.mg_none_of X G zint
  have m_isinstance := PySem.W.mg_none_of X G zisinstance
  have m_len := PySem.W.mg_none_of X G zlen
  have m_list := PySem.W.mg_none_of X G zlist
  have m_min := PySem.W.mg_none_of X G zmin
  have m_range := PySem.W.mg_none_of X G zrange
  have m_repr := PySem.W.mg_none_of X G zrepr
  have m_tuple := PySem.W.mg_none_of X G ztuple
  refine ⟨PySem.W.fnOf "law" "law" (defArgs slaw) (defBody slaw) (defScope slaw) .none kVlaw dclaw pmlaw anlaw cdlaw ctlaw, fun s v => .of_eq rfl, fun base _ _ => ?_⟩
  have Gis_whole := okis_whole (P := l.prog) (w := w) (K := K) (mg := mg) (base := base) Fis_whole m_isinstance m_int m_bool
  have Gis_listed := okis_listed (P := l.prog) (w := w) (K := K) (mg := mg) (base := base) Fis_listed m_isinstance m_list m_tuple
  have Gis_below := okis_below (P := l.prog) (w := w) (K := K) (mg := mg) (base := base) Fis_below Fis_whole gis_whole bis_whole Gis_whole
  have Gare_numbers := okare_numbers (P := l.prog) (w := w) (K := K) (mg := mg) (base := base) Fare_numbers Fis_listed gis_listed bis_listed Gis_listed Fis_whole gis_whole bis_whole Gis_whole g_SORTS m_len m_all
  have Gquad_sort := okquad_sort (P := l.prog) (w := w) (K := K) (mg := mg) (base := base) Fquad_sort
  have Garcs_at := okarcs_at (P := l.prog) (w := w) (K := K) (mg := mg) (base := base) Farcs_at Fquad_sort gquad_sort bquad_sort Gquad_sort g_SORTS
  have Garcs := okarcs (P := l.prog) (w := w) (K := K) (mg := mg) (base := base) Farcs Fare_numbers gare_numbers bare_numbers Gare_numbers Fis_below gis_below bis_below Gis_below Farcs_at garcs_at barcs_at Garcs_at g_SORTS m_len
  have G_law_spring := ok_law_spring (P := l.prog) (w := w) (K := K) (mg := mg) (base := base) F_law_spring m_abs
  have G_law_draw := ok_law_draw (P := l.prog) (w := w) (K := K) (mg := mg) (base := base) F_law_draw
  have G_law_arcs := ok_law_arcs (P := l.prog) (w := w) (K := K) (mg := mg) (base := base) F_law_arcs m_range
  have G_law_right := ok_law_right (P := l.prog) (w := w) (K := K) (mg := mg) (base := base) F_law_right Farcs garcs (kb_arcs_c Farcs) Garcs F_law_arcs g_law_arcs b_law_arcs G_law_arcs m_range m_len m_repr m_list
  exact FnG.ok (ok_law Flaw F_law_spring g_law_spring b_law_spring G_law_spring F_law_draw g_law_draw b_law_draw G_law_draw F_law_right g_law_right b_law_right G_law_right Farcs garcs (kb_arcs_c Farcs) Garcs F_law_arcs g_law_arcs b_law_arcs G_law_arcs m_range m_len m_min m_list m_tuple m_isinstance)
end Bk
open PySem PySem.W PyProof.Rows
set_option maxHeartbeats 0 in
theorem PySem.Challenge.cw_blockrooms_k29_arcs_told_holds : PySem.Challenge.rw_blockrooms_k29_arcs_told.Holds := by
  w_on; o_law; k_head; (case hw => w_witness2)
  k_fill
  refine Bk.walk_G (l := PySem.Challenge.rw_blockrooms_k29_arcs_told) (n := 63) (k := 5) (x := "script") (sp := Bk.spLaw) rfl (by decide) rfl ⟨rfl, by decide, by decide⟩ (fun w h Y => PySem.W.kIn_of Y) ?F (fun _ _ a ns hl _ hS => ⟨a, ns, rfl, hS, hl, fun _ => rfl⟩)
  case F =>
    intro w mg fa h KX G hmg
    refine' Bk.all_mk KX G hmg ?ais_whole ?lis_whole ?cis_whole ?kis_whole ?ais_listed ?lis_listed ?cis_listed ?kis_listed ?ais_below ?lis_below ?cis_below ?kis_below ?aare_numbers ?lare_numbers ?care_numbers ?kare_numbers ?aarcs ?larcs ?carcs ?karcs ?aarcs_at ?larcs_at ?carcs_at ?karcs_at ?aquad_sort ?lquad_sort ?cquad_sort ?kquad_sort ?a_law_spring ?l_law_spring ?c_law_spring ?k_law_spring ?a_law_draw ?l_law_draw ?c_law_draw ?k_law_draw ?a_law_arcs ?l_law_arcs ?c_law_arcs ?k_law_arcs ?a_law_right ?l_law_right ?c_law_right ?k_law_right ?alaw ?llaw ?claw ?klaw ?aSORTS ?zabs ?zall ?zbool ?zint ?zisinstance ?zlen ?zlist ?zmin ?zrange ?zrepr ?ztuple
    (case ais_whole => k_is); (case lis_whole => k_is); (case cis_whole => k_is); (case kis_whole => k_is); (case ais_listed => k_is); (case lis_listed => k_is); (case cis_listed => k_is); (case kis_listed => k_is); (case ais_below => k_is); (case lis_below => k_is); (case cis_below => k_is); (case kis_below => k_is); (case aare_numbers => k_is); (case lare_numbers => k_is); (case care_numbers => k_is); (case kare_numbers => k_is); (case aarcs => k_is); (case larcs => k_is); (case carcs => k_is); (case karcs => k_is); (case aarcs_at => k_is); (case larcs_at => k_is); (case carcs_at => k_is); (case karcs_at => k_is); (case aquad_sort => k_is); (case lquad_sort => k_is); (case cquad_sort => k_is); (case kquad_sort => k_is); (case a_law_spring => k_is); (case l_law_spring => k_is); (case c_law_spring => k_is); (case k_law_spring => k_is); (case a_law_draw => k_is); (case l_law_draw => k_is); (case c_law_draw => k_is); (case k_law_draw => k_is); (case a_law_arcs => k_is); (case l_law_arcs => k_is); (case c_law_arcs => k_is); (case k_law_arcs => k_is); (case a_law_right => k_is); (case l_law_right => k_is); (case c_law_right => k_is); (case k_law_right => k_is); (case alaw => k_is); (case llaw => k_is); (case claw => k_is); (case klaw => k_is); (case aSORTS => k_is); (case zabs => k_is); (case zall => k_is); (case zbool => k_is); (case zint => k_is); (case zisinstance => k_is); (case zlen => k_is); (case zlist => k_is); (case zmin => k_is); (case zrange => k_is); (case zrepr => k_is); (case ztuple => k_is)

