import PyProof.Rows.All
import Wide.All
import OpenK.AllK
import Wide.FinOn
import HandS.ForMost
import HandS.Wide
import HandS.IsInst
import HandS.FStr
import HandS.NoneIn
import HandS.Conv
import HandS.Zip
import KE.KIndexOf
import HandS.ForExc
import HandS.ExcIs
import KE.KIsAll
import PyProof.ReprBulk
import PyProof.ReprRoads
import PyProof.StrBlockL
import HandS.Walk
import HandS.Defaults
import HandS.Set
import HandS.Text
import HandS.ExcValue
import PyProof.CollectStr
import PyProof.Rows.SortStr
import HandS.DictComp
import HandS.ReplaceLit
import PyProof.StrLawsReplace
import PySem.Challenge.RW_blockrooms_k13_whole_written_and_read
set_option Elab.async false
set_option linter.all false
set_option maxRecDepth 100000
set_option maxHeartbeats 4000000
/-! Common to all laws: what stays, the reel, turns and blocks as plain Lean, and as they stand in the heap. -/
namespace Bk
open PySem PySem.Spec PyProof.Rows L2

/-! ### what stays -/
/-- all that was tracked but R is as it was -/
def Keep (R : Addr) (H H' : Hp) : Prop := ∀ b o, H b = some o → b ≠ R → H' b = some o
theorem Keep.refl (R : Addr) (H : Hp) : Keep R H H := fun _ _ h _ => h
theorem Keep.trans {R : Addr} {H H1 H2 : Hp} (a : Keep R H H1) (b : Keep R H1 H2) : Keep R H H2 := fun c o h n => b c o (a c o h n) n
theorem Keep.of {R : Addr} {H H' : Hp} (a : Same H H') : Keep R H H' := fun c o h _ => a c o h
theorem Keep.same {R : Addr} {H H1 H2 : Hp} (a : Keep R H H1) (b : Same H1 H2) : Keep R H H2 := a.trans (.of b)
theorem _root_.L2.Same.keep {R : Addr} {H H1 H2 : Hp} (a : Same H H1) (b : Keep R H1 H2) : Keep R H H2 := (Keep.of a).trans b
theorem same_new {H : Hp} {p : Addr} {o : HO} (h : H p = none) : Same H (upd H p o) := fun b x e => by
  rw [upd_ne (ne_of_none e h)]
  exact e
theorem keep_set {H : Hp} {p : Addr} {o : HO} : Keep p H (upd H p o) := fun b x e n => by
  rw [upd_ne n]
  exact e
/-- a list that a loop or comprehension fills, made since -/
theorem same_fill {H H1 : Hp} {D : Addr} {o : HO} (a : Same H H1) (h : H D = none) : Same H (upd H1 D o) := fun b x e => by
  rw [upd_ne (ne_of_none e h)]
  exact a b x e
theorem keep_fill {R : Addr} {H H1 : Hp} {D : Addr} {o : HO} (a : Keep R H H1) (h : H D = none) : Keep R H (upd H1 D o) := fun b x e n => by
  rw [upd_ne (ne_of_none e h)]
  exact a b x e n
theorem Keep.free {R : Addr} {H H' : Hp} (a : Keep R H H') {l : Addr} (h : H' l = none) (n : l ≠ R) : H l = none := by
  cases q : H l with
  | none => rfl
  | some o =>
    rw [a l o q n] at h
    cases h
theorem _root_.L2.Same.sqt {K : PySem.W.Frag} {H H' : Hp} {a : Addr} {xs : List V} (e : Same H H') (h : SqT K H a xs) : SqT K H' a xs := by
  rcases h with (h | ⟨o, h⟩) | h
  · exact .inl (.inl (e _ _ h))
  · exact .inl (.inr ⟨o, e _ _ h⟩)
  · exact .inr h
theorem lst_inj {H : Hp} {p : Addr} {xs ys : List V} (a : H p = some (.lst xs)) (b : H p = some (.lst ys)) : xs = ys := by
  rw [a] at b
  injection b with b
  injection b with b

/-! ### the reel -/
/-- the reel's four: great, cells, turned, stirred -/
structure Reel (R g c : Addr) (gs cs : List Int) (n st : Int) (H : Hp) : Prop where
  r : H R = some (.lst [.ref g, .ref c, .int n, .int st])
  g : H g = some (.lst (gs.map V.int))
  c : H c = some (.lst (cs.map V.int))
  gl : gs.length ≤ 63
  cl : cs.length ≤ 64
  g0 : ∀ x ∈ gs, 0 ≤ x
  c0 : ∀ x ∈ cs, 0 ≤ x ∧ x < 1000003
  ne : cs ≠ []
  s0 : 0 ≤ st
  s1 : st.natAbs < 2 ^ 127
def ReelOk (R : Addr) (H : Hp) : Prop := ∃ g c gs cs n st, Reel R g c gs cs n st H
theorem ReelOk.same {R : Addr} {H H' : Hp} (h : ReelOk R H) (s : Same H H') : ReelOk R H' := by
  obtain ⟨g, c, gs, cs, n, st, r⟩ := h
  exact ⟨g, c, gs, cs, n, st, ⟨s _ _ r.r, s _ _ r.g, s _ _ r.c, r.gl, r.cl, r.g0, r.c0, r.ne, r.s0, r.s1⟩⟩
/-- a list that is none of the reel's -/
def NotReel (xs : List V) : Prop := ∃ x r, xs = x :: r ∧ (∀ i : Int, x ≠ .int i) ∧ ∀ v ∈ xs, ∀ i : Int, v ≠ .int i
theorem ReelOk.set {R p : Addr} {H : Hp} {xs : List V} {o : HO} (h : ReelOk R H) (hp : H p = some (.lst xs)) (n : NotReel xs) : ReelOk R (upd H p o) ∧ p ≠ R := by
  obtain ⟨g, c, gs, cs, m, st, r⟩ := h
  obtain ⟨x, l, e, hx, hv⟩ := n
  have n1 : p ≠ R := fun z => by
    subst z
    have q := lst_inj hp r.r
    exact hv (.int m) (by rw [q]; simp) m rfl
  have nI : ∀ {q : Addr} {ns : List Int}, H q = some (.lst (ns.map V.int)) → p ≠ q := fun {q ns} hq z => by
    subst z
    have q := lst_inj hp hq
    rw [e] at q
    cases ns with
    | nil => cases q
    | cons y t =>
      injection q with q _
      exact hx y q
  have n2 := nI r.g
  have n3 := nI r.c
  exact ⟨⟨g, c, gs, cs, m, st, ⟨by rw [upd_ne n1.symm]; exact r.r, by rw [upd_ne n2.symm]; exact r.g, by rw [upd_ne n3.symm]; exact r.c, r.gl, r.cl, r.g0, r.c0, r.ne, r.s0, r.s1⟩⟩, n1⟩
/-- D is none of the reel's three lists -/
def Away (R D : Addr) (H : Hp) : Prop := ∃ g c gs cs n st, Reel R g c gs cs n st H ∧ D ≠ R ∧ D ≠ g ∧ D ≠ c
theorem Away.ok {R D : Addr} {H : Hp} (h : Away R D H) : ReelOk R H := by
  obtain ⟨g, c, gs, cs, n, st, r, _⟩ := h
  exact ⟨g, c, gs, cs, n, st, r⟩
theorem Away.ne {R D : Addr} {H : Hp} (h : Away R D H) : D ≠ R := by
  obtain ⟨g, c, gs, cs, n, st, r, h, _⟩ := h
  exact h
theorem Away.same {R D : Addr} {H H' : Hp} (h : Away R D H) (s : Same H H') : Away R D H' := by
  obtain ⟨g, c, gs, cs, n, st, r, q⟩ := h
  exact ⟨g, c, gs, cs, n, st, ⟨s _ _ r.r, s _ _ r.g, s _ _ r.c, r.gl, r.cl, r.g0, r.c0, r.ne, r.s0, r.s1⟩, q⟩
theorem Away.fill {R D : Addr} {H : Hp} {o : HO} (h : Away R D H) : Away R D (upd H D o) := by
  obtain ⟨g, c, gs, cs, n, st, r, h1, h2, h3⟩ := h
  exact ⟨g, c, gs, cs, n, st, ⟨by rw [upd_ne h1.symm]; exact r.r, by rw [upd_ne h2.symm]; exact r.g, by rw [upd_ne h3.symm]; exact r.c, r.gl, r.cl, r.g0, r.c0, r.ne, r.s0, r.s1⟩, h1, h2, h3⟩
theorem Away.fill' {R D D' : Addr} {H : Hp} {o : HO} (h : Away R D' H) (a : Away R D H) : Away R D' (upd H D o) := by
  obtain ⟨g, c, gs, cs, n, st, r, h1, h2, h3⟩ := a
  obtain ⟨g', c', _, _, _, _, r', z⟩ := h
  have e := r.r.symm.trans r'.r
  injection e with e
  injection e with e
  injection e with e1 e
  injection e with e2 e
  injection e1 with e1
  injection e2 with e2
  subst e1 e2
  exact ⟨g, c, _, _, _, _, ⟨by rw [upd_ne h1.symm]; exact r'.r, by rw [upd_ne h2.symm]; exact r'.g, by rw [upd_ne h3.symm]; exact r'.c, r'.gl, r'.cl, r'.g0, r'.c0, r'.ne, r'.s0, r'.s1⟩, z⟩
theorem ReelOk.away {R D : Addr} {H : Hp} {o : HO} (h : ReelOk R H) (hD : H D = none) : Away R D (upd H D o) := by
  obtain ⟨g, c, gs, cs, n, st, r⟩ := h
  have h1 : R ≠ D := ne_of_none r.r hD
  have h2 : g ≠ D := ne_of_none r.g hD
  have h3 : c ≠ D := ne_of_none r.c hD
  exact ⟨g, c, gs, cs, n, st, ⟨by rw [upd_ne h1]; exact r.r, by rw [upd_ne h2]; exact r.g, by rw [upd_ne h3]; exact r.c, r.gl, r.cl, r.g0, r.c0, r.ne, r.s0, r.s1⟩, h1.symm, h2.symm, h3.symm⟩
theorem Away.set {R D p : Addr} {H : Hp} {xs : List V} {o : HO} (h : Away R D H) (hp : H p = some (.lst xs)) (n : NotReel xs) : Away R D (upd H p o) ∧ p ≠ R := by
  obtain ⟨g, c, gs, cs, m, st, r, q⟩ := h
  obtain ⟨x, l, e, hx, hv⟩ := n
  have n1 : p ≠ R := fun z => by
    subst z
    have q := lst_inj hp r.r
    exact hv (.int m) (by rw [q]; simp) m rfl
  have nI : ∀ {q : Addr} {ns : List Int}, H q = some (.lst (ns.map V.int)) → p ≠ q := fun {q ns} hq z => by
    subst z
    have q := lst_inj hp hq
    rw [e] at q
    cases ns with
    | nil => cases q
    | cons y t =>
      injection q with q _
      exact hx y q
  exact ⟨⟨g, c, gs, cs, m, st, ⟨by rw [upd_ne n1.symm]; exact r.r, by rw [upd_ne (nI r.g).symm]; exact r.g, by rw [upd_ne (nI r.c).symm]; exact r.c, r.gl, r.cl, r.g0, r.c0, r.ne, r.s0, r.s1⟩, q⟩, n1⟩
/-- R's list is known by its third -/
theorem ReelOk.isR {R p : Addr} {H : Hp} {xs : List V} (h : ReelOk R H) (hp : H p = some (.lst xs)) (hx : ∀ v ∈ xs, ∀ i : Int, v ≠ .int i) : p ≠ R := fun z => by
  obtain ⟨g, c, gs, cs, m, st, r⟩ := h
  subst z
  have q := lst_inj hp r.r
  exact hx (.int m) (by rw [q]; simp) m rfl
theorem ReelOk.isT {R p : Addr} {H : Hp} {o : Obj} {u : HO} (h : ReelOk R H) (hp : H p = some (.frz o u)) : p ≠ R := fun z => by
  obtain ⟨g, c, gs, cs, m, st, r⟩ := h
  subst z
  rw [r.r] at hp
  cases hp
theorem Keep.tup {R p : Addr} {H H' : Hp} {o : Obj} {u : HO} (k : Keep R H H') (h : ReelOk R H) (hp : H p = some (.frz o u)) : H' p = some (.frz o u) := k _ _ hp (h.isT hp)

/-! ### lists of values -/
theorem small16 {n : Nat} (h : n ≤ 4000) : n < sizeLine := Nat.lt_of_le_of_lt h (by decide)
theorem get_map_int {ns : List Int} {i : Nat} {x : V} (h : (ns.map V.int)[i]? = some x) : ∃ k, x = .int k ∧ ns[i]? = some k := by
  rw [List.getElem?_map] at h
  cases e : ns[i]? with
  | none => rw [e] at h; cases h
  | some k =>
    rw [e] at h
    injection h with h
    exact ⟨k, h.symm, rfl⟩
theorem cut_to (xs : List V) (n : Nat) : cutV xs none (some (n : Int)) = xs.take n := by
  unfold cutV
  rw [HT.sIx_none, show HT.sIx xs.length xs.length (some (n : Int)) = min n xs.length from HT.sIx_nat xs.length xs.length n]
  show List.take (min n xs.length - 0) (xs.drop 0) = xs.take n
  rw [List.drop_zero, Nat.sub_zero]
  by_cases h : n ≤ xs.length
  · rw [Nat.min_eq_left h]
  · rw [Nat.min_eq_right (by omega), List.take_length, List.take_of_length_le (by omega)]
theorem cut_from1 (xs : List V) : cutV xs (some 1) none = xs.drop 1 := by
  unfold cutV
  rw [show HT.sIx xs.length 0 (some 1) = min 1 xs.length from HT.sIx_nat xs.length 0 1, HT.sIx_none]
  cases xs with
  | nil => rfl
  | cons x r =>
    rw [show min 1 (x :: r).length = 1 by
      rw [List.length_cons]
      omega]
    show (List.take ((x :: r).length - 1) r) = r
    rw [List.length_cons, Nat.add_sub_cancel]
    exact List.take_length
theorem fmod_pos {a b : Int} (h : 0 < b) : 0 ≤ a.fmod b ∧ a.fmod b < b := ⟨Int.fmod_nonneg_of_pos a h, Int.fmod_lt_of_pos a h⟩
theorem take_succ_map {α β : Type} {f : α → β} {xs : List α} {i : Nat} {x : α} (h : xs[i]? = some x) : (xs.take (i + 1)).map f = (xs.take i).map f ++ [f x] := by
  rw [List.take_add_one, h, List.map_append]
  rfl

/-! ### turns -/
abbrev Trn := List Nat
def turnsAB (a b : Nat) : List Trn := ((List.range 4).filter fun c => !(a == c || b == c)).map fun c => [a, b, c, 6 - a - b - c]
def bsOf (a : Nat) : List Nat := (List.range 4).filter fun b => !(b == a)
def turnsA (a : Nat) : List Trn := (bsOf a).flatMap (turnsAB a)
def turnsTo (n : Nat) : List Trn := (List.range n).flatMap turnsA
def allTurns : List Trn := turnsTo 4
def back (t : Trn) : Trn := (List.range 4).map fun c => t.idxOf c
def intV (n : Nat) : V := .int (n : Int)
def trnV (t : Trn) : List V := t.map intV
theorem turnsTo_succ (n : Nat) : turnsTo (n + 1) = turnsTo n ++ turnsA n := by
  unfold turnsTo
  rw [List.range_succ, List.flatMap_append]
  simp
theorem turns_len : allTurns.length = 24 := by decide +kernel
theorem turns4 : ∀ t ∈ allTurns, t.length = 4 ∧ (∀ x ∈ t, x < 4) ∧ back t ∈ allTurns ∧ (∀ x < 4, t[t.idxOf x]? = some x) ∧ t.Nodup := by decide +kernel
theorem turns_face : ∀ f < 4, ∀ a < 4, (allTurns.filter fun t => t[f]? == some a).length = 6 := by decide +kernel
theorem range_filter_succ (p : Nat → Bool) (n : Nat) : (List.range (n + 1)).filter p = (List.range n).filter p ++ (if p n then [n] else []) := by
  rw [List.range_succ, List.filter_append]
  by_cases h : p n
  · rw [if_pos h]
    simp [h]
  · rw [if_neg h]
    simp [h]

/-! ### as they stand -/
/-- a tuple stands at p, as the object o, that has no dict of its own -/
def FT (H : Hp) (p : Addr) (xs : List V) : Prop := ∃ o : Obj, o.dict = none ∧ H p = some (.frz o (.tup xs))
theorem FT.sqt {K : PySem.W.Frag} {H : Hp} {p : Addr} {xs : List V} (h : FT H p xs) : SqT K H p xs := by
  obtain ⟨o, _, h⟩ := h
  exact .inl (.inr ⟨o, h⟩)
/-- every such tuple stands -/
def Tups (H H' : Hp) : Prop := ∀ b o xs, H b = some (.frz o (.tup xs)) → H' b = some (.frz o (.tup xs))
theorem Tups.refl (H : Hp) : Tups H H := fun _ _ _ h => h
theorem Tups.trans {H H1 H2 : Hp} (a : Tups H H1) (b : Tups H1 H2) : Tups H H2 := fun c o xs h => b c o xs (a c o xs h)
theorem _root_.L2.Same.tups {H H' : Hp} (a : Same H H') : Tups H H' := fun b o xs h => a b _ h
theorem Keep.tups {R : Addr} {H H' : Hp} (k : Keep R H H') (h : ReelOk R H) : Tups H H' := fun b o xs e => k.tup h e
theorem tups_set {H : Hp} {p : Addr} {xs : List V} {o : HO} (h : H p = some (.lst xs)) : Tups H (upd H p o) := fun b _ ys e => by
  rw [upd_ne (ne_of e h (by intro z; cases z))]
  exact e
theorem FT.mono {H H' : Hp} {p : Addr} {xs : List V} (h : FT H p xs) (m : Tups H H') : FT H' p xs := by
  obtain ⟨o, d, h⟩ := h
  exact ⟨o, d, m _ _ _ h⟩
theorem FT.ne {H : Hp} {p q : Addr} {xs ys : List V} (h : FT H p xs) (k : H q = some (.lst ys)) : p ≠ q := by
  obtain ⟨o, d, h⟩ := h
  exact ne_of h k (by intro z; cases z)
theorem FT.new {H : Hp} {p : Addr} {xs : List V} {o : Obj} (d : o.dict = none) : FT (upd H p (.frz o (.tup xs))) p xs := ⟨o, d, upd_same⟩
theorem FT.inj {H : Hp} {p : Addr} {xs ys : List V} (h : FT H p xs) (k : FT H p ys) : xs = ys := by
  obtain ⟨o, d, h⟩ := h
  obtain ⟨o', d', k⟩ := k
  rw [h] at k
  injection k with k
  injection k with _ k
  injection k with k
def TAt (H : Hp) (v : V) (t : Trn) : Prop := ∃ p, v = .ref p ∧ FT H p (trnV t)
theorem TAt.mono {H H' : Hp} {v : V} {t : Trn} (h : TAt H v t) (m : Tups H H') : TAt H' v t := by
  obtain ⟨p, e, h⟩ := h
  exact ⟨p, e, h.mono m⟩
theorem pmono {α β : Type} {F G : α → β → Prop} {xs : List α} {ys : List β} (h : Paired F xs ys) (m : ∀ a b, F a b → G a b) : Paired G xs ys := Paired.mapP h m
theorem papp {α β : Type} {F : α → β → Prop} : ∀ {xs xs' : List α} {ys ys' : List β}, Paired F xs ys → Paired F xs' ys' → Paired F (xs ++ xs') (ys ++ ys')
  | _, _, _, _, .nil, h => h
  | _, _, _, _, .cons a t, h => .cons a (papp t h)
theorem plen {α β : Type} {F : α → β → Prop} {xs : List α} {ys : List β} (h : Paired F xs ys) : xs.length = ys.length := h.length
theorem pget {α β : Type} {F : α → β → Prop} : ∀ {xs : List α} {ys : List β} {i : Nat} {y : β}, Paired F xs ys → ys[i]? = some y → ∃ x, xs[i]? = some x ∧ F x y
  | _, _, _, _, .nil, e => by simp at e
  | _, _, 0, _, .cons r _, e => ⟨_, rfl, by simp at e; subst e; exact r⟩
  | _, _, i + 1, _, .cons _ t, e => by
    obtain ⟨x, h1, h2⟩ := pget (i := i) t (by simpa using e)
    exact ⟨x, by simpa using h1, h2⟩
theorem pget' {α β : Type} {F : α → β → Prop} : ∀ {xs : List α} {ys : List β} {i : Nat} {x : α}, Paired F xs ys → xs[i]? = some x → ∃ y, ys[i]? = some y ∧ F x y
  | _, _, _, _, .nil, e => by simp at e
  | _, _, 0, _, .cons r _, e => ⟨_, rfl, by simp at e; subst e; exact r⟩
  | _, _, i + 1, _, .cons _ t, e => by
    obtain ⟨x, h1, h2⟩ := pget' (i := i) t (by simpa using e)
    exact ⟨x, by simpa using h1, h2⟩

/-! ### rules with the written part K by name (a comprehension's own context has it, but not by that name) -/
section
variable {X : Cx} (K : PySem.W.Frag)
theorem kIxL (h : X.K = K) : IxR X (rIxL K) := h ▸ ix_list
theorem kIxT (h : X.K = K) : IxR X (rIxT K) := h ▸ ix_tup
theorem kSlL (h : X.K = K) : SlR X (rSlL K) := h ▸ sl_list
theorem kIn (h : X.K = K) : OpR X (compareOp .In) (rIn K false) := h ▸ op_in_seq
theorem kNotIn (h : X.K = K) : OpR X (compareOp .NotIn) (rIn K true) := h ▸ op_notIn_seq
theorem kEqD (h : X.K = K) (hu : X.A.units + 64 < cLine) : OpR X (compareOp .Eq) (rEqD K) := h ▸ op_eqD hu
theorem kNeD (h : X.K = K) (hu : X.A.units + 64 < cLine) : OpR X (compareOp .NotEq) (rNeD K) := h ▸ op_neD hu
def rLen (K : PySem.W.Frag) : List V → Hp → VK → Prop := fun xs H Q => ∃ p ys, xs = [.ref p] ∧ (SqL K H p ys ∨ SqT K H p ys) ∧ Q (.int ys.length) H
theorem kLen (h : X.K = K) : CallR X (.builtin "len") (rLen K) := h ▸ call_len_seq
def rListOf (K : PySem.W.Frag) : List V → Hp → VK → Prop := fun xs H Q => ∃ p ys, xs = [.ref p] ∧ (SqL K H p ys ∨ SqT K H p ys) ∧ ∀ l, H l = none → Q (.ref l) (upd H l (.lst ys))
theorem kList (h : X.K = K) : CallR X (.type "list") (rListOf K) := h ▸ call_list_of
def rTupleOf (K : PySem.W.Frag) : List V → Hp → VK → Prop := fun xs H Q => ∃ p ys, xs = [.ref p] ∧ ((SqL K H p ys ∧ ∀ l, H l = none → Q (.ref l) (upd H l (.tup ys))) ∨ (SqT K H p ys ∧ Q (.ref p) H))
theorem kTuple (h : X.K = K) : CallR X (.type "tuple") (rTupleOf K) := h ▸ call_tuple_of
theorem kIsi (h : X.K = K) : CallR X (.builtin "isinstance") (rIsi K) := h ▸ call_isi
theorem kIsiT (h : X.K = K) : CallR X (.builtin "isinstance") (rIsiT K) := h ▸ call_isiT
theorem kIndex (h : X.K = K) : MtR X "list.index" (rIndex K) := h ▸ mt_index
theorem kBM {e : Expr} {T : String} {r : V → List V → Hp → VK → Prop} {to : TE} {t : TA} (h : X.K = K) (x : PE X e (tBM X.K T r to t)) : PE X e (tBM K T r to t) := h ▸ x
theorem kBM0 {e : Expr} {T : String} {r : V → List V → Hp → VK → Prop} {to : TE} (h : X.K = K) (x : PE X e (tBM0 X.K T r to)) : PE X e (tBM0 K T r to) := h ▸ x
theorem kPiL {tg l : Expr} {tl : TE} (h : X.K = K) (x : PI X tg l (iList X.K tl)) : PI X tg l (iList K tl) := h ▸ x
theorem kPiT {tg l : Expr} {tl : TE} (h : X.K = K) (x : PI X tg l (iTup X.K tl)) : PI X tg l (iTup K tl) := h ▸ x
theorem kPgT {tg : Expr} {n : Nat} {t : TGs} (h : X.K = K) (x : PG X tg (gTup X.K n t)) : PG X tg (gTup K n t) := h ▸ x
def rJoin (K : PySem.W.Frag) : V → List V → Hp → VK → Prop := fun x xs H Q => ∃ a p, ∃ ys : List Str, x = .str a ∧ xs = [.ref p] ∧ (SqL K H p (ys.map V.str) ∨ SqT K H p (ys.map V.str)) ∧ (ys.map (·.length)).sum + ys.length * a.length ≤ 16777216 ∧ Q (.str (Txt.join a ys)) H
theorem kJoin {e : Expr} {to te : TE} (h : X.K = K) (x : PE X e (tM1 (rJoin X.K) to te)) : PE X e (tM1 (rJoin K) to te) := h ▸ x
theorem kAll (h : X.K = K) (hc : X.calm = true) : CallR X (.builtin "all") (rAll K) := h ▸ cr_all hc
/-- (a, b, ..), told as the object that it is -/
def tTupF (t : TA) : TE := fun σ H Q => t σ H fun xs H1 => xs.length ≤ sizeLine ∧ ∀ p o, H1 p = none → o.dict = none → Q (.ref p) (upd H1 p (.frz o (.tup xs)))
theorem pe_tupF {es : List Expr} {t : TA} {pos : Pos} {x1} (h : PA X es t) : PE X (.Tuple es x1 pos) (tTupF t) := by
  refine ⟨fun pins s σ H Q I hw => wpAny_Tuple_spliced (thn (h.run pos pins s σ H _ I hw) fun us s1 hv => ?_)⟩
  obtain ⟨xs, H1, J, r, z, q⟩ := hv
  refine ⟨by rw [← r.length]; exact z, .ref s1.heap.objs.size, upd H1 s1.heap.objs.size (.frz { cls := .type "tuple", data := .seq us.toArray } (.tup xs)), ?_, rfl, q _ _ (J.hok.fresh (Nat.le_refl _)) rfl⟩
  have g : (s1.heap.push { cls := .type "tuple", data := .seq us.toArray }).get? s1.heap.objs.size = some { cls := .type "tuple", data := .seq us.toArray } := Heap.get?_push_size _ rfl
  exact J.laid (t' := s1.toks) (fun _ _ e => Heap.get?_push_of_some _ e) (Nat.le_refl _) ⟨g, z, us, r, ⟨_, g, rfl, _, rfl⟩⟩
/-- tuple(x), likewise -/
def rTupleF (K : PySem.W.Frag) : List V → Hp → VK → Prop := fun xs H Q => ∃ p ys, xs = [.ref p] ∧ ((SqL K H p ys ∧ ∀ l o, H l = none → o.dict = none → Q (.ref l) (upd H l (.frz o (.tup ys)))) ∨ (SqT K H p ys ∧ Q (.ref p) H))
theorem kTupleF (h : X.K = K) : CallR X (.type "tuple") (rTupleF K) := by
  subst h
  rintro pins s σ H _ us Q I r ⟨p, ys, rfl, hw⟩
  obtain ⟨u, rfl, rx⟩ := vals1 r
  cases rx
  rcases hw with ⟨hq, q⟩ | ⟨hq, q⟩
  · obtain ⟨its, rv, pl, hz⟩ := I.list hq
    have hlen := rv.length
    refine call_tuple_list pl.isList (fun h' kp => ?_) (by simp only [List.size_toArray] <;> omega)
    have J : Inv X pins σ H { s with heap := h' } := I.kept (t' := s.toks) kp
    have g : (h'.push { cls := .type "tuple", data := .seq its.toArray }).get? h'.objs.size = some { cls := .type "tuple", data := .seq its.toArray } := Heap.get?_push_size _ rfl
    exact ⟨.ref h'.objs.size, _, J.laid (t' := s.toks) (fun _ _ e => Heap.get?_push_of_some _ e) (Nat.le_refl _) (show ObjOk X.prog X.w _ _ _ (.frz _ (.tup ys)) from ⟨g, hz, its, rv, ⟨_, g, rfl, _, rfl⟩⟩), rfl, q _ _ (J.hok.fresh (Nat.le_refl _)) rfl⟩
  · obtain ⟨its, _, pl, _⟩ := I.tuple hq
    exact call_tuple_same pl ⟨.ref p, H, I, rfl, q⟩
/-- t.m(e, ..), t such a tuple -/
def tBMF (r : V → List V → Hp → VK → Prop) (to : TE) (t : TA) : TE := fun σ H Q => to σ H fun x H1 => (∃ p xs, x = .ref p ∧ FT H1 p xs) ∧ t σ H1 fun vs H2 => r x vs H2 Q
theorem pe_bmF {o e : Expr} {es : List Expr} {to : TE} {t : TA} {name : Str} {apos cpos : Pos} {id : String} {r : V → List V → Hp → VK → Prop} (pa : PlainAttrs "tuple") (slot : Slot "tuple" name id) (hty : typeOf (.builtin id) = pure (.type "method_descriptor")) (hm : MtR X id r)
    (ho : PE X o to) (ha : PA X (e :: es) t) (h1 : attributeBase o name X.env (eval o X.env) = eval o X.env := by rfl)
    (h2 : ((backTo cpos (starEach (e :: es) X.env)).all (fun x => !x.1) && (backToKw cpos (keywordEach [] X.env)).all (fun x => x.1.isSome) && decide ((e :: es).length + ([] : List Keyword).length + (if ([] : List Keyword).isEmpty then 0 else 1) < 30)) = true := by rfl)
    (h3 : (apos.endLine == cpos.line) = true := by rfl) (h4 : starEach (e :: es) X.env = (false, eval e X.env) :: starEach es X.env := by rfl) (h5 : (backTo cpos (starEach es X.env)).any (·.1) = false := by rfl) :
    PE X (.Call (.Attribute o name apos) (e :: es) [] cpos) (tBMF r to t) := by
  refine ⟨fun pins s σ H Q I hw => wpAny_Call_method_late h1 h2 h3 rfl (thn (ho.run pins s σ H _ I hw) fun v s1 hv => ?_)⟩
  obtain ⟨x, H1, J, rx, ⟨p, xs, rfl, ob, dn, hp⟩, q⟩ := hv
  cases rx
  obtain ⟨g, _, its, _, ob', g', hc, _⟩ := J.hok p _ hp
  have eo : ob = ob' := Option.some.inj (g.symm.trans g')
  subst eo
  refine ⟨"tuple", id, pa, slot, hty, ⟨ob, g, hc⟩, fun a ea => ?_, ?_⟩
  · cases ea
    exact ⟨ob, g, dn⟩
  have hA := ha.run cpos pins s1 σ H1 _ J q
  rw [h4] at hA ⊢
  refine Calls.callWith_builtin (by show (false || (backTo cpos (starEach es X.env)).any (·.1)) = false; rw [h5] <;> rfl) (Calls.evalArgs_plain (thn hA fun us s2 hv => ?_))
  obtain ⟨vs, H2, J2, r2, q2⟩ := hv
  exact hm pins s2 σ H2 (.ref p) vs _ us Q J2 rfl r2 q2
/-- a walk over the list or the tuple at a, and what it leans on -/
inductive SeqIt (K : PySem.W.Frag) (a : Addr) : It → (Hp → List V → Prop) → Prop
  | l : SeqIt K a (Itl K a) fun H xs => SqL K H a xs
  | t : SeqIt K a (Itt K a) fun H xs => SqT K H a xs
theorem SeqIt.mono {a : Addr} {J : It} {C : Hp → List V → Prop} (h : SeqIt K a J C) {H H' : Hp} {xs : List V} (m : ∀ o, H a = some o → H' a = some o) (c : C H xs) : C H' xs := by
  cases h with
  | l =>
    rcases c with (c | ⟨o, c⟩) | c
    · exact .inl (.inl (m _ c))
    · exact .inl (.inr ⟨o, m _ c⟩)
    · exact .inr c
  | t =>
    rcases c with (c | ⟨o, c⟩) | c
    · exact .inl (.inl (m _ c))
    · exact .inl (.inr ⟨o, m _ c⟩)
    · exact .inr c
/-- a list or a tuple is walked -/
def iSeq (K : PySem.W.Frag) (tl : TE) : TI := fun σ H R => tl σ H fun x H1 => ∃ a xs, x = .ref a ∧ (SqL K H1 a xs ∨ SqT K H1 a xs) ∧ ∀ J C, SeqIt K a J C → C H1 xs → R J H1
theorem kPiS {tg l : Expr} {tl : TE} (h : X.K = K) (hl : PE X l tl) : PI X tg l (iSeq K tl) := by
  subst h
  refine ⟨fun pins s σ H R I hw => thn (hl.run pins s σ H _ I hw) fun v s1 hv => ?_⟩
  obtain ⟨x, H1, J, rx, a, xs, rfl, hq, q⟩ := hv
  cases rx
  have new : ∀ b ∈ [s1.heap.objs.size], FpOk X pins H1 b := fun b hb => by
    rw [List.mem_singleton.mp hb]
    exact J.fpOk (Nat.le_refl _) (J.hok.fresh (Nat.le_refl _))
  rcases hq with hq | hq
  · obtain ⟨its, _, pl, _⟩ := J.list hq
    exact wpAny_pyIter_list pl.isList ⟨_, _, _, _, H1, rfl, J.kept (t' := s1.toks) fun _ _ z => Heap.get?_push_of_some _ z, turn_list a _, ⟨_, Heap.get?_push_size _ rfl, rfl, rfl⟩, new, q _ _ .l hq⟩
  · obtain ⟨its, _, pt, _⟩ := J.tuple hq
    exact wpAny_pyIter_tuple (show s1.heap.IsTuple a its.toArray from pt) ⟨_, _, _, _, H1, rfl, J.kept (t' := s1.toks) fun _ _ z => Heap.get?_push_of_some _ z, turn_tuple a _, ⟨_, Heap.get?_push_size _ rfl, rfl, rfl⟩, new, q _ _ .t hq⟩
variable {K}
/-- what a comprehension's walk asks, and a loop's -/
def LcEnd (J : It) (g : TG) (tt : TT) (te : TE) (vs : List Nat) (σ : L2.St) (H1 : Hp) (D : Addr) (Qd : Hp → Prop) : Prop :=
  ∃ W : Nat → Nat → Hp → Prop, (∃ m, W 0 m (upd H1 D (.lst []))) ∧
    ∀ i m H, W i m H →
      (J.stop i H ∧ Qd H) ∨
      (J.go i H ∧ ∃ Nx : Hp → Prop, (∀ H', Nx H' → ∃ m', m' < m ∧ W (i + 1) m' H') ∧
        ∀ x H', J.yld i H x H' →
          g x (wipe σ vs) H' fun σ2 H2 => wipe σ2 vs = wipe σ vs ∧
            tt σ2 H2 fun b H3 => if b = true then te σ2 H3 fun y H4 =>
              ∃ acc, H4 D = some (.lst acc) ∧ acc.length < sizeLine ∧ Nx (upd H4 D (.lst (acc ++ [y])))
            else Nx H3)
theorem lc_seq {a : Addr} {J : It} {C : Hp → List V → Prop} {xs : List V} {g : TG} {tt : TT} {te : TE} {vs : List Nat} {σ : L2.St} {H1 : Hp} {D : Addr} {Qd : Hp → Prop} (hJ : SeqIt K a J C) (Pv : Nat → Hp → Prop) (h0 : Pv 0 (upd H1 D (.lst [])))
    (hl : ∀ i H, Pv i H → C H xs)
    (hs : ∀ i x H, xs[i]? = some x → Pv i H → g x (wipe σ vs) H fun σ2 H2 => wipe σ2 vs = wipe σ vs ∧ tt σ2 H2 fun b H3 =>
      if b = true then te σ2 H3 fun y H4 => ∃ acc, H4 D = some (.lst acc) ∧ acc.length < sizeLine ∧ Pv (i + 1) (upd H4 D (.lst (acc ++ [y]))) else Pv (i + 1) H3)
    (hd : ∀ H, Pv xs.length H → Qd H) : LcEnd J g tt te vs σ H1 D Qd := by
  cases hJ with
  | l => exact lc_list (xs := xs) Pv h0 (fun i H _ p => hl i H p) hs hd
  | t => exact lc_tup (xs := xs) Pv h0 (fun i H _ p => hl i H p) hs hd
def ForEnd (J : It) (g : TG) (tb : TS) (D : Ends) (σ : L2.St) (H1 : Hp) : Prop :=
  ∃ W : Nat → Nat → L2.St → Hp → Prop, (∃ m, W 0 m σ H1) ∧
    ∀ i m σ H, W i m σ H →
      (J.stop i H ∧ D.nx σ H) ∨
      (J.go i H ∧ ∃ N : L2.St → Hp → Prop, (∀ σ' H', N σ' H' → ∃ m', m' < m ∧ W (i + 1) m' σ' H') ∧
        ∀ x H', J.yld i H x H' → g x σ H' fun σ2 H2 => tb { D with nx := N, ct := N, bk := D.nx } σ2 H2)
/-- a loop over such a walk -/
theorem for_seq {a : Addr} {J : It} {C : Hp → List V → Prop} {xs : List V} {g : TG} {tb : TS} {D : Ends} {σ : L2.St} {H1 : Hp} (hJ : SeqIt K a J C) (Pv : Nat → L2.St → Hp → Prop) (h0 : Pv 0 σ H1)
    (hl : ∀ i σ H, Pv i σ H → C H xs)
    (hs : ∀ i x σ H, xs[i]? = some x → Pv i σ H → g x σ H fun σ2 H2 => tb { D with nx := Pv (i + 1), ct := Pv (i + 1), bk := D.nx } σ2 H2)
    (hd : ∀ σ H, Pv xs.length σ H → D.nx σ H) : ForEnd J g tb D σ H1 := by
  cases hJ with
  | l => exact for_list (xs := xs) Pv h0 (fun i σ H _ p => hl i σ H p) hs hd
  | t => exact for_tup (xs := xs) Pv h0 (fun i σ H _ p => hl i σ H p) hs hd
variable (K)
/-- (a, b, ..) = a list or a tuple of that length -/
def gSeq (K : PySem.W.Frag) (n : Nat) (t : TGs) : TG := fun v σ H Q => ∃ a xs, v = .ref a ∧ (SqL K H a xs ∨ SqT K H a xs) ∧ xs.length = n ∧ t xs σ H Q
theorem kPgS {tg : Expr} {n : Nat} {t : TGs} (h : X.K = K) (x : PG X tg (gTup X.K n t)) (y : PG X tg (gUnl X.K n t)) : PG X tg (gSeq K n t) := by
  subst h
  refine ⟨fun pins s σ H v u Q I r hw => ?_⟩
  obtain ⟨a, xs, e, hq | hq, hl, hw⟩ := hw
  · exact y.run pins s σ H v u Q I r ⟨a, xs, e, hq, hl, hw⟩
  · exact x.run pins s σ H v u Q I r ⟨a, xs, e, hq, hl, hw⟩
theorem kTupIx (h : X.K = K) : MtR X "tuple.index" (fun x xs H Q => ∃ p, ∃ ns : List Int, ∃ k : Int, x = .ref p ∧ xs = [.int k] ∧ SqT K H p (ns.map V.int) ∧ k ∈ ns ∧ Q (.int (ns.idxOf k : Nat)) H) := by
  subst h
  rintro pins s σ H x xs v us Q I rx rs ⟨p, ns, k, rfl, rfl, hq, hk, q⟩
  cases rx
  obtain ⟨u, rfl, ru⟩ := rs.one
  obtain ⟨t, rfl⟩ := ru
  obtain ⟨its, r, pl, _⟩ := I.tuple hq
  exact SeqAt.tuple_index_ints pl (intsAre_of r) hk ⟨.int _, H, I.tok _, ⟨_, rfl⟩, q⟩
end

/-! ### spaces -/
abbrev Jn := Option (Nat × Trn)
abbrev Blk := List Jn
abbrev Spc := List Blk
def free4 : Blk := [none, none, none, none]
/-- what stands at a face: none where there is no such face -/
def getJ (s : Spc) (b f : Nat) : Option Jn := s[b]?.bind fun l => l[f]?
def setJ (s : Spc) (b f : Nat) (j : Jn) : Spc := s.modify b fun l => l.set f j
def tf (t : Trn) (f : Nat) : Nat := t[f]?.getD 0
def joinJ (s : Spc) (b f n : Nat) (t : Trn) : Spc := setJ (setJ s b f (some (n, t))) n (tf t f) (some (b, back t))
theorem setJ_len (s : Spc) (b f : Nat) (j : Jn) : (setJ s b f j).length = s.length := List.length_modify ..
theorem joinJ_len (s : Spc) (b f n : Nat) (t : Trn) : (joinJ s b f n t).length = s.length := by
  unfold joinJ
  rw [setJ_len, setJ_len]
theorem getJ_set (s : Spc) (b f b' f' : Nat) (j : Jn) : getJ (setJ s b f j) b' f' = if b' = b ∧ f' = f then (getJ s b' f').map fun _ => j else getJ s b' f' := by
  unfold getJ setJ
  rw [List.getElem?_modify]
  cases h : s[b']? with
  | none => simp
  | some l =>
    show ((fun a => if b = b' then List.set a f j else a) l)[f']? = _
    by_cases hb : b = b'
    · subst hb
      show (if b = b then List.set l f j else l)[f']? = if b = b ∧ f' = f then (l[f']?).map fun _ => j else l[f']?
      rw [if_pos rfl, List.getElem?_set]
      by_cases hf : f = f'
      · subst hf
        rw [if_pos (show f = f from rfl), if_pos (show b = b ∧ f = f from ⟨rfl, rfl⟩)]
        by_cases hl : f < l.length
        · rw [if_pos hl, List.getElem?_eq_getElem hl]
          rfl
        · rw [if_neg hl, List.getElem?_eq_none (Nat.le_of_not_lt hl)]
          rfl
      · rw [if_neg hf, if_neg (fun z => hf z.2.symm)]
    · show (if b = b' then List.set l f j else l)[f']? = _
      rw [if_neg hb, if_neg (fun z => hb z.1.symm)]
      rfl
def L4 (s : Spc) : Prop := ∀ b ∈ s, b.length = 4
theorem L4.get {s : Spc} (h : L4 s) {b : Nat} (hb : b < s.length) {f : Nat} (hf : f < 4) : ∃ j, getJ s b f = some j := by
  unfold getJ
  rw [List.getElem?_eq_getElem hb]
  have := h _ (List.getElem_mem hb)
  exact ⟨_, List.getElem?_eq_getElem (by omega)⟩
theorem L4.of {s : Spc} (h : L4 s) {b f : Nat} {j : Jn} (e : getJ s b f = some j) : b < s.length ∧ f < 4 := by
  unfold getJ at e
  cases hs : s[b]? with
  | none =>
    rw [hs] at e
    cases e
  | some l =>
    rw [hs] at e
    have h1 := (List.getElem?_eq_some_iff.mp hs).1
    have h2 := (List.getElem?_eq_some_iff.mp (show l[f]? = some j from e)).1
    exact ⟨h1, by rw [h l (List.mem_of_getElem? hs)] at h2; exact h2⟩
theorem L4.set {s : Spc} (h : L4 s) (b f : Nat) (j : Jn) : L4 (setJ s b f j) := fun l hl => by
  obtain ⟨i, hi⟩ := List.mem_iff_getElem?.mp hl
  unfold setJ at hi
  rw [List.getElem?_modify] at hi
  cases hs : s[i]? with
  | none =>
    rw [hs] at hi
    simp at hi
  | some m =>
    rw [hs] at hi
    have hm := h m (List.mem_of_getElem? hs)
    simp at hi
    rw [← hi]
    split
    · rw [List.length_set]
      exact hm
    · exact hm
theorem L4.join {s : Spc} (h : L4 s) (b f n : Nat) (t : Trn) : L4 (joinJ s b f n t) := (h.set _ _ _).set _ _ _
/-- joinings go both ways -/
def Both (s : Spc) : Prop := ∀ b f n t, getJ s b f = some (some (n, t)) → t ∈ allTurns ∧ (n, tf t f) ≠ (b, f) ∧ getJ s n (tf t f) = some (some (b, back t))
structure Good (s : Spc) : Prop where
  l4 : L4 s
  both : Both s
theorem back_back : ∀ t ∈ allTurns, back (back t) = t := by decide +kernel
theorem tf_back : ∀ t ∈ allTurns, ∀ f < 4, tf (back t) (tf t f) = f := by decide +kernel
theorem tf_lt : ∀ t ∈ allTurns, ∀ f < 4, tf t f < 4 ∧ t[f]? = some (tf t f) := by decide +kernel
theorem back_mem {t : Trn} (h : t ∈ allTurns) : back t ∈ allTurns := (turns4 t h).2.2.1
theorem Good.lt {s : Spc} (h : Good s) {b f n : Nat} {t : Trn} (e : getJ s b f = some (some (n, t))) : n < s.length := (h.l4.of (h.both b f n t e).2.2).1
theorem Good.join {s : Spc} (h : Good s) {b f n : Nat} {t : Trn} (ht : t ∈ allTurns) (h1 : getJ s b f = some none) (h2 : getJ s n (tf t f) = some none) (hne : (n, tf t f) ≠ (b, f)) : Good (joinJ s b f n t) := by
  refine ⟨L4.join h.l4 b f n t, fun b' f' n' t' e => ?_⟩
  have hf := (h.l4.of h1).2
  have G : ∀ x y, getJ (joinJ s b f n t) x y = if x = n ∧ y = tf t f then some (some (b, back t)) else if x = b ∧ y = f then some (some (n, t)) else getJ s x y := fun x y => by
    unfold joinJ
    rw [getJ_set, getJ_set]
    by_cases c1 : x = n ∧ y = tf t f
    · rw [if_pos c1, if_pos c1, c1.1, c1.2]
      rw [if_neg (fun z => hne (Prod.ext z.1 z.2)), h2]
      rfl
    · rw [if_neg c1, if_neg c1]
      by_cases c2 : x = b ∧ y = f
      · rw [if_pos c2, if_pos c2, c2.1, c2.2, h1]
        rfl
      · rw [if_neg c2, if_neg c2]
  rw [G] at e ⊢
  by_cases c1 : b' = n ∧ f' = tf t f
  · rw [if_pos c1] at e
    obtain ⟨rfl, rfl⟩ := c1
    cases e
    refine ⟨back_mem ht, ?_, ?_⟩
    · rw [tf_back t ht f hf]
      exact fun z => hne z.symm
    · rw [tf_back t ht f hf, if_neg (fun z => hne (Prod.ext z.1.symm z.2.symm)), if_pos ⟨rfl, rfl⟩, back_back t ht]
  · rw [if_neg c1] at e
    by_cases c2 : b' = b ∧ f' = f
    · rw [if_pos c2] at e
      obtain ⟨rfl, rfl⟩ := c2
      cases e
      refine ⟨ht, hne, ?_⟩
      rw [if_pos ⟨rfl, rfl⟩]
    · rw [if_neg c2] at e
      obtain ⟨q1, q2, q3⟩ := h.both _ _ _ _ e
      refine ⟨q1, q2, ?_⟩
      rw [if_neg, if_neg]
      · exact q3
      · rintro ⟨rfl, hz⟩
        rw [hz, h1] at q3
        cases q3
      · rintro ⟨rfl, hz⟩
        rw [hz, h2] at q3
        cases q3
theorem getJ_join {s : Spc} {b f n : Nat} {t : Trn} {x y : Nat} (n1 : ¬ (x = b ∧ y = f)) (n2 : ¬ (x = n ∧ y = tf t f)) : getJ (joinJ s b f n t) x y = getJ s x y := by
  unfold joinJ
  rw [getJ_set, if_neg n2, getJ_set, if_neg n1]

/-! ### spaces as they stand -/
def JAt (H : Hp) (v : V) : Jn → Prop
  | none => v = .non
  | some (n, t) => ∃ p q, v = .ref p ∧ FT H p [intV n, .ref q] ∧ FT H q (trnV t)
theorem JAt.mono {H H' : Hp} {v : V} {j : Jn} (h : JAt H v j) (m : Tups H H') : JAt H' v j := by
  cases j with
  | none => exact h
  | some k =>
    obtain ⟨p, q, e, h1, h2⟩ := h
    exact ⟨p, q, e, h1.mono m, h2.mono m⟩
theorem JAt.kind {H : Hp} {v : V} {j : Jn} (h : JAt H v j) : v = .non ∨ ∃ p xs, v = .ref p ∧ FT H p xs := by
  cases j with
  | none => exact .inl h
  | some k =>
    obtain ⟨p, q, e, h1, h2⟩ := h
    exact .inr ⟨p, _, e, h1⟩
def BAt (H : Hp) (v : V) (b : Blk) : Prop := ∃ p vs, v = .ref p ∧ H p = some (.lst vs) ∧ Paired (JAt H) vs b
theorem BAt.mono {H H' : Hp} {v : V} {b : Blk} (h : BAt H v b) (m : Tups H H') (k : ∀ p xs, v = .ref p → H p = some (.lst xs) → H' p = some (.lst xs)) : BAt H' v b := by
  obtain ⟨p, vs, e, h1, h2⟩ := h
  exact ⟨p, vs, e, k p vs e h1, pmono h2 fun _ _ x => x.mono m⟩
structure SpAt (H : Hp) (l : Addr) (rs : List V) (s : Spc) : Prop where
  l : H l = some (.lst rs)
  b : Paired (BAt H) rs s
  nd : rs.Nodup
theorem notReel_blk {H : Hp} {vs : List V} {b : Blk} (h : Paired (JAt H) vs b) (hb : b ≠ []) : NotReel vs := by
  have hv : ∀ v ∈ vs, ∀ i : Int, v ≠ .int i := fun v hv i e => by
    obtain ⟨k, hk⟩ := List.mem_iff_getElem?.mp hv
    obtain ⟨j, _, hj⟩ := pget' h hk
    rcases hj.kind with z | ⟨p, xs, z, _⟩
    · rw [e] at z
      cases z
    · rw [e] at z
      cases z
  cases h with
  | nil => exact absurd rfl hb
  | cons a t => exact ⟨_, _, rfl, hv _ List.mem_cons_self, hv⟩
theorem notReel_refs {ps : List V} (hne : ps ≠ []) (h : ∀ v ∈ ps, ∃ p, v = .ref p) : NotReel ps := by
  have hv : ∀ v ∈ ps, ∀ i : Int, v ≠ .int i := fun v hv i e => by
    obtain ⟨p, z⟩ := h v hv
    rw [e] at z
    cases z
  cases ps with
  | nil => exact absurd rfl hne
  | cons a t => exact ⟨_, _, rfl, hv _ List.mem_cons_self, hv⟩
theorem bat_ref {H : Hp} {rs : List V} {s : Spc} (h : Paired (BAt H) rs s) : ∀ v ∈ rs, ∃ p, v = .ref p := fun v hv => by
  obtain ⟨k, hk⟩ := List.mem_iff_getElem?.mp hv
  obtain ⟨b, _, p, vs, e, _⟩ := pget' h hk
  exact ⟨p, e⟩
/-- what changes are inner lists of rs alone -/
def KeepB (rs : List V) (H H' : Hp) : Prop := ∀ b o, H b = some o → V.ref b ∉ rs → H' b = some o
theorem KeepB.trans {rs : List V} {H H1 H2 : Hp} (a : KeepB rs H H1) (b : KeepB rs H1 H2) : KeepB rs H H2 := fun c o h n => b c o (a c o h n) n
theorem KeepB.of {rs : List V} {H H' : Hp} (a : Same H H') : KeepB rs H H' := fun c o h _ => a c o h
theorem KeepB.tups {rs : List V} {H H' : Hp} {s : Spc} (k : KeepB rs H H') (h : Paired (BAt H) rs s) : Tups H H' := fun b o xs e => k b _ e fun z => by
  obtain ⟨i, hi⟩ := List.mem_iff_getElem?.mp z
  obtain ⟨y, _, p, vs, e1, e2, _⟩ := pget' h hi
  injection e1 with e1
  rw [e1, e2] at e
  cases e
/-- the outer list is none of its inner ones -/
theorem SpAt.out {H : Hp} {l : Addr} {rs : List V} {s : Spc} (h : SpAt H l rs s) : V.ref l ∉ rs := fun z => by
  obtain ⟨i, hi⟩ := List.mem_iff_getElem?.mp z
  obtain ⟨y, _, p, vs, e1, e2, e3⟩ := pget' h.b hi
  injection e1 with e1
  subst e1
  have q := lst_inj e2 h.l
  subst q
  obtain ⟨j, _, hj⟩ := pget' e3 hi
  rcases hj.kind with z | ⟨p, xs, z, hp⟩
  · cases z
  · injection z with z
    subst z
    exact hp.ne e2 rfl
theorem ReelOk.keepB {R : Addr} {rs : List V} {H H' : Hp} {s : Spc} (h : ReelOk R H) (k : KeepB rs H H') (hb : Paired (BAt H) rs s) (h4 : L4 s) : ReelOk R H' ∧ V.ref R ∉ rs := by
  obtain ⟨g, c, gs, cs, m, st, r⟩ := h
  have no : ∀ {a : Addr} {xs : List V}, H a = some (.lst xs) → (∀ x l, xs = x :: l → ∃ v ∈ xs, ∃ i : Int, v = .int i) → V.ref a ∉ rs := fun {a xs} ha hx z => by
    obtain ⟨i, hi⟩ := List.mem_iff_getElem?.mp z
    obtain ⟨y, hy, p, vs, e1, e2, e3⟩ := pget' hb hi
    injection e1 with e1
    subst e1
    have q := lst_inj ha e2
    subst q
    obtain ⟨x, l, e, _, hv⟩ := notReel_blk e3 (by
      intro z
      have := h4 y (List.mem_of_getElem? hy)
      rw [z] at this
      cases this)
    obtain ⟨v, hv1, j, hj⟩ := hx x l e
    exact hv v hv1 j hj
  have nI : ∀ {a : Addr} {ns : List Int}, H a = some (.lst (ns.map V.int)) → V.ref a ∉ rs := fun {a ns} ha => no ha fun x l e => by
    cases ns with
    | nil => cases e
    | cons n t => exact ⟨_, List.mem_cons_self, n, rfl⟩
  have nR := no r.r fun _ _ _ => ⟨.int m, by simp, m, rfl⟩
  exact ⟨⟨g, c, gs, cs, m, st, ⟨k _ _ r.r nR, k _ _ r.g (nI r.g), k _ _ r.c (nI r.c), r.gl, r.cl, r.g0, r.c0, r.ne, r.s0, r.s1⟩⟩, nR⟩

/-- the inner lists have come since H -/
def Fresh (H : Hp) (rs : List V) : Prop := ∀ p, V.ref p ∈ rs → H p = none
theorem Keep.inner {R : Addr} {rs : List V} {H H1 H2 : Hp} (k : Keep R H H1) (b : KeepB rs H1 H2) (f : Fresh H rs) : Keep R H H2 := fun c o h n => b c o (k c o h n) fun z => by
  rw [f c z] at h
  cases h
theorem _root_.L2.Same.inner {rs : List V} {H H1 H2 : Hp} (k : Same H H1) (b : KeepB rs H1 H2) (f : Fresh H rs) : Same H H2 := fun c o h => b c o (k c o h) fun z => by
  rw [f c z] at h
  cases h
def FcAt (H : Hp) (v : V) (x : Nat × Nat) : Prop := ∃ p, v = .ref p ∧ FT H p [intV x.1, intV x.2]
theorem FcAt.mono {H H' : Hp} {v : V} {x : Nat × Nat} (h : FcAt H v x) (m : Tups H H') : FcAt H' v x := by
  obtain ⟨p, e, h⟩ := h
  exact ⟨p, e, h.mono m⟩
def facesTo (n : Nat) : List (Nat × Nat) := (List.range n).map fun k => (k / 4, k % 4)
theorem facesTo_succ (n : Nat) : facesTo (n + 1) = facesTo n ++ [(n / 4, n % 4)] := by
  unfold facesTo
  rw [List.range_succ, List.map_append]
  rfl
theorem facesTo_nd (n : Nat) : (facesTo n).Nodup := by
  unfold facesTo
  refine List.Pairwise.map _ (fun a b h => ?_) (List.nodup_range (n := n))
  intro e
  injection e with e1 e2
  exact h (by omega)
theorem facesTo_mem {n : Nat} {x : Nat × Nat} (h : x ∈ facesTo (4 * n)) : x.1 < n ∧ x.2 < 4 := by
  unfold facesTo at h
  rw [List.mem_map] at h
  obtain ⟨k, hk, rfl⟩ := h
  rw [List.mem_range] at hk
  show k / 4 < n ∧ k % 4 < 4
  omega
theorem pperm_erase {α : Type} {l : List α} {i : Nat} {x : α} (h : l[i]? = some x) : (x :: l.eraseIdx i).Perm l := by
  induction l generalizing i with
  | nil => simp at h
  | cons y r ih =>
    cases i with
    | zero =>
      have e : y = x := by simpa using h
      subst e
      exact .refl _
    | succ i => exact (List.Perm.swap y x _).trans ((ih (by simpa using h)).cons y)
theorem perase {α β : Type} {F : α → β → Prop} : ∀ {xs : List α} {ys : List β} (i : Nat), Paired F xs ys → Paired F (xs.eraseIdx i) (ys.eraseIdx i)
  | _, _, _, .nil => .nil
  | _, _, 0, .cons _ t => t
  | _, _, i + 1, .cons r t => .cons r (perase i t)
def freeS (n : Nat) : Spc := List.replicate n free4
theorem freeS_get {n b f : Nat} {j : Jn} (h : getJ (freeS n) b f = some j) : j = none := by
  unfold getJ freeS at h
  cases e : (List.replicate n free4)[b]? with
  | none =>
    rw [e] at h
    cases h
  | some l =>
    rw [e] at h
    have el := List.eq_of_mem_replicate (List.mem_of_getElem? e)
    subst el
    have hm := List.mem_of_getElem? (show free4[f]? = some j from h)
    simpa [free4] using hm
theorem freeS_good (n : Nat) : Good (freeS n) := ⟨fun b hb => by rw [List.eq_of_mem_replicate hb]; rfl, fun b f m t e => by
  have := freeS_get e
  cases this⟩
theorem pmonoM {α β : Type} {F G : α → β → Prop} : ∀ {xs : List α} {ys : List β}, Paired F xs ys → (∀ a ∈ xs, ∀ b, F a b → G a b) → Paired G xs ys
  | _, _, .nil, _ => .nil
  | _, _, .cons r t, m => .cons (m _ List.mem_cons_self _ r) (pmonoM t fun a ha => m a (List.mem_cons_of_mem _ ha))
theorem SpAt.fresh {H : Hp} {l p : Addr} {rs : List V} {s : Spc} (h : SpAt H l rs s) (n : H p = none) : V.ref p ∉ rs := fun z => by
  obtain ⟨i, hi⟩ := List.mem_iff_getElem?.mp z
  obtain ⟨y, _, p', vs, e1, e2, _⟩ := pget' h.b hi
  injection e1 with e1
  rw [← e1, n] at e2
  cases e2
theorem SpAt.push {H1 H2 : Hp} {D p : Addr} {rs : List V} {S : Spc} {b : Blk} (h : SpAt H1 D rs S) (s : Same H1 H2) (n : H1 p = none) (hb : BAt H2 (.ref p) b) :
    SpAt (upd H2 D (.lst (rs ++ [.ref p]))) D (rs ++ [.ref p]) (S ++ [b]) := by
  have hD := s _ _ h.l
  have out := h.out
  refine ⟨upd_same, papp (pmonoM h.b fun v hv b z => z.mono (s.tups.trans (tups_set hD)) fun q xs e1 e2 => ?_) (.cons (hb.mono (tups_set hD) fun q xs e1 e2 => ?_) .nil), ?_⟩
  · rw [upd_ne (show q ≠ D from fun z => out (by rw [← z, ← e1]; exact hv))]
    exact s _ _ e2
  · injection e1 with e1
    subst e1
    rw [upd_ne (show p ≠ D from fun z => by rw [z, h.l] at n; cases n)]
    exact e2
  · rw [List.nodup_append]
    refine ⟨h.nd, by simp, fun a ha c hc e => ?_⟩
    rw [List.mem_singleton.mp hc] at e
    rw [e] at ha
    exact h.fresh n ha
theorem Fresh.push {H H1 : Hp} {rs : List V} {p : Addr} (h : Fresh H rs) (s : ∀ o, H p = some o → H1 p = some o) (n : H1 p = none) : Fresh H (rs ++ [.ref p]) := fun q z => by
  rcases List.mem_append.mp z with z | z
  · exact h q z
  · have e := List.mem_singleton.mp z
    injection e with e
    subst e
    cases hq : H q with
    | none => rfl
    | some o =>
      rw [s o hq] at n
      cases n
theorem fdiv_nat (a b : Nat) : (a : Int).fdiv (b : Int) = ((a / b : Nat) : Int) := by
  rw [Int.fdiv_eq_ediv_of_nonneg _ (by omega)]
  rfl
theorem fmod_nat (a b : Nat) : (a : Int).fmod (b : Int) = ((a % b : Nat) : Int) := by
  rw [Int.fmod_eq_emod_of_nonneg _ (by omega)]
  rfl
theorem seqIx_nat {n k : Nat} (h : k < n) : seqIndex? (k : Int) n = some k := by
  show (if (decide ((0 : Int) ≤ if (k : Int) < 0 then (k : Int) + n else k) && decide ((if (k : Int) < 0 then (k : Int) + n else k) < n)) = true then some (if (k : Int) < 0 then (k : Int) + n else k).toNat else none) = some k
  rw [if_neg (show ¬ (k : Int) < 0 by omega), decide_eq_true (show (0 : Int) ≤ k by omega), decide_eq_true (show (k : Int) < n by omega)]
  rfl
/-- a store into another list -/
theorem SpAt.other {H : Hp} {l p : Addr} {rs : List V} {s : Spc} {xs : List V} {o : HO} (h : SpAt H l rs s) (hp : H p = some (.lst xs)) (n1 : p ≠ l) (n2 : V.ref p ∉ rs) : SpAt (upd H p o) l rs s :=
  ⟨by rw [upd_ne n1.symm]; exact h.l, pmonoM h.b fun v hv b z => z.mono (tups_set hp) fun q xs e1 e2 => by
    rw [upd_ne (show q ≠ p from fun z => n2 (by rw [← z, ← e1]; exact hv))]
    exact e2, h.nd⟩
theorem refs_no_int {F : Hp → V → (Nat × Nat) → Prop} {H : Hp} {xs : List V} {fs : List (Nat × Nat)} (h : Paired (F H) xs fs) (hF : ∀ v x, F H v x → ∃ p, v = .ref p) : ∀ v ∈ xs, ∃ p, v = .ref p := fun v hv => by
  obtain ⟨k, hk⟩ := List.mem_iff_getElem?.mp hv
  obtain ⟨y, _, hy⟩ := pget' h hk
  exact hF v y hy
theorem fc_refs {H : Hp} {xs : List V} {fs : List (Nat × Nat)} (h : Paired (FcAt H) xs fs) : ∀ v ∈ xs, ∃ p, v = .ref p := refs_no_int (F := FcAt) h fun v x z => by
  obtain ⟨p, e, _⟩ := z
  exact ⟨p, e⟩
theorem no_int {xs : List V} (h : ∀ v ∈ xs, ∃ p, v = .ref p) : ∀ v ∈ xs, ∀ i : Int, v ≠ .int i := fun v hv i e => by
  obtain ⟨p, z⟩ := h v hv
  rw [e] at z
  cases z
theorem turns_face6 : ∀ f < 4, ∀ a < 4, (allTurns.filter fun t => tf t f == a).length = 6 := by decide +kernel
theorem filter_take_succ {α : Type} {l : List α} {i : Nat} {x : α} {p : α → Bool} (h : l[i]? = some x) : (l.take (i + 1)).filter p = (l.take i).filter p ++ (if p x then [x] else []) := by
  rw [List.take_add_one, h, List.filter_append]
  by_cases hp : p x
  · rw [if_pos hp]
    simp [hp]
  · rw [if_neg hp]
    simp [hp]
theorem tat_refs {H : Hp} {xs : List V} {ts : List Trn} (h : Paired (TAt H) xs ts) : ∀ v ∈ xs, ∃ p, v = .ref p := fun v hv => by
  obtain ⟨k, hk⟩ := List.mem_iff_getElem?.mp hv
  obtain ⟨y, _, p, e, _⟩ := pget' h hk
  exact ⟨p, e⟩
theorem dec_nat (a b : Nat) : decide ((intV a) = (intV b)) = (a == b) := by
  by_cases h : a = b
  · subst h
    simp
  · rw [beq_eq_false_iff_ne.mpr h]
    exact decide_eq_false (fun z => h (by injection z with z; omega))
theorem nodup_ne {α : Type} {l : List α} (h : l.Nodup) {i j : Nat} {x y : α} (hi : l[i]? = some x) (hj : l[j]? = some y) (n : i ≠ j) : x ≠ y := fun e => by
  subst e
  exact n (nd_ix h hi hj)
theorem ReelOk.isNot {R p : Addr} {H H' : Hp} {o : HO} (_ : ReelOk R H) (_ : H p = some o) (n : H' p = none) (h' : ReelOk R H') : p ≠ R := fun z => by
  obtain ⟨g, c, gs, cs, m, st, r⟩ := h'
  rw [z, r.r] at n
  cases n
/-- what was none of the reel's lists is none -/
def Aw (R : Addr) (H H' : Hp) : Prop := ∀ D, H D ≠ none → Away R D H → Away R D H'
theorem _root_.L2.Same.aw {R : Addr} {H H' : Hp} (s : Same H H') : Aw R H H' := fun _ _ z => z.same s
theorem Aw.trans {R : Addr} {H H1 H2 : Hp} (a : Aw R H H1) (k : Keep R H H1) (b : Aw R H1 H2) : Aw R H H2 := fun D n z => b D (fun y => n (k.free y z.ne)) (a D n z)
theorem Aw.set {R p : Addr} {H : Hp} {xs : List V} {o : HO} (hp : H p = some (.lst xs)) (n : NotReel xs) : Aw R H (upd H p o) := fun _ _ z => (z.set hp n).1
theorem Aw.fill {R L : Addr} {H : Hp} {o : HO} (a : Away R L H) : Aw R H (upd H L o) := fun _ _ z => z.fill' a
theorem Aw.keepB {R : Addr} {rs : List V} {H H' : Hp} {s : Spc} (k : KeepB rs H H') (hb : Paired (BAt H) rs s) (h4 : L4 s) : Aw R H H' := fun D _ z => by
  obtain ⟨g, c, gs, cs, m, st, r, q⟩ := z
  have no : ∀ {a : Addr} {xs : List V}, H a = some (.lst xs) → (∀ x l, xs = x :: l → ∃ v ∈ xs, ∃ i : Int, v = .int i) → V.ref a ∉ rs := fun {a xs} ha hx z => by
    obtain ⟨i, hi⟩ := List.mem_iff_getElem?.mp z
    obtain ⟨y, hy, p, vs, e1, e2, e3⟩ := pget' hb hi
    injection e1 with e1
    subst e1
    have q := lst_inj ha e2
    subst q
    obtain ⟨x, l, e, _, hv⟩ := notReel_blk e3 (by
      intro z
      have := h4 y (List.mem_of_getElem? hy)
      rw [z] at this
      cases this)
    obtain ⟨v, hv1, j, hj⟩ := hx x l e
    exact hv v hv1 j hj
  have nI : ∀ {a : Addr} {ns : List Int}, H a = some (.lst (ns.map V.int)) → V.ref a ∉ rs := fun {a ns} ha => no ha fun x l e => by
    cases ns with
    | nil => cases e
    | cons n t => exact ⟨_, List.mem_cons_self, n, rfl⟩
  have nR := no r.r fun _ _ _ => ⟨.int m, by simp, m, rfl⟩
  exact ⟨g, c, gs, cs, m, st, ⟨k _ _ r.r nR, k _ _ r.g (nI r.g), k _ _ r.c (nI r.c), r.gl, r.cl, r.g0, r.c0, r.ne, r.s0, r.s1⟩, q⟩
end Bk

/-! An error that a try keeps as a value: try: .. except X as e: caught = e; and isinstance of it behind the try. -/
namespace Bk
open PySem PySem.Spec PyProof.Rows L2
/-- an error that was caught, held as a value: its class and its own dict -/
def CaO (cls : Value) (d : Option Addr) (a : Addr) : HO := .ext fun h => ∃ (ob : Obj) (fs : Array Value), h.get? a = some ob ∧ Zc cls d ob ∧ ob.data = .fields fs
theorem caO_ok {P : Program} {w : World} {H : Hp} {h : Heap} {a : Addr} {cls : Value} {d : Option Addr} {ob : Obj} {fs : Array Value} (e : h.get? a = some ob) (z : Zc cls d ob) (q : ob.data = .fields fs) : ObjOk P w H h a (CaO cls d a) :=
  ⟨⟨ob, fs, e, z, q⟩, ⟨ob, e⟩, fun _ _ ⟨u, v, k, r⟩ m => ⟨u, v, m u k, r⟩⟩
section
variable {X : Cx} {pins : List (Addr × Obj)} {σ : L2.St} {H : Hp} {s0 s : Shared} {B : Heap}
theorem landedX (I : Inv X pins σ H s0) (nb : ∀ b o, s0.heap.get? b = some o → b ∉ frs X.stack → B.get? b = some o) (stays : B.StaysIn s.heap) (slots : s0.heap.UpToSlots s.heap) (eo : s.os = s0.os) (bare : AllBare s.gens)
    {a : Addr} {cls : Value} {d : Option Addr} {ob : Obj} {fs : Array Value} (ha : s.heap.get? a = some ob) (hz : Zc cls d ob) (hd : ob.data = .fields fs) (fresh : s0.heap.get? a = none) (na : H a = none) : Inv X pins σ (upd H a (CaO cls d a)) s := by
  have other : ∀ b o, s0.heap.get? b = some o → b ≠ a := fun b o e z => by
    rw [z, fresh] at e
    cases e
  have frm : ∀ b o, b ∈ frs X.stack → s0.heap.get? b = some o → ∃ sl, s.heap.get? b = some { o with slots := sl } := fun b o hb e => by
    obtain ⟨_, o2, e2, nofields⟩ := I.stack.mem hb
    obtain rfl : o = o2 := Option.some.inj (e.symm.trans e2)
    exact slots b o e nofields
  have still : ∀ b o, b ∉ frs X.stack → s0.heap.get? b = some o → s.heap.get? b = some o := fun b o hb e => stays b o (nb b o e hb)
  have old : HOk X.prog X.w H s.heap := (I.inGround nb).kept stays
  have up : ∀ {b : Addr} {u : HO}, H b = some u → (upd H a (CaO cls d a)) b = some u := fun {b u} e => by
    rw [upd_ne (ne_of_none e na)]
    exact e
  refine I.call' (ch := []) eo ⟨fun b o e _ hb _ => still b o hb e, fun b o e _ hb _ => frm b o hb e, fun b o e n _ => ?_, fun b o e _ => ?_, fun b xs e => up e, fun b o u e => up e, fun b ps e => ⟨#[], by rw [up e]; simp⟩⟩ (fun b u e => ?_) bare (fun _ z => nomatch z)
  · rw [upd_ne (other b o e)]
    exact n
  · by_cases hb : b ∈ frs X.stack
    · obtain ⟨sl, e2⟩ := frm b o hb e
      exact ⟨_, e2⟩
    · exact ⟨o, still b o hb e⟩
  · by_cases hb : b = a
    · subst hb
      rw [upd_same] at e
      cases e
      exact caO_ok ha hz hd
    · rw [upd_ne hb] at e
      exact (old b u e).stay (fun _ _ _ q => q) (fun _ q => up q) fun _ _ q => up q
theorem suiteX (I : Inv X pins σ H s) (a : Addr) : Inv (X.suite a (X.pn ++ pins)) [] σ H s :=
  ⟨I.ok.suite _ _, I.os, I.bare, I.base, I.loc, I.cell, I.free, I.freeC, fun p hp => I.pin p ((List.append_nil _).subst (motive := fun l => p ∈ l) hp), I.hok, I.len⟩
theorem unsuiteX {a : Addr} {pn : List (Addr × Obj)} (I : Inv (X.suite a (X.pn ++ pins)) pn σ H s) (ok : X.Ok) : Inv X pins σ H s :=
  ⟨ok, I.os, I.bare, I.base, I.loc, I.cell, I.free, I.freeC, fun p hp => I.pin p (List.mem_append.mpr (.inl hp)), I.hok, I.len⟩
end
/-- what the clause «except x as n: m = n» wishes of an error of the body: it is of x, and goes on with it in m's slot -/
def wKeep (K : PySem.W.Frag) (c : Value) (i j : Nat) (D : Ends) : WX := fun cls d σ H =>
  PySem.W.exmOne K cls c = some true ∧ ∀ a, H a = none → D.nx (((σ.set i (some (.ref a))).set j (some (.ref a))).set i none) (upd H a (CaO cls d a))
section
variable {X : Cx} {x n m : Str} {c : Value} {i j : Nat} {body : List Stmt} {np p1 p2 p3 pos pos' : Pos} {tb : WX → TS}
theorem ps_try_keep (hs : X.stack = X.env :: X.outer) (hf : X.env.frame = some X.env.locals) (hN : X.N.Nodup) (hi : X.N[i]? = some n) (hj : X.N[j]? = some m) (hij : i ≠ j) (hln : X.env.kindOf n = some .local) (hlm : X.env.scope.names.lookup m = some .local)
    (hvn : Vis X.env.scope n) (hsw : swapsWith (.Name n p2) (some (.Name m p1)) p3.line X.env = pure false) (hc : Names X x c) (hlen : ∀ {pins : List (Addr × Obj)} {σ : L2.St} {H : Hp} {s : Shared}, Inv X pins σ H s → i < σ.length) (hd1 : (n == ("__debug__" : Str)) = false) (hd2 : (n == ("__classdict__" : Str)) = false)
    (hb : ∀ (W : WX) (pn : List (Addr × Obj)) (xe : Value → Shared → Prop), Takes (X.tr pn xe) W → PassesOwn (model X.prog X.w) X.A X.env xe → PSs (X.tr pn xe) body (tb W)) :
    PS X (.Try body [.ExceptHandler (some (.Name x np)) (some n) [.Assign [.Name m p1] (.Name n p2) p3] pos'] [] [] pos) (fun D σ H => tb (wKeep X.K c i j D) D σ H) := by
  refine ⟨fun pins s σ H D I h => ?_⟩
  have ok := I.ok
  have frames : X.A.frames = some (X.env :: X.outer) := ok.frames.trans (congrArg some hs)
  let caught := [ExceptHandler.ExceptHandler (some (.Name x np)) (some n) [.Assign [.Name m p1] (.Name n p2) p3] pos']
  refine wpAny_Try_except ?_
  refine wpAny_mono ((hb (wKeep X.K c i j D) (X.pn ++ pins) (fun e s1 => wpAny (model X.prog X.w) X.A (noteFrame e X.env) (fun _ s2 => wpAny (model X.prog X.w) X.A (setFlight e none) (fun _ s3 =>
    wpAny (model X.prog X.w) X.A (handleBy e X.env caught) (SP X pins D) X.xe s3) X.xe s2) X.xe s1) (fun u s' thrown => ?_) PassesOwn.looking).run [] s σ H D (I.toTry _) h) (fun f s1 done => ?_) (fun _ _ z => z)
  · obtain ⟨a, B, s0, pn0, σ0, H0, cls, d, rfl, J0, nb, slots, sky, na, eo, bare, hx, goes⟩ := thrown
    have J : Inv X pins σ0 H0 s0 := J0.ofTry ok
    show wpAny (model X.prog X.w) X.A (noteFrame (.ref a) X.env) _ _ _
    refine Sky.land Zc.steady frames hf (hs ▸ (show Sky B X.stack a (Zc cls d) X.env.locals s'.heap from sky)) fun h3 fly3 slots3 => ?_
    obtain ⟨o3, v3, e3, z3, d3⟩ := fly3.there
    have notStack : a ∉ frs (X.env :: X.outer) := fun hm => by
      obtain ⟨_, o, e, nofields⟩ := fly3.2.2.1.mem hm
      obtain rfl : o3 = o := Option.some.inj (e3.symm.trans e)
      exact nofields v3 d3
    have fresh : s0.heap.get? a = none := by
      cases e : s0.heap.get? a with
      | none => rfl
      | some o =>
        have := nb a o e (by rw [hs]; exact notStack)
        rw [fly3.2.1] at this
        cases this
    have J3 : Inv X pins σ0 (upd H0 a (CaO cls d a)) { s' with heap := h3 } := landedX (s := { s' with heap := h3 }) J nb fly3.1 (slots.trans slots3) eo bare e3 z3 d3 fresh na
    refine wpAny_handleBy_cons (codeAny_handlers_test ?_) nofun
    have isOf : PySem.W.Looks (model X.prog X.w) h3 (typeOf (.ref a)) cls := fun A Q E s k q => wpAny_typeOf_ref (k _ _ e3) (z3.1 ▸ q)
    have meets := PySem.W.exm_one (M := model X.prog X.w) J3.kIn isOf hx
    have named : ∀ {Q : Value → Shared → Prop} {E : Value → Shared → Prop}, Q c { s' with heap := h3 } → wpAny (model X.prog X.w) (X.A.mark (some (.ref a))) (eval (.Name x np) X.env) Q E { s' with heap := h3 } := fun {Q E} q => by
      obtain ⟨glob, nodebug, known | ⟨none, boot, notName⟩⟩ := hc
      · exact ld_glob (X := X.suite a (X.pn ++ pins)) (suiteX J3 a) glob known q nodebug
      · exact ld_blt (X := X.suite a (X.pn ++ pins)) (suiteX J3 a) glob none boot q notName nodebug
    refine named (meets.here ?_)
    refine codeAny_handlers_suite_as ?_
    refine HandSPX.lands_againZ fly3 fun h4 fly4 slots4 => ?_
    obtain ⟨o4, v4, e4, z4, d4⟩ := fly4.there
    have J4 : Inv X pins σ0 (upd H0 a (CaO cls d a)) { s' with heap := h4 } := landedX (s := { s' with heap := h4 }) J nb fly4.1 ((slots.trans slots3).trans slots4) eo bare e4 z4 d4 fresh na
    have long := hlen J4
    refine store_ok (X := X.suite a (X.pn ++ pins)) (v := .ref a) (suiteX J4 a) hN hi (.inl hln) rfl (fun s5 S5 => ?_) (.inr hln)
    have run := (pss_one (ps_set (X := X.suite a (X.pn ++ pins)) (i := j) (pos := p3) hN hj (.inl hlm) (pe_var (X := X.suite a (X.pn ++ pins)) (i := i) (pos := p2) hi hvn (hd := hd1) (hcd := hd2)) hsw (.inr hlm))).run [] s5 _ _
      { nx := fun σ1 H1 => σ1 = ((σ0.set i (some (.ref a))).set j (some (.ref a))) ∧ H1 = upd H0 a (CaO cls d a), rt := fun _ _ => False, bk := fun _ _ => False, ct := fun _ _ => False } S5 ⟨.ref a, List.getElem?_set_self long, rfl, rfl⟩
    refine wpAny_mono run (fun f s6 done => ?_) (fun _ _ z => False.elim z)
    cases f with
    | next =>
      obtain ⟨σ6, H6, S6, rfl, rfl⟩ := done
      exact gone_ok (unsuiteX S6 ok) hN hi hln fun s7 J7 => ⟨_, _, J7, goes a na⟩
    | brk =>
      obtain ⟨_, _, _, z⟩ := done
      exact z.elim
    | cont =>
      obtain ⟨_, _, _, z⟩ := done
      exact z.elim
    | ret u =>
      obtain ⟨_, _, _, _, _, z⟩ := done
      exact z.elim
  · cases f with
    | next =>
      obtain ⟨σ1, H1, J1, q⟩ := done
      exact wpAny_execs_nil ⟨σ1, H1, Inv.ofTry J1 ok, q⟩
    | brk =>
      obtain ⟨σ1, H1, J1, q⟩ := done
      exact ⟨σ1, H1, Inv.ofTry J1 ok, q⟩
    | cont =>
      obtain ⟨σ1, H1, J1, q⟩ := done
      exact ⟨σ1, H1, Inv.ofTry J1 ok, q⟩
    | ret u =>
      obtain ⟨v1, σ1, H1, J1, r, q⟩ := done
      exact ⟨v1, σ1, H1, Inv.ofTry J1 ok, r, q⟩
end
end Bk

namespace Bk
open PySem PySem.Spec PyProof.Rows L2
theorem cpow {i j : Int} (a : 0 ≤ j := by decide) (b : j ≤ 1000000 := by decide) (c : i.natAbs < 2 ^ 64 := by decide) : CPow i j := ⟨a, b, c⟩
theorem wideM : CMulW ((2 : Int) ^ (64 : Int).toNat) ((2 : Int) ^ (63 : Int).toNat) := wide_mul (a := 65) (b := 64) (by decide +kernel) (by decide +kernel) (by decide) (by decide) (by decide)
theorem M0 : (0 : Int) < 2 ^ (64 : Int).toNat * 2 ^ (63 : Int).toNat - 1 := by decide +kernel
local macro_rules | `(tactic| walk_at "g") => `(tactic| (repeat first | refine ⟨_, rfl, ?_⟩ | refine ⟨cpow, ?_⟩ | refine ⟨wideM, ?_⟩ | refine ⟨_, _, rfl, rfl, ?_⟩ | refine ⟨rfl, ?_⟩))
def topS (i : Nat) : Stmt := PySem.Challenge.pw_blockrooms_k13_whole_written_and_read.main.body.getD i (.Pass ⟨0, 0, 0, 0⟩)
section
variable {P : Program} {w : World} {K : PySem.W.Frag} {mg : Str → Option Value} {base : Heap}
/-! ### _law_reel -/
abbrev s_law_reel : Stmt := topS 37
abbrev N_law_reel : List Str := ["script", "stir", "cell", "great"]
theorem sc_law_reel : FnScope N_law_reel ["script"] (defScope s_law_reel) := ⟨rfl, rfl, rfl, by decide +kernel, rfl, by decide +kernel, by decide +kernel⟩
theorem natAbs_M {x : Int} (h0 : 0 ≤ x) (h1 : x < 2 ^ (64 : Int).toNat * 2 ^ (63 : Int).toNat - 1) : x.natAbs < 2 ^ 127 := by
  have e : (2 : Int) ^ (64 : Int).toNat * 2 ^ (63 : Int).toNat - 1 = 170141183460469231731687303715884105727 := by decide +kernel
  have e2 : (2 : Nat) ^ 127 = 170141183460469231731687303715884105728 := by decide +kernel
  rw [e] at h1
  rw [e2]
  omega
def spReel (K : PySem.W.Frag) : Sp := fun vs H Q _ => ∃ (a : Addr) (ns : List Int), vs = [.ref a] ∧ SqL K H a (ns.map V.int) ∧ ns.length ≤ 63 ∧
  ∀ H' R, Same H H' → H R = none → ReelOk R H' → Q (.ref R) H'
theorem ok_law_reel {f : Addr} {fd : FuncData} (F : Fun K "_law_reel" "_law_reel" s_law_reel f fd) : FnOk P w K mg base CX0 1 f fd ["script"] (spReel K) := by
  refine F.ok sc_law_reel (fun vs H Q E h => ?_) (fun cdv A outer s H vs Q E hr h => ?_)
  · obtain ⟨a, ns, rfl, _⟩ := h
    rfl
  · obtain ⟨a, ns, rfl, hS, hlen, q⟩ := h
    have nd := sc_law_reel.nd
    refine ⟨_, (pss_cons (ps_set (i := 1) nd rfl (.inl rfl) (pe_op op_pow pe_int pe_int))
      (pss_cons (ps_for PassesOwn.never rfl (kPiL K rfl (pi_list (pe_slice (kSlL K rfl) (pv 0) po_none (po_some pe_int)))) (pg_name (i := 2) nd rfl (.inl rfl)) (pss_one (ps_set (i := 1) nd rfl (.inl rfl) (pe_op op_modN (pe_op op_add (pe_op op_add (pe_op op_mulW (pv 1) (pv 1)) (pe_op op_modN (pv 2) pe_int)) pe_int) (pe_op op_sub (pe_op op_mulW (pe_op op_pow pe_int pe_int) (pe_op op_pow pe_int pe_int)) pe_int)))))
      (pss_cons (ps_setLc (i := 3) (own := [("cell", 2)]) (g := gName 2) rfl nd rfl rfl (sw_true rfl rfl rfl (by decide +kernel)) (kPiL K rfl (pi_list (pe_slice (kSlL K rfl) (pv 0) po_none (po_some pe_int)))) (blkOk_by (own := [("cell", 2)]) (N := N_law_reel) (sc := defScope s_law_reel) (by decide +kernel)) (fun _ _ _ _ _ => (pg_name (i := 2) nd rfl (Or.inl rfl))) (fun _ _ _ _ _ => (pts_one (pt_cmpR op_ge (pv 2) (pe_op op_pow pe_int pe_int) (nomark _)))) (fun _ _ _ _ _ => (pe_op op_sub (pv 2) (pe_op op_pow pe_int pe_int))))
      (pss_one (ps_ret (pe_lst (pa_cons (pv 3) (pa_cons (pe_op op_cat (pe_lc (own := [("cell", 2)]) (g := gName 2) (tt := tYes) rfl nd (kPiL K rfl (pi_list (pe_slice (kSlL K rfl) (pv 0) po_none (po_some pe_int)))) (blkOk_by (own := [("cell", 2)]) (N := N_law_reel) (sc := defScope s_law_reel) (by decide +kernel)) (fun _ _ _ _ _ => (pg_name (i := 2) nd rfl (Or.inl rfl))) (fun _ _ _ _ _ => pts_nil) (fun _ _ _ _ _ => (pe_op op_modN (pv 2) pe_int))) (pe_lst (pa_cons pe_int pa_nil))) (pa_cons pe_int (pa_cons (pv 1) pa_nil)))))))))), ?_⟩
    refine ⟨3, 60, rfl, rfl, ⟨by decide, by decide, by decide⟩, ?_⟩
    refine ⟨.ref a, rfl, 63, rfl, a, ns.map V.int, rfl, hS, fun c nc => ?_⟩
    refine ⟨c, rfl, ⟨_, .inl (.inl upd_same)⟩, ?_⟩
    have s1 : Same H (upd H c (.lst (cutV (ns.map V.int) none (some 63)))) := same_new nc
    have e63 : cutV (ns.map V.int) none (some 63) = ns.map V.int := by
      rw [show (63 : Int) = ((63 : Nat) : Int) from rfl, cut_to]
      exact List.take_of_length_le (by rw [List.length_map]; exact hlen)
    rw [e63] at s1 ⊢
    refine for_list (xs := ns.map V.int) (fun i σ H3 => ∃ st y, σ = [some (.ref a), some (.int st), y, none] ∧ 0 ≤ st ∧ st.natAbs < 2 ^ 127 ∧ H3 = upd H c (.lst (ns.map V.int))) ⟨3 ^ 60, none, rfl, by decide +kernel, by decide +kernel, rfl⟩ ?_ ?_ ?_
    · rintro i σ H3 _ ⟨st, y, rfl, _, _, rfl⟩
      exact .inl (.inl upd_same)
    · rintro i x σ H3 hx ⟨st, y, rfl, h0, h1, rfl⟩
      obtain ⟨k, rfl, hk⟩ := get_map_int hx
      walk_at "g"
      refine ⟨wide_mul h1 h1 (by decide) (by decide) (by decide), ?_⟩
      walk_at "g"
      refine ⟨(show (1000000000000000003 : Int) ≠ 0 by decide), ?_⟩
      walk_at "g"
      refine ⟨Int.ne_of_gt M0, ?_⟩
      exact ⟨_, _, rfl, (fmod_pos M0).1, natAbs_M (fmod_pos M0).1 (fmod_pos M0).2, rfl⟩
    · rintro σ H3 ⟨st, y, rfl, h0, h1, rfl⟩
      walk_at "g"
      -- great
      refine ⟨a, ns.map V.int, rfl, s1.seq hS, fun c2 nc2 => ?_⟩
      rw [e63]
      have s2 : Same H (upd (upd H c (.lst (ns.map V.int))) c2 (.lst (ns.map V.int))) := s1.trans (same_new nc2)
      have h2 : (upd (upd H c (.lst (ns.map V.int))) c2 (.lst (ns.map V.int))) c2 = some (.lst (ns.map V.int)) := upd_same
      generalize upd (upd H c (.lst (ns.map V.int))) c2 (.lst (ns.map V.int)) = H2 at s2 h2 ⊢
      refine ⟨c2, rfl, ⟨_, .inl (.inl h2)⟩, fun D nD => ?_⟩
      have nc2D : c2 ≠ D := ne_of_none h2 nD
      refine lc_list (xs := ns.map V.int) (fun i H3 => ∃ gs : List Int, (∀ x ∈ gs, 0 ≤ x) ∧ gs.length ≤ i ∧ H3 = upd H2 D (.lst (gs.map V.int))) ⟨[], by simp, Nat.le_refl _, rfl⟩ ?_ ?_ ?_
      · rintro i H3 _ ⟨gs, _, _, rfl⟩
        exact .inl (.inl (by rw [upd_ne nc2D]; exact h2))
      · rintro i x H3 hx ⟨gs, g0, gl, rfl⟩
        obtain ⟨k, rfl, hk⟩ := get_map_int hx
        have hi : i < ns.length := (List.getElem?_eq_some_iff.mp hk).1
        refine ⟨rfl, ?_⟩
        walk_at "g"
        refine ite2 (fun e => ?_) (fun e => ?_)
        · have hk0 : (10 : Int) ^ (18 : Int).toNat ≤ k := of_decide_eq_true e
          walk_at "g"
          refine ⟨_, upd_same, small1000 (by rw [List.length_map]; omega), gs ++ [k - 10 ^ (18 : Int).toNat], ?_, ?_, ?_⟩
          · intro x hx
            rcases List.mem_append.mp hx with h | h
            · exact g0 x h
            · rw [List.mem_singleton.mp h]
              exact Int.sub_nonneg_of_le hk0
          · rw [List.length_append]
            exact Nat.add_le_add_right gl 1
          · rw [upd_upd, List.map_append]
            rfl
        · exact ⟨gs, g0, Nat.le_succ_of_le gl, rfl⟩
      · rintro H3 ⟨gs, g0, gl, rfl⟩
        have s3 : Same H (upd H2 D (.lst (gs.map V.int))) := s2.trans (same_new nD)
        have h3 : (upd H2 D (.lst (gs.map V.int))) D = some (.lst (gs.map V.int)) := upd_same
        generalize upd H2 D (.lst (gs.map V.int)) = H3 at s3 h3 ⊢
        walk_at "g"
        -- cells
        refine ⟨a, ns.map V.int, rfl, s3.seq hS, fun c3 nc3 => ?_⟩
        rw [e63]
        have s4 : Same H3 (upd H3 c3 (.lst (ns.map V.int))) := same_new nc3
        have h4 : (upd H3 c3 (.lst (ns.map V.int))) c3 = some (.lst (ns.map V.int)) := upd_same
        generalize upd H3 c3 (.lst (ns.map V.int)) = H4 at s4 h4 ⊢
        refine ⟨c3, rfl, ⟨_, .inl (.inl h4)⟩, fun D2 nD2 => ?_⟩
        have nc3D : c3 ≠ D2 := ne_of_none h4 nD2
        refine lc_list (xs := ns.map V.int) (fun i H5 => ∃ cs : List Int, (∀ x ∈ cs, 0 ≤ x ∧ x < 1000003) ∧ cs.length = i ∧ H5 = upd H4 D2 (.lst (cs.map V.int))) ⟨[], by simp, rfl, rfl⟩ ?_ ?_ ?_
        · rintro i H5 _ ⟨cs, _, _, rfl⟩
          exact .inl (.inl (by rw [upd_ne nc3D]; exact h4))
        · rintro i x H5 hx ⟨cs, g0, rfl, rfl⟩
          obtain ⟨k, rfl, hk⟩ := get_map_int hx
          have hi : cs.length < ns.length := (List.getElem?_eq_some_iff.mp hk).1
          refine ⟨rfl, ?_⟩
          walk_at "g"
          refine ⟨(show (1000003 : Int) ≠ 0 by decide), ?_⟩
          refine ⟨_, upd_same, small1000 (by rw [List.length_map]; omega), cs ++ [k.fmod 1000003], ?_, by rw [List.length_append]; rfl, ?_⟩
          · intro x hx
            rcases List.mem_append.mp hx with h | h
            · exact g0 x h
            · rw [List.mem_singleton.mp h]
              exact fmod_pos (by decide)
          · rw [upd_upd, List.map_append]
            rfl
        · rintro H5 ⟨cs, c0, cl, rfl⟩
          rw [List.length_map] at cl
          have s5 : Same H3 (upd H4 D2 (.lst (cs.map V.int))) := s4.trans (same_new nD2)
          have h5 : (upd H4 D2 (.lst (cs.map V.int))) D2 = some (.lst (cs.map V.int)) := upd_same
          generalize upd H4 D2 (.lst (cs.map V.int)) = H5 at s5 h5 ⊢
          refine ⟨Nat.le_of_lt (small1000 (by show 1 ≤ 1000; decide)), fun p np => ?_⟩
          have nDp : D2 ≠ p := ne_of_none h5 np
          refine ⟨D2, p, _, _, rfl, rfl, by rw [upd_ne nDp]; exact h5, upd_same, by rw [List.length_map]; exact Nat.le_of_lt (small1000 (by show cs.length + 1 ≤ 1000; omega)), fun p2 np2 => ?_⟩
          have s6 : Same H3 (upd (upd H5 p (.lst [.int 41])) p2 (.lst (cs.map V.int ++ [.int 41]))) := (s5.trans (same_new np)).trans (same_new np2)
          have h6 : (upd (upd H5 p (.lst [.int 41])) p2 (.lst (cs.map V.int ++ [.int 41]))) p2 = some (.lst ((cs ++ [41]).map V.int)) := by
            rw [upd_same, List.map_append]
            rfl
          generalize upd (upd H5 p (.lst [.int 41])) p2 (.lst (cs.map V.int ++ [.int 41])) = H6 at s6 h6 ⊢
          walk_at "g"
          refine ⟨Nat.le_of_lt (small1000 (by show 4 ≤ 1000; decide)), fun R nR => ?_⟩
          refine q _ R ((s3.trans s6).trans (same_new nR)) (s3.trans s6 |>.free nR) ⟨D, p2, gs, cs ++ [41], 0, st, upd_same, (same_new nR) _ _ (s6 _ _ h3), (same_new nR) _ _ h6, ?_, ?_, g0, ?_, by simp, h0, h1⟩
          · rw [List.length_map] at gl
            omega
          · rw [List.length_append]
            show cs.length + 1 ≤ 64
            omega
          · intro x hx
            rcases List.mem_append.mp hx with h | h
            · exact c0 x h
            · rw [List.mem_singleton.mp h]
              decide
/-! ### _law_draw -/
theorem dp_ints {H : Hp} : ∀ ns : List Int, DpAll K H (ns.map V.int) (ns.map PyData.int)
  | [] => .nil
  | n :: ns => .cons (.int n) (dp_ints ns)
theorem ints_lay : ∀ ns : List Int, PyData.canLayAll0 (ns.map PyData.int) = true ∧ PyData.depthAll (ns.map PyData.int) ≤ 1
  | [] => by simp [PyData.canLayAll0, PyData.depthAll]
  | n :: ns => by
    have h := ints_lay ns
    simp only [List.map_cons, PyData.canLayAll0, PyData.depthAll, PyData.canLay0, PyData.depth, Bool.true_and]
    exact ⟨h.1, by omega⟩
theorem ints_shaped (ns : List Int) : SeqAt.shaped (.list (ns.map PyData.int)) = true := by
  have h := ints_lay ns
  have h2 : PyData.depth (.list (ns.map PyData.int)) ≤ 64 := by
    simp only [PyData.depth]
    omega
  show (PyData.canLay0 (.list (ns.map PyData.int)) && decide (PyData.depth (.list (ns.map PyData.int)) ≤ 64)) = true
  rw [Bool.and_eq_true]
  exact ⟨by simp only [PyData.canLay0]; exact h.1, decide_eq_true h2⟩
abbrev s_law_draw : Stmt := topS 38
abbrev N_law_draw : List Str := ["reel", "many", "rest", "told", "stir"]
theorem sc_law_draw : FnScope N_law_draw ["reel", "many"] (defScope s_law_draw) := ⟨rfl, rfl, rfl, by decide +kernel, rfl, by decide +kernel, by decide +kernel⟩
def spDraw : Sp := fun vs H Q _ => ∃ (R : Addr) (m : Int), vs = [.ref R, .int m] ∧ 0 < m ∧ m ≤ 1000 ∧ ReelOk R H ∧
  ∀ H' r, Keep R H H' → ReelOk R H' → (∀ D, H D ≠ none → Away R D H → Away R D H') → 0 ≤ r → r < m → Q (.int r) H'
theorem ok_law_draw {f : Addr} {fd : FuncData} (F : Fun K "_law_draw" "_law_draw" s_law_draw f fd) (m_len : mg "len" = none) (m_int : mg "int" = none) : FnOk P w K mg base CX0 1 f fd ["reel", "many"] spDraw := by
  refine F.ok sc_law_draw (fun vs H Q E h => ?_) (fun cdv A outer s H vs Q E hr h => ?_)
  · obtain ⟨R, m, rfl, _⟩ := h
    rfl
  · obtain ⟨R, m, rfl, hm0, hm1, ⟨g, c, gs, cs, n, st, r⟩, q⟩ := h
    have nd := sc_law_draw.nd
    refine ⟨_, (pss_cons (ps_if (pt_cmpR (kNeD K rfl hr.units) (pe_ix (kIxL K rfl) (pv 0) pe_int (fun _ _ => rfl)) (pe_lst pa_nil) (nomark _)) (pss_cons (ps_set (i := 2) nd rfl (.inl rfl) (pe_ix (kIxL K rfl) (pe_ix (kIxL K rfl) (pv 0) pe_int (fun _ _ => rfl)) pe_int (fun _ _ => rfl)))
      (pss_cons (ps_asg (pe_op op_cat (pe_op op_rep (pe_lst (pa_cons (pe_op op_fdivN (pv 2) (pv 1)) pa_nil)) (pe_callTy call_int1 (by rfl) m_int (by decide +kernel) (pa_cons (pe_cmpR op_ge (pv 2) (pv 1) (nomark _)) pa_nil))) (pe_slice (kSlL K rfl) (pe_ix (kIxL K rfl) (pv 0) pe_int (fun _ _ => rfl)) (po_some pe_int) po_none)) (pg_sub (pv 0) pe_int set_list))
      (pss_one (ps_ret (pe_op op_modN (pv 2) (pv 1)))))) pss_nil)
      (pss_cons (ps_asg (pe_op op_add (pe_ix (kIxL K rfl) (pv 0) pe_int (fun _ _ => rfl)) pe_int) (pg_sub (pv 0) pe_int set_list))
      (pss_cons (ps_set (i := 3) nd rfl (.inl rfl) (pe_ix (kIxL K rfl) (pe_ix (kIxL K rfl) (pv 0) pe_int (fun _ _ => rfl)) (pe_op op_modN (pe_ix (kIxL K rfl) (pv 0) pe_int (fun _ _ => rfl)) (pe_callB (kLen K rfl) (by rfl) m_len (by decide +kernel) (pa_cons (pe_ix (kIxL K rfl) (pv 0) pe_int (fun _ _ => rfl)) pa_nil))) (fun _ _ => rfl)))
      (pss_cons (ps_set (i := 4) nd rfl (.inl rfl) (pe_op op_add (pe_op op_add (pe_op op_mulW (pe_ix (kIxL K rfl) (pv 0) pe_int (fun _ _ => rfl)) (pe_ix (kIxL K rfl) (pv 0) pe_int (fun _ _ => rfl))) (pe_op op_mul (pe_op op_add (pv 3) pe_int) pe_int)) (pe_op op_mul (pe_ix (kIxL K rfl) (pv 0) pe_int (fun _ _ => rfl)) pe_int)))
      (pss_cons (ps_asg (pe_op op_modN (pv 4) (pe_op op_sub (pe_op op_mulW (pe_op op_pow pe_int pe_int) (pe_op op_pow pe_int pe_int)) pe_int)) (pg_sub (pv 0) pe_int set_list))
      (pss_one (ps_ret (pe_op op_modN (pe_op op_fdivW (pe_ix (kIxL K rfl) (pv 0) pe_int (fun _ _ => rfl)) (pe_op op_pow pe_int pe_int)) (pv 1))))))))), ?_⟩
    refine ⟨.ref R, rfl, R, _, 0, .ref g, rfl, rfl, .inl (.inl r.r), rfl, Nat.zero_le _, fun p np => ?_⟩
    have s1 : Same H (upd H p (.lst [])) := same_new np
    refine ⟨.list (gs.map PyData.int), .list [], .lst (.inl (.inl (s1 _ _ r.g))) (dp_ints gs), .lst (.inl (.inl upd_same)) .nil, ints_shaped gs, by decide, ?_⟩
    generalize upd H p (.lst []) = H1 at s1 ⊢
    walk_at "g"
    cases gs with
    | cons x gs' =>
      refine iteT ?_
      walk_at "g"
      refine ⟨R, _, 0, .ref g, rfl, rfl, .inl (.inl (s1 _ _ r.r)), rfl, ?_⟩
      walk_at "g"
      refine ⟨g, _, 0, .int x, rfl, rfl, .inl (.inl (s1 _ _ r.g)), atI_nat (j := 0) rfl, ?_⟩
      walk_at "g"
      have mb : CDivN x m := ⟨by omega, by omega⟩
      refine ⟨mb, Nat.le_of_lt (small1000 (by show 1 ≤ 1000; decide)), fun p1 np1 => ?_⟩
      have s2 : Same H (upd H1 p1 (.lst [.int (x.fdiv m)])) := s1.trans (same_new np1)
      have h2 : (upd H1 p1 (.lst [.int (x.fdiv m)])) p1 = some (.lst [.int (x.fdiv m)]) := upd_same
      generalize upd H1 p1 (.lst [.int (x.fdiv m)]) = H2 at s2 h2 ⊢
      walk_at "g"
      refine .inr ⟨_, rfl, ?_⟩
      have hk : ∃ kk : Nat, kk ≤ 1 ∧ (if decide (m ≤ x) = true then (1 : Int) else 0) = (kk : Int) := by
        by_cases h : m ≤ x
        · exact ⟨1, Nat.le_refl _, by rw [if_pos (decide_eq_true h)]; rfl⟩
        · exact ⟨0, Nat.zero_le _, by rw [if_neg (by rw [decide_eq_true_eq]; exact h)]; rfl⟩
      obtain ⟨kk, hk1, hk⟩ := hk
      rw [hk]
      have hx0 : 0 ≤ x := r.g0 x List.mem_cons_self
      have hq0 : 0 ≤ x.fdiv m := Int.fdiv_nonneg hx0 (by omega)
      refine ⟨p1, _, _, rfl, rfl, h2, by omega, by omega, ?_, fun p2 np2 => ?_⟩
      · show 1 * (kk : Int).toNat ≤ sizeLine
        exact Nat.le_of_lt (small1000 (by omega))
      have el : (List.replicate (kk : Int).toNat [V.int (x.fdiv m)]).flatten = (List.replicate kk (x.fdiv m)).map V.int := by
        rw [Int.toNat_natCast]
        match kk, hk1 with
        | 0, _ => rfl
        | 1, _ => rfl
      rw [el]
      have s3 : Same H (upd H2 p2 (.lst ((List.replicate kk (x.fdiv m)).map V.int))) := s2.trans (same_new np2)
      have h3 : (upd H2 p2 (.lst ((List.replicate kk (x.fdiv m)).map V.int))) p2 = some (.lst ((List.replicate kk (x.fdiv m)).map V.int)) := upd_same
      generalize upd H2 p2 (.lst ((List.replicate kk (x.fdiv m)).map V.int)) = H3 at s3 h3 ⊢
      refine ⟨.ref R, rfl, R, _, 0, .ref g, rfl, rfl, .inl (.inl (s3 _ _ r.r)), rfl, ?_⟩
      walk_at "g"
      refine ⟨g, _, rfl, .inl (.inl (s3 _ _ r.g)), fun p3 np3 => ?_⟩
      rw [cut_from1]
      have s4 : Same H (upd H3 p3 (.lst (((x :: gs').map V.int).drop 1))) := s3.trans (same_new np3)
      have h4 : (upd H3 p3 (.lst (((x :: gs').map V.int).drop 1))) p3 = some (.lst (gs'.map V.int)) := upd_same
      have h4' := same_new (o := .lst (((x :: gs').map V.int).drop 1)) np3 _ _ h3
      generalize upd H3 p3 (.lst (((x :: gs').map V.int).drop 1)) = H4 at s4 h4 h4' ⊢
      have gl := r.gl
      rw [List.length_cons] at gl
      refine ⟨p2, p3, _, _, rfl, rfl, h4', h4, ?_, fun p4 np4 => ?_⟩
      · rw [List.length_map, List.length_map, List.length_replicate]
        exact Nat.le_of_lt (small1000 (by omega))
      rw [← List.map_append]
      have s5 : Same H (upd H4 p4 (.lst ((List.replicate kk (x.fdiv m) ++ gs').map V.int))) := s4.trans (same_new np4)
      have h5 : (upd H4 p4 (.lst ((List.replicate kk (x.fdiv m) ++ gs').map V.int))) p4 = some (.lst ((List.replicate kk (x.fdiv m) ++ gs').map V.int)) := upd_same
      have n4 : p4 ≠ R := fun z => by
        rw [z, s4 _ _ r.r] at np4
        cases np4
      generalize upd H4 p4 (.lst ((List.replicate kk (x.fdiv m) ++ gs').map V.int)) = H5 at s5 h5 ⊢
      walk_at "g"
      refine ⟨R, _, 0, 0, rfl, rfl, s5 _ _ r.r, rfl, ?_⟩
      walk_at "g"
      have nc : c ≠ R := ne_of r.c r.r (by
        intro z
        have q := List.map_eq_cons_iff.mp (HO.lst.inj z)
        obtain ⟨a, l, _, e, _⟩ := q
        cases e)
      have new : Reel R p4 c (List.replicate kk (x.fdiv m) ++ gs') cs n st (upd H5 R (.lst [.ref p4, .ref c, .int n, .int st])) := ?new
      refine ⟨by omega, q _ _ ((Keep.of s5).trans keep_set) ⟨p4, c, _, cs, n, st, new⟩ (fun D hD hA => ?_) (fmod_pos hm0).1 (fmod_pos hm0).2⟩
      · obtain ⟨g2, c2, _, _, _, _, r2, z1, z2, z3⟩ := hA
        have e := lst_inj r.r r2.r
        injection e with _ e
        injection e with e _
        injection e with e
        subst e
        refine ⟨p4, c, _, _, _, _, new, z1, fun z => hD ?_, z3⟩
        rw [z]
        exact s4.free np4
      refine ⟨upd_same, by rw [upd_ne n4]; exact h5, by rw [upd_ne nc]; exact s5 _ _ r.c, ?_, r.cl, ?_, r.c0, r.ne, r.s0, r.s1⟩
      · rw [List.length_append, List.length_replicate]
        omega
      · intro y hy
        rcases List.mem_append.mp hy with h | h
        · rw [List.eq_of_mem_replicate h]
          exact hq0
        · exact r.g0 y (List.mem_cons_of_mem _ h)
    | nil =>
      refine iteF ?_
      walk_at "g"
      refine ⟨R, _, 2, .int n, rfl, rfl, .inl (.inl (s1 _ _ r.r)), rfl, ?_⟩
      walk_at "g"
      refine ⟨R, _, 2, 2, rfl, rfl, s1 _ _ r.r, rfl, ?_⟩
      have h2 : (upd H1 R (.lst [.ref g, .ref c, .int (n + 1), .int st])) R = some (.lst [.ref g, .ref c, .int (n + 1), .int st]) := upd_same
      have ng : g ≠ R := ne_of r.g r.r (by intro z; cases z)
      have nc : c ≠ R := ne_of r.c r.r (by
        intro z
        have q := List.map_eq_cons_iff.mp (HO.lst.inj z)
        obtain ⟨a, l, _, e, _⟩ := q
        cases e)
      have k2 : Keep R H (upd H1 R (.lst [.ref g, .ref c, .int (n + 1), .int st])) := (Keep.of s1).trans keep_set
      show tSeq _ _ _ _ (upd H1 R (.lst [.ref g, .ref c, .int (n + 1), .int st]))
      generalize upd H1 R (.lst [.ref g, .ref c, .int (n + 1), .int st]) = H2 at k2 h2 ⊢
      have hc2 : H2 c = some (.lst (cs.map V.int)) := k2 _ _ r.c nc
      have hg2 : H2 g = some (.lst []) := k2 _ _ r.g ng
      have cpos : (0 : Int) < (cs.length : Int) := by
        have := List.length_pos_iff.mpr r.ne
        omega
      walk_at "g"
      refine ⟨R, _, 1, .ref c, rfl, rfl, .inl (.inl h2), rfl, ?_⟩
      walk_at "g"
      refine ⟨R, _, 2, .int (n + 1), rfl, rfl, .inl (.inl h2), rfl, ?_⟩
      walk_at "g"
      refine ⟨R, _, 1, .ref c, rfl, rfl, .inl (.inl h2), rfl, ?_⟩
      refine ⟨c, _, rfl, .inl (.inl (.inl hc2)), ?_⟩
      walk_at "g"
      rw [List.length_map]
      refine ⟨Int.ne_of_gt cpos, ?_⟩
      have fm := fmod_pos (a := n + 1) cpos
      obtain ⟨told, htold⟩ : ∃ t, cs[((n + 1).fmod (cs.length : Int)).toNat]? = some t := ⟨_, List.getElem?_eq_getElem (by omega)⟩
      have ct := r.c0 told (List.mem_of_getElem? htold)
      refine ⟨c, _, _, .int told, rfl, rfl, .inl (.inl hc2), at_of (j := ((n + 1).fmod (cs.length : Int)).toNat) (by omega) (by rw [List.getElem?_map, htold]; rfl), ?_⟩
      walk_at "g"
      refine ⟨R, _, 3, .int st, rfl, rfl, .inl (.inl h2), rfl, ?_⟩
      walk_at "g"
      refine ⟨R, _, 3, .int st, rfl, rfl, .inl (.inl h2), rfl, ?_⟩
      walk_at "g"
      refine ⟨wide_mul r.s1 r.s1 (by decide) (by decide) (by decide), ?_⟩
      walk_at "g"
      refine ⟨.inr (by decide), ?_⟩
      walk_at "g"
      refine ⟨R, _, 2, .int (n + 1), rfl, rfl, .inl (.inl h2), rfl, ?_⟩
      walk_at "g"
      refine ⟨.inr (by decide), ?_⟩
      walk_at "g"
      refine ⟨Int.ne_of_gt M0, ?_⟩
      have fs := fmod_pos (a := st * st + (told + 7) * 69621 + (n + 1) * 1000003) M0
      walk_at "g"
      refine ⟨R, _, 3, 3, rfl, rfl, h2, rfl, ?_⟩
      walk_at "g"
      refine ⟨R, _, 3, _, rfl, rfl, .inl (.inl upd_same), rfl, ?_⟩
      walk_at "g"
      refine ⟨wide_div (b := 41) (by decide +kernel) (by decide +kernel) (by decide) (by decide), ?_⟩
      walk_at "g"
      have k3 := k2.trans (keep_set (o := .lst [.ref g, .ref c, .int (n + 1), .int ((st * st + (told + 7) * 69621 + (n + 1) * 1000003).fmod (2 ^ (64 : Int).toNat * 2 ^ (63 : Int).toNat - 1))]))
      have new : Reel R g c [] cs (n + 1) _ (upd H2 R (.lst [.ref g, .ref c, .int (n + 1), .int ((st * st + (told + 7) * 69621 + (n + 1) * 1000003).fmod (2 ^ (64 : Int).toNat * 2 ^ (63 : Int).toNat - 1))])) := ⟨upd_same, k3 _ _ r.g ng, k3 _ _ r.c nc, r.gl, r.cl, r.g0, r.c0, r.ne, fs.1, natAbs_M fs.1 fs.2⟩
      refine ⟨by omega, q _ _ k3 ⟨g, c, [], cs, n + 1, _, new⟩ (fun D hD hA => ?_) (fmod_pos hm0).1 (fmod_pos hm0).2⟩
      obtain ⟨g2, c2, _, _, _, _, r2, z1, z2, z3⟩ := hA
      have e := lst_inj r.r r2.r
      injection e with e1 e
      injection e with e _
      injection e with e
      injection e1 with e1
      subst e e1
      exact ⟨g, c, _, _, _, _, new, z1, z2, z3⟩
end
end Bk

namespace Bk
open PySem PySem.Spec PyProof.Rows L2
local macro_rules | `(tactic| walk_at "g") => `(tactic| (repeat first | refine ⟨_, rfl, ?_⟩ | refine ⟨cpow, ?_⟩ | refine ⟨wideM, ?_⟩ | refine ⟨_, _, rfl, rfl, ?_⟩ | refine ⟨rfl, ?_⟩))
section
variable {P : Program} {w : World} {K : PySem.W.Frag} {mg : Str → Option Value} {base : Heap}
/-! ### _law_turns -/
abbrev s_law_turns : Stmt := topS 39
abbrev N_law_turns : List Str := ["found", "a", "b", "c"]
theorem sc_law_turns : FnScope N_law_turns [] (defScope s_law_turns) := ⟨rfl, rfl, rfl, by decide +kernel, rfl, by decide +kernel, by decide +kernel⟩
def TsAt (H : Hp) (p : Addr) (ts : List Trn) : Prop := ∃ rs, H p = some (.lst rs) ∧ Paired (TAt H) rs ts
def spTurns : Sp := fun vs H Q _ => vs = [] ∧ ∀ H' p, Same H H' → H p = none → TsAt H' p allTurns → Q (.ref p) H'
theorem intV_eq (a b : Nat) : eqV (intV a) (intV b) = (a == b) := by
  show ((a : Int) == (b : Int)) = (a == b)
  by_cases h : a = b
  · subst h
    simp
  · rw [beq_eq_false_iff_ne.mpr h]
    exact beq_eq_false_iff_ne.mpr (by omega)
theorem ne_int (a b : Nat) : (!decide ((V.int (a : Int)) = V.int (b : Int))) = !(a == b) := by
  by_cases h : a = b
  · subst h
    simp
  · rw [beq_eq_false_iff_ne.mpr h]
    rw [decide_eq_false (fun z => h (by injection z with z; omega))]
theorem six_sub {a b c : Nat} (h : (c < 4) ∧ a < 4 ∧ b < 4) (hb : (b == a) = false) (hc : (a == c || b == c) = false) : (6 : Int) - a - b - c = ((6 - a - b - c : Nat) : Int) := by
  simp at hb hc
  omega
theorem bs_lt {a b : Nat} (h : b ∈ bsOf a) : b < 4 ∧ (b == a) = false := by
  unfold bsOf at h
  rw [List.mem_filter, List.mem_range] at h
  exact ⟨h.1, by simpa using h.2⟩
theorem turns_few : ∀ a < 4, ∀ j < 5, (turnsTo a ++ ((bsOf a).take j).flatMap (turnsAB a)).length ≤ 24 := by decide +kernel
theorem bs_len (a : Nat) : (bsOf a).length ≤ 4 := by
  have := List.length_filter_le (fun b => !(b == a)) (List.range 4)
  rw [List.length_range] at this
  exact this
theorem ok_law_turns {f : Addr} {fd : FuncData} (F : Fun K "_law_turns" "_law_turns" s_law_turns f fd) (m_range : mg "range" = none) : FnOk P w K mg base CX0 1 f fd [] spTurns := by
  refine F.ok sc_law_turns (fun vs H Q E h => ?_) (fun cdv A outer s H vs Q E hr h => ?_)
  · obtain ⟨rfl, _⟩ := h
    rfl
  · obtain ⟨rfl, q⟩ := h
    have nd := sc_law_turns.nd
    refine ⟨_, (pss_cons (ps_set (i := 0) nd rfl (.inl rfl) (pe_lst pa_nil))
      (pss_cons (ps_for PassesOwn.never rfl (pi_range1 (by rfl) m_range (pa_cons pe_int pa_nil)) (pg_name (i := 1) nd rfl (.inr rfl)) (pss_one (ps_for PassesOwn.never rfl (kPiL K rfl (pi_list (pe_lc (own := [("b", 2)]) (g := gName 2) rfl nd (pi_range1 (by rfl) m_range (pa_cons pe_int pa_nil)) (blkOk_by (own := [("b", 2)]) (N := N_law_turns) (sc := defScope s_law_turns) (by decide +kernel)) (fun _ _ _ _ _ => (pg_name (i := 2) nd rfl (Or.inl rfl))) (fun _ _ _ _ _ => (pts_one (pt_cmpR op_ne (pv 2) (pv 1) (nomark _)))) (fun _ _ _ _ _ => (pv 2))))) (pg_name (i := 2) nd rfl (.inr rfl)) (pss_one (ps_expr (kBM K rfl (pe_bm PySem.F.plainAttrs_list PySem.F.slot_list_extend PySem.F.type_list_extend mt_extend (pv 0) (pa_cons (pe_lc (own := [("c", 3)]) (g := gName 3) rfl nd (pi_range1 (by rfl) m_range (pa_cons pe_int pa_nil)) (blkOk_by (own := [("c", 3)]) (N := N_law_turns) (sc := defScope s_law_turns) (by decide +kernel)) (fun _ _ _ _ _ => (pg_name (i := 3) nd rfl (Or.inl rfl))) (fun _ _ _ _ _ => (pts_one (pt_cmpR (kNotIn K rfl) (pv 3) (pe_tupF (pa_cons (pv 1) (pa_cons (pv 2) pa_nil))) (by rfl)))) (fun _ _ _ _ _ => (pe_tupF (pa_cons (pv 1) (pa_cons (pv 2) (pa_cons (pv 3) (pa_cons (pe_op op_sub (pe_op op_sub (pe_op op_sub pe_int (pv 1)) (pv 2)) (pv 3)) pa_nil))))))) pa_nil))))))))
      (pss_one (ps_ret (pv 0))))), ?_⟩
    refine ⟨Nat.zero_le _, fun p np => ⟨4, rfl, by decide, by decide, ?_⟩⟩
    refine for_range (lo := 0) (n := 4) (fun i σ H' => ∃ y1 y2 rs, σ = [some (.ref p), y1, y2, none] ∧ H' p = some (.lst rs) ∧ Paired (TAt H') rs (turnsTo i) ∧ Same H H') ⟨none, none, [], rfl, upd_same, .nil, same_new np⟩ ?_ ?_
    · rintro a σ H1 ha ⟨y1, y2, rs, rfl, h1, t1, s1⟩
      rw [Int.zero_add]
      refine ⟨4, rfl, by decide, by decide, fun D nD => ?_⟩
      refine lc_range (lo := 0) (n := 4) (fun i H2 => H2 = upd H1 D (.lst (((List.range i).filter fun b => !(b == a)).map intV))) rfl ?_ ?_
      · rintro b H2 hb rfl
        rw [Int.zero_add]
        refine ⟨rfl, ?_⟩
        walk_at "g"
        rw [ne_int]
        refine ite2 (fun e => ?_) (fun e => ?_)
        · walk_at "g"
          refine ⟨_, upd_same, small1000 (Nat.le_trans (by rw [List.length_map]; exact Nat.le_trans (List.length_filter_le _ _) (by rw [List.length_range]; exact Nat.le_of_lt hb)) (by decide : 4 ≤ 1000)), ?_⟩
          rw [upd_upd, range_filter_succ, if_pos e, List.map_append]
          rfl
        · rw [range_filter_succ, if_neg e, List.append_nil]
      · rintro H2 rfl
        have nDp : D ≠ p := fun z => by
          rw [z, h1] at nD
          cases nD
        refine ⟨D, rfl, ⟨_, .inl (.inl upd_same)⟩, ?_⟩
        refine for_list (xs := (bsOf a).map intV) (fun j σ H2 => ∃ y2 rs, σ = [some (.ref p), some (intV a), y2, none] ∧ H2 p = some (.lst rs) ∧ Paired (TAt H2) rs (turnsTo a ++ ((bsOf a).take j).flatMap (turnsAB a)) ∧ H2 D = some (.lst ((bsOf a).map intV)) ∧ Same H H2) ⟨y2, rs, rfl, by rw [upd_ne nDp.symm]; exact h1, by
            rw [List.take_zero, List.flatMap_nil, List.append_nil]
            exact pmono t1 fun _ _ h => h.mono (same_new nD).tups, upd_same, s1.trans (same_new nD)⟩ ?_ ?_ ?_
        · rintro j σ H2 _ ⟨y2, rs, rfl, h2, t2, hD, s2⟩
          exact .inl (.inl hD)
        · rintro j x σ H2 hx ⟨y2, rs, rfl, h2, t2, hD, s2⟩
          rw [List.getElem?_map] at hx
          cases hb : (bsOf a)[j]? with
          | none =>
            rw [hb] at hx
            cases hx
          | some b =>
            rw [hb] at hx
            injection hx with hx
            subst hx
            obtain ⟨hb4, hba⟩ := bs_lt (List.mem_of_getElem? hb)
            walk_at "g"
            refine ⟨.inl ⟨rfl, _, .inl (.inl h2)⟩, ?_⟩
            refine ⟨4, rfl, by decide, by decide, fun D2 nD2 => ?_⟩
            refine lc_range (lo := 0) (n := 4) (fun i H3 => ∃ qs, H3 D2 = some (.lst qs) ∧ Paired (TAt H3) qs (((List.range i).filter fun c => !(a == c || b == c)).map fun c => [a, b, c, 6 - a - b - c]) ∧ Same H2 H3) ⟨[], upd_same, .nil, same_new nD2⟩ ?_ ?_
            · rintro c H3 hc ⟨qs, h3, t3, s3⟩
              rw [Int.zero_add]
              refine ⟨rfl, ?_⟩
              walk_at "g"
              refine ⟨Nat.le_of_lt (small1000 (by show 2 ≤ 1000; decide)), fun p2 o2 np2 d2 => ?_⟩
              refine ⟨p2, [intV a, intV b], rfl, .inr (FT.new d2).sqt, rfl, rfl, ?_⟩
              have e0 : inV (V.int (c : Int)) [intV a, intV b] = (a == c || b == c) := by
                show (eqV (intV a) (intV c) || (eqV (intV b) (intV c) || false)) = (a == c || b == c)
                rw [intV_eq, intV_eq, Bool.or_false]
              rw [if_pos rfl, e0]
              have s4 : Same H3 (upd H3 p2 (.frz o2 (.tup [intV a, intV b]))) := same_new np2
              generalize upd H3 p2 (.frz o2 (.tup [intV a, intV b])) = H4 at s4 ⊢
              refine ⟨_, rfl, ite2 (fun e => ?_) (fun e => ?_)⟩
              · walk_at "g"
                refine ⟨Nat.le_of_lt (small1000 (by show 4 ≤ 1000; decide)), fun p3 o3 np3 d3 => ?_⟩
                have e5 : ([intV a, intV b, intV c, V.int (6 - (a : Int) - b - c)] : List V) = trnV [a, b, c, 6 - a - b - c] := congrArg (fun z => [intV a, intV b, intV c, V.int z]) (six_sub ⟨hc, ha, hb4⟩ hba (by simpa using e))
                have s5 : Same H4 (upd H4 p3 (.frz o3 (.tup [intV a, intV b, intV c, V.int (6 - (a : Int) - b - c)]))) := same_new np3
                have h5 := s5 _ _ (s4 _ _ h3)
                have h6 : FT (upd H4 p3 (.frz o3 (.tup [intV a, intV b, intV c, V.int (6 - (a : Int) - b - c)]))) p3 (trnV [a, b, c, 6 - a - b - c]) := ⟨o3, d3, by rw [upd_same, e5]⟩
                have l5 := plen t3
                refine ⟨qs, h5, small1000 (by
                  rw [l5, List.length_map]
                  exact Nat.le_trans (List.length_filter_le _ _) (by rw [List.length_range]; omega)), qs ++ [.ref p3], upd_same, ?_, ?_⟩
                · rw [range_filter_succ, if_pos e, List.map_append]
                  refine papp (pmono t3 fun _ _ h => h.mono ((s4.trans s5).tups.trans (tups_set h5))) (.cons ⟨p3, rfl, ?_⟩ .nil)
                  exact h6.mono (tups_set h5)
                · exact same_fill (s3.trans (s4.trans s5)) nD2
              · rw [range_filter_succ, if_neg e, List.append_nil]
                exact ⟨qs, s4 _ _ h3, pmono t3 fun _ _ h => h.mono s4.tups, s3.trans s4⟩
            · rintro H3 ⟨qs, h3, t3, s3⟩
              have l3 := plen t3
              have l2 := plen t2
              refine ⟨p, D2, rs, qs, rfl, rfl, s3 _ _ h2, h3, ?_, ?_⟩
              · have hj : j < (bsOf a).length := (List.getElem?_eq_some_iff.mp hb).1
                have hj4 := bs_len a
                have hA := turns_few a ha j (by omega)
                have hB : (((List.range 4).filter fun c => !(a == c || b == c)).map fun c => [a, b, c, 6 - a - b - c]).length ≤ 4 := by
                  rw [List.length_map]
                  exact List.length_filter_le _ _
                exact Nat.le_of_lt (small1000 (by omega))
              · refine ⟨_, rs ++ qs, rfl, upd_same, ?_, ?_, ?_⟩
                · rw [List.take_add_one, hb, List.flatMap_append, ← List.append_assoc]
                  have hh := s3 _ _ h2
                  refine papp (pmono t2 fun _ _ h => h.mono (s3.tups.trans (tups_set hh))) ?_
                  show Paired _ qs (turnsAB a b ++ [])
                  rw [List.append_nil]
                  exact pmono t3 fun _ _ h => h.mono (tups_set hh)
                · rw [upd_ne nDp]
                  exact s3 _ _ hD
                · intro b o e
                  rw [upd_ne (ne_of_none e np)]
                  exact s3 _ _ (s2 _ _ e)
        · rintro σ H2 ⟨y2, rs, rfl, h2, t2, hD, s2⟩
          refine ⟨some (intV a), y2, rs, rfl, h2, ?_, s2⟩
          rw [turnsTo_succ]
          rw [List.length_map, List.take_length] at t2
          exact t2
    · rintro σ H1 ⟨y1, y2, rs, rfl, h1, t1, s1⟩
      walk_at "g"
      exact q H1 p s1 np ⟨rs, h1, t1⟩
end
end Bk

namespace Bk
open PySem PySem.Spec PyProof.Rows L2
local macro_rules | `(tactic| walk_at "g") => `(tactic| (repeat first | refine ⟨_, rfl, ?_⟩ | refine ⟨cpow, ?_⟩ | refine ⟨wideM, ?_⟩ | refine ⟨_, _, rfl, rfl, ?_⟩ | refine ⟨rfl, ?_⟩))
section
variable {P : Program} {w : World} {K : PySem.W.Frag} {mg : Str → Option Value} {base : Heap}
/-! ### _law_back -/
abbrev s_law_back : Stmt := topS 40
abbrev N_law_back : List Str := ["turn", "corner"]
theorem sc_law_back : FnScope N_law_back ["turn"] (defScope s_law_back) := ⟨rfl, rfl, rfl, by decide +kernel, rfl, by decide +kernel, by decide +kernel⟩
def spBack : Sp := fun vs H Q _ => ∃ v t, vs = [v] ∧ TAt H v t ∧ t ∈ allTurns ∧ ∀ H' p, Same H H' → H p = none → TAt H' (.ref p) (back t) → Q (.ref p) H'
theorem idx_int {t : Trn} {x : Nat} : (t.map fun c : Nat => (c : Int)).idxOf (x : Int) = t.idxOf x := by
  induction t with
  | nil => rfl
  | cons y r ih =>
    rw [List.map_cons, List.idxOf_cons, List.idxOf_cons, ih]
    by_cases h : y = x
    · subst h
      simp
    · rw [beq_eq_false_iff_ne.mpr h, beq_eq_false_iff_ne.mpr (show (y : Int) ≠ x by omega)]
theorem ok_law_back {f : Addr} {fd : FuncData} (F : Fun K "_law_back" "_law_back" s_law_back f fd) (m_range : mg "range" = none) (m_tuple : mg "tuple" = none) : FnOk P w K mg base CX0 1 f fd ["turn"] spBack := by
  refine F.ok sc_law_back (fun vs H Q E h => ?_) (fun cdv A outer s H vs Q E hr h => ?_)
  · obtain ⟨v, t, rfl, _⟩ := h
    rfl
  · obtain ⟨v, t, rfl, ⟨p, rfl, hp⟩, ht, q⟩ := h
    have nd := sc_law_back.nd
    refine ⟨_, (pss_one (ps_ret (pe_callTy (kTupleF K rfl) (by rfl) m_tuple (by decide +kernel) (pa_cons (pe_lc (own := [("corner", 1)]) (g := gName 1) (tt := tYes) rfl nd (pi_range1 (by rfl) m_range (pa_cons pe_int pa_nil)) (blkOk_by (own := [("corner", 1)]) (N := N_law_back) (sc := defScope s_law_back) (by decide +kernel)) (fun _ _ _ _ _ => (pg_name (i := 1) nd rfl (Or.inl rfl))) (fun _ _ _ _ _ => pts_nil) (fun _ _ _ _ _ => (pe_bmF PySem.F.plainAttrs_tuple PySem.F.slot_tuple_index PySem.F.type_tuple_index (kTupIx K rfl) (pv 0) (pa_cons (pv 1) pa_nil)))) pa_nil)))), ?_⟩
    refine ⟨4, rfl, by decide, by decide, fun D nD => ?_⟩
    have hpD : FT (upd H D (.lst [])) p (trnV t) := hp.mono (same_new nD).tups
    refine lc_range (lo := 0) (n := 4) (fun i H2 => H2 = upd H D (.lst (((List.range i).map fun c => t.idxOf c).map intV))) rfl ?_ ?_
    · rintro c H2 hc rfl
      rw [Int.zero_add]
      refine ⟨rfl, ?_⟩
      refine ⟨.ref p, rfl, ⟨p, _, rfl, hp.mono (same_new nD).tups⟩, ?_⟩
      walk_at "g"
      have t4 := turns4 t ht
      have e1 : trnV t = (t.map fun c : Nat => (c : Int)).map V.int := by
        rw [List.map_map]
        rfl
      have hm : (c : Int) ∈ t.map fun c : Nat => (c : Int) := List.mem_map_of_mem (List.mem_of_getElem? (t4.2.2.2.1 c hc))
      refine ⟨p, t.map fun c : Nat => (c : Int), c, rfl, rfl, ?_, hm, ?_⟩
      · rw [← e1]
        exact (hp.mono (same_new nD).tups).sqt
      rw [idx_int]
      refine ⟨_, upd_same, small1000 (by rw [List.length_map, List.length_map, List.length_range]; omega), ?_⟩
      rw [upd_upd, List.range_succ, List.map_append, List.map_append]
      rfl
    · rintro H2 rfl
      refine ⟨D, _, rfl, .inl ⟨.inl (.inl upd_same), fun p2 o2 np2 d2 => ?_⟩⟩
      exact q _ p2 ((same_new nD).trans (same_new np2)) ((same_new nD).free np2) ⟨p2, rfl, FT.new d2⟩
/-! ### _law_set -/
abbrev s_law_set : Stmt := topS 41
abbrev N_law_set : List Str := ["blocks", "block", "face", "other", "turn"]
theorem sc_law_set : FnScope N_law_set ["blocks", "block", "face", "other", "turn"] (defScope s_law_set) := ⟨rfl, rfl, rfl, by decide +kernel, rfl, by decide +kernel, by decide +kernel⟩
def spSet : Sp := fun vs H Q _ => ∃ (l : Addr) (rs : List V) (s : Spc) (b f n : Nat) (v : V) (t : Trn), vs = [.ref l, intV b, intV f, intV n, v] ∧ SpAt H l rs s ∧ L4 s ∧ TAt H v t ∧ t ∈ allTurns ∧ b < s.length ∧ f < 4 ∧ n < s.length ∧ s.length ≤ 1000 ∧
  ∀ H', KeepB rs H H' → SpAt H' l rs (joinJ s b f n t) → Q .non H'
theorem plen' {α β : Type} {F : α → β → Prop} {xs : List α} {ys : List β} (h : Paired F xs ys) {i : Nat} (hi : i < ys.length) : ∃ x y, xs[i]? = some x ∧ ys[i]? = some y ∧ F x y := by
  obtain ⟨x, h1, h2⟩ := pget h (List.getElem?_eq_getElem hi)
  exact ⟨x, _, h1, List.getElem?_eq_getElem hi, h2⟩
theorem pset {α β : Type} {F : α → β → Prop} {a : α} {b : β} (r : F a b) : ∀ {xs : List α} {ys : List β} (i : Nat), Paired F xs ys → Paired F (xs.set i a) (ys.set i b)
  | _, _, _, .nil => .nil
  | _, _, 0, .cons _ t => .cons r t
  | _, _, i + 1, .cons q t => .cons q (pset r i t)
/-- a store into one block: the others stand -/
theorem SpAt.set {H : Hp} {l : Addr} {rs : List V} {s : Spc} (h : SpAt H l rs s) {b f : Nat} {p : Addr} {vs : List V} {v : V} {j : Jn} (hb : rs[b]? = some (.ref p)) (hp : H p = some (.lst vs)) (hj : JAt H v j) :
    SpAt (upd H p (.lst (vs.set f v))) l rs (setJ s b f j) ∧ KeepB rs H (upd H p (.lst (vs.set f v))) := by
  have hm := List.mem_of_getElem? hb
  have hpl : l ≠ p := fun z => h.out (by rw [z]; exact hm)
  have tp := tups_set (o := .lst (vs.set f v)) hp
  refine ⟨⟨by rw [upd_ne hpl]; exact h.l, ?_, h.nd⟩, fun c o e n => ?_⟩
  · have hB := h.b
    have hN := h.nd
    have key : ∀ (xs : List V) (ys : Spc) (i : Nat), Paired (BAt H) xs ys → xs.Nodup → (xs[i]? = some (.ref p)) → Paired (BAt (upd H p (.lst (vs.set f v)))) xs (ys.modify i fun l => l.set f j) := by
      intro xs ys i hP
      induction hP generalizing i with
      | nil => intro _ hi; simp at hi
      | @cons a y xs ys r t ih =>
        intro nd hi
        rw [List.nodup_cons] at nd
        cases i with
        | zero =>
          have ea : a = .ref p := by simpa using hi
          subst ea
          rw [List.modify_zero_cons]
          refine .cons ?_ ?_
          · obtain ⟨p', vs', e1, e2, e3⟩ := r
            injection e1 with e1
            subst e1
            have := lst_inj hp e2
            subst this
            exact ⟨p, _, rfl, upd_same, pset (hj.mono tp) f (pmono e3 fun _ _ z => z.mono tp)⟩
          · clear ih
            have nm := nd.1
            have go : ∀ (xs : List V) (ys : Spc), Paired (BAt H) xs ys → V.ref p ∉ xs → Paired (BAt (upd H p (.lst (vs.set f v)))) xs ys := by
              intro xs ys hQ
              induction hQ with
              | nil => intro _; exact .nil
              | cons r t ih =>
                intro hn
                refine .cons (r.mono tp fun q xs e1 e2 => ?_) (ih fun z => hn (List.mem_cons_of_mem _ z))
                rw [upd_ne (fun z => hn (by rw [e1, z]; exact List.mem_cons_self))]
                exact e2
            exact go _ _ t nm
        | succ i =>
          rw [List.modify_succ_cons]
          refine .cons (r.mono tp fun q xs e1 e2 => ?_) (ih i nd.2 (by simpa using hi))
          rw [upd_ne (fun z => nd.1 (by rw [e1, z]; exact List.mem_of_getElem? (show _ = some (V.ref p) by simpa using hi)))]
          exact e2
    exact key rs s b hB hN hb
  · rw [upd_ne (fun z => n (by rw [z]; exact hm))]
    exact e
theorem SpAt.same {H H' : Hp} {l : Addr} {rs : List V} {s : Spc} (h : SpAt H l rs s) (m : Same H H') : SpAt H' l rs s :=
  ⟨m _ _ h.l, pmono h.b fun _ _ z => z.mono m.tups fun _ _ _ e => m _ _ e, h.nd⟩
theorem SpAt.keep {R : Addr} {H H' : Hp} {l : Addr} {rs : List V} {s : Spc} (h : SpAt H l rs s) (m : Keep R H H') (r : ReelOk R H) (h4 : L4 s) (hl : l ≠ R) : SpAt H' l rs s := by
  have nR := (r.keepB (KeepB.of (Same.refl H)) h.b h4).2
  have tp := m.tups r
  refine ⟨m _ _ h.l hl, ?_, h.nd⟩
  have hb := h.b
  have go : ∀ (xs : List V) (ys : Spc), Paired (BAt H) xs ys → V.ref R ∉ xs → Paired (BAt H') xs ys := by
    intro xs ys hQ
    induction hQ with
    | nil => intro _; exact .nil
    | cons r t ih =>
      intro hn
      refine .cons (r.mono tp fun q xs e1 e2 => m _ _ e2 fun z => hn (by rw [e1, z]; exact List.mem_cons_self)) (ih fun z => hn (List.mem_cons_of_mem _ z))
  exact go _ _ hb nR
theorem SpAt.at {H : Hp} {l : Addr} {rs : List V} {s : Spc} (h : SpAt H l rs s) {b : Nat} (hb : b < s.length) : ∃ p vs, rs[b]? = some (.ref p) ∧ H p = some (.lst vs) ∧ Paired (JAt H) vs (s[b]?.getD []) := by
  obtain ⟨x, y, h1, h2, p, vs, rfl, h3, h4⟩ := plen' h.b hb
  exact ⟨p, vs, h1, h3, by rw [h2]; exact h4⟩
theorem blk_len {s : Spc} (h : L4 s) {b : Nat} (hb : b < s.length) : (s[b]?.getD []).length = 4 := by
  rw [List.getElem?_eq_getElem hb]
  exact h _ (List.getElem_mem hb)
theorem ixN_lt {n k : Nat} (h : k < n) : ixN n (k : Int) = some k := by
  unfold ixN
  rw [if_pos (by omega), if_pos (by omega)]
  rfl
theorem ok_law_set {f fB : Addr} {fd fdB : FuncData} (F : Fun K "_law_set" "_law_set" s_law_set f fd) (F_law_back : Fun K "_law_back" "_law_back" s_law_back fB fdB) (g_law_back : mg "_law_back" = some (.ref fB)) (b_law_back : Binds K fdB ["turn"] [])
    (m_range : mg "range" = none) (m_tuple : mg "tuple" = none) : FnOk P w K mg base CX0 2 f fd ["blocks", "block", "face", "other", "turn"] spSet := by
  have G_law_back : FnOk P w K mg base CX0 1 fB fdB ["turn"] spBack := ok_law_back F_law_back m_range m_tuple
  refine F.ok sc_law_set (fun vs H Q E h => ?_) (fun cdv A outer s H vs Q E hr h => ?_)
  · obtain ⟨l, rs, s, b, f, n, v, t, rfl, _⟩ := h
    rfl
  · obtain ⟨l, rs, S, b, f, n, v, t, rfl, hS, h4, hT, ht, hb, hf, hn, hz, q⟩ := h
    have nd := sc_law_set.nd
    refine ⟨_, (pss_cons (ps_asg (pe_tupF (pa_cons (pv 3) (pa_cons (pv 4) pa_nil))) (pg_sub (pe_ix (kIxL K rfl) (pv 0) (pv 1) (fun _ _ => rfl)) (pv 2) set_list))
      (pss_one (ps_asg (pe_tupF (pa_cons (pv 1) (pa_cons (pe_call G_law_back (hr.mono (by first | decide | omega)) (by rfl) g_law_back F_law_back.kp b_law_back .nil pass0 (pa_cons (pv 4) pa_nil)) pa_nil))) (pg_sub (pe_ix (kIxL K rfl) (pv 0) (pv 3) (fun _ _ => rfl)) (pe_ix (kIxT K rfl) (pv 4) (pv 2) (fun _ _ => rfl)) set_list)))), ?_⟩
    walk_at "g"
    refine ⟨Nat.le_of_lt (small1000 (by show 2 ≤ 1000; decide)), fun p1 o1 np1 d1 => ?_⟩
    obtain ⟨pt, rfl, hpt⟩ := hT
    have s1 : Same H (upd H p1 (.frz o1 (.tup [intV n, .ref pt]))) := same_new np1
    have j1 : JAt (upd H p1 (.frz o1 (.tup [intV n, .ref pt]))) (.ref p1) (some (n, t)) := ⟨p1, pt, rfl, FT.new d1, hpt.mono s1.tups⟩
    generalize upd H p1 (.frz o1 (.tup [intV n, .ref pt])) = H1 at s1 j1 ⊢
    have hS1 := hS.same s1
    obtain ⟨pb, vb, eb, hvb, _⟩ := hS1.at hb
    have lvb : vb.length = 4 := by
      obtain ⟨x, y, h1, h2, p', vs', e1, e2, e3⟩ := plen' hS1.b hb
      rw [eb] at h1
      cases h1
      cases e1
      rw [lst_inj hvb e2, plen e3]
      exact h4 _ (List.mem_of_getElem? h2)
    have lrs : rs.length = S.length := plen hS1.b
    refine ⟨.ref l, rfl, intV b, rfl, l, rs, b, .ref pb, rfl, rfl, .inl (.inl hS1.l), atI_nat eb, intV f, rfl, pb, vb, f, f, rfl, rfl, hvb, ixN_lt (by omega), ?_⟩
    obtain ⟨hS2, k2⟩ := hS1.set (f := f) eb hvb j1
    have tp2 := k2.tups hS1.b
    have hpt2 := (hpt.mono s1.tups).mono tp2
    generalize upd H1 pb (.lst (vb.set f (.ref p1))) = H2 at hS2 k2 tp2 hpt2 ⊢
    refine ⟨intV b, rfl, .ref pt, rfl, .ref pt, t, rfl, ⟨pt, rfl, hpt2⟩, ht, fun H3 p3 s3 n3 T3 => ⟨Nat.le_of_lt (small1000 (by show 2 ≤ 1000; decide)), fun p4 o4 np4 d4 => ?_⟩⟩
    obtain ⟨p3', e3, T3⟩ := T3
    cases e3
    have s4 : Same H3 (upd H3 p4 (.frz o4 (.tup [intV b, .ref p3]))) := same_new np4
    have j4 : JAt (upd H3 p4 (.frz o4 (.tup [intV b, .ref p3]))) (.ref p4) (some (b, back t)) := ⟨p4, p3, rfl, FT.new d4, T3.mono s4.tups⟩
    have hpt4 := hpt2.mono (s3.trans s4).tups
    have hS4 := hS2.same (s3.trans s4)
    have k4 : KeepB rs H (upd H3 p4 (.frz o4 (.tup [intV b, .ref p3]))) := ((KeepB.of s1).trans k2).trans (KeepB.of (s3.trans s4))
    generalize upd H3 p4 (.frz o4 (.tup [intV b, .ref p3])) = H4 at s4 j4 hpt4 hS4 k4 ⊢
    have hn4 : n < (setJ S b f (some (n, t))).length := by rw [setJ_len]; exact hn
    obtain ⟨pn, vn, en, hvn, hvn2⟩ := hS4.at hn4
    have lvn : vn.length = 4 := by rw [plen hvn2]; exact blk_len (h4.set _ _ _) hn4
    have htf := tf_lt t ht f hf
    refine ⟨.ref l, rfl, intV n, rfl, l, rs, n, .ref pn, rfl, rfl, .inl (.inl hS4.l), atI_nat en, .ref pt, rfl, intV f, rfl, pt, trnV t, f, intV (tf t f), rfl, rfl, hpt4.sqt, atI_nat ?_, pn, vn, (tf t f : Nat), tf t f, rfl, rfl, hvn, ixN_lt (by omega), ?_⟩
    · unfold trnV
      rw [List.getElem?_map, htf.2]
      rfl
    · obtain ⟨hS5, k5⟩ := hS4.set (f := tf t f) en hvn j4
      exact q _ (k4.trans k5) hS5
end
end Bk

namespace Bk
open PySem PySem.Spec PyProof.Rows L2
local macro_rules | `(tactic| walk_at "g") => `(tactic| (repeat first | refine ⟨_, rfl, ?_⟩ | refine ⟨cpow, ?_⟩ | refine ⟨wideM, ?_⟩ | refine ⟨_, _, rfl, rfl, ?_⟩ | refine ⟨rfl, ?_⟩))
section
variable {P : Program} {w : World} {K : PySem.W.Frag} {mg : Str → Option Value} {base : Heap}
/-! ### _law_any -/
abbrev s_law_any : Stmt := topS 42
abbrev N_law_any : List Str := ["reel", "many", "blocks", "left", "k", "block", "face", "other", "at", "some", "turn"]
theorem sc_law_any : FnScope N_law_any ["reel", "many"] (defScope s_law_any) := ⟨rfl, rfl, rfl, by decide +kernel, rfl, by decide +kernel, by decide +kernel⟩
/-- what a maker of spaces tells: a new one -/
def MadeS (R : Addr) (H : Hp) (many : Nat) (Q : VK) : Prop := ∀ H' l rs S, Keep R H H' → ReelOk R H' → Aw R H H' → H l = none → SpAt H' l rs S → Fresh H rs → Good S → S.length = many → Q (.ref l) H'
def spAny : Sp := fun vs H Q _ => ∃ (R : Addr) (many : Nat), vs = [.ref R, intV many] ∧ 1 ≤ many ∧ many ≤ 20 ∧ ReelOk R H ∧ MadeS R H many Q
theorem flat4 : (List.replicate (4 : Int).toNat [V.non]).flatten = [V.non, .non, .non, .non] := rfl
theorem ok_law_any {f fD fT fB fS : Addr} {fd fdD fdT fdB fdS : FuncData} (F : Fun K "_law_any" "_law_any" s_law_any f fd)
    (F_law_draw : Fun K "_law_draw" "_law_draw" s_law_draw fD fdD) (g_law_draw : mg "_law_draw" = some (.ref fD)) (b_law_draw : Binds K fdD ["reel", "many"] [])
    (F_law_turns : Fun K "_law_turns" "_law_turns" s_law_turns fT fdT) (g_law_turns : mg "_law_turns" = some (.ref fT)) (b_law_turns : Binds K fdT [] [])
    (F_law_back : Fun K "_law_back" "_law_back" s_law_back fB fdB) (g_law_back : mg "_law_back" = some (.ref fB)) (b_law_back : Binds K fdB ["turn"] [])
    (F_law_set : Fun K "_law_set" "_law_set" s_law_set fS fdS) (g_law_set : mg "_law_set" = some (.ref fS)) (b_law_set : Binds K fdS ["blocks", "block", "face", "other", "turn"] [])
    (m_range : mg "range" = none) (m_tuple : mg "tuple" = none) (m_len : mg "len" = none) (m_int : mg "int" = none) : FnOk P w K mg base CX0 3 f fd ["reel", "many"] spAny := by
  have G_law_draw : FnOk P w K mg base CX0 1 fD fdD ["reel", "many"] spDraw := ok_law_draw F_law_draw m_len m_int
  have G_law_turns : FnOk P w K mg base CX0 1 fT fdT [] spTurns := ok_law_turns F_law_turns m_range
  have G_law_set : FnOk P w K mg base CX0 2 fS fdS ["blocks", "block", "face", "other", "turn"] spSet := ok_law_set F_law_set F_law_back g_law_back b_law_back m_range m_tuple
  refine F.ok sc_law_any (fun vs H Q E h => ?_) (fun cdv A outer s H vs Q E hr h => ?_)
  · obtain ⟨R, many, rfl, _⟩ := h
    rfl
  · obtain ⟨R, many, rfl, hm1, hm2, hR, q⟩ := h
    have nd := sc_law_any.nd
    refine ⟨_, (pss_cons (ps_setLc (i := 2) (own := [("block", 5)]) (g := gName 5) (tt := tYes) rfl nd rfl rfl (sw_true rfl rfl rfl (by decide +kernel)) (pi_range1 (by rfl) m_range (pa_cons (pv 1) pa_nil)) (blkOk_by (own := [("block", 5)]) (N := N_law_any) (sc := defScope s_law_any) (by decide +kernel)) (fun _ _ _ _ _ => (pg_name (i := 5) nd rfl (Or.inl rfl))) (fun _ _ _ _ _ => pts_nil) (fun _ _ _ _ _ => (pe_op op_rep (pe_lst (pa_cons pe_non pa_nil)) pe_int)))
      (pss_cons (ps_set (i := 3) nd rfl (.inr rfl) (pe_lc (own := [("k", 4)]) (g := gName 4) (tt := tYes) rfl nd (pi_range1 (by rfl) m_range (pa_cons (pe_op op_mul pe_int (pv 1)) pa_nil)) (blkOk_by (own := [("k", 4)]) (N := N_law_any) (sc := defScope s_law_any) (by decide +kernel)) (fun _ _ _ _ _ => (pg_name (i := 4) nd rfl (Or.inl rfl))) (fun _ _ _ _ _ => pts_nil) (fun _ _ _ _ _ => (pe_tupF (pa_cons (pe_op op_fdivN (pv 4) pe_int) (pa_cons (pe_op op_modN (pv 4) pe_int) pa_nil))))))
      (pss_cons (ps_set (i := 3) nd rfl (.inr rfl) (pe_lc (own := [("k", 4)]) (g := gName 4) (tt := tYes) rfl nd (pi_range1 (by rfl) m_range (pa_cons (pe_op op_mul pe_int (pv 1)) pa_nil)) (blkOk_by (own := [("k", 4)]) (N := N_law_any) (sc := defScope s_law_any) (by decide +kernel)) (fun _ _ _ _ _ => (pg_name (i := 4) nd rfl (Or.inl rfl))) (fun _ _ _ _ _ => pts_nil) (fun _ _ _ _ _ => (kBM K rfl (pe_bm PySem.F.plainAttrs_list PySem.F.slot_list_pop PySem.F.type_list_pop mt_popAt (pv 3) (pa_cons (pe_call G_law_draw (hr.mono (by first | decide | omega)) (by rfl) g_law_draw F_law_draw.kp b_law_draw .nil pass0 (pa_cons (pv 0) (pa_cons (pe_callB (kLen K rfl) (by rfl) m_len (by decide +kernel) (pa_cons (pv 3) pa_nil)) pa_nil))) pa_nil))))))
      (pss_cons (ps_for PassesOwn.never rfl (pi_range1 (by rfl) m_range (pa_cons (pe_ix (kIxL K rfl) (pe_lst (pa_cons (pe_call G_law_draw (hr.mono (by first | decide | omega)) (by rfl) g_law_draw F_law_draw.kp b_law_draw .nil pass0 (pa_cons (pv 0) (pa_cons (pe_op op_add (pe_op op_mul pe_int (pv 1)) pe_int) pa_nil))) (pa_cons (pe_op op_mul pe_int (pv 1)) pa_nil))) (pe_call G_law_draw (hr.mono (by first | decide | omega)) (by rfl) g_law_draw F_law_draw.kp b_law_draw .nil pass0 (pa_cons (pv 0) (pa_cons pe_int pa_nil))) (fun _ _ => rfl)) pa_nil)) (pg_name (i := 4) nd rfl (.inl rfl)) (pss_cons (ps_asg (pe_ix (kIxL K rfl) (pv 3) (pe_op op_mul pe_int (pv 4)) (fun _ _ => rfl)) (kPgT K rfl (pg_tup (n := 2) rfl (pgs_cons (pg_name (i := 5) nd rfl (.inl rfl)) (pgs_cons (pg_name (i := 6) nd rfl (.inr rfl)) pgs_nil)))))
      (pss_cons (ps_asg (pe_ix (kIxL K rfl) (pv 3) (pe_op op_add (pe_op op_mul pe_int (pv 4)) pe_int) (fun _ _ => rfl)) (kPgT K rfl (pg_tup (n := 2) rfl (pgs_cons (pg_name (i := 7) nd rfl (.inl rfl)) (pgs_cons (pg_name (i := 8) nd rfl (.inr rfl)) pgs_nil)))))
      (pss_cons (ps_setLc (i := 9) (own := [("turn", 10)]) (g := gName 10) rfl nd rfl rfl (sw_true rfl rfl rfl (by decide +kernel)) (kPiL K rfl (pi_list (pe_call0 G_law_turns (hr.mono (by first | decide | omega)) (by rfl) g_law_turns F_law_turns.kp b_law_turns .nil pass0))) (blkOk_by (own := [("turn", 10)]) (N := N_law_any) (sc := defScope s_law_any) (by decide +kernel)) (fun _ _ _ _ _ => (pg_name (i := 10) nd rfl (Or.inl rfl))) (fun _ _ _ _ _ => (pts_one (pt_cmpR op_eq (pe_ix (kIxT K rfl) (pv 10) (pv 6) (fun _ _ => rfl)) (pv 8) (nomark _)))) (fun _ _ _ _ _ => (pv 10)))
      (pss_one (ps_expr (pe_call G_law_set (hr.mono (by first | decide | omega)) (by rfl) g_law_set F_law_set.kp b_law_set .nil pass0 (pa_cons (pv 2) (pa_cons (pv 5) (pa_cons (pv 6) (pa_cons (pv 7) (pa_cons (pe_ix (kIxL K rfl) (pv 9) (pe_call G_law_draw (hr.mono (by first | decide | omega)) (by rfl) g_law_draw F_law_draw.kp b_law_draw .nil pass0 (pa_cons (pv 0) (pa_cons pe_int pa_nil))) (fun _ _ => rfl)) pa_nil))))))))))))
      (pss_one (ps_ret (pv 2))))))), ?_⟩
    -- blocks
    refine ⟨intV many, rfl, many, rfl, by omega, by omega, fun D nD => ?_⟩
    rw [Int.toNat_natCast]
    refine lc_range (lo := 0) (n := many) (fun i H1 => ∃ rs, SpAt H1 D rs (freeS i) ∧ Fresh H rs ∧ Same H H1) ⟨[], ⟨upd_same, .nil, .nil⟩, fun _ z => (by cases z), same_new nD⟩ ?_ ?_
    · rintro i H1 hi ⟨rs, hS, hF, s1⟩
      rw [Int.zero_add]
      refine ⟨rfl, ?_⟩
      refine ⟨Nat.le_of_lt (small1000 (by show 1 ≤ 1000; decide)), fun p np => ?_⟩
      refine ⟨p, 4, _, rfl, rfl, upd_same, by decide, by decide, Nat.le_of_lt (small1000 (by show 4 ≤ 1000; decide)), fun p2 np2 => ?_⟩
      rw [flat4]
      have s2 : Same H1 (upd (upd H1 p (.lst [.non])) p2 (.lst [.non, .non, .non, .non])) := (same_new np).trans (same_new np2)
      have h2 : (upd (upd H1 p (.lst [.non])) p2 (.lst [.non, .non, .non, .non])) p2 = some (.lst [.non, .non, .non, .non]) := upd_same
      have n2 : H1 p2 = none := (same_new np).free np2
      generalize upd (upd H1 p (.lst [.non])) p2 (.lst [.non, .non, .non, .non]) = H2 at s2 h2 ⊢
      have hD := s2 _ _ hS.l
      have l1 : rs.length = i := by rw [plen hS.b]; exact List.length_replicate
      refine ⟨rs, hD, small1000 (by omega), rs ++ [.ref p2], ?_, hF.push (fun o e => s1 _ _ e) n2, same_fill (s1.trans s2) nD⟩
      unfold freeS
      rw [List.replicate_succ']
      exact hS.push s2 n2 ⟨p2, _, rfl, h2, .cons rfl (.cons rfl (.cons rfl (.cons rfl .nil)))⟩
    · rintro H1 ⟨rs, hS, hF, s1⟩
      -- left
      walk_at "g"
      refine ⟨.inl (by decide), 4 * many, rfl, by omega, by omega, fun L nL => ?_⟩
      have hR1 := hR.same s1
      rw [show (4 * (many : Int)).toNat = 4 * many by omega]
      refine lc_range (lo := 0) (n := 4 * many) (fun i H2 => ∃ ys, H2 L = some (.lst ys) ∧ Paired (FcAt H2) ys (facesTo i) ∧ Same H1 H2) ⟨[], upd_same, .nil, same_new nL⟩ ?_ ?_
      · rintro i H2 hi ⟨ys, h2, t2, s2⟩
        rw [Int.zero_add]
        refine ⟨rfl, ?_⟩
        walk_at "g"
        refine ⟨⟨by decide, by decide⟩, ?_⟩
        walk_at "g"
        refine ⟨(show (4 : Int) ≠ 0 by decide), Nat.le_of_lt (small1000 (by show 2 ≤ 1000; decide)), fun p o np d => ?_⟩
        have ef : ([V.int ((i : Int).fdiv 4), V.int ((i : Int).fmod 4)] : List V) = [intV (i / 4), intV (i % 4)] := by
          rw [show (4 : Int) = ((4 : Nat) : Int) from rfl, fdiv_nat, fmod_nat]
          rfl
        have s3 : Same H2 (upd H2 p (.frz o (.tup [V.int ((i : Int).fdiv 4), V.int ((i : Int).fmod 4)]))) := same_new np
        have f3 : FcAt (upd H2 p (.frz o (.tup [V.int ((i : Int).fdiv 4), V.int ((i : Int).fmod 4)]))) (.ref p) (i / 4, i % 4) := ⟨p, rfl, o, d, by rw [ef]; exact upd_same⟩
        have h3 := s3 _ _ h2
        refine ⟨ys, h3, small1000 (by
          rw [plen t2]
          unfold facesTo
          rw [List.length_map, List.length_range]
          omega), ys ++ [.ref p], upd_same, ?_, same_fill (s2.trans s3) nL⟩
        rw [facesTo_succ]
        exact papp (pmono t2 fun _ _ z => z.mono (s3.tups.trans (tups_set h3))) (.cons (f3.mono (tups_set h3)) .nil)
      · rintro H2 ⟨ys, h2, t2, s2⟩
        -- the pops
        have hS2 := hS.same s2
        have hR2 := hR1.same s2
        have hm4 : (facesTo (4 * many)).length = 4 * many := by
          unfold facesTo
          rw [List.length_map, List.length_range]
        walk_at "g"
        refine ⟨.inl (by decide), 4 * many, rfl, by omega, by omega, fun L2 nL2 => ?_⟩
        rw [show (4 * (many : Int)).toNat = 4 * many by omega]
        have nLL : L ≠ L2 := ne_of_none h2 nL2
        have nDL : D ≠ L2 := ne_of_none hS2.l nL2
        refine lc_range (lo := 0) (n := 4 * many) (fun i H3 => ∃ xs ys fs gs, H3 L = some (.lst xs) ∧ H3 L2 = some (.lst ys) ∧ Paired (FcAt H3) xs fs ∧ Paired (FcAt H3) ys gs ∧ (gs ++ fs).Perm (facesTo (4 * many)) ∧ gs.length = i ∧ SpAt H3 D rs (freeS many) ∧ Away R L2 H3 ∧ Keep R H H3 ∧ Aw R H H3)
          ⟨ys, [], facesTo (4 * many), [], by rw [upd_ne nLL]; exact h2, upd_same, pmono t2 fun _ _ z => z.mono (same_new nL2).tups, .nil, .refl _, rfl, hS2.same (same_new nL2), hR2.away nL2, Keep.of ((s1.trans s2).trans (same_new nL2)), ((s1.trans s2).trans (same_new nL2)).aw⟩ ?_ ?_
        · rintro i H3 hi ⟨xs, ys, fs, gs, h3, h3', t3, t3', pm, rfl, hS3, hA3, k3, w3⟩
          have hl : fs.length = 4 * many - gs.length := by
            have := pm.length_eq
            rw [List.length_append, hm4] at this
            omega
          refine ⟨rfl, ?_⟩
          refine ⟨.ref L, rfl, .inl ⟨rfl, _, .inl (.inl h3)⟩, .ref R, rfl, .ref L, rfl, L, xs, rfl, .inl (.inl (.inl h3)), R, (xs.length : Int), rfl, by rw [plen t3]; omega, by rw [plen t3]; omega, hA3.ok, fun H4 r k4 hR4 hA4 r0 r1 => ?_⟩
          rw [plen t3] at r1
          have nLR : L ≠ R := hA3.ok.isR h3 (no_int (fc_refs t3))
          have nDR : D ≠ R := hA3.ok.isR hS3.l (no_int (bat_ref hS3.b))
          have tp4 := k4.tups hA3.ok
          have h4 := k4 _ _ h3 nLR
          have h4' := k4 _ _ h3' hA3.ne
          have hS4 := hS3.keep k4 hA3.ok (freeS_good many).l4 nDR
          have hA5 := hA4 L2 (by rw [h3']; exact fun z => nomatch z) hA3
          obtain ⟨y, x, hy, hx, hyx⟩ := plen' t3 (i := r.toNat) (by omega)
          refine ⟨L, xs, r, r.toNat, y, rfl, rfl, h4, by omega, by omega, ?_, hy, ?_⟩
          · have := seqIx_nat (n := xs.length) (k := r.toNat) (by rw [plen t3]; omega)
            rw [Int.toNat_of_nonneg r0] at this
            exact this
          have hA6 := (hA5.set (o := .lst (xs.eraseIdx r.toNat)) h4 (notReel_refs (fun z => by rw [z] at hy; cases hy) (fc_refs t3))).1
          have tp5 := tp4.trans (tups_set (o := .lst (xs.eraseIdx r.toNat)) h4)
          have hS5 := hS4.other (o := .lst (xs.eraseIdx r.toNat)) h4 (ne_of_none hS.l nL).symm (hS.fresh nL)
          have h5' : (upd H4 L (.lst (xs.eraseIdx r.toNat))) L2 = some (.lst ys) := by rw [upd_ne nLL.symm]; exact h4'
          have k5 : Keep R H (upd H4 L (.lst (xs.eraseIdx r.toNat))) := keep_fill (k3.trans k4) (s1.free nL)
          have h5 : (upd H4 L (.lst (xs.eraseIdx r.toNat))) L = some (.lst (xs.eraseIdx r.toNat)) := upd_same
          have w5 : Aw R H (upd H4 L (.lst (xs.eraseIdx r.toNat))) := (w3.trans k3 hA4).trans (k3.trans k4) (Aw.set h4 (notReel_refs (fun z => by rw [z] at hy; cases hy) (fc_refs t3)))
          generalize upd H4 L (.lst (xs.eraseIdx r.toNat)) = H5 at hA6 tp5 hS5 h5' k5 h5 w5 ⊢
          refine ⟨ys, h5', small1000 (by rw [plen t3']; omega), xs.eraseIdx r.toNat, ys ++ [y], fs.eraseIdx r.toNat, gs ++ [x], by rw [upd_ne nLL]; exact h5, upd_same, ?_, ?_, ?_, ?_, ?_, hA6.fill, ?_, w5.trans k5 (Aw.fill hA6)⟩
          · exact pmono (perase _ t3) fun _ _ z => z.mono (tp5.trans (tups_set h5'))
          · exact papp (pmono t3' fun _ _ z => z.mono (tp5.trans (tups_set h5'))) (.cons (hyx.mono (tp5.trans (tups_set h5'))) .nil)
          · rw [List.append_assoc]
            exact ((pperm_erase hx).append_left gs).trans pm
          · rw [List.length_append]
            rfl
          · exact hS5.other h5' nDL.symm (hS2.fresh nL2)
          · exact keep_fill k5 ((s1.trans s2).free nL2)
        · rintro H3 ⟨xs, ys, fs, gs, h3, h3', t3, t3', pm, hg, hS3, hA3, k3, w3⟩
          have el : fs = [] := by
            have := pm.length_eq
            rw [List.length_append, hm4] at this
            exact List.length_eq_zero_iff.mp (by omega)
          subst el
          rw [List.append_nil] at pm
          have gN : gs.Nodup := pm.symm.nodup (facesTo_nd _)
          have gm : ∀ {m : Nat} {x : Nat × Nat}, gs[m]? = some x → x.1 < many ∧ x.2 < 4 := fun h => facesTo_mem (pm.mem_iff.mp (List.mem_of_getElem? h))
          have nDR : D ≠ R := hA3.ok.isR hS3.l (no_int (bat_ref hS3.b))
          have nL2R : L2 ≠ R := hA3.ne
          have nL2D : L2 ≠ D := nDL.symm
          have nL2r : V.ref L2 ∉ rs := hS2.fresh nL2
          have hR3 := hA3.ok
          -- how many
          walk_at "g"
          refine ⟨.inl (by decide), ?_⟩
          walk_at "g"
          refine ⟨R, 2 * (many : Int) + 1, rfl, by omega, by omega, hR3, fun H4 r1 k4 hR4 aw4 r10 r11 => ?_⟩
          refine ⟨intV many, rfl, 2, many, rfl, rfl, .inl (by decide), Nat.le_of_lt (small1000 (by show 2 ≤ 1000; decide)), fun p np => ?_⟩
          have s5 : Same H4 (upd H4 p (.lst [.int r1, .int (2 * (many : Int))])) := same_new np
          have h5 : (upd H4 p (.lst [.int r1, .int (2 * (many : Int))])) p = some (.lst [.int r1, .int (2 * (many : Int))]) := upd_same
          have hA5 := hR4.away (o := .lst [.int r1, .int (2 * (many : Int))]) np
          generalize upd H4 p (.lst [.int r1, .int (2 * (many : Int))]) = H5 at s5 h5 hA5 ⊢
          refine ⟨.ref R, rfl, R, 2, rfl, by decide, by decide, hA5.ok, fun H6 r2 k6 hR6 aw6 r20 r21 => ?_⟩
          have k36 : Keep R H3 H6 := (k4.same s5).trans k6
          have w36 : Aw R H3 H6 := (Aw.trans aw4 k4 s5.aw).trans (k4.same s5) aw6
          obtain ⟨j, hj, j0, j1⟩ : ∃ j : Int, atI [V.int r1, .int (2 * (many : Int))] r2 = some (.int j) ∧ 0 ≤ j ∧ j ≤ 2 * (many : Int) := by
            by_cases h : r2 = 0
            · subst h
              exact ⟨r1, rfl, r10, by omega⟩
            · have h : r2 = 1 := by omega
              subst h
              exact ⟨_, rfl, by omega, by omega⟩
          refine ⟨p, _, r2, _, rfl, rfl, .inl (.inl (k6 _ _ h5 hA5.ne)), hj, j, rfl, by omega, by omega, ?_⟩
          refine for_range (lo := 0) (n := j.toNat) (fun k σ H7 => ∃ y4 y5 y6 y7 y8 y9 S, σ = [some (.ref R), some (intV many), some (.ref D), some (.ref L2), y4, y5, y6, y7, y8, y9, none] ∧ SpAt H7 D rs S ∧ Good S ∧ S.length = many ∧ ReelOk R H7 ∧
              H7 L2 = some (.lst ys) ∧ Paired (FcAt H7) ys gs ∧ Keep R H H7 ∧ Aw R H H7 ∧ ∀ m x, 2 * k ≤ m → gs[m]? = some x → getJ S x.1 x.2 = some none)
            ⟨none, none, none, none, none, none, freeS many, rfl, hS3.keep k36 hR3 (freeS_good many).l4 nDR, freeS_good many, List.length_replicate, hR6, k36 _ _ h3' nL2R, pmono t3' fun _ _ z => z.mono (k36.tups hR3), k3.trans k36, w3.trans k3 w36, fun m x _ hx => by
              obtain ⟨g1, g2⟩ := gm hx
              obtain ⟨z, hz⟩ := (freeS_good many).l4.get (b := x.1) (f := x.2) (by unfold freeS; rw [List.length_replicate]; exact g1) g2
              rw [hz, freeS_get hz]⟩ ?_ ?_
          · rintro k σ H7 hk ⟨y4, y5, y6, y7, y8, y9, S, rfl, hS7, hG, hlS, hR7, h7, t7, k7, w7, hfree⟩
            rw [Int.zero_add]
            obtain ⟨v0, x0, hv0, hx0, p0, e0, f0⟩ := plen' t7 (i := 2 * k) (by omega)
            obtain ⟨v1, x1, hv1, hx1, p1, e1, f1⟩ := plen' t7 (i := 2 * k + 1) (by omega)
            subst e0 e1
            obtain ⟨b0, f0'⟩ := x0
            obtain ⟨b1, f1'⟩ := x1
            obtain ⟨hb0, hf0⟩ := gm hx0
            obtain ⟨hb1, hf1⟩ := gm hx1
            have ne01 : ((b0, f0') : Nat × Nat) ≠ (b1, f1') := nodup_ne gN hx0 hx1 (by omega)
            walk_at "g"
            refine ⟨.inl (by decide), L2, ys, _, .ref p0, rfl, rfl, .inl (.inl h7), at_of (j := 2 * k) (by omega) hv0, p0, [intV b0, intV f0'], rfl, f0.sqt, rfl, _, _, rfl, _, _, rfl, rfl, ?_⟩
            walk_at "g"
            refine ⟨.inl (by decide), ?_⟩
            walk_at "g"
            refine ⟨L2, ys, _, .ref p1, rfl, rfl, .inl (.inl h7), at_of (j := 2 * k + 1) (by omega) hv1, p1, [intV b1, intV f1'], rfl, f1.sqt, rfl, _, _, rfl, _, _, rfl, rfl, ?_⟩
            -- some
            refine ⟨rfl, fun H8 pT s8 nT T8 => ⟨pT, rfl, ?_⟩⟩
            obtain ⟨ws, hw, tw⟩ := T8
            refine ⟨⟨_, .inl (.inl hw)⟩, fun D3 nD3 => ?_⟩
            have lw := plen tw
            rw [turns_len] at lw
            have nTD : pT ≠ D3 := ne_of_none hw nD3
            refine lc_list (xs := ws) (fun i H9 => ∃ zs, H9 D3 = some (.lst zs) ∧ Paired (TAt H9) zs ((allTurns.take i).filter fun t => tf t f0' == f1') ∧ H9 = upd H8 D3 (.lst zs)) ⟨[], upd_same, .nil, rfl⟩ ?_ ?_ ?_
            · rintro i H9 _ ⟨zs, h9, t9, rfl⟩
              exact .inl (.inl (by rw [upd_ne nTD]; exact hw))
            · rintro i v H9 hv ⟨zs, h9, t9, rfl⟩
              obtain ⟨t, ht, pt, rfl, ft⟩ := pget' tw hv
              have hmem := List.mem_of_getElem? ht
              have htf := tf_lt t hmem f0' hf0
              refine ⟨rfl, ?_⟩
              refine ⟨.ref pt, rfl, intV f0', rfl, pt, trnV t, f0', intV (tf t f0'), rfl, rfl, (ft.mono (same_new nD3).tups).sqt, atI_nat (by unfold trnV; rw [List.getElem?_map, htf.2]; rfl), intV f1', rfl, rfl, ?_⟩
              rw [dec_nat]
              refine ⟨_, rfl, ite2 (fun e => ?_) (fun e => ?_)⟩
              · refine ⟨.ref pt, rfl, zs, upd_same, small1000 (by
                  rw [plen t9]
                  refine Nat.le_trans (List.length_filter_le _ _) ?_
                  rw [List.length_take, turns_len]
                  omega), zs ++ [.ref pt], upd_same, ?_, by rw [upd_upd]⟩
                rw [filter_take_succ ht, if_pos e]
                have tp := tups_set (o := .lst (zs ++ [.ref pt])) h9
                exact papp (pmono t9 fun _ _ z => z.mono tp) (.cons ⟨pt, rfl, (ft.mono (same_new nD3).tups).mono tp⟩ .nil)
              · rw [filter_take_succ ht, if_neg e, List.append_nil]
                exact ⟨zs, h9, t9, rfl⟩
            · rintro H9 ⟨zs, h9, t9, e9⟩
              have s9 : Same H7 H9 := by
                rw [e9]
                exact s8.trans (same_new nD3)
              have hA9 : Away R D3 H9 := by
                rw [e9]
                exact (hR7.same s8).away nD3
              clear e9
              rw [lw, ← turns_len, List.take_length] at t9
              have l6 : zs.length = 6 := by rw [plen t9, turns_face6 f0' hf0 f1' hf1]
              have hS9 := hS7.same s9
              have h9l := s9 _ _ h7
              -- _law_set(..)
              refine ⟨.ref D, rfl, intV b0, rfl, intV f0', rfl, intV b1, rfl, .ref D3, rfl, .ref R, rfl, R, 6, rfl, by decide, by decide, hA9.ok, fun H10 r k10 hR10 aw10 r0 r1 => ?_⟩
              obtain ⟨v, t, hv, ht, hvt⟩ := plen' t9 (i := r.toNat) (by rw [← plen t9]; omega)
              have htm := List.mem_of_getElem? ht
              rw [List.mem_filter] at htm
              have etf : tf t f0' = f1' := by simpa using htm.2
              have tp10 := k10.tups hA9.ok
              have hS10 := hS9.keep k10 hA9.ok hG.l4 nDR
              refine ⟨D3, zs, r, v, rfl, rfl, .inl (.inl (k10 _ _ h9 hA9.ne)), at_of (j := r.toNat) (by omega) hv, ?_⟩
              refine ⟨D, rs, S, b0, f0', b1, v, t, rfl, hS10, hG.l4, hvt.mono tp10, htm.1, by omega, hf0, by omega, by omega, fun H11 kB hS11 => ?_⟩
              have q0 : getJ S b0 f0' = some none := hfree (2 * k) _ (Nat.le_refl _) hx0
              have q1 : getJ S b1 (tf t f0') = some none := by
                rw [etf]
                exact hfree (2 * k + 1) _ (by omega) hx1
              have k10' : Keep R H7 H10 := Same.keep s9 k10
              refine ⟨_, _, _, _, _, _, joinJ S b0 f0' b1 t, rfl, hS11, hG.join htm.1 q0 q1 (by rw [etf]; exact fun z => ne01 z.symm), by rw [joinJ_len]; exact hlS, (hR10.keepB kB hS10.b hG.l4).1,
                kB _ _ (k10 _ _ h9l nL2R) nL2r, pmono t7 fun _ _ z => (z.mono s9.tups).mono (tp10.trans (kB.tups hS10.b)), (k7.trans k10').inner kB hF, ((w7.trans k7 s9.aw).trans (k7.same s9) aw10).trans (k7.trans k10') (Aw.keepB kB hS10.b hG.l4), fun m x hm hx => ?_⟩
              rw [getJ_join]
              · exact hfree m x (by omega) hx
              · rintro ⟨z1, z2⟩
                exact nodup_ne gN hx0 hx (by omega) (Prod.ext z1.symm z2.symm)
              · rintro ⟨z1, z2⟩
                rw [etf] at z2
                exact nodup_ne gN hx1 hx (by omega) (Prod.ext z1.symm z2.symm)
          · rintro σ H7 ⟨y4, y5, y6, y7, y8, y9, S, rfl, hS7, hG, hlS, hR7, h7, t7, k7, w7, hfree⟩
            refine ⟨.ref D, rfl, ?_⟩
            exact q H7 D rs S k7 hR7 w7 nD hS7 hF hG hlS
end
end Bk

namespace Bk
open PySem PySem.Spec PyProof.Rows L2
local macro_rules | `(tactic| walk_at "g") => `(tactic| (repeat first | refine ⟨_, rfl, ?_⟩ | refine ⟨cpow, ?_⟩ | refine ⟨wideM, ?_⟩ | refine ⟨_, _, rfl, rfl, ?_⟩ | refine ⟨rfl, ?_⟩))
section
variable {P : Program} {w : World} {K : PySem.W.Frag} {mg : Str → Option Value} {base : Heap}
/-! ### _law_ball -/
abbrev s_law_ball : Stmt := topS 43
abbrev N_law_ball : List Str := ["reel", "many", "blocks", "k", "left", "block", "face", "at"]
theorem sc_law_ball : FnScope N_law_ball ["reel", "many"] (defScope s_law_ball) := ⟨rfl, rfl, rfl, by decide +kernel, rfl, by decide +kernel, by decide +kernel⟩
theorem JAt.isN {H : Hp} {v : V} {j : Jn} (h : JAt H v j) : decide (v = .non) = j.isNone := by
  cases j with
  | none =>
    rw [show v = .non from h]
    rfl
  | some k =>
    obtain ⟨p, q, e, _⟩ := h
    rw [e]
    exact decide_eq_false (fun z => by cases z)
/-- what stands at a face, as it stands -/
theorem SpAt.face {H : Hp} {l : Addr} {rs : List V} {s : Spc} (h : SpAt H l rs s) {b f : Nat} {j : Jn} (e : getJ s b f = some j) : ∃ p vs v, rs[b]? = some (.ref p) ∧ H p = some (.lst vs) ∧ vs[f]? = some v ∧ JAt H v j := by
  unfold getJ at e
  cases hs : s[b]? with
  | none =>
    rw [hs] at e
    cases e
  | some y =>
    rw [hs] at e
    obtain ⟨x, h1, p, vs, rfl, h3, h4⟩ := pget h.b hs
    obtain ⟨v, h5, h6⟩ := pget h4 (show y[f]? = some j from e)
    exact ⟨p, vs, v, h1, h3, h5, h6⟩
def isFr (s : Spc) (k : Nat) : Bool := (getJ s (k / 4) (k % 4)) == some none
theorem getJ_push {s : Spc} {b : Blk} {x f : Nat} (h : x < s.length) : getJ (s ++ [b]) x f = getJ s x f := by
  unfold getJ
  rw [List.getElem?_append_left h]
theorem getJ_last {s : Spc} {b : Blk} {f : Nat} : getJ (s ++ [b]) s.length f = b[f]? := by
  unfold getJ
  rw [List.getElem?_append_right (Nat.le_refl _), Nat.sub_self]
  rfl
theorem Good.push {s : Spc} (h : Good s) : Good (s ++ [free4]) := by
  have l4 : L4 (s ++ [free4]) := fun b hb => by
    rcases List.mem_append.mp hb with z | z
    · exact h.l4 b z
    · rw [List.mem_singleton.mp z]
      rfl
  refine ⟨l4, fun b f n t e => ?_⟩
  by_cases hb : b < s.length
  · rw [getJ_push hb] at e
    obtain ⟨q1, q2, q3⟩ := h.both b f n t e
    exact ⟨q1, q2, by rw [getJ_push (h.lt e)]; exact q3⟩
  · have hl := (l4.of e).1
    rw [List.length_append] at hl
    have eb : b = s.length := by
      have : b < s.length + 1 := hl
      omega
    rw [eb, getJ_last] at e
    have hm := List.mem_of_getElem? e
    simp [free4] at hm
theorem free4_get {f : Nat} (h : f < 4) : free4[f]? = some none := by
  match f, h with
  | 0, _ => rfl
  | 1, _ => rfl
  | 2, _ => rfl
  | 3, _ => rfl
theorem ok_law_ball {f fD fT fB fS : Addr} {fd fdD fdT fdB fdS : FuncData} (F : Fun K "_law_ball" "_law_ball" s_law_ball f fd)
    (F_law_draw : Fun K "_law_draw" "_law_draw" s_law_draw fD fdD) (g_law_draw : mg "_law_draw" = some (.ref fD)) (b_law_draw : Binds K fdD ["reel", "many"] [])
    (F_law_turns : Fun K "_law_turns" "_law_turns" s_law_turns fT fdT) (g_law_turns : mg "_law_turns" = some (.ref fT)) (b_law_turns : Binds K fdT [] [])
    (F_law_back : Fun K "_law_back" "_law_back" s_law_back fB fdB) (g_law_back : mg "_law_back" = some (.ref fB)) (b_law_back : Binds K fdB ["turn"] [])
    (F_law_set : Fun K "_law_set" "_law_set" s_law_set fS fdS) (g_law_set : mg "_law_set" = some (.ref fS)) (b_law_set : Binds K fdS ["blocks", "block", "face", "other", "turn"] [])
    (m_range : mg "range" = none) (m_tuple : mg "tuple" = none) (m_len : mg "len" = none) (m_int : mg "int" = none) : FnOk P w K mg base CX0 3 f fd ["reel", "many"] spAny := by
  have G_law_draw : FnOk P w K mg base CX0 1 fD fdD ["reel", "many"] spDraw := ok_law_draw F_law_draw m_len m_int
  have G_law_turns : FnOk P w K mg base CX0 1 fT fdT [] spTurns := ok_law_turns F_law_turns m_range
  have G_law_set : FnOk P w K mg base CX0 2 fS fdS ["blocks", "block", "face", "other", "turn"] spSet := ok_law_set F_law_set F_law_back g_law_back b_law_back m_range m_tuple
  refine F.ok sc_law_ball (fun vs H Q E h => ?_) (fun cdv A outer s H vs Q E hr h => ?_)
  · obtain ⟨R, many, rfl, _⟩ := h
    rfl
  · obtain ⟨R, many, rfl, hm1, hm2, hR, q⟩ := h
    have nd := sc_law_ball.nd
    refine ⟨_, (pss_cons (ps_set (i := 2) nd rfl (.inr rfl) (pe_lst (pa_cons (pe_op op_rep (pe_lst (pa_cons pe_non pa_nil)) pe_int) pa_nil)))
      (pss_cons (ps_for PassesOwn.never rfl (pi_range2 (by rfl) m_range (pa_cons pe_int (pa_cons (pv 1) pa_nil))) (pg_name (i := 3) nd rfl (.inl rfl)) (pss_cons (ps_setLc (i := 4) (own := [("at", 7)]) (g := gName 7) rfl nd rfl rfl (sw_true rfl rfl rfl (by decide +kernel)) (pi_range1 (by rfl) m_range (pa_cons (pe_op op_mul pe_int (pv 3)) pa_nil)) (blkOk_by (own := [("at", 7)]) (N := N_law_ball) (sc := defScope s_law_ball) (by decide +kernel)) (fun _ _ _ _ _ => (pg_name (i := 7) nd rfl (Or.inl rfl))) (fun _ _ _ _ _ => (pts_one (pt_cmpR op_isN (pe_ix (kIxL K rfl) (pe_ix (kIxL K rfl) (pv 2) (pe_op op_fdivN (pv 7) pe_int) (fun _ _ => rfl)) (pe_op op_modN (pv 7) pe_int) (fun _ _ => rfl)) pe_non (nomark _)))) (fun _ _ _ _ _ => (pe_tupF (pa_cons (pe_op op_fdivN (pv 7) pe_int) (pa_cons (pe_op op_modN (pv 7) pe_int) pa_nil)))))
      (pss_cons (ps_asg (pe_ix (kIxL K rfl) (pv 4) (pe_call G_law_draw (hr.mono (by first | decide | omega)) (by rfl) g_law_draw F_law_draw.kp b_law_draw .nil pass0 (pa_cons (pv 0) (pa_cons (pe_callB (kLen K rfl) (by rfl) m_len (by decide +kernel) (pa_cons (pv 4) pa_nil)) pa_nil))) (fun _ _ => rfl)) (kPgT K rfl (pg_tup (n := 2) rfl (pgs_cons (pg_name (i := 5) nd rfl (.inl rfl)) (pgs_cons (pg_name (i := 6) nd rfl (.inl rfl)) pgs_nil)))))
      (pss_cons (ps_expr (kBM K rfl (pe_bm PySem.F.plainAttrs_list PySem.F.slot_list_append PySem.F.type_list_append mt_append (pv 2) (pa_cons (pe_op op_rep (pe_lst (pa_cons pe_non pa_nil)) pe_int) pa_nil))))
      (pss_one (ps_expr (pe_call G_law_set (hr.mono (by first | decide | omega)) (by rfl) g_law_set F_law_set.kp b_law_set .nil pass0 (pa_cons (pv 2) (pa_cons (pv 5) (pa_cons (pv 6) (pa_cons (pv 3) (pa_cons (pe_ix (kIxL K rfl) (pe_call0 G_law_turns (hr.mono (by first | decide | omega)) (by rfl) g_law_turns F_law_turns.kp b_law_turns .nil pass0) (pe_call G_law_draw (hr.mono (by first | decide | omega)) (by rfl) g_law_draw F_law_draw.kp b_law_draw .nil pass0 (pa_cons (pv 0) (pa_cons pe_int pa_nil))) (fun _ _ => rfl)) pa_nil))))))))))))
      (pss_one (ps_ret (pv 2))))), ?_⟩
    refine ⟨Nat.le_of_lt (small1000 (by show 1 ≤ 1000; decide)), fun p np => ?_⟩
    refine ⟨p, 4, _, rfl, rfl, upd_same, by decide, by decide, Nat.le_of_lt (small1000 (by show 4 ≤ 1000; decide)), fun p2 np2 => ?_⟩
    rw [flat4]
    have s2 : Same H (upd (upd H p (.lst [.non])) p2 (.lst [.non, .non, .non, .non])) := (same_new np).trans (same_new np2)
    have h2 : (upd (upd H p (.lst [.non])) p2 (.lst [.non, .non, .non, .non])) p2 = some (.lst [.non, .non, .non, .non]) := upd_same
    have n2 : H p2 = none := (same_new np).free np2
    generalize upd (upd H p (.lst [.non])) p2 (.lst [.non, .non, .non, .non]) = H2 at s2 h2 ⊢
    refine ⟨Nat.le_of_lt (small1000 (by show 1 ≤ 1000; decide)), fun D nD => ?_⟩
    have n2D : p2 ≠ D := ne_of_none h2 nD
    have s3 : Same H (upd H2 D (.lst [.ref p2])) := s2.trans (same_new nD)
    have hS3 : SpAt (upd H2 D (.lst [.ref p2])) D [.ref p2] (freeS 1) := ⟨upd_same, .cons ⟨p2, _, rfl, by rw [upd_ne n2D]; exact h2, .cons rfl (.cons rfl (.cons rfl (.cons rfl .nil)))⟩ .nil, by simp⟩
    have hF3 : Fresh H [V.ref p2] := fun x z => by
      have e := List.mem_singleton.mp z
      injection e with e
      subst e
      exact n2
    generalize upd H2 D (.lst [.ref p2]) = H3 at s3 hS3 ⊢
    have hnD : H D = none := s2.free nD
    refine ⟨intV many, rfl, 1, many, rfl, ⟨by decide, by decide, by omega, by omega⟩, ?_⟩
    refine for_range (lo := 1) (n := ((many : Int) - 1).toNat) (fun i σ H4 => ∃ y3 y4 y5 y6 rs S, σ = [some (.ref R), some (intV many), some (.ref D), y3, y4, y5, y6, none] ∧ SpAt H4 D rs S ∧ Fresh H rs ∧ Good S ∧ S.length = i + 1 ∧ ReelOk R H4 ∧ Keep R H H4 ∧ Aw R H H4 ∧ ∃ f, f < 4 ∧ getJ S i f = some none)
      ⟨none, none, none, none, [.ref p2], freeS 1, rfl, hS3, hF3, freeS_good 1, rfl, hR.same s3, Keep.of s3, s3.aw, 0, by decide, rfl⟩ ?_ ?_
    · rintro i σ H4 hi ⟨y3, y4, y5, y6, rs, S, rfl, hS4, hF4, hG, hl, hR4, k4, w4, ff, hff, hfree⟩
      rw [show (1 : Int) + (i : Int) = ((i + 1 : Nat) : Int) by omega]
      have nDR : D ≠ R := hR4.isR hS4.l (no_int (bat_ref hS4.b))
      have lrs : rs.length = i + 1 := by rw [plen hS4.b, hl]
      -- left
      walk_at "g"
      refine ⟨.inl (by decide), 4 * ((i + 1 : Nat) : Int), rfl, by omega, by omega, fun L nL => ?_⟩
      rw [show (4 * ((i + 1 : Nat) : Int)).toNat = 4 * (i + 1) by omega]
      have nLD : L ≠ D := fun z => by
        rw [z, hS4.l] at nL
        cases nL
      have nLr := hS4.fresh nL
      refine lc_range (lo := 0) (n := 4 * (i + 1)) (fun m H5 => ∃ ys, H5 L = some (.lst ys) ∧ Paired (FcAt H5) ys (((List.range m).filter (isFr S)).map fun k => (k / 4, k % 4)) ∧ Same H4 H5 ∧ SpAt H5 D rs S ∧ Away R L H5)
        ⟨[], upd_same, .nil, same_new nL, hS4.same (same_new nL), hR4.away nL⟩ ?_ ?_
      · rintro m H5 hm ⟨ys, h5, t5, s5, hS5, hA5⟩
        rw [Int.zero_add]
        refine ⟨rfl, ?_⟩
        obtain ⟨j, hj⟩ := hG.l4.get (b := m / 4) (f := m % 4) (by omega) (by omega)
        obtain ⟨pb, vb, v, hb1, hb2, hb3, hb4⟩ := hS5.face hj
        walk_at "g"
        refine ⟨⟨by decide, by decide⟩, D, rs, _, .ref pb, rfl, rfl, .inl (.inl hS5.l), at_of (j := m / 4) (fdiv_nat m 4) hb1, ?_⟩
        walk_at "g"
        refine ⟨(show (4 : Int) ≠ 0 by decide), pb, vb, _, v, rfl, rfl, .inl (.inl hb2), at_of (j := m % 4) (fmod_nat m 4) hb3, ?_⟩
        walk_at "g"
        rw [hb4.isN]
        have eF : isFr S m = j.isNone := by
          unfold isFr
          rw [hj]
          cases j <;> rfl
        rw [← eF]
        refine ite2 (fun e => ?_) (fun e => ?_)
        · walk_at "g"
          refine ⟨⟨by decide, by decide⟩, ?_⟩
          walk_at "g"
          refine ⟨(show (4 : Int) ≠ 0 by decide), Nat.le_of_lt (small1000 (by show 2 ≤ 1000; decide)), fun p o np d => ?_⟩
          have ef : ([V.int ((m : Int).fdiv 4), V.int ((m : Int).fmod 4)] : List V) = [intV (m / 4), intV (m % 4)] := by
            rw [show (4 : Int) = ((4 : Nat) : Int) from rfl, fdiv_nat, fmod_nat]
            rfl
          have s6 : Same H5 (upd H5 p (.frz o (.tup [V.int ((m : Int).fdiv 4), V.int ((m : Int).fmod 4)]))) := same_new np
          have f6 : FcAt (upd H5 p (.frz o (.tup [V.int ((m : Int).fdiv 4), V.int ((m : Int).fmod 4)]))) (.ref p) (m / 4, m % 4) := ⟨p, rfl, o, d, by rw [ef]; exact upd_same⟩
          have h6 := s6 _ _ h5
          have hS6 := hS5.same s6
          refine ⟨ys, h6, small1000 (by
            rw [plen t5, List.length_map]
            refine Nat.le_trans (List.length_filter_le _ _) ?_
            rw [List.length_range]
            omega), ys ++ [.ref p], upd_same, ?_, same_fill (s5.trans s6) nL, hS6.other h6 nLD nLr, (hA5.same s6).fill⟩
          rw [range_filter_succ, if_pos e, List.map_append]
          exact papp (pmono t5 fun _ _ z => z.mono (s6.tups.trans (tups_set h6))) (.cons (f6.mono (tups_set h6)) .nil)
        · rw [range_filter_succ, if_neg e, List.append_nil]
          exact ⟨ys, h5, t5, s5, hS5, hA5⟩
      · rintro H5 ⟨ys, h5, t5, s5, hS5, hA5⟩
        have lpos : 0 < ys.length := by
          rw [plen t5, List.length_map]
          refine List.length_pos_of_mem (a := 4 * i + ff) ?_
          rw [List.mem_filter, List.mem_range]
          refine ⟨by omega, ?_⟩
          unfold isFr
          rw [show (4 * i + ff) / 4 = i by omega, show (4 * i + ff) % 4 = ff by omega, hfree]
          rfl
        have lmax : ys.length ≤ 80 := by
          rw [plen t5, List.length_map]
          refine Nat.le_trans (List.length_filter_le _ _) ?_
          rw [List.length_range]
          omega
        -- block, face = left[..]
        refine ⟨.ref L, rfl, .ref R, rfl, .ref L, rfl, L, ys, rfl, .inl (.inl (.inl h5)), R, ys.length, rfl, by omega, by omega, hA5.ok, fun H6 r k6 hR6 aw6 r0 r1 => ?_⟩
        have tp6 := k6.tups hA5.ok
        have hS6 := hS5.keep k6 hA5.ok hG.l4 nDR
        obtain ⟨v, x, hv, hx, px, rfl, fx⟩ := plen' t5 (i := r.toNat) (by rw [← plen t5]; omega)
        have hxm := List.mem_of_getElem? hx
        rw [List.mem_map] at hxm
        obtain ⟨kx, hkx, ex⟩ := hxm
        rw [List.mem_filter, List.mem_range] at hkx
        obtain ⟨b0, f0⟩ := x
        injection ex with ex1 ex2
        have hb0 : b0 < i + 1 := by omega
        have hf0 : f0 < 4 := by omega
        have q0 : getJ S b0 f0 = some none := by
          have := hkx.2
          unfold isFr at this
          rw [ex1, ex2] at this
          simpa using this
        refine ⟨L, ys, r, .ref px, rfl, rfl, .inl (.inl (k6 _ _ h5 hA5.ne)), at_of (j := r.toNat) (by omega) hv, px, [intV b0, intV f0], rfl, (fx.mono tp6).sqt, rfl, _, _, rfl, _, _, rfl, rfl, ?_⟩
        -- blocks.append([None] * 4)
        refine ⟨.ref D, rfl, .inl ⟨rfl, _, .inl (.inl hS6.l)⟩, Nat.le_of_lt (small1000 (by show 1 ≤ 1000; decide)), fun p3 np3 => ?_⟩
        refine ⟨p3, 4, _, rfl, rfl, upd_same, by decide, by decide, Nat.le_of_lt (small1000 (by show 4 ≤ 1000; decide)), fun p4 np4 => ?_⟩
        rw [flat4]
        have s7 : Same H6 (upd (upd H6 p3 (.lst [.non])) p4 (.lst [.non, .non, .non, .non])) := (same_new np3).trans (same_new np4)
        have h7 : (upd (upd H6 p3 (.lst [.non])) p4 (.lst [.non, .non, .non, .non])) p4 = some (.lst [.non, .non, .non, .non]) := upd_same
        have n7 : H6 p4 = none := (same_new np3).free np4
        generalize upd (upd H6 p3 (.lst [.non])) p4 (.lst [.non, .non, .non, .non]) = H7 at s7 h7 ⊢
        have hS7 := hS6.push s7 n7 ⟨p4, _, rfl, h7, .cons rfl (.cons rfl (.cons rfl (.cons rfl .nil)))⟩ (b := free4)
        have hD7 := s7 _ _ hS6.l
        have hR7 := ((hR6.same s7).set (o := .lst (rs ++ [.ref p4])) hD7 (notReel_refs (fun z => by rw [z] at lrs; cases lrs) (bat_ref hS6.b))).1
        have k7 : Keep R H (upd H7 D (.lst (rs ++ [.ref p4]))) := keep_fill (((k4.same s5).trans k6).same s7) hnD
        have hF7 : Fresh H (rs ++ [.ref p4]) := hF4.push (fun o e => ((k4.same s5).trans k6) _ _ e (hR.isNot e n7 hR6)) n7
        have kk := (k4.same s5).trans k6
        have w7 : Aw R H (upd H7 D (.lst (rs ++ [.ref p4]))) := (((w4.trans k4 s5.aw).trans (k4.same s5) aw6).trans kk s7.aw).trans (kk.same s7) (Aw.set hD7 (notReel_refs (fun z => by rw [z] at lrs; cases lrs) (bat_ref hS6.b)))
        refine ⟨D, rs, .ref p4, rfl, rfl, hD7, small1000 (by omega), ?_⟩
        generalize upd H7 D (.lst (rs ++ [.ref p4])) = H8 at hS7 hR7 k7 w7 ⊢
        -- _law_set
        refine ⟨.ref D, rfl, intV b0, rfl, intV f0, rfl, intV (i + 1), rfl, rfl, fun H9 pT s9 nT T9 => ?_⟩
        obtain ⟨ws, hw, tw⟩ := T9
        have hR9 := hR7.same s9
        have nTR : pT ≠ R := hR9.isR hw (no_int (tat_refs tw))
        refine ⟨.ref R, rfl, R, 24, rfl, by decide, by decide, hR9, fun H10 r2 k10 hR10 aw10 r20 r21 => ?_⟩
        have lw := plen tw
        rw [turns_len] at lw
        obtain ⟨v2, t, hv2, ht, hvt⟩ := plen' tw (i := r2.toNat) (by rw [turns_len]; omega)
        have htm := List.mem_of_getElem? ht
        have hS9 := hS7.same s9
        have hG7 := hG.push
        have nDR7 : D ≠ R := nDR
        have hS10 := hS9.keep k10 hR9 hG7.l4 nDR
        have htf := tf_lt t htm f0 hf0
        refine ⟨pT, ws, r2, v2, rfl, rfl, .inl (.inl (k10 _ _ hw nTR)), at_of (j := r2.toNat) (by omega) hv2, ?_⟩
        refine ⟨D, rs ++ [.ref p4], S ++ [free4], b0, f0, i + 1, v2, t, rfl, hS10, hG7.l4, hvt.mono (k10.tups hR9), htm, by rw [List.length_append]; omega, hf0, by rw [List.length_append]; show i + 1 < S.length + 1; omega, by rw [List.length_append]; show S.length + 1 ≤ 1000; omega, fun H11 kB hS11 => ?_⟩
        have q0' : getJ (S ++ [free4]) b0 f0 = some none := by
          rw [getJ_push (by omega)]
          exact q0
        have q1 : ∀ f, f < 4 → getJ (S ++ [free4]) (i + 1) f = some none := fun f hf => by
          rw [← hl, getJ_last]
          exact free4_get hf
        refine ⟨_, _, _, _, rs ++ [.ref p4], joinJ (S ++ [free4]) b0 f0 (i + 1) t, rfl, hS11, hF7, hG7.join htm q0' (q1 _ htf.1) (fun z => by injection z with z _; omega), by rw [joinJ_len, List.length_append, hl]; rfl, (hR10.keepB kB hS10.b hG7.l4).1, ((k7.same s9).trans k10).inner kB hF7, ((w7.trans k7 s9.aw).trans (k7.same s9) aw10).trans ((k7.same s9).trans k10) (Aw.keepB kB hS10.b hG7.l4), ?_⟩
        obtain ⟨f2, hf2, hne⟩ : ∃ f2, f2 < 4 ∧ f2 ≠ tf t f0 := by
          by_cases h : tf t f0 = 0
          · exact ⟨1, by decide, by omega⟩
          · exact ⟨0, by decide, by omega⟩
        refine ⟨f2, hf2, ?_⟩
        rw [getJ_join (fun z => by omega) (fun z => hne z.2)]
        exact q1 f2 hf2
    · rintro σ H4 ⟨y3, y4, y5, y6, rs, S, rfl, hS4, hF4, hG, hl, hR4, k4, w4, _⟩
      refine ⟨.ref D, rfl, ?_⟩
      exact q H4 D rs S k4 hR4 w4 hnD hS4 hF4 hG (by omega)
end
end Bk

namespace Bk
open PySem PySem.Spec PyProof.Rows L2
local macro_rules | `(tactic| walk_at "g") => `(tactic| (repeat first | refine ⟨_, rfl, ?_⟩ | refine ⟨cpow, ?_⟩ | refine ⟨wideM, ?_⟩ | refine ⟨_, _, rfl, rfl, ?_⟩ | refine ⟨rfl, ?_⟩))
section
variable {P : Program} {w : World} {K : PySem.W.Frag} {mg : Str → Option Value} {base : Heap}
/-! ### _law_doubled -/
abbrev s_law_doubled : Stmt := topS 44
abbrev N_law_doubled : List Str := ["blocks", "many", "found", "block", "face", "one"]
theorem sc_law_doubled : FnScope N_law_doubled ["blocks"] (defScope s_law_doubled) := ⟨rfl, rfl, rfl, by decide +kernel, rfl, by decide +kernel, by decide +kernel⟩
def shJ (m : Nat) : Jn → Jn
  | none => none
  | some (n, t) => some (n + m, t)
def shB (m : Nat) (b : Blk) : Blk := b.map (shJ m)
def shS (m : Nat) (s : Spc) : Spc := s.map (shB m)
theorem getJ_sh {m : Nat} {s : Spc} {b f : Nat} : getJ (shS m s) b f = (getJ s b f).map (shJ m) := by
  unfold getJ shS
  rw [List.getElem?_map]
  cases s[b]? with
  | none => rfl
  | some l =>
    show (shB m l)[f]? = (l[f]?).map (shJ m)
    exact List.getElem?_map
theorem getJ_left {s u : Spc} {b f : Nat} (h : b < s.length) : getJ (s ++ u) b f = getJ s b f := by
  unfold getJ
  rw [List.getElem?_append_left h]
theorem getJ_right {s u : Spc} {b f : Nat} : getJ (s ++ u) (s.length + b) f = getJ u b f := by
  unfold getJ
  rw [List.getElem?_append_right (Nat.le_add_right _ _), Nat.add_sub_cancel_left]
theorem Good.twice {s : Spc} (h : Good s) {u : Spc} (hu : Good u) : Good (s ++ shS s.length u) := by
  have l4 : L4 (s ++ shS s.length u) := fun b hb => by
    rcases List.mem_append.mp hb with z | z
    · exact h.l4 b z
    · obtain ⟨c, hc, rfl⟩ := List.mem_map.mp z
      unfold shB
      rw [List.length_map]
      exact hu.l4 c hc
  refine ⟨l4, fun b f n t e => ?_⟩
  by_cases hb : b < s.length
  · rw [getJ_left hb] at e
    obtain ⟨q1, q2, q3⟩ := h.both b f n t e
    exact ⟨q1, q2, by rw [getJ_left (h.lt e)]; exact q3⟩
  · obtain ⟨c, rfl⟩ : ∃ c, b = s.length + c := ⟨b - s.length, by omega⟩
    rw [getJ_right, getJ_sh] at e
    cases hj : getJ u c f with
    | none =>
      rw [hj] at e
      cases e
    | some j =>
      rw [hj] at e
      cases j with
      | none => cases e
      | some k =>
        obtain ⟨n', t'⟩ := k
        have e1 : (n' + s.length, t') = (n, t) := Option.some.inj (Option.some.inj e)
        injection e1 with e1 e2
        subst e2
        obtain ⟨q1, q2, q3⟩ := hu.both c f n' t' hj
        refine ⟨q1, fun z => ?_, ?_⟩
        · injection z with z1 z2
          exact q2 (Prod.ext (by show n' = c; omega) z2)
        · rw [← e1, Nat.add_comm n', getJ_right, getJ_sh, q3]
          show some (some (c + s.length, back t')) = _
          rw [Nat.add_comm c]
theorem JAt.sh {H : Hp} {m : Nat} {n : Nat} {t : Trn} {p q : Addr} (h1 : FT H p [intV (n + m), .ref q]) (h2 : FT H q (trnV t)) : JAt H (.ref p) (shJ m (some (n, t))) := ⟨p, q, rfl, h1, h2⟩
abbrev id4 : Trn := [0, 1, 2, 3]
theorem id4_mem : id4 ∈ allTurns := by decide +kernel
theorem tf_id4 {f : Nat} (h : f < 4) : tf id4 f = f := by
  match f, h with
  | 0, _ => rfl
  | 1, _ => rfl
  | 2, _ => rfl
  | 3, _ => rfl
def spDoubled : Sp := fun vs H Q _ => ∃ (l : Addr) (rs : List V) (S : Spc), vs = [.ref l] ∧ SpAt H l rs S ∧ Good S ∧ S.length ≤ 20 ∧
  ∀ H' l' rs' S', Same H H' → H l' = none → SpAt H' l' rs' S' → Fresh H rs' → Good S' → S'.length = 2 * S.length → Q (.ref l') H'
theorem ok_law_doubled {f fB fS : Addr} {fd fdB fdS : FuncData} (F : Fun K "_law_doubled" "_law_doubled" s_law_doubled f fd)
    (F_law_back : Fun K "_law_back" "_law_back" s_law_back fB fdB) (g_law_back : mg "_law_back" = some (.ref fB)) (b_law_back : Binds K fdB ["turn"] [])
    (F_law_set : Fun K "_law_set" "_law_set" s_law_set fS fdS) (g_law_set : mg "_law_set" = some (.ref fS)) (b_law_set : Binds K fdS ["blocks", "block", "face", "other", "turn"] [])
    (m_range : mg "range" = none) (m_tuple : mg "tuple" = none) (m_len : mg "len" = none) (m_list : mg "list" = none) : FnOk P w K mg base CX0 3 f fd ["blocks"] spDoubled := by
  have G_law_set : FnOk P w K mg base CX0 2 fS fdS ["blocks", "block", "face", "other", "turn"] spSet := ok_law_set F_law_set F_law_back g_law_back b_law_back m_range m_tuple
  refine F.ok sc_law_doubled (fun vs H Q E h => ?_) (fun cdv A outer s H vs Q E hr h => ?_)
  · obtain ⟨l, rs, S, rfl, _⟩ := h
    rfl
  · obtain ⟨l, rs, S, rfl, hS, hG, hl, q⟩ := h
    have nd := sc_law_doubled.nd
    refine ⟨_, (pss_cons (ps_set (i := 1) nd rfl (.inr rfl) (pe_callB (kLen K rfl) (by rfl) m_len (by decide +kernel) (pa_cons (pv 0) pa_nil)))
      (pss_cons (ps_setLc (i := 2) (own := [("block", 3)]) (g := gName 3) (tt := tYes) rfl nd rfl rfl (sw_true rfl rfl rfl (by decide +kernel)) (kPiL K rfl (pi_list (pv 0))) (blkOk_by (own := [("block", 3)]) (N := N_law_doubled) (sc := defScope s_law_doubled) (by decide +kernel)) (fun _ _ _ _ _ => (pg_name (i := 3) nd rfl (Or.inl rfl))) (fun _ _ _ _ _ => pts_nil) (fun _ _ _ _ _ => (pe_callTy (kList K rfl) (by rfl) m_list (by decide +kernel) (pa_cons (pv 3) pa_nil))))
      (pss_cons (ps_for PassesOwn.never rfl (kPiL K rfl (pi_list (pv 0))) (pg_name (i := 3) nd rfl (.inl rfl)) (pss_one (ps_expr (kBM K rfl (pe_bm PySem.F.plainAttrs_list PySem.F.slot_list_append PySem.F.type_list_append mt_append (pv 2) (pa_cons (pe_lc (own := [("one", 5)]) (g := gName 5) (tt := tYes) rfl nd (kPiL K rfl (pi_list (pv 3))) (blkOk_by (own := [("one", 5)]) (N := N_law_doubled) (sc := defScope s_law_doubled) (by decide +kernel)) (fun _ _ _ _ _ => (pg_name (i := 5) nd rfl (Or.inl rfl))) (fun _ _ _ _ _ => pts_nil) (fun _ _ _ _ _ => (pe_ifExp (pt_cmpR op_isN (pv 5) pe_non (nomark _)) pe_non (pe_tupF (pa_cons (pe_op op_add (pe_ix (kIxT K rfl) (pv 5) pe_int (fun _ _ => rfl)) (pv 1)) (pa_cons (pe_ix (kIxT K rfl) (pv 5) pe_int (fun _ _ => rfl)) pa_nil)))))) pa_nil))))))
      (pss_cons (ps_for PassesOwn.never rfl (pi_range1 (by rfl) m_range (pa_cons (pv 1) pa_nil)) (pg_name (i := 3) nd rfl (.inl rfl)) (pss_one (ps_for PassesOwn.never rfl (pi_range1 (by rfl) m_range (pa_cons pe_int pa_nil)) (pg_name (i := 4) nd rfl (.inl rfl)) (pss_one (ps_if (pt_cmpR op_isN (pe_ix (kIxL K rfl) (pe_ix (kIxL K rfl) (pv 0) (pv 3) (fun _ _ => rfl)) (pv 4) (fun _ _ => rfl)) pe_non (nomark _)) (pss_one (ps_expr (pe_call G_law_set (hr.mono (by first | decide | omega)) (by rfl) g_law_set F_law_set.kp b_law_set .nil pass0 (pa_cons (pv 2) (pa_cons (pv 3) (pa_cons (pv 4) (pa_cons (pe_op op_add (pv 1) (pv 3)) (pa_cons (pe_tupF (pa_cons pe_int (pa_cons pe_int (pa_cons pe_int (pa_cons pe_int pa_nil))))) pa_nil)))))))) pss_nil)))))
      (pss_one (ps_ret (pv 2))))))), ?_⟩
    have lrs : rs.length = S.length := plen hS.b
    refine ⟨.ref l, rfl, l, rs, rfl, .inl (.inl (.inl hS.l)), ?_⟩
    rw [lrs]
    -- found
    refine ⟨.ref l, rfl, l, rfl, ⟨_, .inl (.inl hS.l)⟩, fun D nD => ?_⟩
    refine lc_list (xs := rs) (fun i H1 => ∃ rf, SpAt H1 D rf (S.take i) ∧ Fresh H rf ∧ Same H H1) ⟨[], ⟨upd_same, .nil, .nil⟩, fun _ z => (by cases z), same_new nD⟩ ?_ ?_ ?_
    · rintro i H1 _ ⟨rf, hf, hF, s1⟩
      exact .inl (.inl (s1 _ _ hS.l))
    · rintro i x H1 hx ⟨rf, hf, hF, s1⟩
      obtain ⟨b, hb, p, vs, rfl, h1, h2⟩ := pget' hS.b hx
      have hi : i < S.length := (List.getElem?_eq_some_iff.mp hb).1
      refine ⟨rfl, .ref p, rfl, p, vs, rfl, .inl (.inl (.inl (s1 _ _ h1))), fun p2 np2 => ?_⟩
      have s2 : Same H1 (upd H1 p2 (.lst vs)) := same_new np2
      refine ⟨rf, s2 _ _ hf.l, small1000 (by rw [plen hf.b, List.length_take]; omega), rf ++ [.ref p2], ?_, hF.push (fun o e => s1 _ _ e) np2, same_fill (s1.trans s2) nD⟩
      rw [List.take_add_one, hb]
      exact hf.push s2 np2 ⟨p2, vs, rfl, upd_same, pmono h2 fun _ _ z => z.mono (s1.trans s2).tups⟩
    · rintro H1 ⟨rf, hf, hF, s1⟩
      rw [lrs, List.take_length] at hf
      -- the others
      refine ⟨.ref l, rfl, l, rfl, ⟨_, .inl (.inl (s1 _ _ hS.l))⟩, ?_⟩
      refine for_list (xs := rs) (fun i σ H2 => ∃ y3 y4 rf, σ = [some (.ref l), some (intV S.length), some (.ref D), y3, y4, none] ∧ SpAt H2 D rf (S ++ (shS S.length S).take i) ∧ Fresh H rf ∧ Same H H2) ⟨none, none, rf, rfl, by rw [List.take_zero, List.append_nil]; exact hf, hF, s1⟩ ?_ ?_ ?_
      · rintro i σ H2 _ ⟨y3, y4, rf, rfl, hf, hF, s2⟩
        exact .inl (.inl (s2 _ _ hS.l))
      · rintro i x σ H2 hx ⟨y3, y4, rf, rfl, hf, hF, s2⟩
        obtain ⟨b, hb, p, vs, rfl, h1, h2⟩ := pget' hS.b hx
        have hi : i < S.length := (List.getElem?_eq_some_iff.mp hb).1
        have lb : b.length = 4 := hG.l4 _ (List.mem_of_getElem? hb)
        refine ⟨.ref D, rfl, .inl ⟨rfl, _, .inl (.inl hf.l)⟩, ?_⟩
        refine ⟨.ref p, rfl, p, rfl, ⟨_, .inl (.inl (s2 _ _ h1))⟩, fun L nL => ?_⟩
        have npL : p ≠ L := ne_of_none (s2 _ _ h1) nL
        refine lc_list (xs := vs) (fun k H3 => ∃ ws, H3 L = some (.lst ws) ∧ Paired (JAt H3) ws ((shB S.length b).take k) ∧ Same H2 H3) ⟨[], upd_same, .nil, same_new nL⟩ ?_ ?_ ?_
        · rintro k H3 _ ⟨ws, h3, t3, s3⟩
          exact .inl (.inl (s3 _ _ (s2 _ _ h1)))
        · rintro k v H3 hv ⟨ws, h3, t3, s3⟩
          obtain ⟨j, hj, jv⟩ := pget' h2 hv
          have jv3 := jv.mono (s2.trans s3).tups
          have hk : k < 4 := by
            rw [← lb]
            exact (List.getElem?_eq_some_iff.mp hj).1
          have lw : ws.length < sizeLine := small1000 (by
            rw [plen t3, List.length_take]
            omega)
          have ej : (shB S.length b)[k]? = some (shJ S.length j) := by
            unfold shB
            rw [List.getElem?_map, hj]
            rfl
          refine ⟨rfl, v, rfl, rfl, ?_⟩
          rw [jv3.isN]
          refine ⟨_, rfl, ?_⟩
          cases j with
          | none =>
            refine iteT ⟨ws, h3, lw, ws ++ [.non], upd_same, ?_, same_fill s3 nL⟩
            rw [List.take_add_one, ej]
            exact papp (pmono t3 fun _ _ z => z.mono (tups_set h3)) (.cons rfl .nil)
          | some nt =>
            obtain ⟨n, t⟩ := nt
            obtain ⟨pj, pq, rfl, f1, f2⟩ := jv3
            refine iteF ?_
            refine ⟨.ref pj, rfl, pj, _, 0, intV n, rfl, rfl, f1.sqt, rfl, intV S.length, rfl, n, S.length, rfl, rfl, .ref pj, rfl, pj, _, 1, .ref pq, rfl, rfl, f1.sqt, rfl, Nat.le_of_lt (small1000 (by show 2 ≤ 1000; decide)), fun p4 o4 np4 d4 => ?_⟩
            have s4 : Same H3 (upd H3 p4 (.frz o4 (.tup [.int ((n : Int) + (S.length : Int)), .ref pq]))) := same_new np4
            have j4 : JAt (upd H3 p4 (.frz o4 (.tup [.int ((n : Int) + (S.length : Int)), .ref pq]))) (.ref p4) (shJ S.length (some (n, t))) := JAt.sh (q := pq) ⟨o4, d4, by
              rw [show (intV (n + S.length) : V) = .int ((n : Int) + (S.length : Int)) from congrArg V.int (by omega)]
              exact upd_same⟩ (f2.mono s4.tups)
            have h4 := s4 _ _ h3
            refine ⟨ws, h4, lw, ws ++ [.ref p4], upd_same, ?_, same_fill (s3.trans s4) nL⟩
            rw [List.take_add_one, ej]
            exact papp (pmono t3 fun _ _ z => z.mono (s4.tups.trans (tups_set h4))) (.cons (j4.mono (tups_set h4)) .nil)
        · rintro H3 ⟨ws, h3, t3, s3⟩
          have lvs : vs.length = (shB S.length b).length := by
            unfold shB
            rw [List.length_map]
            exact plen h2
          rw [lvs, List.take_length] at t3
          refine ⟨D, rf, .ref L, rfl, rfl, s3 _ _ hf.l, small1000 (by
            rw [plen hf.b, List.length_append, List.length_take]
            unfold shS
            rw [List.length_map]
            omega), _, _, rf ++ [.ref L], rfl, ?_, hF.push (fun o e => s2 _ _ e) nL, same_fill (s2.trans s3) nD⟩
          have eb : (shS S.length S)[i]? = some (shB S.length b) := by
            unfold shS
            rw [List.getElem?_map, hb]
            rfl
          rw [List.take_add_one, eb, ← List.append_assoc]
          exact hf.push s3 nL ⟨L, ws, rfl, h3, t3⟩
      · rintro σ H2 ⟨y3, y4, rf, rfl, hf, hF, s2⟩
        have e1 : rs.length = (shS S.length S).length := by
          unfold shS
          rw [List.length_map]
          exact lrs
        rw [e1, List.take_length] at hf
        have hG2 := hG.twice hG
        -- the ties
        refine ⟨intV S.length, rfl, S.length, rfl, by omega, by omega, ?_⟩
        rw [Int.toNat_natCast]
        refine for_range (lo := 0) (n := S.length) (fun b σ H3 => ∃ y3 y4 Sc, σ = [some (.ref l), some (intV S.length), some (.ref D), y3, y4, none] ∧ SpAt H3 D rf Sc ∧ Good Sc ∧ Sc.length = 2 * S.length ∧ Same H H3 ∧
            ∀ x y, b ≤ x → y < 4 → getJ S x y = some none → getJ Sc x y = some none ∧ getJ Sc (S.length + x) y = some none)
          ⟨y3, y4, _, rfl, hf, hG2, by rw [List.length_append, ← e1, lrs]; omega, s2, fun x y _ _ hxy => ⟨by rw [getJ_left (hG.l4.of hxy).1]; exact hxy, by rw [getJ_right, getJ_sh, hxy]; rfl⟩⟩ ?_ ?_
        · rintro b σ H3 hb ⟨y3, y4, Sc, rfl, hf3, hG3, hl3, s3, hfr⟩
          rw [Int.zero_add]
          refine ⟨4, rfl, by decide, by decide, ?_⟩
          refine for_range (lo := 0) (n := 4) (fun g σ H4 => ∃ y4 Sc, σ = [some (.ref l), some (intV S.length), some (.ref D), some (intV b), y4, none] ∧ SpAt H4 D rf Sc ∧ Good Sc ∧ Sc.length = 2 * S.length ∧ Same H H4 ∧
              ∀ x y, (b < x ∨ (x = b ∧ g ≤ y)) → y < 4 → getJ S x y = some none → getJ Sc x y = some none ∧ getJ Sc (S.length + x) y = some none)
            ⟨y4, Sc, rfl, hf3, hG3, hl3, s3, fun x y h1 h2 h3 => hfr x y (by omega) h2 h3⟩ ?_ ?_
          · rintro g σ H4 hg ⟨y4, Sc, rfl, hf4, hG4, hl4, s4, hfr⟩
            rw [Int.zero_add]
            have hS4 := hS.same s4
            obtain ⟨j, hj⟩ := hG.l4.get hb hg
            obtain ⟨pb, vb, v, hb1, hb2, hb3, hb4⟩ := hS4.face hj
            refine ⟨.ref l, rfl, intV b, rfl, l, rs, b, .ref pb, rfl, rfl, .inl (.inl hS4.l), atI_nat hb1, intV g, rfl, pb, vb, g, v, rfl, rfl, .inl (.inl hb2), atI_nat hb3, rfl, ?_⟩
            rw [hb4.isN]
            refine ⟨_, rfl, ?_⟩
            cases j with
            | some nt =>
              refine iteF ?_
              refine ⟨_, Sc, rfl, hf4, hG4, hl4, s4, fun x y h1 h2 h3 => hfr x y ?_ h2 h3⟩
              omega
            | none =>
              refine iteT ?_
              obtain ⟨q0, q1⟩ := hfr b g (.inr ⟨rfl, Nat.le_refl _⟩) hg hj
              refine ⟨.ref D, rfl, intV b, rfl, intV g, rfl, intV S.length, rfl, intV b, rfl, _, _, rfl, rfl, Nat.le_of_lt (small1000 (by show 4 ≤ 1000; decide)), fun p5 o5 np5 d5 => ?_⟩
              have s5 : Same H4 (upd H4 p5 (.frz o5 (.tup [intV 0, intV 1, intV 2, intV 3]))) := same_new np5
              have t5 : TAt (upd H4 p5 (.frz o5 (.tup [intV 0, intV 1, intV 2, intV 3]))) (.ref p5) id4 := ⟨p5, rfl, o5, d5, upd_same⟩
              have hf5 := hf4.same s5
              refine ⟨D, rf, Sc, b, g, S.length + b, .ref p5, id4, ?_, hf5, hG4.l4, t5, id4_mem, by omega, hg, by omega, by omega, fun H6 kB hf6 => ?_⟩
              · show [V.ref D, intV b, intV g, .int ((S.length : Int) + (b : Int)), .ref p5] = _
                rw [show (intV (S.length + b) : V) = .int ((S.length : Int) + (b : Int)) from congrArg V.int (by omega)]
              · have etf := tf_id4 hg
                refine ⟨_, joinJ Sc b g (S.length + b) id4, rfl, hf6, hG4.join id4_mem q0 (by rw [etf]; exact q1) (fun z => by injection z with z _; omega), by rw [joinJ_len]; exact hl4, (s4.trans s5).inner kB hF, fun x y h1 h2 h3 => ?_⟩
                have hx := (hG.l4.of h3).1
                obtain ⟨r0, r1⟩ := hfr x y (by omega) h2 h3
                rw [getJ_join (by omega) (by rw [etf]; omega), getJ_join (by omega) (by rw [etf]; omega)]
                exact ⟨r0, r1⟩
          · rintro σ H4 ⟨y4, Sc, rfl, hf4, hG4, hl4, s4, hfr⟩
            exact ⟨_, y4, Sc, rfl, hf4, hG4, hl4, s4, fun x y h1 h2 h3 => hfr x y (.inl (by omega)) h2 h3⟩
        · rintro σ H3 ⟨y3, y4, Sc, rfl, hf3, hG3, hl3, s3, hfr⟩
          exact ⟨.ref D, rfl, q H3 D rf Sc s3 nD hf3 hF hG3 hl3⟩
end
end Bk

namespace Bk
open PySem PySem.Spec PyProof.Rows L2
/-! ### data: lists and tuples as they stand, apart from the reel -/
mutual
inductive Dq (N : Addr → Prop) (H : Hp) : V → PyData → Prop
  | non : Dq N H .non .none
  | bl (b : Bool) : Dq N H (.bl b) (.bool b)
  | int (i : Int) : Dq N H (.int i) (.int i)
  | str (x : Str) : Dq N H (.str x) (.str x)
  | lst {a : Addr} {xs : List V} {ds : List PyData} : H a = some (.lst xs) → ¬ N a → Dqs N H xs ds → Dq N H (.ref a) (.list ds)
  | tup {a : Addr} {xs : List V} {ds : List PyData} : FT H a xs → Dqs N H xs ds → Dq N H (.ref a) (.tuple ds)
inductive Dqs (N : Addr → Prop) (H : Hp) : List V → List PyData → Prop
  | nil : Dqs N H [] []
  | cons {v : V} {vs : List V} {d : PyData} {ds : List PyData} : Dq N H v d → Dqs N H vs ds → Dqs N H (v :: vs) (d :: ds)
end
mutual
theorem Dq.mono {N N' : Addr → Prop} {H H' : Hp} (m : Tups H H') (n : ∀ a, N' a → N a) (k : ∀ a xs, H a = some (.lst xs) → ¬ N a → H' a = some (.lst xs)) : ∀ {d : PyData} {v : V}, Dq N H v d → Dq N' H' v d
  | .none, _, h => by
    cases h
    exact .non
  | .bool b, _, h => by
    cases h
    exact .bl b
  | .int i, _, h => by
    cases h
    exact .int i
  | .str x, _, h => by
    cases h
    exact .str x
  | .list ds, _, h => by
    cases h with
    | lst h1 h2 h3 => exact .lst (k _ _ h1 h2) (fun z => h2 (n _ z)) (Dqs.mono m n k h3)
  | .tuple ds, _, h => by
    cases h with
    | tup h1 h2 => exact .tup (h1.mono m) (Dqs.mono m n k h2)
  | .dict _, _, h => by cases h
theorem Dqs.mono {N N' : Addr → Prop} {H H' : Hp} (m : Tups H H') (n : ∀ a, N' a → N a) (k : ∀ a xs, H a = some (.lst xs) → ¬ N a → H' a = some (.lst xs)) : ∀ {ds : List PyData} {vs : List V}, Dqs N H vs ds → Dqs N' H' vs ds
  | [], _, h => by
    cases h
    exact .nil
  | d :: ds, _, h => by
    cases h with
    | cons h1 h2 => exact .cons (Dq.mono m n k h1) (Dqs.mono m n k h2)
end
theorem Dq.weak {N N' : Addr → Prop} {H : Hp} {v : V} {d : PyData} (h : Dq N H v d) (n : ∀ a, N' a → N a) : Dq N' H v d := h.mono (Tups.refl _) n fun _ _ e _ => e
theorem Dqs.weak {N N' : Addr → Prop} {H : Hp} {v : List V} {d : List PyData} (h : Dqs N H v d) (n : ∀ a, N' a → N a) : Dqs N' H v d := h.mono (Tups.refl _) n fun _ _ e _ => e
theorem Dq.same {N : Addr → Prop} {H H' : Hp} {v : V} {d : PyData} (h : Dq N H v d) (s : Same H H') : Dq N H' v d := h.mono s.tups (fun _ z => z) fun a xs e _ => s a _ e
theorem Dqs.same {N : Addr → Prop} {H H' : Hp} {v : List V} {d : List PyData} (h : Dqs N H v d) (s : Same H H') : Dqs N H' v d := h.mono s.tups (fun _ z => z) fun a xs e _ => s a _ e
theorem Dq.keep {N : Addr → Prop} {R : Addr} {H H' : Hp} {v : V} {d : PyData} (h : Dq N H v d) (k : Keep R H H') (r : ReelOk R H) (n : N R) : Dq N H' v d := h.mono (k.tups r) (fun _ z => z) fun a xs e m => k a _ e fun z => m (by rw [z]; exact n)
theorem Dqs.keep {N : Addr → Prop} {R : Addr} {H H' : Hp} {v : List V} {d : List PyData} (h : Dqs N H v d) (k : Keep R H H') (r : ReelOk R H) (n : N R) : Dqs N H' v d := h.mono (k.tups r) (fun _ z => z) fun a xs e m => k a _ e fun z => m (by rw [z]; exact n)
/-- a list that they avoid is filled -/
theorem Dqs.fill {N : Addr → Prop} {H : Hp} {D : Addr} {xs : List V} {o : HO} {v : List V} {d : List PyData} (h : Dqs N H v d) (hD : H D = some (.lst xs)) (n : N D) : Dqs N (upd H D o) v d := h.mono (tups_set hD) (fun _ z => z) fun a ys e m => by
  rw [upd_ne (show a ≠ D from fun z => m (by rw [z]; exact n))]
  exact e
theorem Dq.fill {N : Addr → Prop} {H : Hp} {D : Addr} {xs : List V} {o : HO} {v : V} {d : PyData} (h : Dq N H v d) (hD : H D = some (.lst xs)) (n : N D) : Dq N (upd H D o) v d := h.mono (tups_set hD) (fun _ z => z) fun a ys e m => by
  rw [upd_ne (show a ≠ D from fun z => m (by rw [z]; exact n))]
  exact e
mutual
theorem Dq.dp {K : PySem.W.Frag} {N : Addr → Prop} {H : Hp} : ∀ {d : PyData} {v : V}, Dq N H v d → Dp K H v d
  | .none, _, h => by
    cases h
    exact .non
  | .bool b, _, h => by
    cases h
    exact .bl b
  | .int i, _, h => by
    cases h
    exact .int i
  | .str x, _, h => by
    cases h
    exact .str x
  | .list ds, _, h => by
    cases h with
    | lst h1 h2 h3 => exact .lst (.inl (.inl h1)) (Dqs.dp h3)
  | .tuple ds, _, h => by
    cases h with
    | tup h1 h2 => exact .tup h1.sqt (Dqs.dp h2)
  | .dict _, _, h => by cases h
theorem Dqs.dp {K : PySem.W.Frag} {N : Addr → Prop} {H : Hp} : ∀ {ds : List PyData} {vs : List V}, Dqs N H vs ds → DpAll K H vs ds
  | [], _, h => by
    cases h
    exact .nil
  | d :: ds, _, h => by
    cases h with
    | cons h1 h2 => exact .cons (Dq.dp h1) (Dqs.dp h2)
end
theorem Dqs.len {N : Addr → Prop} {H : Hp} : ∀ {ds : List PyData} {vs : List V}, Dqs N H vs ds → vs.length = ds.length
  | [], _, h => by
    cases h
    rfl
  | d :: ds, _, h => by
    cases h with
    | cons h1 h2 =>
      rw [List.length_cons, List.length_cons, h2.len]
theorem Dqs.get {N : Addr → Prop} {H : Hp} : ∀ {ds : List PyData} {vs : List V} {i : Nat} {v : V}, Dqs N H vs ds → vs[i]? = some v → ∃ d, ds[i]? = some d ∧ Dq N H v d
  | [], _, i, v, h, e => by
    cases h
    simp at e
  | d :: ds, _, i, v, h, e => by
    cases h with
    | cons h1 h2 =>
      cases i with
      | zero =>
        have e' := Option.some.inj (show some _ = some v from e)
        subst e'
        exact ⟨d, rfl, h1⟩
      | succ i =>
        have q := Dqs.get (i := i) h2 (show _ = some v from e)
        exact q
theorem Dqs.get' {N : Addr → Prop} {H : Hp} : ∀ {ds : List PyData} {vs : List V} {i : Nat} {d : PyData}, Dqs N H vs ds → ds[i]? = some d → ∃ v, vs[i]? = some v ∧ Dq N H v d
  | [], _, i, v, h, e => by simp at e
  | d :: ds, _, i, v, h, e => by
    cases h with
    | cons h1 h2 =>
      cases i with
      | zero =>
        have e' := Option.some.inj (show some d = some v from e)
        subst e'
        exact ⟨_, rfl, h1⟩
      | succ i =>
        have q := Dqs.get' (i := i) h2 (show _ = some v from e)
        exact q
theorem Dqs.snoc {N : Addr → Prop} {H : Hp} {v : V} {d : PyData} (h : Dq N H v d) : ∀ {ds : List PyData} {vs : List V}, Dqs N H vs ds → Dqs N H (vs ++ [v]) (ds ++ [d])
  | [], _, k => by
    cases k
    exact .cons h .nil
  | d :: ds, _, k => by
    cases k with
    | cons h1 h2 => exact .cons h1 (h2.snoc h)

/-! ### lists for tuples: what a mixture keeps -/
mutual
def norm : PyData → PyData
  | .list ds => .list (norms ds)
  | .tuple ds => .list (norms ds)
  | .none => .none
  | .bool b => .bool b
  | .int i => .int i
  | .str x => .str x
  | .dict k => .dict k
def norms : List PyData → List PyData
  | [] => []
  | d :: ds => norm d :: norms ds
end
theorem norms_map : ∀ ds : List PyData, norms ds = ds.map norm
  | [] => by simp only [norms, List.map_nil]
  | d :: ds => by simp only [norms, List.map_cons, norms_map ds]
mutual
theorem norm_same (B : Nat) : ∀ d : PyData, (norm d).bulk = d.bulk ∧ (norm d).depth = d.depth ∧ (norm d).leavesShort B = d.leavesShort B ∧ (norm d).showable = d.showable ∧ (norm d).hasDict = d.hasDict
  | .list ds => by
    have h := norms_same B ds
    simp only [norm, PyData.bulk, PyData.depth, PyData.leavesShort, PyData.showable, PyData.hasDict]
    exact ⟨h.1, by rw [h.2.1], h.2.2.1, h.2.2.2.1, h.2.2.2.2⟩
  | .tuple ds => by
    have h := norms_same B ds
    simp only [norm, PyData.bulk, PyData.depth, PyData.leavesShort, PyData.showable, PyData.hasDict]
    exact ⟨h.1, by rw [h.2.1], h.2.2.1, h.2.2.2.1, h.2.2.2.2⟩
  | .none => by simp only [norm, and_self]
  | .bool b => by simp only [norm, and_self]
  | .int i => by simp only [norm, and_self]
  | .str x => by simp only [norm, and_self]
  | .dict k => by simp only [norm, and_self]
theorem norms_same (B : Nat) : ∀ ds : List PyData, PyData.bulkAll (norms ds) = PyData.bulkAll ds ∧ PyData.depthAll (norms ds) = PyData.depthAll ds ∧ PyData.leavesShortAll B (norms ds) = PyData.leavesShortAll B ds ∧ PyData.showableAll (norms ds) = PyData.showableAll ds ∧ PyData.hasDictAll (norms ds) = PyData.hasDictAll ds
  | [] => by simp only [norms, and_self]
  | d :: ds => by
    have h1 := norm_same B d
    have h2 := norms_same B ds
    simp only [norms, PyData.bulkAll, PyData.depthAll, PyData.leavesShortAll, PyData.showableAll, PyData.hasDictAll]
    exact ⟨by rw [h1.1, h2.1], by rw [h1.2.1, h2.2.1], by rw [h1.2.2.1, h2.2.2.1], by rw [h1.2.2.2.1, h2.2.2.2.1], by rw [h1.2.2.2.2, h2.2.2.2.2]⟩
end
def isSeqD : PyData → Bool
  | .list _ => true
  | .tuple _ => true
  | _ => false
def tyD : PyData → String
  | .list _ => "list"
  | .tuple _ => "tuple"
  | .none => "NoneType"
  | .bool _ => "bool"
  | .int _ => "int"
  | .str _ => "str"
  | .dict _ => "dict"
theorem Dq.ty {K : PySem.W.Frag} {N : Addr → Prop} {H : Hp} {v : V} {d : PyData} (h : Dq N H v d) : TyX K H v (.type (tyD d)) := by
  cases d with
  | none =>
    cases h
    exact .base .non
  | bool b =>
    cases h
    exact .base (.bl b)
  | int i =>
    cases h
    exact .base (.int i)
  | str x =>
    cases h
    exact .base (.str x)
  | list ds =>
    cases h with
    | lst h1 _ _ => exact .base (.lst h1)
  | tuple ds =>
    cases h with
    | tup h1 _ =>
      obtain ⟨o, _, h1⟩ := h1
      exact .fTuple h1
  | dict k => cases h
/-! data of tuples alone leans on tuples alone -/
mutual
def tupled : PyData → Bool
  | .list _ => false
  | .tuple ds => tupleds ds
  | .dict _ => false
  | .none => true
  | .bool _ => true
  | .int _ => true
  | .str _ => true
def tupleds : List PyData → Bool
  | [] => true
  | d :: ds => tupled d && tupleds ds
end
mutual
theorem Dq.monoT {N N' : Addr → Prop} {H H' : Hp} (m : Tups H H') : ∀ {d : PyData} {v : V}, tupled d = true → Dq N H v d → Dq N' H' v d
  | .none, _, _, h => by
    cases h
    exact .non
  | .bool b, _, _, h => by
    cases h
    exact .bl b
  | .int i, _, _, h => by
    cases h
    exact .int i
  | .str x, _, _, h => by
    cases h
    exact .str x
  | .list ds, _, e, _ => by simp only [tupled] at e; cases e
  | .tuple ds, _, e, h => by
    cases h with
    | tup h1 h2 => exact .tup (h1.mono m) (Dqs.monoT m (by simpa only [tupled] using e) h2)
  | .dict _, _, _, h => by cases h
theorem Dqs.monoT {N N' : Addr → Prop} {H H' : Hp} (m : Tups H H') : ∀ {ds : List PyData} {vs : List V}, tupleds ds = true → Dqs N H vs ds → Dqs N' H' vs ds
  | [], _, _, h => by
    cases h
    exact .nil
  | d :: ds, _, e, h => by
    simp only [tupleds, Bool.and_eq_true] at e
    cases h with
    | cons h1 h2 => exact .cons (Dq.monoT m e.1 h1) (Dqs.monoT m e.2 h2)
end
end Bk

namespace Bk
open PySem PySem.Spec PyProof.Rows L2
local macro_rules | `(tactic| walk_at "g") => `(tactic| (repeat first | refine ⟨_, rfl, ?_⟩ | refine ⟨cpow, ?_⟩ | refine ⟨wideM, ?_⟩ | refine ⟨_, _, rfl, rfl, ?_⟩ | refine ⟨rfl, ?_⟩))
section
variable {P : Program} {w : World} {K : PySem.W.Frag} {mg : Str → Option Value} {base : Heap}
/-! ### _law_blocks -/
abbrev s_law_blocks : Stmt := topS 45
abbrev N_law_blocks : List Str := ["reel", "most", "kind", "many"]
theorem sc_law_blocks : FnScope N_law_blocks ["reel", "most"] (defScope s_law_blocks) := ⟨rfl, rfl, rfl, by decide +kernel, rfl, by decide +kernel, by decide +kernel⟩
theorem Fresh.keep {R : Addr} {H H1 : Hp} {rs : List V} (f : Fresh H1 rs) (k : Keep R H H1) (r : ReelOk R H1) : Fresh H rs := fun p z => by
  have n := f p z
  exact k.free n (fun e => by
    obtain ⟨g, c, gs, cs, m, st, q⟩ := r
    rw [e, q.r] at n
    cases n)
theorem Keep.free' {R : Addr} {H H1 : Hp} (k : Keep R H H1) (r : ReelOk R H1) {p : Addr} (n : H1 p = none) : H p = none := k.free n (fun e => by
  obtain ⟨g, c, gs, cs, m, st, q⟩ := r
  rw [e, q.r] at n
  cases n)
theorem and_way {c d : Bool} {A B X : Prop} (hx : (if d = true then A else B) → X) (h1 : c = true → d = true → A) (h2 : ¬ (c = true ∧ d = true) → B) : if c = true then X else B := by
  by_cases hc : c = true
  · rw [if_pos hc]
    refine hx ?_
    by_cases hd : d = true
    · rw [if_pos hd]
      exact h1 hc hd
    · rw [if_neg hd]
      exact h2 fun z => hd z.2
  · rw [if_neg hc]
    exact h2 fun z => hc z.1
def spBlocks : Sp := fun vs H Q _ => ∃ (R : Addr) (most : Nat), vs = [.ref R, intV most] ∧ 1 ≤ most ∧ most ≤ 20 ∧ ReelOk R H ∧
  ∀ H' l rs S, Keep R H H' → ReelOk R H' → Aw R H H' → H l = none → SpAt H' l rs S → Fresh H rs → Good S → 1 ≤ S.length → S.length ≤ most → Q (.ref l) H'
theorem ok_law_blocks {f fD fA fL fO : Addr} {fd fdD fdA fdL fdO : FuncData} (F : Fun K "_law_blocks" "_law_blocks" s_law_blocks f fd)
    (F_law_draw : Fun K "_law_draw" "_law_draw" s_law_draw fD fdD) (g_law_draw : mg "_law_draw" = some (.ref fD)) (b_law_draw : Binds K fdD ["reel", "many"] [])
    (F_law_any : Fun K "_law_any" "_law_any" s_law_any fA fdA) (g_law_any : mg "_law_any" = some (.ref fA)) (b_law_any : Binds K fdA ["reel", "many"] [])
    (F_law_ball : Fun K "_law_ball" "_law_ball" s_law_ball fL fdL) (g_law_ball : mg "_law_ball" = some (.ref fL)) (b_law_ball : Binds K fdL ["reel", "many"] [])
    (F_law_doubled : Fun K "_law_doubled" "_law_doubled" s_law_doubled fO fdO) (g_law_doubled : mg "_law_doubled" = some (.ref fO)) (b_law_doubled : Binds K fdO ["blocks"] [])
    (G_law_draw : FnOk P w K mg base CX0 1 fD fdD ["reel", "many"] spDraw) (G_law_any : FnOk P w K mg base CX0 3 fA fdA ["reel", "many"] spAny) (G_law_ball : FnOk P w K mg base CX0 3 fL fdL ["reel", "many"] spAny) (G_law_doubled : FnOk P w K mg base CX0 3 fO fdO ["blocks"] spDoubled)
    (m_min : mg "min" = none) : FnOk P w K mg base CX0 4 f fd ["reel", "most"] spBlocks := by
  refine F.ok sc_law_blocks (fun vs H Q E h => ?_) (fun cdv A outer s H vs Q E hr h => ?_)
  · obtain ⟨R, most, rfl, _⟩ := h
    rfl
  · obtain ⟨R, most, rfl, hm1, hm2, hR, q⟩ := h
    have nd := sc_law_blocks.nd
    refine ⟨_, (pss_cons (ps_set (i := 2) nd rfl (.inl rfl) (pe_call G_law_draw (hr.mono (by first | decide | omega)) (by rfl) g_law_draw F_law_draw.kp b_law_draw .nil pass0 (pa_cons (pv 0) (pa_cons pe_int pa_nil))))
      (pss_cons (ps_if (pw_and (pt_cmpR op_eq (pv 2) pe_int (nomark _)) (pw_and1 (pt_cmpR op_gt (pv 1) pe_int (nomark _)))).pt (pss_one (ps_ret (pe_call G_law_doubled (hr.mono (by first | decide | omega)) (by rfl) g_law_doubled F_law_doubled.kp b_law_doubled .nil pass0 (pa_cons (pe_call G_law_ball (hr.mono (by first | decide | omega)) (by rfl) g_law_ball F_law_ball.kp b_law_ball .nil pass0 (pa_cons (pv 0) (pa_cons (pe_op op_add pe_int (pe_call G_law_draw (hr.mono (by first | decide | omega)) (by rfl) g_law_draw F_law_draw.kp b_law_draw .nil pass0 (pa_cons (pv 0) (pa_cons (pe_op op_fdivN (pv 1) pe_int) pa_nil)))) pa_nil))) pa_nil)))) pss_nil)
      (pss_cons (ps_set (i := 3) nd rfl (.inl rfl) (pe_op op_add pe_int (pe_call G_law_draw (hr.mono (by first | decide | omega)) (by rfl) g_law_draw F_law_draw.kp b_law_draw .nil pass0 (pa_cons (pv 0) (pa_cons (pe_ix (kIxL K rfl) (pe_lst (pa_cons (pv 1) (pa_cons (pe_callB (call_min2 rfl) (by rfl) m_min (by decide +kernel) (pa_cons (pv 1) (pa_cons pe_int pa_nil))) pa_nil))) (pe_call G_law_draw (hr.mono (by first | decide | omega)) (by rfl) g_law_draw F_law_draw.kp b_law_draw .nil pass0 (pa_cons (pv 0) (pa_cons pe_int pa_nil))) (fun _ _ => rfl)) pa_nil)))))
      (pss_one (ps_ret (pe_ifExp (pt_cmpR op_eq (pv 2) pe_int (nomark _)) (pe_call G_law_ball (hr.mono (by first | decide | omega)) (by rfl) g_law_ball F_law_ball.kp b_law_ball .nil pass0 (pa_cons (pv 0) (pa_cons (pv 3) pa_nil))) (pe_call G_law_any (hr.mono (by first | decide | omega)) (by rfl) g_law_any F_law_any.kp b_law_any .nil pass0 (pa_cons (pv 0) (pa_cons (pv 3) pa_nil))))))))), ?_⟩
    refine ⟨.ref R, rfl, R, 5, rfl, by decide, by decide, hR, fun H1 kd k1 hR1 aw1 d0 d1 => ?_⟩
    refine ⟨_, rfl, rfl, _, rfl, ?_⟩
    refine and_way (d := decide ((1 : Int) < (most : Int))) (fun z => ⟨intV most, rfl, _, _, rfl, rfl, _, rfl, z⟩) (fun e1 e2 => ?_) (fun e => ?_)
    · have hm : 1 < most := by
        have := of_decide_eq_true e2
        omega
      have efd : (most : Int).fdiv 2 = ((most / 2 : Nat) : Int) := fdiv_nat most 2
      refine ⟨.ref R, rfl, .ref R, rfl, intV most, rfl, _, _, rfl, rfl, ⟨by decide, by decide⟩, ?_⟩
      refine ⟨R, (most : Int).fdiv 2, rfl, by omega, by omega, hR1, fun H2 r k2 hR2 aw2 r0 r1 => ?_⟩
      rw [efd] at r1
      refine ⟨_, _, rfl, rfl, R, r.toNat + 1, ?_, by omega, by omega, hR2, fun H3 l rs S k3 hR3 aw3 nl hS hF hG hlen => ?_⟩
      · show [V.ref R, .int (1 + r)] = _
        rw [show (intV (r.toNat + 1) : V) = .int (1 + r) from congrArg V.int (by omega)]
      refine ⟨l, rs, S, rfl, hS, hG, by omega, fun H4 l' rs' S' s4 nl' hS' hF' hG' hlen' => ?_⟩
      have k13 : Keep R H H3 := (k1.trans k2).trans k3
      have w13 : Aw R H H3 := (Aw.trans aw1 k1 aw2).trans (k1.trans k2) aw3
      exact q H4 l' rs' S' (k13.same s4) (hR3.same s4) (w13.trans k13 s4.aw) (k13.free' hR3 nl') hS' (hF'.keep k13 hR3) hG' (by omega) (by omega)
    · -- many
      refine ⟨.ref R, rfl, intV most, rfl, intV most, rfl, most, 3, rfl, ?_⟩
      obtain ⟨mn, hmn⟩ : ∃ mn : Nat, (if (3 : Int) < (most : Int) then (3 : Int) else (most : Int)) = (mn : Int) ∧ 1 ≤ mn ∧ mn ≤ most := by
        by_cases h : (3 : Int) < (most : Int)
        · exact ⟨3, by rw [if_pos h]; rfl, by omega, by omega⟩
        · exact ⟨most, by rw [if_neg h], hm1, Nat.le_refl _⟩
      rw [hmn.1]
      refine ⟨Nat.le_of_lt (small1000 (by show 2 ≤ 1000; decide)), fun p np => ?_⟩
      have s2 : Same H1 (upd H1 p (.lst [intV most, intV mn])) := same_new np
      have h2 : (upd H1 p (.lst [intV most, intV mn])) p = some (.lst [intV most, intV mn]) := upd_same
      have hA2 := hR1.away (o := .lst [intV most, intV mn]) np
      show tCall _ _ _ _ _ (upd H1 p (.lst [intV most, intV mn])) _
      generalize upd H1 p (.lst [intV most, intV mn]) = H2 at s2 h2 hA2 ⊢
      refine ⟨.ref R, rfl, R, 2, rfl, by decide, by decide, hA2.ok, fun H3 r k3 hR3 aw3 r0 r1 => ?_⟩
      have h3 := k3 _ _ h2 hA2.ne
      obtain ⟨bd, hbd, b0, b1⟩ : ∃ bd : Nat, atI [intV most, intV mn] r = some (intV bd) ∧ 1 ≤ bd ∧ bd ≤ most := by
        by_cases h : r = 0
        · subst h
          exact ⟨most, rfl, hm1, Nat.le_refl _⟩
        · have h : r = 1 := by omega
          subst h
          exact ⟨mn, rfl, hmn.2.1, hmn.2.2⟩
      refine ⟨p, _, r, _, rfl, rfl, .inl (.inl h3), hbd, R, bd, rfl, by omega, by omega, hR3, fun H4 r2 k4 hR4 aw4 r20 r21 => ?_⟩
      have k14 : Keep R H H4 := ((k1.same s2).trans k3).trans k4
      have w14 : Aw R H H4 := ((Aw.trans aw1 k1 s2.aw).trans (k1.same s2) aw3).trans ((k1.same s2).trans k3) aw4
      refine ⟨_, _, rfl, rfl, ?_⟩
      have em : [V.ref R, .int (1 + r2)] = [V.ref R, intV (r2.toNat + 1)] := by
        rw [show (intV (r2.toNat + 1) : V) = .int (1 + r2) from congrArg V.int (by omega)]
      have fin : MadeS R H4 (r2.toNat + 1) Q := fun H5 l rs S k5 hR5 aw5 nl hS hF hG hlen =>
        q H5 l rs S (k14.trans k5) hR5 (w14.trans k14 aw5) (k14.free' hR4 nl) hS (hF.keep k14 hR4) hG (by omega) (by omega)
      refine ⟨_, rfl, rfl, _, rfl, ite2 (fun _ => ?_) (fun _ => ?_)⟩
      · exact ⟨_, rfl, _, rfl, R, r2.toNat + 1, em, by omega, by omega, hR4, fin⟩
      · exact ⟨_, rfl, _, rfl, R, r2.toNat + 1, em, by omega, by omega, hR4, fin⟩
end
end Bk

namespace Bk
open PySem PySem.Spec PyProof.Rows L2
local macro_rules | `(tactic| walk_at "g") => `(tactic| (repeat first | refine ⟨_, rfl, ?_⟩ | refine ⟨cpow, ?_⟩ | refine ⟨wideM, ?_⟩ | refine ⟨_, _, rfl, rfl, ?_⟩ | refine ⟨rfl, ?_⟩))
section
variable {P : Program} {w : World} {K : PySem.W.Frag} {mg : Str → Option Value} {base : Heap}
/-! ### _law_shut -/
abbrev s_law_shut : Stmt := topS 46
abbrev N_law_shut : List Str := ["blocks", "block"]
theorem sc_law_shut : FnScope N_law_shut ["blocks"] (defScope s_law_shut) := ⟨rfl, rfl, rfl, by decide +kernel, rfl, by decide +kernel, by decide +kernel⟩
def intD (n : Nat) : PyData := .int (n : Int)
def jD : Jn → PyData
  | none => .none
  | some (n, t) => .tuple [intD n, .tuple (t.map intD)]
def shutD (S : Spc) : PyData := .tuple (S.map fun b => .tuple (b.map jD))
theorem dqs_ints {N : Addr → Prop} {H : Hp} : ∀ t : Trn, Dqs N H (trnV t) (t.map intD)
  | [] => .nil
  | n :: t => .cons (.int (n : Int)) (dqs_ints t)
theorem JAt.dq {N : Addr → Prop} {H : Hp} {v : V} {j : Jn} (h : JAt H v j) : Dq N H v (jD j) := by
  cases j with
  | none =>
    rw [show v = .non from h]
    exact .non
  | some k =>
    obtain ⟨n, t⟩ := k
    obtain ⟨p, q, rfl, h1, h2⟩ := h
    exact .tup h1 (.cons (.int (n : Int)) (.cons (.tup h2 (dqs_ints t)) .nil))
theorem jats_dqs {N : Addr → Prop} {H : Hp} : ∀ {vs : List V} {b : Blk}, Paired (JAt H) vs b → Dqs N H vs (b.map jD)
  | _, _, .nil => .nil
  | _, _, .cons r t => .cons r.dq (jats_dqs t)
theorem j_tupled (j : Jn) : tupled (jD j) = true := by
  cases j with
  | none => simp only [jD, tupled]
  | some k =>
    obtain ⟨n, t⟩ := k
    have h : tupleds (t.map intD) = true := by
      induction t with
      | nil => simp only [List.map_nil, tupleds]
      | cons x r ih => simp only [List.map_cons, tupleds, intD, tupled, Bool.true_and, ih]
    simp only [jD, tupled, tupleds, intD, h, Bool.and_self]
theorem js_tupled : ∀ b : Blk, tupleds (b.map jD) = true
  | [] => by simp only [List.map_nil, tupleds]
  | j :: b => by simp only [List.map_cons, tupleds, j_tupled j, js_tupled b, Bool.and_self]
theorem blks_tupled : ∀ S : Spc, tupleds (S.map fun b => .tuple (b.map jD)) = true
  | [] => by simp only [List.map_nil, tupleds]
  | b :: S => by simp only [List.map_cons, tupleds, tupled, js_tupled b, blks_tupled S, Bool.and_self]
def spShut : Sp := fun vs H Q _ => ∃ (l : Addr) (rs : List V) (S : Spc), vs = [.ref l] ∧ SpAt H l rs S ∧ S.length ≤ 40 ∧ ∀ H' v, Same H H' → (∀ N, Dq N H' v (shutD S)) → Q v H'
theorem ok_law_shut {f : Addr} {fd : FuncData} (F : Fun K "_law_shut" "_law_shut" s_law_shut f fd) (m_tuple : mg "tuple" = none) : FnOk P w K mg base CX0 1 f fd ["blocks"] spShut := by
  refine F.ok sc_law_shut (fun vs H Q E h => ?_) (fun cdv A outer s H vs Q E hr h => ?_)
  · obtain ⟨l, rs, S, rfl, _⟩ := h
    rfl
  · obtain ⟨l, rs, S, rfl, hS, hl, q⟩ := h
    have nd := sc_law_shut.nd
    refine ⟨_, (pss_one (ps_ret (pe_callTy (kTupleF K rfl) (by rfl) m_tuple (by decide +kernel) (pa_cons (pe_lc (own := [("block", 1)]) (g := gName 1) (tt := tYes) rfl nd (kPiL K rfl (pi_list (pv 0))) (blkOk_by (own := [("block", 1)]) (N := N_law_shut) (sc := defScope s_law_shut) (by decide +kernel)) (fun _ _ _ _ _ => (pg_name (i := 1) nd rfl (Or.inl rfl))) (fun _ _ _ _ _ => pts_nil) (fun _ _ _ _ _ => (pe_callTy (kTupleF K rfl) (by rfl) m_tuple (by decide +kernel) (pa_cons (pv 1) pa_nil)))) pa_nil)))), ?_⟩
    have lrs : rs.length = S.length := plen hS.b
    refine ⟨.ref l, rfl, l, rfl, ⟨_, .inl (.inl hS.l)⟩, fun D nD => ?_⟩
    refine lc_list (xs := rs) (fun i H1 => ∃ ws, H1 D = some (.lst ws) ∧ (∀ N, Dqs N H1 ws ((S.take i).map fun b => .tuple (b.map jD))) ∧ ws.length = i ∧ Same H H1) ⟨[], upd_same, fun _ => .nil, rfl, same_new nD⟩ ?_ ?_ ?_
    · rintro i H1 _ ⟨ws, h1, t1, l1, s1⟩
      exact .inl (.inl (s1 _ _ hS.l))
    · rintro i x H1 hx ⟨ws, h1, t1, l1, s1⟩
      obtain ⟨b, hb, p, vs, rfl, hp, hv⟩ := pget' hS.b hx
      have hi : i < S.length := (List.getElem?_eq_some_iff.mp hb).1
      refine ⟨rfl, .ref p, rfl, p, vs, rfl, .inl ⟨.inl (.inl (s1 _ _ hp)), fun p2 o2 np2 d2 => ?_⟩⟩
      have s2 : Same H1 (upd H1 p2 (.frz o2 (.tup vs))) := same_new np2
      have f2 : FT (upd H1 p2 (.frz o2 (.tup vs))) p2 vs := FT.new d2
      generalize upd H1 p2 (.frz o2 (.tup vs)) = H2 at s2 f2 ⊢
      have h2 := s2 _ _ h1
      have st : Same H2 H2 := Same.refl _
      refine ⟨ws, h2, small1000 (by omega), ws ++ [.ref p2], upd_same, fun N => ?_, by rw [List.length_append, l1]; rfl, same_fill (s1.trans s2) nD⟩
      rw [List.take_add_one, hb, List.map_append]
      -- frozen tuples alone stand in these
      have tp := s2.tups.trans (tups_set (o := .lst (ws ++ [.ref p2])) h2)
      have jv : Dqs N (upd H2 D (.lst (ws ++ [.ref p2]))) vs (b.map jD) := jats_dqs (pmono hv fun _ _ z => z.mono (s1.tups.trans tp))
      refine Dqs.snoc (.tup (f2.mono (tups_set h2)) jv) ?_
      exact (t1 N).monoT tp (blks_tupled _)
    · rintro H1 ⟨ws, h1, t1, l1, s1⟩
      rw [lrs, List.take_length] at t1
      refine ⟨D, ws, rfl, .inl ⟨.inl (.inl h1), fun p2 o2 np2 d2 => ?_⟩⟩
      refine q _ _ (s1.trans (same_new np2)) fun N => ?_
      exact .tup (FT.new d2) ((t1 N).same (same_new np2))
theorem item_le : ∀ {ds : List PyData} {i : Nat} {d : PyData}, ds[i]? = some d → d.bulk ≤ PyData.bulkAll ds ∧ d.depth ≤ PyData.depthAll ds ∧ i < PyData.bulkAll ds
  | [], i, d, e => by simp at e
  | x :: xs, 0, d, e => by
    have e' := Option.some.inj (show some x = some d from e)
    subst e'
    simp only [PyData.bulkAll, PyData.depthAll]
    omega
  | x :: xs, i + 1, d, e => by
    have h := item_le (ds := xs) (i := i) (d := d) e
    simp only [PyData.bulkAll, PyData.depthAll]
    omega
theorem kit_seq {K : PySem.W.Frag} (d : PyData) : PySem.W.kitAny K (.type (tyD d)) [.type "list", .type "tuple"] = some (isSeqD d) := by
  have go : ∀ (a : String) (b1 b2 r : Bool), kitB a "list" = some b1 → kitB a "tuple" = some b2 → (b1 = false → b2 = r) → (b1 = true → r = true) → PySem.W.kitAny K (.type a) [.type "list", .type "tuple"] = some r := fun a b1 b2 r h1 h2 h3 h4 =>
    kitAny_cons (kit_ty h1) (fun e => by
      have e2 := h3 e
      subst e2
      exact kitAny_cons (kit_ty h2) (fun z => by rw [z]; rfl) fun z => z) h4
  cases d with
  | none => exact go "NoneType" false false _ (by decide +kernel) (by decide +kernel) (fun _ => rfl) (fun z => by cases z)
  | bool b => exact go "bool" false false _ (by decide +kernel) (by decide +kernel) (fun _ => rfl) (fun z => by cases z)
  | int i => exact go "int" false false _ (by decide +kernel) (by decide +kernel) (fun _ => rfl) (fun z => by cases z)
  | str x => exact go "str" false false _ (by decide +kernel) (by decide +kernel) (fun _ => rfl) (fun z => by cases z)
  | list ds => exact go "list" true false _ (by decide +kernel) (by decide +kernel) (fun z => by cases z) (fun _ => rfl)
  | tuple ds => exact go "tuple" false true _ (by decide +kernel) (by decide +kernel) (fun _ => rfl) (fun z => by cases z)
  | dict k => exact go "dict" false false _ (by decide +kernel) (by decide +kernel) (fun _ => rfl) (fun z => by cases z)
theorem norms_len : ∀ ds : List PyData, (norms ds).length = ds.length := fun ds => by rw [norms_map, List.length_map]
end
end Bk

namespace Bk
open PySem PySem.Spec PyProof.Rows L2
/-! ### places in a text -/
def stAt (l : List Stmt) (i : Nat) : Stmt := l.getD i (.Pass ⟨0, 0, 0, 0⟩)
def forBody (s : Stmt) : List Stmt := match s with
  | .For _ _ b _ _ => b
  | _ => []
def lcScope (s : Stmt) : Scope := match s with
  | .Assign _ (.ListComp _ _ sc _) _ => sc
  | _ => { kind := .function, names := [], isGenerator := false, isCoroutine := false }
def numT (n : Nat) : Str := Str.ofString (toString (n : Int))
def Jb (j : Jn) : Prop := ∀ n t, j = some (n, t) → n < 64 ∧ t.length = 4 ∧ ∀ x ∈ t, x < 4
theorem num_len : ∀ n < 64, (numT n).length ≤ 2 := by decide +kernel
theorem num_log {n : Nat} (h : n < 64) : (n : Int).natAbs.log2 < 1920 := by
  have h1 : ∀ n : Nat, n < 64 → n.log2 < 1920 := by decide +kernel
  rw [Int.natAbs_natCast]
  exact h1 n h
def Sb (S : Spc) : Prop := S.length ≤ 40 ∧ ∀ b ∈ S, b.length = 4 ∧ ∀ j ∈ b, Jb j
theorem Good.sb {S : Spc} (h : Good S) (hl : S.length ≤ 40) : Sb S := by
  refine ⟨hl, fun b hb => ⟨h.l4 b hb, fun j hj n t e => ?_⟩⟩
  subst e
  obtain ⟨i, hi⟩ := List.mem_iff_getElem?.mp hb
  obtain ⟨f, hf⟩ := List.mem_iff_getElem?.mp hj
  have g : getJ S i f = some (some (n, t)) := by
    unfold getJ
    rw [hi]
    exact hf
  have ht := (h.both _ _ _ _ g).1
  have h4 := turns4 t ht
  have := h.lt g
  exact ⟨by omega, h4.1, h4.2.1⟩
/-! ### data by their norms -/
theorem Dq.seq {K : PySem.W.Frag} {N : Addr → Prop} {H : Hp} {v : V} {d : PyData} {es : List PyData} (h : Dq N H v d) (e : norm d = .list es) : ∃ a xs ds, v = .ref a ∧ (SqL K H a xs ∨ SqT K H a xs) ∧ (∀ o, H a = some o → True) ∧ Dqs N H xs ds ∧ norms ds = es := by
  cases d with
  | list ds =>
    cases h with
    | lst h1 h2 h3 => exact ⟨_, _, ds, rfl, .inl (.inl (.inl h1)), fun _ _ => trivial, h3, by simpa only [norm, PyData.list.injEq] using e⟩
  | tuple ds =>
    cases h with
    | tup h1 h2 => exact ⟨_, _, ds, rfl, .inr h1.sqt, fun _ _ => trivial, h2, by simpa only [norm, PyData.list.injEq] using e⟩
  | none => simp only [norm] at e; cases e
  | bool b => simp only [norm] at e; cases e
  | int i => simp only [norm] at e; cases e
  | str x => simp only [norm] at e; cases e
  | dict k => simp only [norm] at e; cases e
theorem Dq.isInt {N : Addr → Prop} {H : Hp} {v : V} {d : PyData} {i : Int} (h : Dq N H v d) (e : norm d = .int i) : v = .int i := by
  cases h with
  | int j => simp only [norm, PyData.int.injEq] at e; rw [e]
  | non => simp only [norm] at e; cases e
  | bl b => simp only [norm] at e; cases e
  | str x => simp only [norm] at e; cases e
  | lst _ _ _ => simp only [norm] at e; cases e
  | tup _ _ => simp only [norm] at e; cases e
theorem Dq.isNon {N : Addr → Prop} {H : Hp} {v : V} {d : PyData} (h : Dq N H v d) (e : norm d = .none) : v = .non := by
  cases h with
  | non => rfl
  | int j => simp only [norm] at e; cases e
  | bl b => simp only [norm] at e; cases e
  | str x => simp only [norm] at e; cases e
  | lst _ _ _ => simp only [norm] at e; cases e
  | tup _ _ => simp only [norm] at e; cases e
def nJ (j : Jn) : PyData := norm (jD j)
theorem nJ_some (n : Nat) (t : Trn) : nJ (some (n, t)) = .list [intD n, .list (t.map intD)] := by
  have h : norms (t.map intD) = t.map intD := by
    rw [norms_map, List.map_map]
    exact List.map_congr_left fun x _ => by simp only [Function.comp, intD, norm]
  simp only [nJ, jD, norm, norms, h, intD]
theorem nJ_none : nJ none = .none := by simp only [nJ, jD, norm]
theorem norms_inv : ∀ {ds : List PyData} {e : PyData} {es : List PyData}, norms ds = e :: es → ∃ d ds', ds = d :: ds' ∧ norm d = e ∧ norms ds' = es
  | [], _, _, h => by
    simp only [norms] at h
    cases h
  | d :: ds, e, es, h => by
    simp only [norms, List.cons.injEq] at h
    exact ⟨d, ds, rfl, h.1, h.2⟩
theorem norms_nil_inv : ∀ {ds : List PyData}, norms ds = [] → ds = []
  | [], _ => rfl
  | d :: ds, h => by
    simp only [norms] at h
    cases h
theorem Dqs.uncons {N : Addr → Prop} {H : Hp} {xs : List V} {d : PyData} {ds : List PyData} (h : Dqs N H xs (d :: ds)) : ∃ v vs, xs = v :: vs ∧ Dq N H v d ∧ Dqs N H vs ds := by
  cases h with
  | cons h1 h2 => exact ⟨_, _, rfl, h1, h2⟩
theorem Dqs.pair {N : Addr → Prop} {H : Hp} {xs : List V} {ds : List PyData} {e1 e2 : PyData} (h : Dqs N H xs ds) (e : norms ds = [e1, e2]) :
    ∃ v1 v2 d1 d2, xs = [v1, v2] ∧ Dq N H v1 d1 ∧ norm d1 = e1 ∧ Dq N H v2 d2 ∧ norm d2 = e2 := by
  obtain ⟨d1, r, rfl, n1, e⟩ := norms_inv e
  obtain ⟨d2, r2, rfl, n2, e⟩ := norms_inv e
  obtain rfl := norms_nil_inv e
  obtain ⟨v1, w1, rfl, h1, h⟩ := h.uncons
  obtain ⟨v2, w2, rfl, h2, h⟩ := h.uncons
  cases h
  exact ⟨v1, v2, d1, d2, rfl, h1, n1, h2, n2⟩
def nB (b : Blk) : PyData := .list (b.map nJ)
def nS (S : Spc) : PyData := .list (S.map nB)
theorem norm_at {ds : List PyData} {α : Type} {l : List α} {f : α → PyData} {i : Nat} {d : PyData} (e : norms ds = l.map f) (h : ds[i]? = some d) : ∃ x, l[i]? = some x ∧ norm d = f x := by
  have z : (norms ds)[i]? = some (norm d) := by rw [norms_map, List.getElem?_map, h]; rfl
  rw [e, List.getElem?_map] at z
  cases hx : l[i]? with
  | none =>
    rw [hx] at z
    cases z
  | some x =>
    rw [hx] at z
    exact ⟨x, rfl, (Option.some.inj z).symm⟩
theorem norm_len {ds : List PyData} {α : Type} {l : List α} {f : α → PyData} (e : norms ds = l.map f) : ds.length = l.length := by
  rw [← norms_len, e, List.length_map]
theorem norm_jD (j : Jn) : norm (jD j) = nJ j := rfl
theorem norm_blk (b : Blk) : norms (b.map jD) = b.map nJ := by
  rw [norms_map, List.map_map]
  rfl
theorem norm_shut (S : Spc) : norm (shutD S) = nS S := by
  have h : norms (S.map fun b => PyData.tuple (b.map jD)) = S.map nB := by
    rw [norms_map, List.map_map]
    refine List.map_congr_left fun b _ => ?_
    show norm (PyData.tuple (b.map jD)) = nB b
    simp only [norm, norm_blk, nB]
  simp only [shutD, norm, h, nS]
theorem norm_open (S : Spc) : norm (.list (S.map fun b => PyData.list (b.map jD))) = nS S := by
  have h : norms (S.map fun b => PyData.list (b.map jD)) = S.map nB := by
    rw [norms_map, List.map_map]
    refine List.map_congr_left fun b _ => ?_
    show norm (PyData.list (b.map jD)) = nB b
    simp only [norm, norm_blk, nB]
  simp only [norm, h, nS]
/-- what data of ints and nothing else is: small -/
structure Tiny (d : PyData) (b k : Nat) : Prop where
  b : d.bulk ≤ b
  k : d.depth ≤ k
  s : d.showable = true
  h : d.hasDict = false
  l : d.leavesShort 8 = true
theorem ints_tiny : ∀ {t : Trn}, (∀ x ∈ t, x < 64) → PyData.bulkAll (t.map intD) = t.length ∧ PyData.depthAll (t.map intD) = 0 ∧ PyData.showableAll (t.map intD) = true ∧ PyData.hasDictAll (t.map intD) = false ∧ PyData.leavesShortAll 8 (t.map intD) = true
  | [], _ => by simp [PyData.bulkAll, PyData.depthAll, PyData.showableAll, PyData.hasDictAll, PyData.leavesShortAll]
  | x :: t, h => by
    obtain ⟨h1, h2, h3, h4, h5⟩ := ints_tiny (t := t) fun y hy => h y (List.mem_cons_of_mem _ hy)
    have hx := h x List.mem_cons_self
    have e1 : (intD x).showable = true := by
      simp only [intD, PyData.showable, decide_eq_true_eq]
      exact num_log hx
    have e2 : (intD x).leavesShort 8 = true := by
      simp only [intD, PyData.leavesShort, decide_eq_true_eq]
      exact Nat.le_trans (num_len x hx) (by decide)
    simp only [List.map_cons, PyData.bulkAll, PyData.depthAll, PyData.showableAll, PyData.hasDictAll, PyData.leavesShortAll, h1, h2, h3, h4, h5, e1, e2, List.length_cons]
    refine ⟨?_, ?_, rfl, ?_, rfl⟩
    · simp only [intD, PyData.bulk]
      omega
    · simp only [intD, PyData.depth]
      rfl
    · simp only [intD, PyData.hasDict]
      rfl
theorem j_tiny {j : Jn} (h : Jb j) : Tiny (jD j) 7 2 := by
  cases j with
  | none => exact ⟨by simp only [jD, PyData.bulk]; omega, by simp only [jD, PyData.depth]; omega, by simp only [jD, PyData.showable], by simp only [jD, PyData.hasDict], by simp only [jD, PyData.leavesShort]⟩
  | some k =>
    obtain ⟨n, t⟩ := k
    obtain ⟨hn, ht, hx⟩ := h n t rfl
    obtain ⟨h1, h2, h3, h4, h5⟩ := ints_tiny (t := t) fun y hy => Nat.lt_of_lt_of_le (hx y hy) (by decide)
    obtain ⟨g1, g2, g3, g4, g5⟩ := ints_tiny (t := [n]) fun y hy => by rw [List.mem_singleton.mp hy]; exact hn
    simp only [List.map_cons, List.map_nil, PyData.bulkAll, PyData.depthAll, PyData.showableAll, PyData.hasDictAll, PyData.leavesShortAll, Bool.and_true, Bool.or_false] at g1 g2 g3 g4 g5
    refine ⟨?_, ?_, ?_, ?_, ?_⟩
    · simp only [jD, PyData.bulk, PyData.bulkAll, h1, ht]
      simp only [intD, PyData.bulk]
      omega
    · simp only [jD, PyData.depth, PyData.depthAll, h2]
      simp only [intD, PyData.depth]
      omega
    · simp only [jD, PyData.showable, PyData.showableAll, h3, g3]
      rfl
    · simp only [jD, PyData.hasDict, PyData.hasDictAll, h4, g4]
      rfl
    · simp only [jD, PyData.leavesShort, PyData.leavesShortAll, h5, g5]
      rfl
theorem js_tiny : ∀ {b : Blk}, (∀ j ∈ b, Jb j) → PyData.bulkAll (b.map jD) ≤ 8 * b.length ∧ PyData.depthAll (b.map jD) ≤ 2 ∧ PyData.showableAll (b.map jD) = true ∧ PyData.hasDictAll (b.map jD) = false ∧ PyData.leavesShortAll 8 (b.map jD) = true
  | [], _ => by simp [PyData.bulkAll, PyData.depthAll, PyData.showableAll, PyData.hasDictAll, PyData.leavesShortAll]
  | j :: b, h => by
    obtain ⟨h1, h2, h3, h4, h5⟩ := js_tiny (b := b) fun y hy => h y (List.mem_cons_of_mem _ hy)
    obtain ⟨g1, g2, g3, g4, g5⟩ := j_tiny (h j List.mem_cons_self)
    simp only [List.map_cons, PyData.bulkAll, PyData.depthAll, PyData.showableAll, PyData.hasDictAll, PyData.leavesShortAll, h3, h4, h5, g3, g4, g5, List.length_cons]
    exact ⟨by omega, by omega, rfl, rfl, rfl⟩
theorem bs_tiny : ∀ {S : Spc}, (∀ b ∈ S, b.length = 4 ∧ ∀ j ∈ b, Jb j) → PyData.bulkAll (S.map fun b => PyData.tuple (b.map jD)) ≤ 33 * S.length ∧ PyData.depthAll (S.map fun b => PyData.tuple (b.map jD)) ≤ 3 ∧ PyData.showableAll (S.map fun b => PyData.tuple (b.map jD)) = true ∧
    PyData.hasDictAll (S.map fun b => PyData.tuple (b.map jD)) = false ∧ PyData.leavesShortAll 8 (S.map fun b => PyData.tuple (b.map jD)) = true
  | [], _ => by simp [PyData.bulkAll, PyData.depthAll, PyData.showableAll, PyData.hasDictAll, PyData.leavesShortAll]
  | b :: S, h => by
    obtain ⟨h1, h2, h3, h4, h5⟩ := bs_tiny (S := S) fun y hy => h y (List.mem_cons_of_mem _ hy)
    obtain ⟨l4, hj⟩ := h b List.mem_cons_self
    obtain ⟨g1, g2, g3, g4, g5⟩ := js_tiny hj
    simp only [List.map_cons, PyData.bulkAll, PyData.depthAll, PyData.showableAll, PyData.hasDictAll, PyData.leavesShortAll, PyData.bulk, PyData.depth, PyData.showable, PyData.hasDict, PyData.leavesShort, h3, h4, h5, g3, g4, g5, List.length_cons]
    exact ⟨by omega, by omega, rfl, rfl, rfl⟩
theorem shut_tiny {S : Spc} (h : Sb S) : Tiny (shutD S) 1320 4 := by
  obtain ⟨h1, h2, h3, h4, h5⟩ := bs_tiny h.2
  have hl := h.1
  exact ⟨by simp only [shutD, PyData.bulk]; omega, by simp only [shutD, PyData.depth]; omega, by simpa only [shutD, PyData.showable] using h3, by simpa only [shutD, PyData.hasDict] using h4, by simpa only [shutD, PyData.leavesShort] using h5⟩
/-- a mixture is as tiny -/
theorem Tiny.mix {d d' : PyData} {b k : Nat} (h : Tiny d b k) (e : norm d' = norm d) : Tiny d' b k := by
  obtain ⟨a1, a2, a3, a4, a5⟩ := norm_same 8 d
  obtain ⟨b1, b2, b3, b4, b5⟩ := norm_same 8 d'
  rw [e] at b1 b2 b3 b4 b5
  exact ⟨by rw [← b1, a1]; exact h.b, by rw [← b2, a2]; exact h.k, by rw [← b4, a4]; exact h.s, by rw [← b5, a5]; exact h.h, by rw [← b3, a3]; exact h.l⟩
theorem Tiny.shown {d : PyData} {b k : Nat} (h : Tiny d b k) (hb : b ≤ 100000) : d.shown.length ≤ sizeLine := by
  have h1 := PyData.shown_le_bulk 8 (by decide) d h.l
  have h2 := h.b
  have h3 : sizeLine = 16777216 := by decide +kernel
  omega
/-- a space of lists, as data -/
theorem SpAt.dq {H : Hp} {l : Addr} {rs : List V} {S : Spc} (h : SpAt H l rs S) : Dq (fun _ => False) H (.ref l) (.list (S.map fun b => .list (b.map jD))) := by
  have go : ∀ {rs : List V} {S : Spc}, Paired (BAt H) rs S → Dqs (fun _ => False) H rs (S.map fun b => .list (b.map jD)) := by
    intro rs S hp
    induction hp with
    | nil => exact .nil
    | cons r t ih =>
      obtain ⟨p, vs, rfl, h1, h2⟩ := r
      exact .cons (.lst h1 (fun z => z) (jats_dqs h2)) ih
  exact .lst h.l (fun z => z) (go h.b)
theorem Sb.set {S : Spc} (h : Sb S) (b f : Nat) {j : Jn} (hj : Jb j) : Sb (setJ S b f j) := by
  refine ⟨by rw [setJ_len]; exact h.1, fun c hc => ?_⟩
  obtain ⟨i, hi⟩ := List.mem_iff_getElem?.mp hc
  unfold setJ at hi
  rw [List.getElem?_modify] at hi
  cases hs : S[i]? with
  | none =>
    rw [hs] at hi
    cases hi
  | some m =>
    rw [hs] at hi
    obtain ⟨m4, mj⟩ := h.2 m (List.mem_of_getElem? hs)
    have e : (if b = i then List.set m f j else m) = c := Option.some.inj hi
    by_cases hb : b = i
    · rw [if_pos hb] at e
      subst e
      refine ⟨by rw [List.length_set]; exact m4, fun x hx => ?_⟩
      rcases List.mem_or_eq_of_mem_set hx with z | z
      · exact mj x z
      · rw [z]
        exact hj
    · rw [if_neg hb] at e
      subst e
      exact ⟨m4, mj⟩
theorem jb_none : Jb none := fun _ _ e => by cases e
theorem eqv_nil (ns : List Int) : PyData.eqv (.list (ns.map PyData.int)) (.list []) = ns.isEmpty := by
  cases ns with
  | nil => rfl
  | cons x r => rfl
end Bk

namespace Bk
open PySem PySem.Spec PyProof.Rows L2
/-! ### sorted(t), t a tuple of ints -/
section
variable {prog : Program} {w : World} {A : Around} {E : Value → Shared → Prop} {s : Shared}
theorem gather_tuple {l : Addr} {vs : List Value} {Q : List Value → Shared → Prop} (ht : s.heap.IsTuple l vs.toArray)
    (h : Q vs { s with heap := (s.heap.push (seqObj "list" #[] 0)).update s.heap.objs.size (Obj.mapSeq (· ++ vs.toArray)) }) (hz : vs.length ≤ sizeLine) : wpAny (model prog w) A (collect (.ref l)) Q E s := by
  obtain ⟨o, ho, hc, n, hd⟩ := ht
  have ho' := Heap.get?_push_of_some (seqObj "list" #[] 0) ho
  have hn : (s.heap.push (seqObj "list" #[] 0)).get? s.heap.objs.size = some (seqObj "list" #[] 0) := Heap.get?_push_size _ rfl
  unfold collect
  refine wpAny_bind (wpAny_runValue (codeAny_builtin entry_proto_collect' ?_))
  show wpAny _ _ (do again (.builtin "list.__iadd__" ⟨[← newList [], .ref l], []⟩)) _ _ s
  refine wpAny_bind (wpAny_newList (wpAny_pure ⟨Code.quiet_builtin _ (by decide +kernel), codeAny_builtin entry_list_iadd' ?_⟩))
  show wpAny _ _ (Builtin.List.listExtendWith (.ref s.heap.objs.size) (.ref l) (.ref s.heap.objs.size)) _ _ { s with heap := s.heap.push (seqObj "list" #[] 0) }
  unfold Builtin.List.listExtendWith
  refine wpAny_bind (wpAny_typeOf (T := "tuple") ⟨o, ho', hc⟩ ?_)
  rw [if_pos (by simp)]
  refine wpAny_bind (listItems_at ho' hd (wpAny_bind (listItems_at hn rfl ?_)))
  rw [if_neg (by simp)]
  refine wpAny_bind (listUpdate_at hn rfl (wpAny_pure ?_) (Nat.zero_le _) (by
    show (#[] ++ vs.toArray).size ≤ sizeLine + 1
    simp only [Array.size_append, List.size_toArray, List.length_nil]
    omega))
  refine wpAny_bind (wpAny_load (get?_update_seq hn _) ?_)
  have e : ((#[] : Array Value) ++ vs.toArray).toList = vs := by simp
  show wpAny _ _ (pure ((#[] : Array Value) ++ vs.toArray).toList) Q E _
  rw [e]
  exact wpAny_pure h
theorem sort_tuple {l : Addr} {vs : List Value} {ns : List Int} {Q : Value → Shared → Prop} (ht : s.heap.IsTuple l vs.toArray) (hI : IntsAre vs ns) (h64 : vs.length < 64)
    (h : ∀ (out : Array Value) (ns' : List Int), IntsAre out.toList ns' → ns'.Perm ns → ns'.Pairwise (· ≤ ·) → Q (.ref (s.heap.objs.size + 1)) { s with heap := sortedAll s.heap vs out }) : wpAny (model prog w) A (call (.builtin "sorted") [.ref l]) Q E s := by
  refine Calls.call_function_entry kind_sorted plain_sorted entry_sorted (args_sorted1 _) ?_
  unfold Builtin.«sorted»
  have hz : vs.length ≤ sizeLine := small64 h64
  refine wpAny_bind (m := checkCount "sorted" 1 1 _) (wpAny_pure (wpAny_bind (gather_tuple ht (wpAny_bind (wpAny_newList ?_)) hz)))
  have size1 : ((s.heap.push (seqObj "list" #[] 0)).update s.heap.objs.size (Obj.mapSeq (· ++ vs.toArray))).objs.size = s.heap.objs.size + 1 := by rw [Heap.size_update, size_push']
  have at1 : (((s.heap.push (seqObj "list" #[] 0)).update s.heap.objs.size (Obj.mapSeq (· ++ vs.toArray))).push (seqObj "list" vs.toArray 0)).get? (s.heap.objs.size + 1) = some (seqObj "list" vs.toArray 0) := by
    rw [← size1]
    exact Heap.get?_push_size _ rfl
  show wpAny _ _ _ _ _ { s with heap := ((s.heap.push (seqObj "list" #[] 0)).update s.heap.objs.size (Obj.mapSeq (· ++ vs.toArray))).push (seqObj "list" vs.toArray 0) }
  rw [size1]
  exact wpAny_bind (wpAny_holding (wpAny_call_entry slot_list_sort ⟨_, at1, rfl⟩ entry_list_sort (list_sort_tree at1 hI h64 fun out ns' a1 a2 a3 => ⟨_, rfl, wpAny_pure ⟨_, rfl, h out ns' a1 a2 a3⟩⟩) (args_list_sort _)))
end
section
variable {X : Cx} (K : PySem.W.Frag)
def rSortX (K : PySem.W.Frag) : List V → Hp → VK → Prop := fun vs H Q => ∃ (a : Addr) (ns : List Int), vs = [V.ref a] ∧ (SqL K H a (ns.map V.int) ∨ SqT K H a (ns.map V.int)) ∧ ns.length < 64 ∧
  ∀ (ns' : List Int) (p : Addr), ns'.Perm ns → ns'.Pairwise (· ≤ ·) → H p = none → Q (.ref p) (upd H p (.lst (ns'.map V.int)))
theorem kSorted (h : X.K = K) : CallR X (.builtin "sorted") (rSortX K) := by
  subst h
  rintro pins s σ H vs us Q I r ⟨a, ns, rfl, hq, h64, q⟩
  rcases hq with hq | hq
  · exact cr_sorted pins s σ H _ us Q I r ⟨a, ns, rfl, hq, h64, q⟩
  obtain ⟨its, rv, pt, _⟩ := I.tuple hq
  obtain ⟨u, rfl, rx⟩ := vals1 r
  cases rx
  have hi := rv.ints
  refine sort_tuple pt hi (by rw [hi.length]; exact h64) fun out ns' h1 h2 h3 => ?_
  obtain ⟨ep, he⟩ := sortedAll_at s.heap its out
  have hlen : (ns'.map V.int).length ≤ sizeLine := by
    rw [List.length_map, h2.length_eq]
    exact small64 h64
  exact ⟨.ref (s.heap.objs.size + 1), upd H (s.heap.objs.size + 1) (.lst (ns'.map V.int)), I.laid (t' := s.toks) (fun _ _ => sortedAll_old) (Nat.le_succ _) ⟨hlen, out.toList, ep, vals_of_ints h1, he⟩, rfl, q ns' _ h2 h3 (I.hok.fresh (Nat.le_succ _))⟩
end
end Bk

namespace Bk
open PySem PySem.Spec PyProof.Rows L2
local macro_rules | `(tactic| walk_at "g") => `(tactic| (repeat first | refine ⟨_, rfl, ?_⟩ | refine ⟨cpow, ?_⟩ | refine ⟨wideM, ?_⟩ | refine ⟨_, _, rfl, rfl, ?_⟩ | refine ⟨rfl, ?_⟩))
def isIntD : PyData → Bool
  | .int _ => true
  | _ => false
theorem perm_same {a b : List Int} (hp : a.Perm b) (ha : a.Pairwise (· ≤ ·)) (hb : b.Pairwise (· ≤ ·)) : a = b := hp.eq_of_pairwise (fun x y _ _ h1 h2 => Int.le_antisymm h1 h2) ha hb
theorem range_up (m : Nat) : ((List.range m).map fun k : Nat => (k : Int)).Pairwise (· ≤ ·) := by
  rw [List.pairwise_map]
  exact List.pairwise_le_range.imp fun h => by omega
theorem turn_perm : ∀ t ∈ allTurns, t.Perm (List.range 4) := by decide +kernel
theorem intD_map (t : Trn) : t.map intD = (t.map fun c : Nat => (c : Int)).map PyData.int := by
  rw [List.map_map]
  rfl
theorem intV_map (t : Trn) : trnV t = (t.map fun c : Nat => (c : Int)).map V.int := by
  unfold trnV
  rw [List.map_map]
  rfl
/-- the values of data of ints -/
theorem Dqs.ints {N : Addr → Prop} {H : Hp} : ∀ {t : Trn} {vs : List V} {ds : List PyData}, Dqs N H vs ds → norms ds = t.map intD → vs = trnV t
  | [], vs, ds, h, e => by
    obtain rfl := norms_nil_inv e
    cases h
    rfl
  | n :: t, vs, ds, h, e => by
    obtain ⟨d, ds', rfl, e1, e2⟩ := norms_inv (show norms ds = intD n :: t.map intD from e)
    obtain ⟨v, vs', rfl, h1, h2⟩ := h.uncons
    have ev := h1.isInt (i := (n : Int)) e1
    have ih := h2.ints (t := t) e2
    rw [ev, ih]
    rfl
section
variable {P : Program} {w : World} {K : PySem.W.Frag} {mg : Str → Option Value} {base : Heap}
theorem kit_one {d : PyData} {s : String} {b : Bool} (h : ∀ a, a = tyD d → kitB a s = some b) : PySem.W.kitOne K (.type (tyD d)) (.type s) = some b := kit_ty (h _ rfl)
theorem kit_int (d : PyData) : PySem.W.kitOne K (.type (tyD d)) (.type "int") = some (isIntD d || tyD d == "bool") := by
  cases d with
  | none => exact kit_ty (a := "NoneType") (b := "int") (show kitB "NoneType" "int" = some false by decide +kernel)
  | bool b => exact kit_ty (a := "bool") (b := "int") (show kitB "bool" "int" = some true by decide +kernel)
  | int i => exact kit_ty (a := "int") (b := "int") (show kitB "int" "int" = some true by decide +kernel)
  | str x => exact kit_ty (a := "str") (b := "int") (show kitB "str" "int" = some false by decide +kernel)
  | list ds => exact kit_ty (a := "list") (b := "int") (show kitB "list" "int" = some false by decide +kernel)
  | tuple ds => exact kit_ty (a := "tuple") (b := "int") (show kitB "tuple" "int" = some false by decide +kernel)
  | dict k => exact kit_ty (a := "dict") (b := "int") (show kitB "dict" "int" = some false by decide +kernel)
theorem kit_bool (d : PyData) : PySem.W.kitOne K (.type (tyD d)) (.type "bool") = some (tyD d == "bool") := by
  cases d with
  | none => exact kit_ty (a := "NoneType") (b := "bool") (show kitB "NoneType" "bool" = some false by decide +kernel)
  | bool b => exact kit_ty (a := "bool") (b := "bool") (show kitB "bool" "bool" = some true by decide +kernel)
  | int i => exact kit_ty (a := "int") (b := "bool") (show kitB "int" "bool" = some false by decide +kernel)
  | str x => exact kit_ty (a := "str") (b := "bool") (show kitB "str" "bool" = some false by decide +kernel)
  | list ds => exact kit_ty (a := "list") (b := "bool") (show kitB "list" "bool" = some false by decide +kernel)
  | tuple ds => exact kit_ty (a := "tuple") (b := "bool") (show kitB "tuple" "bool" = some false by decide +kernel)
  | dict k => exact kit_ty (a := "dict") (b := "bool") (show kitB "dict" "bool" = some false by decide +kernel)
theorem whole_b (d : PyData) : ((isIntD d || tyD d == "bool") = true → (!(tyD d == "bool")) = isIntD d) ∧ ((isIntD d || tyD d == "bool") = false → isIntD d = false) := by
  cases d <;> simp [isIntD, tyD]
/-! ### is_whole, is_listed, is_below, is_order, is_turn -/
abbrev sis_whole : Stmt := topS 7
abbrev Nis_whole : List Str := ["thing"]
theorem scis_whole : FnScope Nis_whole ["thing"] (defScope sis_whole) := ⟨rfl, rfl, rfl, by decide +kernel, rfl, by decide +kernel, by decide +kernel⟩
def spWhole : Sp := fun vs H Q _ => ∃ (N : Addr → Prop) (v : V) (d : PyData), vs = [v] ∧ Dq N H v d ∧ Q (.bl (isIntD d)) H
theorem okis_whole {f : Addr} {fd : FuncData} (F : Fun K "is_whole" "is_whole" sis_whole f fd) (m_isinstance : mg "isinstance" = none) (m_int : mg "int" = none) (m_bool : mg "bool" = none) : FnOk P w K mg base CX0 1 f fd ["thing"] spWhole := by
  refine F.ok scis_whole (fun vs H Q E h => ?_) (fun cdv A outer s H vs Q E hr h => ?_)
  · obtain ⟨N, v, d, rfl, _⟩ := h
    rfl
  · obtain ⟨N, v, d, rfl, hd, q⟩ := h
    have nd := scis_whole.nd
    refine ⟨_, (pss_one (ps_ret (pe_and (pe_callB (kIsi K rfl) (by rfl) m_isinstance (by decide +kernel) (pa_cons (pv 0) (pa_cons (pe_bltn (v := .ty "int") (by rfl) m_int (by decide +kernel) rfl) pa_nil))) (pe_one (pe_not (pe_callB (kIsi K rfl) (by rfl) m_isinstance (by decide +kernel) (pa_cons (pv 0) (pa_cons (pe_bltn (v := .ty "bool") (by rfl) m_bool (by decide +kernel) rfl) pa_nil)))))))), ?_⟩
    refine ⟨v, rfl, v, .ty "int", _, .type "int", _, rfl, .ty _, hd.ty, kit_int d, _, rfl, ?_⟩
    obtain ⟨w1, w2⟩ := whole_b d
    refine ite2 (fun e => ?_) (fun e => ?_)
    · refine ⟨v, rfl, v, .ty "bool", _, .type "bool", _, rfl, .ty _, hd.ty, kit_bool d, _, rfl, ?_⟩
      rw [w1 e]
      exact q
    · rw [w2 (by simpa using e)] at q
      exact q
abbrev sis_listed : Stmt := topS 8
abbrev Nis_listed : List Str := ["thing"]
theorem scis_listed : FnScope Nis_listed ["thing"] (defScope sis_listed) := ⟨rfl, rfl, rfl, by decide +kernel, rfl, by decide +kernel, by decide +kernel⟩
def spListed : Sp := fun vs H Q _ => ∃ (N : Addr → Prop) (v : V) (d : PyData), vs = [v] ∧ Dq N H v d ∧ ∀ H', Same H H' → Q (.bl (isSeqD d)) H'
theorem okis_listed {f : Addr} {fd : FuncData} (F : Fun K "is_listed" "is_listed" sis_listed f fd) (m_isinstance : mg "isinstance" = none) (m_list : mg "list" = none) (m_tuple : mg "tuple" = none) : FnOk P w K mg base CX0 1 f fd ["thing"] spListed := by
  refine F.ok scis_listed (fun vs H Q E h => ?_) (fun cdv A outer s H vs Q E hr h => ?_)
  · obtain ⟨N, v, d, rfl, _⟩ := h
    rfl
  · obtain ⟨N, v, d, rfl, hd, q⟩ := h
    have nd := scis_listed.nd
    refine ⟨_, (pss_one (ps_ret (pe_callB (kIsiT K rfl) (by rfl) m_isinstance (by decide +kernel) (pa_cons (pv 0) (pa_cons (pe_tup (pa_cons (pe_bltn (v := .ty "list") (by rfl) m_list (by decide +kernel) rfl) (pa_cons (pe_bltn (v := .ty "tuple") (by rfl) m_tuple (by decide +kernel) rfl) pa_nil))) pa_nil))))), ?_⟩
    refine ⟨v, rfl, Nat.le_of_lt (small1000 (by show 2 ≤ 1000; decide)), fun tp ntp => ?_⟩
    have s1 : Same H (upd H tp (.tup [.ty "list", .ty "tuple"])) := same_new ntp
    exact ⟨v, tp, _, _, _, isSeqD d, rfl, upd_same, .cons (.ty _) (.cons (.ty _) .nil), (hd.same s1).ty, kit_seq d, q _ s1⟩
abbrev sis_below : Stmt := topS 9
abbrev Nis_below : List Str := ["thing", "many"]
theorem scis_below : FnScope Nis_below ["thing", "many"] (defScope sis_below) := ⟨rfl, rfl, rfl, by decide +kernel, rfl, by decide +kernel, by decide +kernel⟩
def spBelow : Sp := fun vs H Q _ => ∃ (i : Int) (m : Nat), vs = [.int i, intV m] ∧ Q (.bl (decide (0 ≤ i) && decide (i < m))) H
theorem okis_below {f fW : Addr} {fd fdW : FuncData} (F : Fun K "is_below" "is_below" sis_below f fd) (Fis_whole : Fun K "is_whole" "is_whole" sis_whole fW fdW) (gis_whole : mg "is_whole" = some (.ref fW)) (bis_whole : Binds K fdW ["thing"] [])
    (Gis_whole : FnOk P w K mg base CX0 1 fW fdW ["thing"] spWhole) : FnOk P w K mg base CX0 2 f fd ["thing", "many"] spBelow := by
  refine F.ok scis_below (fun vs H Q E h => ?_) (fun cdv A outer s H vs Q E hr h => ?_)
  · obtain ⟨i, m, rfl, _⟩ := h
    rfl
  · obtain ⟨i, m, rfl, q⟩ := h
    have nd := scis_below.nd
    refine ⟨_, (pss_one (ps_ret (pe_and (pe_call Gis_whole (hr.mono (by first | decide | omega)) (by rfl) gis_whole Fis_whole.kp bis_whole .nil pass0 (pa_cons (pv 0) pa_nil)) (pe_one (pe_chain op_le op_lt pe_int (pv 0) (pv 1)))))), ?_⟩
    refine ⟨.int i, rfl, fun _ => False, .int i, .int i, rfl, .int i, _, rfl, iteT ?_⟩
    refine ⟨.int i, rfl, _, _, rfl, rfl, _, rfl, ite2 (fun e => ?_) (fun e => ?_)⟩
    · refine ⟨intV m, rfl, _, _, rfl, rfl, ?_⟩
      rw [e, Bool.true_and] at q
      exact q
    · have e' : decide ((0 : Int) ≤ i) = false := by simpa using e
      rw [e', Bool.false_and] at q
      exact q
abbrev sis_order : Stmt := topS 10
abbrev Nis_order : List Str := ["thing", "many", "part"]
theorem scis_order : FnScope Nis_order ["thing", "many"] (defScope sis_order) := ⟨rfl, rfl, rfl, by decide +kernel, rfl, by decide +kernel, by decide +kernel⟩
def spOrder : Sp := fun vs H Q _ => ∃ (N : Addr → Prop) (v : V) (d : PyData) (t : Trn) (m : Nat), vs = [v, intV m] ∧ Dq N H v d ∧ norm d = .list (t.map intD) ∧ t.Perm (List.range m) ∧ m ≤ 60 ∧ ∀ H', Same H H' → Q (.bl true) H'
theorem okis_order {f fW fL : Addr} {fd fdW fdL : FuncData} (F : Fun K "is_order" "is_order" sis_order f fd) (Fis_whole : Fun K "is_whole" "is_whole" sis_whole fW fdW) (gis_whole : mg "is_whole" = some (.ref fW)) (bis_whole : Binds K fdW ["thing"] [])
    (Gis_whole : FnOk P w K mg base CX0 1 fW fdW ["thing"] spWhole) (Fis_listed : Fun K "is_listed" "is_listed" sis_listed fL fdL) (gis_listed : mg "is_listed" = some (.ref fL)) (bis_listed : Binds K fdL ["thing"] []) (Gis_listed : FnOk P w K mg base CX0 1 fL fdL ["thing"] spListed)
    (m_all : mg "all" = none) (m_sorted : mg "sorted" = none) (m_list : mg "list" = none) (m_range : mg "range" = none) : FnOk P w K mg base CX0 2 f fd ["thing", "many"] spOrder := by
  refine F.ok scis_order (fun vs H Q E h => ?_) (fun cdv A outer s H vs Q E hr h => ?_)
  · obtain ⟨N, v, d, t, m, rfl, _⟩ := h
    rfl
  · obtain ⟨N, v, d, t, m, rfl, hd, hn, hp, hm, q⟩ := h
    have nd := scis_order.nd
    refine ⟨_, (pss_one (ps_ret (pe_and (pe_call Gis_listed (hr.mono (by first | decide | omega)) (by rfl) gis_listed Fis_listed.kp bis_listed .nil pass0 (pa_cons (pv 0) pa_nil)) (pe_and (pe_callB (kAll K rfl rfl) (by rfl) m_all (by decide +kernel) (pa_cons (pe_lc (own := [("part", 2)]) (g := gName 2) (tt := tYes) rfl nd (kPiS K rfl (pv 0)) (blkOk_by (own := [("part", 2)]) (N := Nis_order) (sc := defScope sis_order) (by decide +kernel)) (fun _ _ _ _ _ => (pg_name (i := 2) nd rfl (Or.inl rfl))) (fun _ _ _ _ _ => pts_nil) (fun _ _ _ _ _ => (pe_call Gis_whole (hr.mono (by first | decide | omega)) (by rfl) gis_whole Fis_whole.kp bis_whole .nil pass0 (pa_cons (pv 2) pa_nil)))) pa_nil)) (pe_one (pe_cmpR (kEqD K rfl hr.units) (pe_callB (kSorted K rfl) (by rfl) m_sorted (by decide +kernel) (pa_cons (pv 0) pa_nil)) (pe_listRg rfl (by rfl) m_list (prg_1 (by rfl) m_range (pv 1))) (nomark _))))))), ?_⟩
    have sq : isSeqD d = true := by
      cases d <;> first | rfl | (simp only [norm] at hn; cases hn)
    have lt : t.length = m := by rw [hp.length_eq, List.length_range]
    refine ⟨v, rfl, N, v, d, rfl, hd, fun H1 s1 => ?_⟩
    rw [sq]
    refine ⟨_, rfl, iteT ?_⟩
    obtain ⟨a, xs, ds, rfl, hq, _, hds, en⟩ := (hd.same s1).seq (K := K) hn
    have ex := hds.ints en
    refine ⟨.ref a, rfl, a, xs, rfl, hq, fun J C hJ hC => ?_⟩
    intro D nD
    refine lc_seq (xs := xs) hJ (fun i H2 => H2 = upd H1 D (.lst ((List.replicate i true).map V.bl))) rfl ?_ ?_ ?_
    · rintro i H2 rfl
      exact SeqIt.mono K hJ (fun o e => same_new nD _ _ e) hC
    · rintro i x H2 hx rfl
      have hi : i < m := by
        have := (List.getElem?_eq_some_iff.mp hx).1
        rw [ex] at this
        unfold trnV at this
        rw [List.length_map] at this
        omega
      rw [ex] at hx
      unfold trnV at hx
      rw [List.getElem?_map] at hx
      cases hc : t[i]? with
      | none =>
        rw [hc] at hx
        cases hx
      | some c =>
        rw [hc] at hx
        have e2 : intV c = x := Option.some.inj hx
        subst e2
        refine ⟨rfl, intV c, rfl, fun _ => False, intV c, .int (c : Int), rfl, .int _, _, upd_same, small1000 (by rw [List.length_map, List.length_replicate]; omega), ?_⟩
        rw [upd_upd, List.replicate_succ', List.map_append]
        rfl
    · rintro H2 rfl
      refine ⟨D, _, rfl, .inl (.inl upd_same), _, rfl, ?_⟩
      have eall : (List.replicate xs.length true).all id = true := by
        rw [List.all_eq_true]
        intro y hy
        rw [List.eq_of_mem_replicate hy]
        rfl
      rw [eall]
      have s2 : Same H1 (upd H1 D (.lst ((List.replicate xs.length true).map V.bl))) := same_new nD
      generalize upd H1 D (.lst ((List.replicate xs.length true).map V.bl)) = H2 at s2 ⊢
      refine iteT ?_
      rw [ex, intV_map] at hq
      refine ⟨.ref a, rfl, a, _, rfl, hq.imp (fun z => s2.seq z) (fun z => s2.sqt z), by rw [List.length_map]; omega, fun ns p p1 p2 np => ?_⟩
      have s3 : Same H2 (upd H2 p (.lst (ns.map V.int))) := same_new np
      have h3 : (upd H2 p (.lst (ns.map V.int))) p = some (.lst (ns.map V.int)) := upd_same
      generalize upd H2 p (.lst (ns.map V.int)) = H3 at s3 h3 ⊢
      refine ⟨intV m, rfl, m, rfl, .of_le (by decide) (by omega) (by decide) (by omega), fun q2 nq2 => ?_⟩
      have er : rgV 0 (m : Int) = ((List.range m).map fun k : Nat => (k : Int)).map V.int := by
        unfold rgV
        rw [show ((m : Int) - 0).toNat = m by omega, List.map_map]
        exact List.map_congr_left fun x _ => by
          show V.int (0 + (x : Int)) = V.int (x : Int)
          rw [Int.zero_add]
      rw [er]
      have s4 : Same H3 (upd H3 q2 (.lst (((List.range m).map fun k : Nat => (k : Int)).map V.int))) := same_new nq2
      have en2 : ns = (List.range m).map fun k : Nat => (k : Int) := perm_same (p1.trans (hp.map _)) p2 (range_up m)
      refine ⟨.list (ns.map PyData.int), .list (((List.range m).map fun k : Nat => (k : Int)).map PyData.int), .lst (.inl (.inl (s4 _ _ h3))) (dp_ints _), .lst (.inl (.inl upd_same)) (dp_ints _), ints_shaped _, ints_shaped _, ?_⟩
      rw [en2, SeqAt.eqv_refl _ (by have := ints_lay ((List.range m).map fun k : Nat => (k : Int)); simp only [PyData.canLay0]; exact this.1)]
      exact q _ (((s1.trans s2).trans s3).trans s4)
abbrev sis_turn : Stmt := topS 11
abbrev Nis_turn : List Str := ["thing"]
theorem scis_turn : FnScope Nis_turn ["thing"] (defScope sis_turn) := ⟨rfl, rfl, rfl, by decide +kernel, rfl, by decide +kernel, by decide +kernel⟩
def spTurn : Sp := fun vs H Q _ => ∃ (N : Addr → Prop) (v : V) (d : PyData) (t : Trn), vs = [v] ∧ Dq N H v d ∧ norm d = .list (t.map intD) ∧ t ∈ allTurns ∧ ∀ H', Same H H' → Q (.bl true) H'
theorem okis_turn {f fO : Addr} {fd fdO : FuncData} (F : Fun K "is_turn" "is_turn" sis_turn f fd) (Fis_order : Fun K "is_order" "is_order" sis_order fO fdO) (gis_order : mg "is_order" = some (.ref fO)) (bis_order : Binds K fdO ["thing", "many"] [])
    (Gis_order : FnOk P w K mg base CX0 2 fO fdO ["thing", "many"] spOrder) : FnOk P w K mg base CX0 3 f fd ["thing"] spTurn := by
  refine F.ok scis_turn (fun vs H Q E h => ?_) (fun cdv A outer s H vs Q E hr h => ?_)
  · obtain ⟨N, v, d, t, rfl, _⟩ := h
    rfl
  · obtain ⟨N, v, d, t, rfl, hd, hn, ht, q⟩ := h
    have nd := scis_turn.nd
    refine ⟨_, (pss_one (ps_ret (pe_call Gis_order (hr.mono (by first | decide | omega)) (by rfl) gis_order Fis_order.kp bis_order .nil pass0 (pa_cons (pv 0) (pa_cons pe_int pa_nil))))), ?_⟩
    exact ⟨v, rfl, N, v, d, t, 4, rfl, hd, hn, turn_perm t ht, by decide, q⟩
/-! ### contrary -/
abbrev scontrary : Stmt := topS 12
abbrev Ncontrary : List Str := ["turn", "corner"]
theorem sccontrary : FnScope Ncontrary ["turn"] (defScope scontrary) := ⟨rfl, rfl, rfl, by decide +kernel, rfl, by decide +kernel, by decide +kernel⟩
theorem okcontrary {f : Addr} {fd : FuncData} (F : Fun K "contrary" "contrary" scontrary f fd) (m_range : mg "range" = none) (m_tuple : mg "tuple" = none) : FnOk P w K mg base CX0 1 f fd ["turn"] spBack := by
  refine F.ok sccontrary (fun vs H Q E h => ?_) (fun cdv A outer s H vs Q E hr h => ?_)
  · obtain ⟨v, t, rfl, _⟩ := h
    rfl
  · obtain ⟨v, t, rfl, ⟨p, rfl, hp⟩, ht, q⟩ := h
    have nd := sccontrary.nd
    refine ⟨_, (pss_one (ps_ret (pe_callTy (kTupleF K rfl) (by rfl) m_tuple (by decide +kernel) (pa_cons (pe_lc (own := [("corner", 1)]) (g := gName 1) (tt := tYes) rfl nd (pi_range1 (by rfl) m_range (pa_cons pe_int pa_nil)) (blkOk_by (own := [("corner", 1)]) (N := Ncontrary) (sc := defScope scontrary) (by decide +kernel)) (fun _ _ _ _ _ => (pg_name (i := 1) nd rfl (Or.inl rfl))) (fun _ _ _ _ _ => pts_nil) (fun _ _ _ _ _ => (pe_bmF PySem.F.plainAttrs_tuple PySem.F.slot_tuple_index PySem.F.type_tuple_index (kTupIx K rfl) (pv 0) (pa_cons (pv 1) pa_nil)))) pa_nil)))), ?_⟩
    refine ⟨4, rfl, by decide, by decide, fun D nD => ?_⟩
    refine lc_range (lo := 0) (n := 4) (fun i H2 => H2 = upd H D (.lst (((List.range i).map fun c => t.idxOf c).map intV))) rfl ?_ ?_
    · rintro c H2 hc rfl
      rw [Int.zero_add]
      refine ⟨rfl, ?_⟩
      refine ⟨.ref p, rfl, ⟨p, _, rfl, hp.mono (same_new nD).tups⟩, ?_⟩
      walk_at "g"
      have t4 := turns4 t ht
      have hm : (c : Int) ∈ t.map fun c : Nat => (c : Int) := List.mem_map_of_mem (List.mem_of_getElem? (t4.2.2.2.1 c hc))
      refine ⟨p, t.map fun c : Nat => (c : Int), c, rfl, rfl, ?_, hm, ?_⟩
      · rw [← intV_map]
        exact (hp.mono (same_new nD).tups).sqt
      rw [idx_int]
      refine ⟨_, upd_same, small1000 (by rw [List.length_map, List.length_map, List.length_range]; omega), ?_⟩
      rw [upd_upd, List.range_succ, List.map_append, List.map_append]
      rfl
    · rintro H2 rfl
      refine ⟨D, _, rfl, .inl ⟨.inl (.inl upd_same), fun p2 o2 np2 d2 => ?_⟩⟩
      exact q _ p2 ((same_new nD).trans (same_new np2)) ((same_new nD).free np2) ⟨p2, rfl, FT.new d2⟩
end
end Bk

namespace Bk
open PySem PySem.Spec PyProof.Rows L2
local macro_rules | `(tactic| walk_at "g") => `(tactic| (repeat first | refine ⟨_, rfl, ?_⟩ | refine ⟨cpow, ?_⟩ | refine ⟨wideM, ?_⟩ | refine ⟨_, _, rfl, rfl, ?_⟩ | refine ⟨rfl, ?_⟩))
def Jok (m : Nat) (j : Jn) : Prop := ∀ n t, j = some (n, t) → n < m ∧ t ∈ allTurns
/-- blocks and spaces of tuples, as they stand -/
def BT (H : Hp) (v : V) (b : Blk) : Prop := ∃ p vs, v = .ref p ∧ FT H p vs ∧ Paired (JAt H) vs b
def ST (H : Hp) (v : V) (S : Spc) : Prop := ∃ p rs, v = .ref p ∧ FT H p rs ∧ Paired (BT H) rs S
theorem BT.mono {H H' : Hp} {v : V} {b : Blk} (h : BT H v b) (m : Tups H H') : BT H' v b := by
  obtain ⟨p, vs, e, h1, h2⟩ := h
  exact ⟨p, vs, e, h1.mono m, pmono h2 fun _ _ z => z.mono m⟩
theorem ST.mono {H H' : Hp} {v : V} {S : Spc} (h : ST H v S) (m : Tups H H') : ST H' v S := by
  obtain ⟨p, vs, e, h1, h2⟩ := h
  exact ⟨p, vs, e, h1.mono m, pmono h2 fun _ _ z => z.mono m⟩
theorem BT.dq {N : Addr → Prop} {H : Hp} {v : V} {b : Blk} (h : BT H v b) : Dq N H v (.tuple (b.map jD)) := by
  obtain ⟨p, vs, rfl, h1, h2⟩ := h
  exact .tup h1 (jats_dqs h2)
theorem bts_dqs {N : Addr → Prop} {H : Hp} : ∀ {rs : List V} {S : Spc}, Paired (BT H) rs S → Dqs N H rs (S.map fun b => .tuple (b.map jD))
  | _, _, .nil => .nil
  | _, _, .cons r t => .cons r.dq (bts_dqs t)
theorem ST.dq {N : Addr → Prop} {H : Hp} {v : V} {S : Spc} (h : ST H v S) : Dq N H v (shutD S) := by
  obtain ⟨p, vs, rfl, h1, h2⟩ := h
  exact .tup h1 (bts_dqs h2)
theorem Good.jok {S : Spc} (h : Good S) {b : Blk} (hb : b ∈ S) : ∀ j ∈ b, Jok S.length j := fun j hj n t e => by
  subst e
  obtain ⟨i, hi⟩ := List.mem_iff_getElem?.mp hb
  obtain ⟨f, hf⟩ := List.mem_iff_getElem?.mp hj
  have g : getJ S i f = some (some (n, t)) := by
    unfold getJ
    rw [hi]
    exact hf
  exact ⟨h.lt g, (h.both _ _ _ _ g).1⟩
theorem ST.face {H : Hp} {v : V} {S : Spc} (h : ST H v S) {b f : Nat} {j : Jn} (e : getJ S b f = some j) : ∃ p rs q vs x, v = .ref p ∧ FT H p rs ∧ rs[b]? = some (.ref q) ∧ FT H q vs ∧ vs[f]? = some x ∧ JAt H x j := by
  obtain ⟨p, rs, rfl, h1, h2⟩ := h
  unfold getJ at e
  cases hs : S[b]? with
  | none =>
    rw [hs] at e
    cases e
  | some y =>
    rw [hs] at e
    obtain ⟨x, g1, q, vs, rfl, g3, g4⟩ := pget h2 hs
    obtain ⟨z, g5, g6⟩ := pget g4 (show y[f]? = some j from e)
    exact ⟨p, rs, q, vs, z, rfl, h1, g1, g3, g5, g6⟩
theorem jD_lay (j : Jn) : (jD j).canLay0 = true ∧ (jD j).depth ≤ 3 := by
  cases j with
  | none => simp [jD, PyData.canLay0, PyData.depth]
  | some k =>
    obtain ⟨n, t⟩ := k
    have h : PyData.canLayAll0 (t.map intD) = true ∧ PyData.depthAll (t.map intD) ≤ 1 := by
      rw [intD_map]
      exact ints_lay _
    have h2 := h.2
    have e : PyData.depth (intD n) = 0 := by simp only [intD, PyData.depth]
    have e2 : PyData.canLay0 (intD n) = true := by simp only [intD, PyData.canLay0]
    constructor
    · simp only [jD, PyData.canLay0, PyData.canLayAll0, e2, h.1, Bool.and_self]
    · have e3 : (jD (some (n, t))).depth = PyData.depth (.tuple [intD n, .tuple (t.map intD)]) := rfl
      rw [e3]
      simp only [PyData.depth, PyData.depthAll, e]
      generalize PyData.depthAll (t.map intD) = z at h2 ⊢
      omega
section
variable {P : Program} {w : World} {K : PySem.W.Frag} {mg : Str → Option Value} {base : Heap}
/-! ### _joining_of -/
abbrev s_joining_of : Stmt := topS 15
abbrev N_joining_of : List Str := ["joining", "many", "other", "turn"]
theorem sc_joining_of : FnScope N_joining_of ["joining", "many"] (defScope s_joining_of) := ⟨rfl, rfl, rfl, by decide +kernel, rfl, by decide +kernel, by decide +kernel⟩
def spJoining : Sp := fun vs H Q _ => ∃ (N : Addr → Prop) (v : V) (d : PyData) (j : Jn) (m : Nat), vs = [v, intV m] ∧ Dq N H v d ∧ norm d = nJ j ∧ Jok m j ∧ ∀ H' v', Same H H' → JAt H' v' j → Q v' H'
theorem ok_joining_of {f fL fB fT : Addr} {fd fdL fdB fdT : FuncData} (F : Fun K "_joining_of" "_joining_of" s_joining_of f fd) (Fis_listed : Fun K "is_listed" "is_listed" sis_listed fL fdL) (gis_listed : mg "is_listed" = some (.ref fL)) (bis_listed : Binds K fdL ["thing"] []) (Gis_listed : FnOk P w K mg base CX0 1 fL fdL ["thing"] spListed)
    (Fis_below : Fun K "is_below" "is_below" sis_below fB fdB) (gis_below : mg "is_below" = some (.ref fB)) (bis_below : Binds K fdB ["thing", "many"] []) (Gis_below : FnOk P w K mg base CX0 2 fB fdB ["thing", "many"] spBelow)
    (Fis_turn : Fun K "is_turn" "is_turn" sis_turn fT fdT) (gis_turn : mg "is_turn" = some (.ref fT)) (bis_turn : Binds K fdT ["thing"] []) (Gis_turn : FnOk P w K mg base CX0 3 fT fdT ["thing"] spTurn)
    (m_len : mg "len" = none) (m_tuple : mg "tuple" = none) : FnOk P w K mg base CX0 4 f fd ["joining", "many"] spJoining := by
  refine F.ok sc_joining_of (fun vs H Q E h => ?_) (fun cdv A outer s H vs Q E hr h => ?_)
  · obtain ⟨N, v, d, j, m, rfl, _⟩ := h
    rfl
  · obtain ⟨N, v, d, j, m, rfl, hd, hn, hj, q⟩ := h
    have nd := sc_joining_of.nd
    refine ⟨_, (pss_cons (ps_if (pt_cmpR op_isN (pv 0) pe_non (nomark _)) (pss_one (ps_ret pe_non)) pss_nil)
      (pss_cons (ps_if (pw_or (pt_not (pt_val (pe_call Gis_listed (hr.mono (by first | decide | omega)) (by rfl) gis_listed Fis_listed.kp bis_listed .nil pass0 (pa_cons (pv 0) pa_nil)))) (pw_or1 (pt_cmpR op_ne (pe_callB (kLen K rfl) (by rfl) m_len (by decide +kernel) (pa_cons (pv 0) pa_nil)) pe_int (nomark _)))).pt (pss_one ps_never) pss_nil)
      (pss_cons (ps_asg (pv 0) (kPgS K rfl (pg_tup (n := 2) rfl (pgs_cons (pg_name (i := 2) nd rfl (.inl rfl)) (pgs_cons (pg_name (i := 3) nd rfl (.inl rfl)) pgs_nil))) (pg_unl (n := 2) rfl (pgs_cons (pg_name (i := 2) nd rfl (.inl rfl)) (pgs_cons (pg_name (i := 3) nd rfl (.inl rfl)) pgs_nil)))))
      (pss_cons (ps_if (pw_or (pt_not (pt_val (pe_call Gis_below (hr.mono (by first | decide | omega)) (by rfl) gis_below Fis_below.kp bis_below .nil pass0 (pa_cons (pv 2) (pa_cons (pv 1) pa_nil))))) (pw_or1 (pt_not (pt_val (pe_call Gis_turn (hr.mono (by first | decide | omega)) (by rfl) gis_turn Fis_turn.kp bis_turn .nil pass0 (pa_cons (pv 3) pa_nil)))))).pt (pss_one ps_never) pss_nil)
      (pss_one (ps_ret (pe_tupF (pa_cons (pv 2) (pa_cons (pe_callTy (kTupleF K rfl) (by rfl) m_tuple (by decide +kernel) (pa_cons (pv 3) pa_nil)) pa_nil))))))))), ?_⟩
    refine ⟨v, rfl, rfl, _, rfl, ?_⟩
    cases j with
    | none =>
      rw [nJ_none] at hn
      have ev := hd.isNon hn
      subst ev
      exact iteT (q H .non (Same.refl H) rfl)
    | some k =>
      obtain ⟨n, t⟩ := k
      obtain ⟨hnm, ht⟩ := hj n t rfl
      rw [nJ_some] at hn
      have sq : isSeqD d = true := by
        cases d <;> first | rfl | (simp only [norm] at hn; cases hn)
      obtain ⟨a, xs, ds, rfl, hq, _, hds, en⟩ := hd.seq (K := K) hn
      obtain ⟨v1, v2, d1, d2, rfl, h1, en1, h2, en2⟩ := hds.pair en
      have e1 := h1.isInt (i := (n : Int)) en1
      subst e1
      refine iteF ?_
      refine ⟨.ref a, rfl, N, .ref a, d, rfl, hd, fun H1 s1 => ?_⟩
      rw [sq]
      have hq1 : SqL K H1 a [V.int (n : Int), v2] ∨ SqT K H1 a [V.int (n : Int), v2] := hq.imp (fun z => s1.seq z) (fun z => s1.sqt z)
      refine ⟨_, rfl, iteF ⟨.ref a, rfl, a, _, rfl, hq1, rfl, _, rfl, iteNS rfl ?_⟩⟩
      refine ⟨.ref a, rfl, a, _, rfl, hq1, rfl, _, _, rfl, _, _, rfl, rfl, ?_⟩
      refine ⟨.int (n : Int), rfl, intV m, rfl, (n : Int), m, rfl, ?_⟩
      rw [decide_eq_true (show (0 : Int) ≤ (n : Int) by omega), decide_eq_true (show (n : Int) < (m : Int) by omega)]
      refine ⟨_, rfl, iteF ⟨v2, rfl, N, v2, d2, t, rfl, h2.same s1, en2, ht, fun H2 s2 => ⟨_, rfl, iteF ?_⟩⟩⟩
      have h22 := h2.same (s1.trans s2)
      obtain ⟨a2, xs2, ds2, rfl, hq2, _, hds2, en3⟩ := h22.seq (K := K) en2
      have ex := hds2.ints en3
      subst ex
      have fin : ∀ H3 p2, Same H2 H3 → FT H3 p2 (trnV t) → [V.int (n : Int), V.ref p2].length ≤ sizeLine ∧ ∀ p o, H3 p = none → o.dict = none → Q (.ref p) (upd H3 p (.frz o (.tup [V.int (n : Int), V.ref p2]))) := fun H3 p2 s3 f3 => by
        refine ⟨Nat.le_of_lt (small1000 (by show 2 ≤ 1000; decide)), fun p o np dn => ?_⟩
        exact q _ _ (((s1.trans s2).trans s3).trans (same_new np)) ⟨p, p2, rfl, FT.new dn, f3.mono (same_new np).tups⟩
      refine ⟨.int (n : Int), rfl, .ref a2, rfl, a2, trnV t, rfl, ?_⟩
      cases h22 with
      | lst g1 g2 g3 =>
        have e := g3.ints (by simpa only [norm, PyData.list.injEq] using en2)
        subst e
        exact .inl ⟨.inl (.inl g1), fun p2 o2 np2 dn2 => fin _ p2 (same_new np2) (FT.new dn2)⟩
      | tup g1 g2 =>
        have e := g2.ints (by simpa only [norm, PyData.list.injEq] using en2)
        subst e
        exact .inr ⟨g1.sqt, fin _ a2 (Same.refl _) g1⟩
/-! ### _block_of -/
abbrev s_block_of : Stmt := topS 14
abbrev N_block_of : List Str := ["faces", "many", "joining"]
theorem sc_block_of : FnScope N_block_of ["faces", "many"] (defScope s_block_of) := ⟨rfl, rfl, rfl, by decide +kernel, rfl, by decide +kernel, by decide +kernel⟩
def spBlockOf : Sp := fun vs H Q _ => ∃ (N : Addr → Prop) (v : V) (d : PyData) (b : Blk) (m : Nat), vs = [v, intV m] ∧ Dq N H v d ∧ norm d = nB b ∧ b.length = 4 ∧ (∀ j ∈ b, Jok m j) ∧ ∀ H' v', Same H H' → BT H' v' b → Q v' H'
theorem ok_block_of {f fL fJ : Addr} {fd fdL fdJ : FuncData} (F : Fun K "_block_of" "_block_of" s_block_of f fd) (Fis_listed : Fun K "is_listed" "is_listed" sis_listed fL fdL) (gis_listed : mg "is_listed" = some (.ref fL)) (bis_listed : Binds K fdL ["thing"] []) (Gis_listed : FnOk P w K mg base CX0 1 fL fdL ["thing"] spListed)
    (F_joining_of : Fun K "_joining_of" "_joining_of" s_joining_of fJ fdJ) (g_joining_of : mg "_joining_of" = some (.ref fJ)) (b_joining_of : Binds K fdJ ["joining", "many"] []) (G_joining_of : FnOk P w K mg base CX0 4 fJ fdJ ["joining", "many"] spJoining)
    (m_len : mg "len" = none) (m_tuple : mg "tuple" = none) : FnOk P w K mg base CX0 5 f fd ["faces", "many"] spBlockOf := by
  refine F.ok sc_block_of (fun vs H Q E h => ?_) (fun cdv A outer s H vs Q E hr h => ?_)
  · obtain ⟨N, v, d, b, m, rfl, _⟩ := h
    rfl
  · obtain ⟨N, v, d, b, m, rfl, hd, hn, h4, hj, q⟩ := h
    have nd := sc_block_of.nd
    refine ⟨_, (pss_cons (ps_if (pw_or (pt_not (pt_val (pe_call Gis_listed (hr.mono (by first | decide | omega)) (by rfl) gis_listed Fis_listed.kp bis_listed .nil pass0 (pa_cons (pv 0) pa_nil)))) (pw_or1 (pt_cmpR op_ne (pe_callB (kLen K rfl) (by rfl) m_len (by decide +kernel) (pa_cons (pv 0) pa_nil)) pe_int (nomark _)))).pt (pss_one ps_never) pss_nil)
      (pss_one (ps_ret (pe_callTy (kTupleF K rfl) (by rfl) m_tuple (by decide +kernel) (pa_cons (pe_lc (own := [("joining", 2)]) (g := gName 2) (tt := tYes) rfl nd (kPiS K rfl (pv 0)) (blkOk_by (own := [("joining", 2)]) (N := N_block_of) (sc := defScope s_block_of) (by decide +kernel)) (fun _ _ _ _ _ => (pg_name (i := 2) nd rfl (Or.inl rfl))) (fun _ _ _ _ _ => pts_nil) (fun _ _ _ _ _ => (pe_call G_joining_of (hr.mono (by first | decide | omega)) (by rfl) g_joining_of F_joining_of.kp b_joining_of .nil pass0 (pa_cons (pv 2) (pa_cons (pv 1) pa_nil))))) pa_nil))))), ?_⟩
    have sq : isSeqD d = true := by
      cases d <;> first | rfl | (simp only [norm, nB] at hn; cases hn)
    obtain ⟨a, xs, ds, rfl, hq, _, hds, en⟩ := hd.seq (K := K) hn
    have lx : xs.length = 4 := by rw [hds.len, norm_len en, h4]
    refine ⟨.ref a, rfl, N, .ref a, d, rfl, hd, fun H1 s1 => ?_⟩
    rw [sq]
    have hq1 : SqL K H1 a xs ∨ SqT K H1 a xs := hq.imp (fun z => s1.seq z) (fun z => s1.sqt z)
    refine ⟨_, rfl, iteF ⟨.ref a, rfl, a, _, rfl, hq1, rfl, _, rfl, iteNS (by rw [lx]; rfl) ?_⟩⟩
    refine ⟨.ref a, rfl, a, xs, rfl, hq1, fun J C hJ hC => ?_⟩
    intro D nD
    refine lc_seq (xs := xs) hJ (fun i H2 => ∃ ws, H2 D = some (.lst ws) ∧ Paired (JAt H2) ws (b.take i) ∧ Same H1 H2) ⟨[], upd_same, .nil, same_new nD⟩ ?_ ?_ ?_
    · rintro i H2 ⟨ws, h2, t2, s2⟩
      exact SeqIt.mono K hJ (fun o e => s2 _ _ e) hC
    · rintro i x H2 hx ⟨ws, h2, t2, s2⟩
      obtain ⟨di, hdi, hxi⟩ := hds.get hx
      obtain ⟨j, hji, ej⟩ := norm_at en hdi
      refine ⟨rfl, x, rfl, intV m, rfl, N, x, di, j, m, rfl, hxi.same (s1.trans s2), ej, hj j (List.mem_of_getElem? hji), fun H3 v3 s3 j3 => ?_⟩
      have h3 := s3 _ _ h2
      refine ⟨ws, h3, small1000 (by rw [plen t2, List.length_take]; omega), ws ++ [v3], upd_same, ?_, same_fill (s2.trans s3) nD⟩
      rw [List.take_add_one, hji]
      exact papp (pmono t2 fun _ _ z => z.mono (s3.tups.trans (tups_set h3))) (.cons (j3.mono (tups_set h3)) .nil)
    · rintro H2 ⟨ws, h2, t2, s2⟩
      rw [lx, ← h4, List.take_length] at t2
      refine ⟨D, ws, rfl, .inl ⟨.inl (.inl h2), fun p o np dn => ?_⟩⟩
      exact q _ _ ((s1.trans s2).trans (same_new np)) ⟨p, ws, rfl, FT.new dn, pmono t2 fun _ _ z => z.mono (same_new np).tups⟩
end
end Bk

namespace Bk
open PySem PySem.Spec PyProof.Rows L2
local macro_rules | `(tactic| walk_at "g") => `(tactic| (repeat first | refine ⟨_, rfl, ?_⟩ | refine ⟨cpow, ?_⟩ | refine ⟨wideM, ?_⟩ | refine ⟨_, _, rfl, rfl, ?_⟩ | refine ⟨rfl, ?_⟩))
theorem jD_shaped (j : Jn) : SeqAt.shaped (jD j) = true := by
  obtain ⟨h1, h2⟩ := jD_lay j
  show ((jD j).canLay0 && decide ((jD j).depth ≤ 64)) = true
  rw [h1, decide_eq_true (by omega)]
  rfl
theorem tints_shaped (ns : List Int) : SeqAt.shaped (.tuple (ns.map PyData.int)) = true := by
  have h := ints_lay ns
  have h2 : PyData.depth (.tuple (ns.map PyData.int)) ≤ 64 := by
    simp only [PyData.depth]
    omega
  show (PyData.canLay0 (.tuple (ns.map PyData.int)) && decide (PyData.depth (.tuple (ns.map PyData.int)) ≤ 64)) = true
  rw [Bool.and_eq_true]
  exact ⟨by simp only [PyData.canLay0]; exact h.1, decide_eq_true h2⟩
theorem pair_eqv (a b c d : Nat) : PyData.eqv (.tuple [intD a, intD b]) (.tuple [intD c, intD d]) = decide ((a, b) = (c, d)) := by
  have e : PyData.eqv (.tuple [intD a, intD b]) (.tuple [intD c, intD d]) = (((a : Int) == (c : Int)) && (((b : Int) == (d : Int)) && true)) := by simp only [intD, PyData.eqv, PyData.eqvAll]
  rw [e]
  by_cases h : ((a, b) : Nat × Nat) = (c, d)
  · injection h with h1 h2
    subst h1 h2
    simp
  · rw [decide_eq_false h]
    by_cases h1 : a = c
    · have h2 : b ≠ d := fun z => h (by rw [h1, z])
      rw [show ((b : Int) == (d : Int)) = false from beq_eq_false_iff_ne.mpr (by omega)]
      simp
    · rw [show ((a : Int) == (c : Int)) = false from beq_eq_false_iff_ne.mpr (by omega)]
      simp
section
variable {P : Program} {w : World} {K : PySem.W.Frag} {mg : Str → Option Value} {base : Heap}
/-! ### _goes_both_ways -/
abbrev s_goes_both_ways : Stmt := topS 16
abbrev N_goes_both_ways : List Str := ["space", "block", "face", "joining", "other", "turn", "across"]
theorem sc_goes_both_ways : FnScope N_goes_both_ways ["space", "block", "face"] (defScope s_goes_both_ways) := ⟨rfl, rfl, rfl, by decide +kernel, rfl, by decide +kernel, by decide +kernel⟩
def spGoes : Sp := fun vs H Q _ => ∃ (v : V) (S : Spc) (b f : Nat), vs = [v, intV b, intV f] ∧ ST H v S ∧ Good S ∧ b < S.length ∧ f < 4 ∧ ∀ H', Same H H' → Q (.bl true) H'
theorem ok_goes_both_ways {f fC : Addr} {fd fdC : FuncData} (F : Fun K "_goes_both_ways" "_goes_both_ways" s_goes_both_ways f fd) (Fcontrary : Fun K "contrary" "contrary" scontrary fC fdC) (gcontrary : mg "contrary" = some (.ref fC)) (bcontrary : Binds K fdC ["turn"] [])
    (Gcontrary : FnOk P w K mg base CX0 1 fC fdC ["turn"] spBack) : FnOk P w K mg base CX0 2 f fd ["space", "block", "face"] spGoes := by
  refine F.ok sc_goes_both_ways (fun vs H Q E h => ?_) (fun cdv A outer s H vs Q E hr h => ?_)
  · obtain ⟨v, S, b, f, rfl, _⟩ := h
    rfl
  · obtain ⟨v, S, b, f, rfl, hv, hG, hb, hf, q⟩ := h
    have nd := sc_goes_both_ways.nd
    refine ⟨_, (pss_cons (ps_set (i := 3) nd rfl (.inl rfl) (pe_ix (kIxT K rfl) (pe_ix (kIxT K rfl) (pv 0) (pv 1) (fun _ _ => rfl)) (pv 2) (fun _ _ => rfl)))
      (pss_cons (ps_if (pt_cmpR op_isN (pv 3) pe_non (nomark _)) (pss_one (ps_ret pe_bl)) pss_nil)
      (pss_cons (ps_asg (pv 3) (kPgT K rfl (pg_tup (n := 2) rfl (pgs_cons (pg_name (i := 4) nd rfl (.inl rfl)) (pgs_cons (pg_name (i := 5) nd rfl (.inl rfl)) pgs_nil)))))
      (pss_cons (ps_set (i := 6) nd rfl (.inl rfl) (pe_ix (kIxT K rfl) (pv 5) (pv 2) (fun _ _ => rfl)))
      (pss_cons (ps_if (pt_cmpR (kEqD K rfl hr.units) (pe_tupF (pa_cons (pv 4) (pa_cons (pv 6) pa_nil))) (pe_tupF (pa_cons (pv 1) (pa_cons (pv 2) pa_nil))) (nomark _)) (pss_one (ps_ret pe_bl)) pss_nil)
      (pss_one (ps_ret (pe_cmpR (kEqD K rfl hr.units) (pe_ix (kIxT K rfl) (pe_ix (kIxT K rfl) (pv 0) (pv 4) (fun _ _ => rfl)) (pv 6) (fun _ _ => rfl)) (pe_tupF (pa_cons (pv 1) (pa_cons (pe_call Gcontrary (hr.mono (by first | decide | omega)) (by rfl) gcontrary Fcontrary.kp bcontrary .nil pass0 (pa_cons (pv 5) pa_nil)) pa_nil))) (nomark _))))))))), ?_⟩
    obtain ⟨j, hj⟩ := hG.l4.get hb hf
    obtain ⟨p, rs, pb, vb, x, rfl, f1, g1, f2, g2, jx⟩ := hv.face hj
    refine ⟨.ref p, rfl, intV b, rfl, p, rs, b, .ref pb, rfl, rfl, f1.sqt, atI_nat g1, intV f, rfl, pb, vb, f, x, rfl, rfl, f2.sqt, atI_nat g2, ?_⟩
    refine ⟨x, rfl, rfl, ?_⟩
    rw [jx.isN]
    refine ⟨_, rfl, ?_⟩
    cases j with
    | none => exact iteT (q H (Same.refl H))
    | some k =>
      obtain ⟨n, t⟩ := k
      obtain ⟨ht, hne, hbk⟩ := hG.both _ _ _ _ hj
      have htf := tf_lt t ht f hf
      obtain ⟨pj, pq, rfl, f3, f4⟩ := jx
      refine iteF ?_
      refine ⟨.ref pj, rfl, pj, _, rfl, f3.sqt, rfl, _, _, rfl, _, _, rfl, rfl, ?_⟩
      refine ⟨.ref pq, rfl, intV f, rfl, pq, trnV t, f, intV (tf t f), rfl, rfl, f4.sqt, atI_nat (by unfold trnV; rw [List.getElem?_map, htf.2]; rfl), ?_⟩
      refine ⟨intV n, rfl, intV (tf t f), rfl, Nat.le_of_lt (small1000 (by show 2 ≤ 1000; decide)), fun p1 o1 np1 dn1 => ?_⟩
      have s1 : Same H (upd H p1 (.frz o1 (.tup [intV n, intV (tf t f)]))) := same_new np1
      have ft1 : FT (upd H p1 (.frz o1 (.tup [intV n, intV (tf t f)]))) p1 [intV n, intV (tf t f)] := FT.new dn1
      generalize upd H p1 (.frz o1 (.tup [intV n, intV (tf t f)])) = H1 at s1 ft1 ⊢
      refine ⟨intV b, rfl, intV f, rfl, Nat.le_of_lt (small1000 (by show 2 ≤ 1000; decide)), fun p2 o2 np2 dn2 => ?_⟩
      have s2 : Same H1 (upd H1 p2 (.frz o2 (.tup [intV b, intV f]))) := same_new np2
      have ft2 : FT (upd H1 p2 (.frz o2 (.tup [intV b, intV f]))) p2 [intV b, intV f] := FT.new dn2
      generalize upd H1 p2 (.frz o2 (.tup [intV b, intV f])) = H2 at s2 ft2 ⊢
      refine ⟨.tuple [intD n, intD (tf t f)], .tuple [intD b, intD f], .tup (ft1.mono s2.tups).sqt (.cons (.int _) (.cons (.int _) .nil)), .tup ft2.sqt (.cons (.int _) (.cons (.int _) .nil)), tints_shaped [n, tf t f], tints_shaped [b, f], ?_⟩
      rw [pair_eqv, decide_eq_false hne]
      refine ⟨_, rfl, iteF ?_⟩
      have s12 := s1.trans s2
      have hv2 : ST H2 (.ref p) S := hv.mono s12.tups
      obtain ⟨p', rs', pn, vn, x2, ep, f5, g3, f6, g4, jx2⟩ := hv2.face hbk
      cases ep
      refine ⟨.ref p, rfl, intV n, rfl, p, rs', n, .ref pn, rfl, rfl, f5.sqt, atI_nat g3, intV (tf t f), rfl, pn, vn, (tf t f : Nat), x2, rfl, rfl, f6.sqt, atI_nat g4, ?_⟩
      refine ⟨intV b, rfl, .ref pq, rfl, .ref pq, t, rfl, ⟨pq, rfl, f4.mono s12.tups⟩, ht, fun H3 p3 s3 n3 T3 => ⟨Nat.le_of_lt (small1000 (by show 2 ≤ 1000; decide)), fun p4 o4 np4 dn4 => ?_⟩⟩
      obtain ⟨p3', e3, T3⟩ := T3
      cases e3
      have s4 : Same H3 (upd H3 p4 (.frz o4 (.tup [intV b, .ref p3]))) := same_new np4
      have j4 : JAt (upd H3 p4 (.frz o4 (.tup [intV b, .ref p3]))) (.ref p4) (some (b, back t)) := ⟨p4, p3, rfl, FT.new dn4, T3.mono s4.tups⟩
      have j5 := jx2.mono (s3.trans s4).tups
      refine ⟨jD (some (b, back t)), jD (some (b, back t)), (j5.dq (N := fun _ => False)).dp, (j4.dq (N := fun _ => False)).dp, jD_shaped _, jD_shaped _, ?_⟩
      rw [SeqAt.eqv_refl _ (jD_lay _).1]
      exact q _ ((s12.trans s3).trans s4)
/-! ### space_of -/
abbrev sspace_of : Stmt := topS 13
abbrev Nspace_of : List Str := ["blocks", "space", "block", "face", "faces"]
theorem scspace_of : FnScope Nspace_of ["blocks"] (defScope sspace_of) := ⟨rfl, rfl, rfl, by decide +kernel, rfl, by decide +kernel, by decide +kernel⟩
def spSpace : Sp := fun vs H Q _ => ∃ (N : Addr → Prop) (v : V) (d : PyData) (S : Spc), vs = [v] ∧ Dq N H v d ∧ norm d = nS S ∧ Good S ∧ 1 ≤ S.length ∧ S.length ≤ 100 ∧ ∀ H' v', Same H H' → ST H' v' S → Q v' H'
theorem okspace_of {f fL fB fG : Addr} {fd fdL fdB fdG : FuncData} (F : Fun K "space_of" "space_of" sspace_of f fd) (Fis_listed : Fun K "is_listed" "is_listed" sis_listed fL fdL) (gis_listed : mg "is_listed" = some (.ref fL)) (bis_listed : Binds K fdL ["thing"] []) (Gis_listed : FnOk P w K mg base CX0 1 fL fdL ["thing"] spListed)
    (F_block_of : Fun K "_block_of" "_block_of" s_block_of fB fdB) (g_block_of : mg "_block_of" = some (.ref fB)) (b_block_of : Binds K fdB ["faces", "many"] []) (G_block_of : FnOk P w K mg base CX0 5 fB fdB ["faces", "many"] spBlockOf)
    (F_goes_both_ways : Fun K "_goes_both_ways" "_goes_both_ways" s_goes_both_ways fG fdG) (g_goes_both_ways : mg "_goes_both_ways" = some (.ref fG)) (b_goes_both_ways : Binds K fdG ["space", "block", "face"] []) (G_goes_both_ways : FnOk P w K mg base CX0 2 fG fdG ["space", "block", "face"] spGoes)
    (m_len : mg "len" = none) (m_tuple : mg "tuple" = none) (m_range : mg "range" = none) : FnOk P w K mg base CX0 6 f fd ["blocks"] spSpace := by
  refine F.ok scspace_of (fun vs H Q E h => ?_) (fun cdv A outer s H vs Q E hr h => ?_)
  · obtain ⟨N, v, d, S, rfl, _⟩ := h
    rfl
  · obtain ⟨N, v, d, S, rfl, hd, hn, hG, hl1, hl2, q⟩ := h
    have nd := scspace_of.nd
    refine ⟨_, (pss_cons (ps_if (pw_or (pt_not (pt_val (pe_call Gis_listed (hr.mono (by first | decide | omega)) (by rfl) gis_listed Fis_listed.kp bis_listed .nil pass0 (pa_cons (pv 0) pa_nil)))) (pw_or1 (pt_not (pt_truth (pv 0) (by intro _; rfl))))).pt (pss_one ps_never) pss_nil)
      (pss_cons (ps_set (i := 1) nd rfl (.inl rfl) (pe_callTy (kTupleF K rfl) (by rfl) m_tuple (by decide +kernel) (pa_cons (pe_lc (own := [("faces", 4)]) (g := gName 4) (tt := tYes) rfl nd (kPiS K rfl (pv 0)) (blkOk_by (own := [("faces", 4)]) (N := Nspace_of) (sc := defScope sspace_of) (by decide +kernel)) (fun _ _ _ _ _ => (pg_name (i := 4) nd rfl (Or.inl rfl))) (fun _ _ _ _ _ => pts_nil) (fun _ _ _ _ _ => (pe_call G_block_of (hr.mono (by first | decide | omega)) (by rfl) g_block_of F_block_of.kp b_block_of .nil pass0 (pa_cons (pv 4) (pa_cons (pe_callB (kLen K rfl) (by rfl) m_len (by decide +kernel) (pa_cons (pv 0) pa_nil)) pa_nil))))) pa_nil)))
      (pss_cons (ps_for PassesOwn.never rfl (pi_range1 (by rfl) m_range (pa_cons (pe_callB (kLen K rfl) (by rfl) m_len (by decide +kernel) (pa_cons (pv 1) pa_nil)) pa_nil)) (pg_name (i := 2) nd rfl (.inl rfl)) (pss_one (ps_for PassesOwn.never rfl (pi_range1 (by rfl) m_range (pa_cons pe_int pa_nil)) (pg_name (i := 3) nd rfl (.inl rfl)) (pss_one (ps_if (pt_not (pt_val (pe_call G_goes_both_ways (hr.mono (by first | decide | omega)) (by rfl) g_goes_both_ways F_goes_both_ways.kp b_goes_both_ways .nil pass0 (pa_cons (pv 1) (pa_cons (pv 2) (pa_cons (pv 3) pa_nil)))))) (pss_one ps_never) pss_nil)))))
      (pss_one (ps_ret (pv 1)))))), ?_⟩
    have sq : isSeqD d = true := by
      cases d <;> first | rfl | (simp only [norm, nS] at hn; cases hn)
    obtain ⟨a, xs, ds, rfl, hq, _, hds, en⟩ := hd.seq (K := K) hn
    have lx : xs.length = S.length := by rw [hds.len, norm_len en]
    have xe : xs.isEmpty = false := by
      cases xs with
      | nil =>
        have : 0 = S.length := lx
        omega
      | cons x r => rfl
    refine ⟨.ref a, rfl, N, .ref a, d, rfl, hd, fun H1 s1 => ?_⟩
    rw [sq]
    have hq1 : SqL K H1 a xs ∨ SqT K H1 a xs := hq.imp (fun z => s1.seq z) (fun z => s1.sqt z)
    have tru : TruV K (.ref a) H1 true := by
      rcases hq1 with z | z
      · exact .inl ⟨xs, z, by rw [xe]; rfl⟩
      · exact .inr (.inl ⟨xs, z, by rw [xe]; rfl⟩)
    refine ⟨_, rfl, iteF ⟨.ref a, rfl, true, tru, iteF ?_⟩⟩
    refine ⟨.ref a, rfl, a, xs, rfl, hq1, fun J C hJ hC => ?_⟩
    intro D nD
    refine lc_seq (xs := xs) hJ (fun i H2 => ∃ ws, H2 D = some (.lst ws) ∧ Paired (BT H2) ws (S.take i) ∧ Same H1 H2) ⟨[], upd_same, .nil, same_new nD⟩ ?_ ?_ ?_
    · rintro i H2 ⟨ws, h2, t2, s2⟩
      exact SeqIt.mono K hJ (fun o e => s2 _ _ e) hC
    · rintro i x H2 hx ⟨ws, h2, t2, s2⟩
      obtain ⟨di, hdi, hxi⟩ := hds.get hx
      obtain ⟨b, hbi, eb⟩ := norm_at en hdi
      have hbm := List.mem_of_getElem? hbi
      have hi : i < S.length := (List.getElem?_eq_some_iff.mp hbi).1
      refine ⟨rfl, x, rfl, .ref a, rfl, a, xs, rfl, hq1.imp (fun z => s2.seq z) (fun z => s2.sqt z), ?_⟩
      refine ⟨N, x, di, b, S.length, (by rw [lx]; rfl), hxi.same (s1.trans s2), eb, hG.l4 b hbm, hG.jok hbm, fun H3 v3 s3 j3 => ?_⟩
      have h3 := s3 _ _ h2
      refine ⟨ws, h3, small1000 (by rw [plen t2, List.length_take]; omega), ws ++ [v3], upd_same, ?_, same_fill (s2.trans s3) nD⟩
      rw [List.take_add_one, hbi]
      exact papp (pmono t2 fun _ _ z => z.mono (s3.tups.trans (tups_set h3))) (.cons (j3.mono (tups_set h3)) .nil)
    · rintro H2 ⟨ws, h2, t2, s2⟩
      rw [lx, List.take_length] at t2
      refine ⟨D, ws, rfl, .inl ⟨.inl (.inl h2), fun p o np dn => ?_⟩⟩
      have s3 : Same H2 (upd H2 p (.frz o (.tup ws))) := same_new np
      have st : ST (upd H2 p (.frz o (.tup ws))) (.ref p) S := ⟨p, ws, rfl, FT.new dn, pmono t2 fun _ _ z => z.mono s3.tups⟩
      have ftp : FT (upd H2 p (.frz o (.tup ws))) p ws := FT.new dn
      generalize upd H2 p (.frz o (.tup ws)) = H3 at s3 st ftp ⊢
      have s13 := (s1.trans s2).trans s3
      have lw : ws.length = S.length := plen t2
      refine ⟨.ref p, rfl, p, ws, rfl, .inr ftp.sqt, _, rfl, by rw [lw]; omega, by rw [lw]; omega, ?_⟩
      rw [lw, Int.toNat_natCast]
      refine for_range (lo := 0) (n := S.length) (fun b σ H4 => ∃ y2 y3, σ = [some (.ref a), some (.ref p), y2, y3, none] ∧ Same H3 H4) ⟨none, none, rfl, Same.refl _⟩ ?_ ?_
      · rintro b σ H4 hb ⟨y2, y3, rfl, s4⟩
        rw [Int.zero_add]
        refine ⟨4, rfl, by decide, by decide, ?_⟩
        refine for_range (lo := 0) (n := 4) (fun f σ H5 => ∃ y3, σ = [some (.ref a), some (.ref p), some (intV b), y3, none] ∧ Same H3 H5) ⟨y3, rfl, s4⟩ ?_ ?_
        · rintro f σ H5 hf ⟨y3, rfl, s5⟩
          rw [Int.zero_add]
          refine ⟨.ref p, rfl, intV b, rfl, intV f, rfl, .ref p, S, b, f, rfl, st.mono s5.tups, hG, hb, hf, fun H6 s6 => ⟨_, rfl, iteF ?_⟩⟩
          exact ⟨_, rfl, s5.trans s6⟩
        · rintro σ H5 ⟨y3, rfl, s5⟩
          exact ⟨_, _, rfl, s5⟩
      · rintro σ H4 ⟨y2, y3, rfl, s4⟩
        exact ⟨.ref p, rfl, q H4 _ (s13.trans s4) (st.mono s4.tups)⟩
end
end Bk

namespace Bk
open PySem PySem.Spec PyProof.Rows L2 RZ
local macro_rules | `(tactic| walk_at "g") => `(tactic| (repeat first | refine ⟨_, rfl, ?_⟩ | refine ⟨cpow, ?_⟩ | refine ⟨wideM, ?_⟩ | refine ⟨_, _, rfl, rfl, ?_⟩ | refine ⟨rfl, ?_⟩))
/-! ### two walked at once -/
structure ZipIt (a b : Addr) (xs ys : List V) (J : It) (G : Hp → Prop) : Prop where
  walk : Walk J (min xs.length ys.length) G (YPair (fun i => xs[i]?) (fun i => ys[i]?))
  stay : ∀ H H' : Hp, (∀ o, H a = some o → H' a = some o) → (∀ o, H b = some o → H' b = some o) → G H → G H'
theorem sqL_at {K : PySem.W.Frag} {H H' : Hp} {a : Addr} {xs : List V} (m : ∀ o, H a = some o → H' a = some o) (c : SqL K H a xs) : SqL K H' a xs := by
  rcases c with (c | ⟨o, c⟩) | c
  · exact .inl (.inl (m _ c))
  · exact .inl (.inr ⟨o, m _ c⟩)
  · exact .inr c
theorem sqT_at {K : PySem.W.Frag} {H H' : Hp} {a : Addr} {xs : List V} (m : ∀ o, H a = some o → H' a = some o) (c : SqT K H a xs) : SqT K H' a xs := by
  rcases c with (c | ⟨o, c⟩) | c
  · exact .inl (.inl (m _ c))
  · exact .inl (.inr ⟨o, m _ c⟩)
  · exact .inr c
theorem walk_zipT {K : PySem.W.Frag} {a b : Addr} {xs ys : List V} : Walk (ItzT K a b) (min xs.length ys.length) (fun H => SqT K H a xs ∧ SqT K H b ys) (YPair (fun i => xs[i]?) (fun i => ys[i]?)) := by
  refine ⟨fun i _ hi q => ?_, fun _ q => ⟨xs, ys, q.1, q.2, by omega⟩, fun i H v H' _ q y => ?_⟩
  · exact ⟨xs, ys, _, _, q.1, q.2, List.getElem?_eq_getElem (show i < xs.length by omega), List.getElem?_eq_getElem (show i < ys.length by omega)⟩
  · obtain ⟨T, x, z, z1, z2, z3, z4, z5⟩ := y
    exact ⟨T, x, z, z1, z2, z3, z4 xs q.1, z5 ys q.2⟩
def iZipS (K : PySem.W.Frag) (ta : TA) : TI := fun σ H R => ta σ H fun vs H1 => ∃ a b xs ys, vs = [.ref a, .ref b] ∧ ((SqL K H1 a xs ∧ SqL K H1 b ys) ∨ (SqT K H1 a xs ∧ SqT K H1 b ys)) ∧ ∀ J G, ZipIt a b xs ys J G → G H1 → R J H1
/-- what an argument list's reading asks is monotone -/
theorem kPiZ {X : Cx} (K : PySem.W.Frag) {tg l : Expr} {ta : TA} (h : X.K = K) (x : PI X tg l (iZipA X.K ta)) (mono : ∀ σ H (Q Q' : List V → Hp → Prop), ta σ H Q → (∀ vs H', Q vs H' → Q' vs H') → ta σ H Q' := by
    intro σ H Q Q' hq m
    first
      | exact m _ _ hq
      | (obtain ⟨v1, e1, v2, e2, hq⟩ := hq; exact ⟨v1, e1, v2, e2, m _ _ hq⟩)) : PI X tg l (iZipS K ta) := by
  subst h
  refine ⟨fun pins s σ H R I hw => x.run pins s σ H R I (mono σ H _ _ hw fun vs H' hv => ?_)⟩
  obtain ⟨a, b, xs, ys, e, hq, q⟩ := hv
  rcases hq with ⟨q1, q2⟩ | ⟨q1, q2⟩
  · exact ⟨a, b, xs, ys, e, .inl ⟨q1, q2, q _ _ ⟨walk_zip rfl, fun _ _ m1 m2 z => ⟨sqL_at m1 z.1, sqL_at m2 z.2⟩⟩ ⟨q1, q2⟩⟩⟩
  · exact ⟨a, b, xs, ys, e, .inr ⟨q1, q2, q _ _ ⟨walk_zipT, fun _ _ m1 m2 z => ⟨sqT_at m1 z.1, sqT_at m2 z.2⟩⟩ ⟨q1, q2⟩⟩⟩
section
variable {P : Program} {w : World} {K : PySem.W.Frag} {mg : Str → Option Value} {base : Heap}
theorem kit_tuple (d : PyData) : PySem.W.kitOne K (.type (tyD d)) (.type "tuple") = some (tyD d == "tuple") := by
  cases d with
  | none => exact kit_ty (a := "NoneType") (b := "tuple") (show kitB "NoneType" "tuple" = some false by decide +kernel)
  | bool b => exact kit_ty (a := "bool") (b := "tuple") (show kitB "bool" "tuple" = some false by decide +kernel)
  | int i => exact kit_ty (a := "int") (b := "tuple") (show kitB "int" "tuple" = some false by decide +kernel)
  | str x => exact kit_ty (a := "str") (b := "tuple") (show kitB "str" "tuple" = some false by decide +kernel)
  | list ds => exact kit_ty (a := "list") (b := "tuple") (show kitB "list" "tuple" = some false by decide +kernel)
  | tuple ds => exact kit_ty (a := "tuple") (b := "tuple") (show kitB "tuple" "tuple" = some true by decide +kernel)
  | dict k => exact kit_ty (a := "dict") (b := "tuple") (show kitB "dict" "tuple" = some false by decide +kernel)
theorem kit_list (d : PyData) : PySem.W.kitOne K (.type (tyD d)) (.type "list") = some (tyD d == "list") := by
  cases d with
  | none => exact kit_ty (a := "NoneType") (b := "list") (show kitB "NoneType" "list" = some false by decide +kernel)
  | bool b => exact kit_ty (a := "bool") (b := "list") (show kitB "bool" "list" = some false by decide +kernel)
  | int i => exact kit_ty (a := "int") (b := "list") (show kitB "int" "list" = some false by decide +kernel)
  | str x => exact kit_ty (a := "str") (b := "list") (show kitB "str" "list" = some false by decide +kernel)
  | list ds => exact kit_ty (a := "list") (b := "list") (show kitB "list" "list" = some true by decide +kernel)
  | tuple ds => exact kit_ty (a := "tuple") (b := "list") (show kitB "tuple" "list" = some false by decide +kernel)
  | dict k => exact kit_ty (a := "dict") (b := "list") (show kitB "dict" "list" = some false by decide +kernel)
theorem kit_str (d : PyData) : PySem.W.kitOne K (.type (tyD d)) (.type "str") = some (tyD d == "str") := by
  cases d with
  | none => exact kit_ty (a := "NoneType") (b := "str") (show kitB "NoneType" "str" = some false by decide +kernel)
  | bool b => exact kit_ty (a := "bool") (b := "str") (show kitB "bool" "str" = some false by decide +kernel)
  | int i => exact kit_ty (a := "int") (b := "str") (show kitB "int" "str" = some false by decide +kernel)
  | str x => exact kit_ty (a := "str") (b := "str") (show kitB "str" "str" = some true by decide +kernel)
  | list ds => exact kit_ty (a := "list") (b := "str") (show kitB "list" "str" = some false by decide +kernel)
  | tuple ds => exact kit_ty (a := "tuple") (b := "str") (show kitB "tuple" "str" = some false by decide +kernel)
  | dict k => exact kit_ty (a := "dict") (b := "str") (show kitB "dict" "str" = some false by decide +kernel)
theorem or_way {c d : Bool} {A B X : Prop} (h1 : (c || d) = true → A) (hx : (if d = true then A else B) → X) (h2 : (c || d) = false → B) : if c = true then A else X := by
  cases c with
  | true => exact iteT (h1 rfl)
  | false =>
    refine iteF (hx ?_)
    cases d with
    | true => exact iteT (h1 rfl)
    | false => exact iteF (h2 rfl)
theorem seq_ty (d : PyData) : (tyD d == "tuple" || tyD d == "list") = isSeqD d := by
  cases d <;> simp [isSeqD, tyD]
theorem scal_ty (d : PyData) : (tyD d == "bool" || tyD d == "str") = true → (∃ b, d = .bool b) ∨ ∃ x, d = .str x := by
  cases d <;> simp [tyD]
end
end Bk

namespace Bk
open PySem PySem.Spec PyProof.Rows L2
/-! ### defs that show things: no other showing is under way around them -/
section
variable {P : Program} {w : World} {K : PySem.W.Frag} {mg : Str → Option Value} {base : Heap}
structure FnG (P : Program) (w : World) (K : PySem.W.Frag) (mg : Str → Option Value) (base : Heap) (k : Nat) (f : Addr) (fd : FuncData) (ps : List Str) (sp : Sp) : Prop where
  len : ∀ vs H Q E, sp vs H Q E → vs.length = ps.length
  go : ∀ (A : Around) (outer : List Env) (s : Shared) (H : Hp) (args : Args) (us : List Value) (vs : List V) (Q : VK) (E : XK), A.guards = some [] → Room k A → Env0 P w K mg base A outer s H → BindsTo s fd args (ps.zip us) →
    Vals vs us → sp vs H Q E → codeAny (model P w) A (.call (.ref f) args) (CR CX0 outer P w H s Q E) s
theorem fnG_of {x qual : Str} {st : Stmt} {f : Addr} {fd : FuncData} {N ps : List Str} {k : Nat} {sp : Sp} (F : Fun K x qual st f fd) (S : FnScope N ps (defScope st)) (len : ∀ vs H Q E, sp vs H Q E → vs.length = ps.length)
    (body : ∀ (cdv : Value) (A : Around) (outer : List Env) (s : Shared) (H : Hp) (vs : List V) (Q : VK) (E : XK), A.guards = some [] → Room k (A.deeper (envOfC qual (defScope st) s.heap.objs.size f cdv)) → sp vs H Q E →
      ∃ t, PSs (cxOf CX0 P w K mg base N qual (defScope st) f cdv A outer s H E).nox (defBody st) t ∧ t { nx := fun _ H' => Q .non H', rt := Q } (start N vs) H) : FnG P w K mg base (k + 1) f fd ps sp := by
  obtain ⟨oc, od, kV, doc, pm, an, cdv, ct, osl, rfl, lk, hcd⟩ := F.ex
  refine ⟨len, fun A outer s H args us vs Q E hg hr e0 hb r hsp => ?_⟩
  obtain ⟨t, ht, hq⟩ := body cdv A outer s H vs Q E hg (hr.deeper _) hsp
  have up : ∀ b o, base.get? b = some o → s.heap.get? b = some o := fun b o e => (e0.bs b o e).1
  refine Att.call_fn (e0.mod.kin.keeps up) (e0.mod.nolimit.keeps up) lk hcd hr.depth hb ?_ (fun s1 x => ?_) S.co S.gen S.kind
  · rw [List.all_eq_true]
    rintro ⟨n, v⟩ hy
    rcases S.par n (List.of_mem_zip hy).1 with q | q
    · show ((defScope st).names.lookup n == some .local || (defScope st).names.lookup n == some .cell) = true
      rw [q]
      rfl
    · show ((defScope st).names.lookup n == some .local || (defScope st).names.lookup n == some .cell) = true
      rw [q]
      rfl
  · have I := inv_start (CX := CX0) (P := P) (E := E) S hr.hd e0 (len _ _ _ _ hsp) r x
    refine wpAny_mono (ht.nox.run [] s1 (start N vs) H _ I hq) (fun fl s' hs => ?_) fun _ _ z => z
    cases fl with
    | ret u =>
      obtain ⟨v, σ', H', J, rv, z⟩ := hs
      exact ⟨v, H', J.os, J.bare, J.base, J.hok, rv, z⟩
    | next =>
      obtain ⟨σ', H', J, z⟩ := hs
      exact ⟨V.non, H', J.os, J.bare, J.base, J.hok, rfl, z⟩
    | brk =>
      obtain ⟨_, _, _, z⟩ := hs
      exact z.elim
    | cont =>
      obtain ⟨_, _, _, z⟩ := hs
      exact z.elim
/-- the same called within another -/
theorem FnG.ok {k : Nat} {f : Addr} {fd : FuncData} {ps : List Str} {sp : Sp} (F : FnOk P w K mg base CX0 k f fd ps sp) : FnG P w K mg base k f fd ps sp := ⟨F.len, fun A outer s H args us vs Q E _ => F.run A outer s H args us vs Q E⟩
/-! ### repr of data -/
def rRepr : List V → Hp → VK → Prop := fun xs H Q => ∃ N v d es, xs = [v] ∧ Dq N H v d ∧ norm d = .list es ∧ d.showable = true ∧ d.hasDict = false ∧ d.depth ≤ 60 ∧ d.shown.length ≤ sizeLine ∧ Q (.str d.shown) H
theorem kRepr {X : Cx} {k : Nat} (hr : Room k X.A) (hg : X.A.guards = some []) : CallR X (.builtin "repr") rRepr := by
  rintro pins s σ H _ us Q I r ⟨N, v, d, es, rfl, hd, hn, h1, h2, h3, h4, q⟩
  obtain ⟨u, rfl, rx⟩ := vals1 r
  obtain ⟨as, rd⟩ := Dp.reads I d v u hd.dp rx
  obtain ⟨a, _, _, rfl, _⟩ := hd.seq (K := X.K) hn
  cases rx
  have hu := hr.units
  exact repr_of_reads' rd h1 (fun z => by rw [h2] at z; cases z) hg (by omega) (fun _ _ e => e) (fun h' t tk hk => ⟨.str d.shown, H, I.kept hk, ⟨t, rfl⟩, q⟩) h4
/-! ### the law called -/
/-- the heap ahead of the law's call: at most the script is told -/
theorem go_law {mb : Str → Option Value} {k : Nat} {fa a : Addr} {fd : FuncData} {x : Str} {sp : Sp} {s₁ : Shared} {vs : List Value} {ns : List Int}
    (KX : K.In s₁.heap) (h1 : s₁.heap.Ns mainGlobals mg) (h2 : s₁.heap.Ns builtinsNs mb) (h3 : ∀ x : Str, x ≠ "__name__" → mb x = bootBuiltins x) (h4 : s₁.heap.NoLimit) (h5 : s₁.gens = #[])
    (ha : s₁.heap.get? a = some { cls := .type "list", data := .seq vs.toArray }) (hi : IntsAre vs ns) (hl : ns.length ≤ sizeLine) (hr : Room k callerA)
    (F : ∀ base : Heap, K.In base → base.Ns mainGlobals mg → FnG P w K mg base k fa fd [x] sp) (hb : ∀ (s : Shared) (u : Value), BindsTo s fd ⟨[u], []⟩ [(x, u)])
    (hsp : ∀ H : Hp, Only H → SqL K H a (ns.map V.int) → sp [.ref a] H (fun v _ => v = .bl true) fun _ _ _ => False) :
    codeAny (model P w) callerA (.call (.ref fa) ⟨[.ref a], []⟩) (fun r s' => r = .ok (.ret (.bool true)) ∧ OldK s₁.heap s'.heap ∧ s'.os = s₁.os ∧ AllBare s'.gens) s₁ := by
  have rv := vals_ints hi
  have start : ∀ H : Hp, Only H → SqL K H a (ns.map V.int) → HOk P w H s₁.heap → (∀ b u, H b = some u → b = a ∧ K.lookup a = none) →
      codeAny (model P w) callerA (.call (.ref fa) ⟨[.ref a], []⟩) (fun r s' => r = .ok (.ret (.bool true)) ∧ OldK s₁.heap s'.heap ∧ s'.os = s₁.os ∧ AllBare s'.gens) s₁ := by
    intro H only hS ok told
    have none_at : ∀ {b : Addr} {o : Obj}, s₁.heap.get? b = some o → (b = a → K.lookup a = none → False) → (hidT s₁.heap H).get? b = some o := fun {b o} e n => hidT_get e (by
      cases z : H b with
      | none => rfl
      | some u => exact (n (told b u z).1 (told b u z).2).elim)
    have dicts : ∀ {b : Addr} {m : Str → Option Value}, s₁.heap.Ns b m → (hidT s₁.heap H).Ns b m := fun {b m} ⟨o, es, ep, e, d, r⟩ => ⟨o, es, ep, none_at e (fun z _ => by
      subst z
      rw [ha] at e
      cases e
      have d' : Data.seq vs.toArray _ = Data.dict es ep := d
      cases d'), d, r⟩
    have kb : K.In (hidT s₁.heap H) := fun b o e => none_at (KX b o e) fun z n => by
      subst z
      rw [n] at e
      cases e
    have md : Mod K mg (hidT s₁.heap H) := ⟨kb, dicts h1, ⟨mb, dicts h2, h3⟩, let ⟨mc, z1, z2⟩ := h4; ⟨mc, dicts z1, z2⟩⟩
    have e0 : Env0 P w K mg (hidT s₁.heap H) callerA [] s₁ H := ⟨rfl, md, fun b o e => of_hidT e, Nat.le_of_eq (hidT_size _ _), trivial, fun b z => (by cases z), ok, .of_eq h5⟩
    refine codeAny_mono ((F _ kb (dicts h1)).go callerA [] s₁ H ⟨[.ref a], []⟩ [.ref a] [.ref a] _ _ rfl hr e0 (hb s₁ (.ref a)) (.cons rfl .nil) (hsp H only hS)) fun r s' h => ?_
    match r, h with
    | .ok (.ret u), h =>
      obtain ⟨v, H', os, bare, un, ok', r', q⟩ := h
      obtain rfl : v = .bl true := q
      obtain rfl : u = Value.bool true := r'
      refine ⟨rfl, OldK.of_keep fun b o e => ?_, os, bare⟩
      cases z : H b with
      | none => exact un.keep b o e z (fun z => by cases z) (by simp)
      | some u =>
        obtain y | ⟨ob, xs, y⟩ := only b
        · rw [z] at y
          cases y
        · have c1 := (ok b _ y).1
          rw [e] at c1
          cases c1
          exact (ok' b _ (un.frzs b _ _ y)).1
  cases hk : K.lookup a with
  | some o =>
    have e := KX a o hk
    rw [ha] at e
    cases e
    have hn := hi.length
    exact start (fun _ => none) (fun _ => .inl rfl) (.inr ⟨_, vs.toArray, _, hk, rfl, rfl, rfl, by rw [List.size_toArray, hn]; exact hl, by simpa using rv⟩) (fun b u z => by cases z) fun b u z => by cases z
  | none =>
    let ob : Obj := { cls := .type "list", data := .seq vs.toArray }
    have at_ : ∀ b u, (fun b => if b = a then some (HO.frz ob (.lst (ns.map V.int))) else none) b = some u → b = a ∧ u = HO.frz ob (.lst (ns.map V.int)) := fun b u z => by
      by_cases c : b = a
      · exact ⟨c, (Option.some.inj ((if_pos c).symm.trans z)).symm⟩
      · cases (if_neg c).symm.trans z
    refine start (fun b => if b = a then some (HO.frz ob (.lst (ns.map V.int))) else none) (fun b => ?_) (.inl (.inr ⟨ob, if_pos rfl⟩)) (fun b u z => ?_) fun b u z => ⟨(at_ b u z).1, hk⟩
    · by_cases c : b = a
      · exact .inr ⟨_, _, if_pos c⟩
      · exact .inl (if_neg c)
    · obtain ⟨rfl, rfl⟩ := at_ b u z
      exact ⟨ha, by rw [List.length_map]; exact hl, vs, _, rv, ha⟩
end
theorem walk_G {l : PySem.W.OpenLaw} {n k : Nat} {q : Program} {loose : List Str} {XP : (Str → Option Value) → Heap → Prop} {YP : World → Heap → Prop} {d : DefRec} {K : Params → PySem.W.Frag} {sp : PySem.W.Frag → Sp} {x : Str}
    (hn : l.most = some n) (hn2 : n ≤ sizeLine) (hdf : d.params.defaults = []) (hr : Room k callerA) (hY : ∀ (w : World) (h : Heap), YP w h → (K w.params).In h)
    (F : ∀ (w : World) (mg : Str → Option Value) (fa : Addr) (h : Heap), (K w.params).In h → h.Ns mainGlobals mg → mg d.name = some (.ref fa) →
      ∃ fd : FuncData, (∀ (s : Shared) (u : Value), BindsTo s fd ⟨[u], []⟩ [(x, u)]) ∧ ∀ base : Heap, (K w.params).In base → base.Ns mainGlobals mg → FnG l.prog w (K w.params) mg base k fa fd [x] (sp (K w.params)))
    (hsp : ∀ (K : PySem.W.Frag) (H : Hp) (a : Addr) (ns : List Int), ns.length ≤ n → Only H → SqL K H a (ns.map V.int) → sp K [.ref a] H (fun v _ => v = .bl true) fun _ _ _ => False) :
    PySem.W.WalkO q loose XP YP l.row.toRowW d [] (fun f vs => PySem.call f vs) := by
  refine Att.attach_call hn hdf fun w s₀ s₁ mg mb fa o pm cd doc a vs ns G Y ho hd hcd hmg hobj hints hlen hg => ?_
  obtain ⟨fd, hb, hF⟩ := F w mg fa _ (hY w _ Y) G.T.g hmg
  exact go_law (hY w _ Y) G.T.g G.T.b G.T.builtins G.T.nolimit hg hobj hints (Nat.le_trans hlen hn2) hr hF hb fun H z1 z2 => hsp _ H a ns hlen z1 z2
end Bk

namespace Bk
open PySem PySem.Spec PyProof.Rows L2
/-! ### the call of a def that shows things -/
theorem pe_callG {X : Cx} {j : Nat} {a : Addr} {fn : FuncData} {names : List Str} {sq : Sp} {y : Str} {q q' : Pos} {e1 : Expr} {rest : List Expr} {tt : TA}
    (F : FnG X.prog X.w X.K X.mg X.base j a fn names sq) (hg : X.A.guards = some []) (room : Room j X.A) (gl : Gl X y) (at_ : X.mg y = some (.ref a))
    (kp : PySem.W.keepIn X.K (.ref a) = true) (bs : Binds X.K fn names []) (args : PA X (e1 :: rest) tt)
    (nd : (y == ("__debug__" : Str)) = false := by decide)
    (hs : starEach (e1 :: rest) X.env = (false, eval e1 X.env) :: starEach rest X.env := by rfl)
    (hp : (backTo q' (starEach rest X.env)).any (·.1) = false := by rfl) :
    PE X (.Call (.Name y q) (e1 :: rest) [] q') (tCall sq [] E0 tt) := by
  constructor
  intro pins s σ H Q I hq
  refine wpAny_Call_Name_kw (ld_glob I gl at_ ?_ nd)
  have ran := args.run q' pins s σ H _ I hq
  refine PySem.W.callWith_K (h₀ := X.base) I.ok.mod.kin kp (thn ran ?_) hs hp
  rintro us s1 ⟨vs, H1, I1, r, z⟩
  refine ⟨I1.kIn, wpAny_call ?_⟩
  have rr : Vals (vs ++ []) (us ++ []) := r.append Paired.nil
  have len : (us ++ []).length = names.length := (rr.length.symm).trans (F.len _ _ _ _ z)
  have run := F.go X.A X.stack s1 H1 ⟨us, []⟩ (us ++ []) (vs ++ []) Q E0 hg room I1.env0 (bs s1 us I1.kIn len) rr z
  refine codeAny_mono run ?_
  rintro (e | fl) s2 h2
  · exact h2.elim
  · match fl, h2 with
    | .ret u, h2 => exact I1.after h2
end Bk

namespace Bk
open PySem PySem.Spec PyProof.Rows L2 RZ
section
variable {X : Cx} (K : PySem.W.Frag)
def rIxE (K : PySem.W.Frag) : R2 := fun x y H Q => rIxL K x y H Q ∨ rIxT K x y H Q
theorem kIxE (h : X.K = K) : IxR X (rIxE K) := h ▸ ix_list.or ix_tup
def rIndexI (K : PySem.W.Frag) : V → List V → Hp → VK → Prop := fun x xs H Q => ∃ p, ∃ ns : List Int, ∃ k : Int, x = .ref p ∧ xs = [.int k] ∧ SqL K H p (ns.map V.int) ∧ k ∈ ns ∧ ns.length ≤ sizeLine ∧ Q (.int (ns.idxOf k : Nat)) H
theorem kIndexI (h : X.K = K) : MtR X "list.index" (rIndexI K) := by
  subst h
  rintro pins s σ H x xs v us Q I rx rs ⟨p, ns, k, rfl, rfl, hq, hk, hz, q⟩
  cases rx
  obtain ⟨u, rfl, ru⟩ := rs.one
  obtain ⟨t, rfl⟩ := ru
  obtain ⟨its, r, pl, _⟩ := I.list hq
  exact SeqAt.list_index_ints pl.isList (intsAre_of r) hz hk ⟨.int _, H, I.tok _, ⟨_, rfl⟩, q⟩
end
theorem fn_or {P : Program} {w : World} {K : PySem.W.Frag} {mg : Str → Option Value} {base : Heap} {CX : CXT} {k : Nat} {f : Addr} {fd : FuncData} {ps : List Str} {sp sp' : Sp} (F : FnOk P w K mg base CX k f fd ps sp) (G : FnOk P w K mg base CX k f fd ps sp') :
    FnOk P w K mg base CX k f fd ps (fun vs H Q E => sp vs H Q E ∨ sp' vs H Q E) :=
  ⟨fun vs H Q E q => q.elim (F.len vs H Q E) (G.len vs H Q E), fun A outer s H args us vs Q E hr he hb hv hs => hs.elim (F.run A outer s H args us vs Q E hr he hb hv) (G.run A outer s H args us vs Q E hr he hb hv)⟩
theorem turn_of {K : PySem.W.Frag} {N : Addr → Prop} {H : Hp} {v : V} {d : PyData} {t : Trn} (h : Dq N H v d) (e : norm d = .list (t.map intD)) : ∃ a, v = .ref a ∧ (H a = some (.lst (trnV t)) ∨ FT H a (trnV t)) := by
  cases d with
  | list ds =>
    cases h with
    | lst h1 h2 h3 =>
      have := h3.ints (t := t) (by simpa only [norm, PyData.list.injEq] using e)
      subst this
      exact ⟨_, rfl, .inl h1⟩
  | tuple ds =>
    cases h with
    | tup h1 h2 =>
      have := h2.ints (t := t) (by simpa only [norm, PyData.list.injEq] using e)
      subst this
      exact ⟨_, rfl, .inr h1⟩
  | none => simp only [norm] at e; cases e
  | bool b => simp only [norm] at e; cases e
  | int i => simp only [norm] at e; cases e
  | str x => simp only [norm] at e; cases e
  | dict k => simp only [norm] at e; cases e
theorem ixE {K : PySem.W.Frag} {a : Addr} {xs : List V} {i : Int} {v : V} {H : Hp} {Q : VK} (h : H a = some (.lst xs) ∨ FT H a xs) (e : atI xs i = some v) (q : Q v H) : rIxE K (.ref a) (.int i) H Q :=
  h.elim (fun h => .inl ⟨a, xs, i, v, rfl, rfl, .inl (.inl h), e, q⟩) fun h => .inr ⟨a, xs, i, v, rfl, rfl, h.sqt, e, q⟩
theorem tupE {K : PySem.W.Frag} {a : Addr} {xs : List V} {H : Hp} {Q : VK} (h : H a = some (.lst xs) ∨ FT H a xs) (q : ∀ H' b, Same H H' → FT H' b xs → Q (.ref b) H') : rTupleF K [.ref a] H Q :=
  h.elim (fun h => ⟨a, xs, rfl, .inl ⟨.inl (.inl h), fun l o n d => q _ _ (same_new n) (FT.new d)⟩⟩) fun h => ⟨a, xs, rfl, .inr ⟨h.sqt, q _ _ (Same.refl _) h⟩⟩
theorem seq_same {a : Addr} {xs : List V} {H H' : Hp} (h : H a = some (.lst xs) ∨ FT H a xs) (s : Same H H') : H' a = some (.lst xs) ∨ FT H' a xs := h.imp (fun z => s _ _ z) fun z => z.mono s.tups
theorem setJ_comm {S : Spc} {b f n g : Nat} {x y : Jn} (h : (n, g) ≠ (b, f)) : setJ (setJ S n g x) b f y = setJ (setJ S b f y) n g x := by
  unfold setJ
  by_cases e : n = b
  · subst e
    rw [List.modify_modify_eq, List.modify_modify_eq]
    congr 1
    funext l
    exact List.set_comm _ _ (fun z => h (by rw [z]))
  · exact List.modify_modify_ne _ _ _ e
theorem join_sym {S : Spc} {b f n : Nat} {t : Trn} (ht : t ∈ allTurns) (hf : f < 4) (h : (n, tf t f) ≠ (b, f)) : joinJ S n (tf t f) b (back t) = joinJ S b f n t := by
  unfold joinJ
  rw [tf_back t ht f hf, back_back t ht]
  exact setJ_comm h
theorem erase_map {l : List Nat} {i : Nat} : (l.map intV).eraseIdx i = (l.eraseIdx i).map intV := by
  induction l generalizing i with
  | nil => rfl
  | cons x r ih =>
    cases i with
    | zero => rfl
    | succ i =>
      show intV x :: (r.map intV).eraseIdx i = intV x :: (r.eraseIdx i).map intV
      rw [ih]
theorem pop_ix {l : List Nat} {r : Int} (e : (l.map intV).length = l.length) (r0 : 0 ≤ r) (r1 : r < l.length) : seqIndex? r (l.map intV).length = some r.toNat := by
  have := seqIx_nat (n := (l.map intV).length) (k := r.toNat) (by rw [e]; omega)
  rw [Int.toNat_of_nonneg r0] at this
  exact this
theorem turn_dq {H : Hp} {a : Addr} {t : Trn} (h : H a = some (.lst (trnV t)) ∨ FT H a (trnV t)) : ∃ dt, Dq (fun _ => False) H (.ref a) dt ∧ norm dt = .list (t.map intD) := by
  have hn : norms (t.map intD) = t.map intD := by
    rw [norms_map, List.map_map]
    exact List.map_congr_left fun x _ => by simp only [Function.comp, intD, norm]
  rcases h with h | h
  · exact ⟨.list (t.map intD), .lst h (fun z => z) (dqs_ints t), by simp only [norm, hn]⟩
  · exact ⟨.tuple (t.map intD), .tup h (dqs_ints t), by simp only [norm, hn]⟩
theorem norm_turn (t : Trn) : norm (.tuple (t.map intD)) = .list (t.map intD) := by
  have hn : norms (t.map intD) = t.map intD := by
    rw [norms_map, List.map_map]
    exact List.map_congr_left fun x _ => by simp only [Function.comp, intD, norm]
  simp only [norm, hn]
theorem ints_shapedD (t : Trn) : SeqAt.shaped (.list (t.map intD)) = true := by
  rw [intD_map]
  exact ints_shaped _
theorem ints_eqv (t : Trn) : PyData.eqv (.list (t.map intD)) (.list (t.map intD)) = true := by
  refine SeqAt.eqv_refl _ ?_
  simp only [PyData.canLay0]
  induction t with
  | nil => rfl
  | cons x r ih => simpa only [List.map_cons, PyData.canLayAll0, intD, PyData.canLay0, Bool.true_and] using ih
mutual
theorem Dq.strong {N N' : Addr → Prop} {H : Hp} (n : ∀ a, N' a → N a ∨ H a = none) : ∀ {d : PyData} {v : V}, Dq N H v d → Dq N' H v d
  | .none, _, h => by
    cases h
    exact .non
  | .bool b, _, h => by
    cases h
    exact .bl b
  | .int i, _, h => by
    cases h
    exact .int i
  | .str x, _, h => by
    cases h
    exact .str x
  | .list ds, _, h => by
    cases h with
    | lst h1 h2 h3 => exact .lst h1 (fun z => (n _ z).elim h2 fun y => by rw [h1] at y; cases y) (Dqs.strong n h3)
  | .tuple ds, _, h => by
    cases h with
    | tup h1 h2 => exact .tup h1 (Dqs.strong n h2)
  | .dict _, _, h => by cases h
theorem Dqs.strong {N N' : Addr → Prop} {H : Hp} (n : ∀ a, N' a → N a ∨ H a = none) : ∀ {ds : List PyData} {vs : List V}, Dqs N H vs ds → Dqs N' H vs ds
  | [], _, h => by
    cases h
    exact .nil
  | d :: ds, _, h => by
    cases h with
    | cons h1 h2 => exact .cons (Dq.strong n h1) (Dqs.strong n h2)
end
/-- tuples of a space, from its data -/
theorem Dq.st {N : Addr → Prop} {H : Hp} {v : V} {S : Spc} (h : Dq N H v (shutD S)) : ST H v S := by
  have jat : ∀ {v : V} {j : Jn}, Dq N H v (jD j) → JAt H v j := by
    intro v j h
    cases j with
    | none => exact h.isNon (by simp only [jD, norm])
    | some k =>
      obtain ⟨n, t⟩ := k
      cases h with
      | tup g1 g2 =>
        obtain ⟨v1, w1, rfl, g3, g4⟩ := g2.uncons
        obtain ⟨v2, w2, rfl, g5, g6⟩ := g4.uncons
        cases g6
        cases g5 with
        | tup k1 k2 =>
          have e1 := g3.isInt (i := (n : Int)) (by simp only [intD, norm])
          subst e1
          have e2 := k2.ints (t := t) (by
            rw [norms_map, List.map_map]
            exact List.map_congr_left fun x _ => by simp only [Function.comp, intD, norm])
          subst e2
          exact ⟨_, _, rfl, g1, k1⟩
  have jats : ∀ {b : Blk} {vs : List V}, Dqs N H vs (b.map jD) → Paired (JAt H) vs b := by
    intro b
    induction b with
    | nil =>
      intro vs h
      cases h
      exact .nil
    | cons j b ih =>
      intro vs h
      obtain ⟨v, w, rfl, g1, g2⟩ := h.uncons
      exact .cons (jat g1) (ih g2)
  have bts : ∀ {S : Spc} {vs : List V}, Dqs N H vs (S.map fun b => .tuple (b.map jD)) → Paired (BT H) vs S := by
    intro S
    induction S with
    | nil =>
      intro vs h
      cases h
      exact .nil
    | cons b S ih =>
      intro vs h
      obtain ⟨v, w, rfl, g1, g2⟩ := h.uncons
      cases g1 with
      | tup k1 k2 => exact .cons ⟨_, _, rfl, k1, jats k2⟩ (ih g2)
  cases h with
  | tup g1 g2 => exact ⟨_, _, rfl, g1, bts g2⟩

theorem seq_of {a rest : TS} {D : Ends} {σ : L2.St} {H : Hp} (I : L2.St → Hp → Prop) (key : ∀ σ' H', I σ' H' → rest D σ' H') (h : ∀ r : TS, (∀ σ' H', I σ' H' → r D σ' H') → tSeq a r D σ H) : tSeq a rest D σ H := h rest key
/-- either reading of an expression -/
theorem pe_or2 {X : Cx} {e : Expr} {t u : TE} (h : PE X e t) (k : PE X e u) : PE X e (fun σ H Q => t σ H Q ∨ u σ H Q) := ⟨fun pins s σ H Q I q => q.elim (h.run pins s σ H Q I) (k.run pins s σ H Q I)⟩
theorem ixS {K : PySem.W.Frag} {a : Addr} {xs : List V} {i : Int} {v : V} {H : Hp} {Q : VK} (h : SqL K H a xs ∨ SqT K H a xs) (e : atI xs i = some v) (q : Q v H) : rIxE K (.ref a) (.int i) H Q :=
  h.elim (fun h => .inl ⟨a, xs, i, v, rfl, rfl, h, e, q⟩) fun h => .inr ⟨a, xs, i, v, rfl, rfl, h, e, q⟩
def rTupI (K : PySem.W.Frag) : V → List V → Hp → VK → Prop := fun x xs H Q => ∃ p, ∃ ns : List Int, ∃ k : Int, x = .ref p ∧ xs = [.int k] ∧ SqT K H p (ns.map V.int) ∧ k ∈ ns ∧ Q (.int (ns.idxOf k : Nat)) H
theorem kTupIxN {X : Cx} (K : PySem.W.Frag) (h : X.K = K) : MtR X "tuple.index" (rTupI K) := kTupIx K h
/-- o.index(e), o a list or a tuple -/
def tIdxE (K : PySem.W.Frag) (to : TE) (t : TA) : TE := fun σ H Q => tBM K "list" (rIndexI K) to t σ H Q ∨ tBMF (rTupI K) to t σ H Q
theorem pe_idxE {X : Cx} {K : PySem.W.Frag} {e : Expr} {to : TE} {t : TA} (h : PE X e (tBM K "list" (rIndexI K) to t)) (k : PE X e (tBMF (rTupI K) to t)) : PE X e (tIdxE K to t) := pe_or2 h k
theorem intV_map' (t : List Nat) : trnV t = (t.map fun c : Nat => (c : Int)).map V.int := by
  rw [List.map_map]
  rfl
theorem idxE {K : PySem.W.Frag} {to : TE} {t : TA} {σ : L2.St} {H : Hp} {Q : VK} (a : Addr) (o : List Nat) (b : Nat) (h1 : ∀ R : VK, R (.ref a) H → to σ H R) (h2 : ∀ R : List V → Hp → Prop, R [intV b] H → t σ H R)
    (ha : H a = some (.lst (trnV o)) ∨ FT H a (trnV o)) (mb : b ∈ o) (lo : o.length ≤ 1000) (q : Q (intV (o.idxOf b)) H) : tIdxE K to t σ H Q := by
  have mi : (b : Int) ∈ o.map fun c : Nat => (c : Int) := List.mem_map_of_mem mb
  have q' : Q (V.int (((o.map fun c : Nat => (c : Int)).idxOf (b : Int) : Nat) : Int)) H := by
    rw [idx_int]
    exact q
  rcases ha with ha | ha
  · refine .inl (h1 _ ⟨.inl ⟨rfl, _, .inl (.inl ha)⟩, h2 _ ⟨a, o.map (fun c : Nat => (c : Int)), b, rfl, rfl, ?_, mi, Nat.le_of_lt (small1000 (by rw [List.length_map]; exact lo)), q'⟩⟩)
    rw [← intV_map']
    exact .inl (.inl ha)
  · refine .inr (h1 _ ⟨⟨a, _, rfl, ha⟩, h2 _ ⟨a, o.map (fun c : Nat => (c : Int)), b, rfl, rfl, ?_, mi, q'⟩⟩)
    rw [← intV_map']
    exact ha.sqt
/-! ### names: an order, and a turn for each block -/
def nT (t : Trn) : PyData := .list (t.map intD)
def trnsD (ts : List Trn) : PyData := .list (ts.map nT)
/-- one of the turns that stand -/
theorem turns_at {K : PySem.W.Frag} {N : Addr → Prop} {H : Hp} {v : V} {d : PyData} {ts : List Trn} (h : Dq N H v d) (e : norm d = trnsD ts) {k : Nat} {t : Trn} (hk : ts[k]? = some t) :
    ∃ a xs x dx, v = .ref a ∧ (SqL K H a xs ∨ SqT K H a xs) ∧ xs.length = ts.length ∧ xs[k]? = some x ∧ Dq N H x dx ∧ norm dx = nT t := by
  obtain ⟨a, xs, ds, rfl, hq, _, hds, en⟩ := h.seq (K := K) e
  have ld : ds.length = ts.length := norm_len en
  obtain ⟨dx, hd⟩ : ∃ dx, ds[k]? = some dx := ⟨_, List.getElem?_eq_getElem (by have := (List.getElem?_eq_some_iff.mp hk).1; omega)⟩
  obtain ⟨x, hx, hxd⟩ := hds.get' hd
  obtain ⟨t', ht', et⟩ := norm_at en hd
  rw [hk] at ht'
  cases ht'
  exact ⟨a, xs, x, dx, rfl, hq, by rw [hds.len, ld], hx, hxd, et⟩
theorem Good.jokAt {S : Spc} (h : Good S) {b f : Nat} {j : Jn} (e : getJ S b f = some j) : Jok S.length j := fun n t z => by
  subst z
  exact ⟨h.lt e, (h.both _ _ _ _ e).1⟩
def tsAt (ts : List Trn) (k : Nat) : Trn := ts[k]?.getD []
def renJ (o : List Nat) (ts : List Trn) (bk : Trn) : Jn → Jn
  | none => none
  | some (n, t) => some (o.idxOf n, bk.map fun c => tf (tsAt ts (o.idxOf n)) (tf t c))
def renB (S : Spc) (o : List Nat) (ts : List Trn) (k : Nat) : Blk := (back (tsAt ts k)).map fun f => renJ o ts (back (tsAt ts k)) ((getJ S (tf o k) f).getD none)
def renS (S : Spc) (o : List Nat) (ts : List Trn) : Spc := (List.range S.length).map (renB S o ts)
structure Names (n : Nat) (o : List Nat) (ts : List Trn) : Prop where
  o : o.Perm (List.range n)
  l : ts.length = n
  t : ∀ t ∈ ts, t ∈ allTurns
theorem Names.lo {n : Nat} {o : List Nat} {ts : List Trn} (h : Names n o ts) : o.length = n := by rw [h.o.length_eq, List.length_range]
theorem Names.at {n : Nat} {o : List Nat} {ts : List Trn} (h : Names n o ts) {k : Nat} (hk : k < n) : o[k]? = some (tf o k) ∧ tf o k < n ∧ ts[k]? = some (tsAt ts k) ∧ tsAt ts k ∈ allTurns := by
  have e1 : o[k]? = some (o[k]'(by rw [h.lo]; exact hk)) := List.getElem?_eq_getElem _
  have e2 : ts[k]? = some (ts[k]'(by rw [h.l]; exact hk)) := List.getElem?_eq_getElem _
  have m1 := h.o.mem_iff.mp (List.mem_of_getElem? e1)
  rw [List.mem_range] at m1
  refine ⟨?_, ?_, ?_, ?_⟩
  · unfold tf
    rw [e1]
    rfl
  · unfold tf
    rw [e1]
    exact m1
  · unfold tsAt
    rw [e2]
    rfl
  · unfold tsAt
    rw [e2]
    exact h.t _ (List.mem_of_getElem? e2)
theorem Names.idx {n : Nat} {o : List Nat} {ts : List Trn} (h : Names n o ts) {b : Nat} (hb : b < n) : b ∈ o ∧ o.idxOf b < n := by
  have m : b ∈ o := h.o.mem_iff.mpr (List.mem_range.mpr hb)
  exact ⟨m, by rw [← h.lo]; exact List.idxOf_lt_length_iff.mpr m⟩
theorem back4 {t : Trn} (ht : t ∈ allTurns) : (back t).length = 4 ∧ (∀ c < 4, (back t)[c]? = some (tf (back t) c) ∧ tf (back t) c < 4) ∧ ∀ c ∈ back t, c < 4 := by
  have hb := back_mem ht
  have h4 := turns4 _ hb
  exact ⟨h4.1, fun c hc => ⟨(tf_lt _ hb c hc).2, (tf_lt _ hb c hc).1⟩, h4.2.1⟩
theorem renB_len {S : Spc} {o : List Nat} {ts : List Trn} {k : Nat} (h : tsAt ts k ∈ allTurns) : (renB S o ts k).length = 4 := by
  unfold renB
  rw [List.length_map, (back4 h).1]
theorem renS_len (S : Spc) (o : List Nat) (ts : List Trn) : (renS S o ts).length = S.length := by
  unfold renS
  rw [List.length_map, List.length_range]
theorem len3 {α : Type} {l : List α} (h : l.length = 3) : ∃ a b c, l = [a, b, c] := by
  match l, h with
  | [a, b, c], _ => exact ⟨a, b, c, rfl⟩
theorem p3 {α β : Type} {F : α → β → Prop} {xs : List α} {a b c : β} (h : Paired F xs [a, b, c]) : ∃ x y z, xs = [x, y, z] ∧ F x a ∧ F y b ∧ F z c := by
  cases h with
  | cons h0 h => cases h with
    | cons h1 h => cases h with
      | cons h2 h => cases h with
        | nil => exact ⟨_, _, _, rfl, h0, h1, h2⟩
theorem tiny3 {d0 d1 d2 : PyData} {b k : Nat} (h0 : Tiny d0 b k) (h1 : Tiny d1 b k) (h2 : Tiny d2 b k) : Tiny (.list [d0, d1, d2]) (b + b + b + 3) (k + 1) := by
  have a0 := h0.b
  have a1 := h1.b
  have a2 := h2.b
  have c0 := h0.k
  have c1 := h1.k
  have c2 := h2.k
  refine ⟨?_, ?_, ?_, ?_, ?_⟩
  · simp only [PyData.bulk, PyData.bulkAll]
    omega
  · simp only [PyData.depth, PyData.depthAll]
    omega
  · simp only [PyData.showable, PyData.showableAll, h0.s, h1.s, h2.s]
    rfl
  · simp only [PyData.hasDict, PyData.hasDictAll, h0.h, h1.h, h2.h]
    rfl
  · simp only [PyData.leavesShort, PyData.leavesShortAll, h0.l, h1.l, h2.l]
    rfl
theorem Tiny.le {d : PyData} {b k b' k' : Nat} (h : Tiny d b k) (hb : b ≤ b') (hk : k ≤ k') : Tiny d b' k' := ⟨Nat.le_trans h.b hb, Nat.le_trans h.k hk, h.s, h.h, h.l⟩
def tupD (t : Trn) : PyData := .tuple (t.map intD)
theorem norm_ints (t : Trn) : norms (t.map intD) = t.map intD := by
  rw [norms_map, List.map_map]
  exact List.map_congr_left fun x _ => by simp only [Function.comp, intD, norm]
theorem norm_tups (ts : List Trn) : norm (.list (ts.map tupD)) = trnsD ts := by
  have h : norms (ts.map tupD) = ts.map nT := by
    rw [norms_map, List.map_map]
    exact List.map_congr_left fun t _ => by simp only [Function.comp, tupD, norm, norm_ints, nT]
  simp only [norm, h, trnsD]
theorem norm_list (t : Trn) : norm (.list (t.map intD)) = .list (t.map intD) := by simp only [norm, norm_ints]
theorem tats_dqs {N : Addr → Prop} {H : Hp} : ∀ {ws : List V} {ts : List Trn}, Paired (TAt H) ws ts → Dqs N H ws (ts.map tupD)
  | _, _, .nil => .nil
  | _, _, .cons r t => by
    obtain ⟨p, rfl, fp⟩ := r
    exact .cons (.tup fp (dqs_ints _)) (tats_dqs t)
theorem order_tiny {o : List Nat} (h : ∀ x ∈ o, x < 64) (l : o.length ≤ 60) : Tiny (.list (o.map intD)) 1320 4 := by
  obtain ⟨h1, h2, h3, h4, h5⟩ := ints_tiny h
  exact ⟨by simp only [PyData.bulk, h1]; omega, by simp only [PyData.depth, h2]; omega, by simpa only [PyData.showable] using h3, by simpa only [PyData.hasDict] using h4, by simpa only [PyData.leavesShort] using h5⟩
theorem turns_tiny0 : ∀ {ts : List Trn}, (∀ t ∈ ts, t ∈ allTurns) → PyData.bulkAll (ts.map tupD) ≤ 5 * ts.length ∧ PyData.depthAll (ts.map tupD) ≤ 1 ∧ PyData.showableAll (ts.map tupD) = true ∧ PyData.hasDictAll (ts.map tupD) = false ∧ PyData.leavesShortAll 8 (ts.map tupD) = true
  | [], _ => by simp [PyData.bulkAll, PyData.depthAll, PyData.showableAll, PyData.hasDictAll, PyData.leavesShortAll]
  | t :: ts, h => by
    obtain ⟨h1, h2, h3, h4, h5⟩ := turns_tiny0 (ts := ts) fun y hy => h y (List.mem_cons_of_mem _ hy)
    have ht := turns4 t (h t List.mem_cons_self)
    obtain ⟨g1, g2, g3, g4, g5⟩ := ints_tiny (t := t) fun x hx => Nat.lt_of_lt_of_le (ht.2.1 x hx) (by decide)
    simp only [List.map_cons, PyData.bulkAll, PyData.depthAll, PyData.showableAll, PyData.hasDictAll, PyData.leavesShortAll, h3, h4, h5, tupD, PyData.bulk, PyData.depth, PyData.showable, PyData.hasDict, PyData.leavesShort, g1, g2, g3, g4, g5, List.length_cons]
    refine ⟨?_, ?_, rfl, rfl, rfl⟩
    · have := ht.1
      omega
    · omega
theorem turns_tiny {ts : List Trn} (h : ∀ t ∈ ts, t ∈ allTurns) (l : ts.length ≤ 60) : Tiny (.list (ts.map tupD)) 1320 4 := by
  obtain ⟨h1, h2, h3, h4, h5⟩ := turns_tiny0 h
  exact ⟨by simp only [PyData.bulk]; omega, by simp only [PyData.depth]; omega, by simpa only [PyData.showable] using h3, by simpa only [PyData.hasDict] using h4, by simpa only [PyData.leavesShort] using h5⟩
theorem ren_sb {S : Spc} {o : List Nat} {ts : List Trn} (hG : Good S) (hn : Names S.length o ts) (hl : S.length ≤ 40) : Sb (renS S o ts) := by
  refine ⟨by rw [renS_len]; exact hl, fun b hb => ?_⟩
  unfold renS at hb
  obtain ⟨k, hk, rfl⟩ := List.mem_map.mp hb
  have hk := List.mem_range.mp hk
  obtain ⟨eo, lo, et, mt⟩ := hn.at hk
  refine ⟨renB_len mt, fun j hj n t e => ?_⟩
  unfold renB at hj
  obtain ⟨f, hf, rfl⟩ := List.mem_map.mp hj
  have f4 := (back4 mt).2.2 f hf
  obtain ⟨x, hx⟩ := hG.l4.get (b := tf o k) (f := f) lo f4
  rw [hx] at e
  cases x with
  | none => cases e
  | some y =>
    obtain ⟨m, u⟩ := y
    obtain ⟨hm, hu⟩ := hG.jokAt hx m u rfl
    obtain ⟨_, im⟩ := hn.idx hm
    obtain ⟨_, _, _, ma⟩ := hn.at im
    cases e
    refine ⟨by omega, by rw [List.length_map, (back4 mt).1], fun z hz => ?_⟩
    obtain ⟨c, hc, rfl⟩ := List.mem_map.mp hz
    exact (tf_lt _ ma _ (tf_lt u hu c ((back4 mt).2.2 c hc)).1).1
theorem Names.lt {n : Nat} {o : List Nat} {ts : List Trn} (h : Names n o ts) : ∀ x ∈ o, x < n := fun x hx => List.mem_range.mp (h.o.mem_iff.mp hx)
end Bk

namespace Bk
open PySem PySem.Spec PyProof.Rows L2 RZ
local macro_rules | `(tactic| walk_at "g") => `(tactic| (repeat first | refine ⟨_, rfl, ?_⟩ | refine ⟨cpow, ?_⟩ | refine ⟨wideM, ?_⟩ | refine ⟨_, _, rfl, rfl, ?_⟩ | refine ⟨rfl, ?_⟩))
section
variable {P : Program} {w : World} {K : PySem.W.Frag} {mg : Str → Option Value} {base : Heap}
/-! ### contrary, of lists too -/
def spBackL : Sp := fun vs H Q _ => ∃ p t, vs = [.ref p] ∧ H p = some (.lst (trnV t)) ∧ t ∈ allTurns ∧ ∀ H' p', Same H H' → H p' = none → TAt H' (.ref p') (back t) → Q (.ref p') H'
theorem okcontraryL {f : Addr} {fd : FuncData} (F : Fun K "contrary" "contrary" scontrary f fd) (m_range : mg "range" = none) (m_tuple : mg "tuple" = none) : FnOk P w K mg base CX0 1 f fd ["turn"] spBackL := by
  refine F.ok sccontrary (fun vs H Q E h => ?_) (fun cdv A outer s H vs Q E hr h => ?_)
  · obtain ⟨p, t, rfl, _⟩ := h
    rfl
  · obtain ⟨p, t, rfl, hp, ht, q⟩ := h
    have nd := sccontrary.nd
    refine ⟨_, (pss_one (ps_ret (pe_callTy (kTupleF K rfl) (by rfl) m_tuple (by decide +kernel) (pa_cons (pe_lc (own := [("corner", 1)]) (g := gName 1) (tt := tYes) rfl nd (pi_range1 (by rfl) m_range (pa_cons pe_int pa_nil)) (blkOk_by (own := [("corner", 1)]) (N := Ncontrary) (sc := defScope scontrary) (by decide +kernel)) (fun _ _ _ _ _ => (pg_name (i := 1) nd rfl (Or.inl rfl))) (fun _ _ _ _ _ => pts_nil) (fun _ _ _ _ _ => (kBM K rfl (pe_bm PySem.F.plainAttrs_list PySem.F.slot_list_index PySem.F.type_list_index (kIndexI K rfl) (pv 0) (pa_cons (pv 1) pa_nil))))) pa_nil)))), ?_⟩
    refine ⟨4, rfl, by decide, by decide, fun D nD => ?_⟩
    have hpD : p ≠ D := ne_of_none hp nD
    refine lc_range (lo := 0) (n := 4) (fun i H2 => H2 = upd H D (.lst (((List.range i).map fun c => t.idxOf c).map intV))) rfl ?_ ?_
    · rintro c H2 hc rfl
      rw [Int.zero_add]
      have t4 := turns4 t ht
      have hm : (c : Int) ∈ t.map fun c : Nat => (c : Int) := List.mem_map_of_mem (List.mem_of_getElem? (t4.2.2.2.1 c hc))
      have h1 : (upd H D (.lst (((List.range c).map fun c => t.idxOf c).map intV))) p = some (.lst (trnV t)) := by
        rw [upd_ne hpD]
        exact hp
      refine ⟨rfl, .ref p, rfl, .inl ⟨rfl, _, .inl (.inl h1)⟩, _, rfl, p, t.map fun c : Nat => (c : Int), c, rfl, rfl, ?_, hm, Nat.le_of_lt (small1000 (by rw [List.length_map]; have := t4.1; omega)), ?_⟩
      · rw [← intV_map]
        exact .inl (.inl h1)
      rw [idx_int]
      refine ⟨_, upd_same, small1000 (by rw [List.length_map, List.length_map, List.length_range]; omega), ?_⟩
      rw [upd_upd, List.range_succ, List.map_append, List.map_append]
      rfl
    · rintro H2 rfl
      refine ⟨D, _, rfl, .inl ⟨.inl (.inl upd_same), fun p2 o2 np2 d2 => ?_⟩⟩
      exact q _ p2 ((same_new nD).trans (same_new np2)) ((same_new nD).free np2) ⟨p2, rfl, FT.new d2⟩
def spBackE : Sp := fun vs H Q E => spBack vs H Q E ∨ spBackL vs H Q E
theorem backE {a : Addr} {t : Trn} {H : Hp} {Q : VK} {E : XK} (h : H a = some (.lst (trnV t)) ∨ FT H a (trnV t)) (ht : t ∈ allTurns) (q : ∀ H' p', Same H H' → H p' = none → TAt H' (.ref p') (back t) → Q (.ref p') H') : spBackE [.ref a] H Q E :=
  h.elim (fun h => .inr ⟨a, t, rfl, h, ht, q⟩) fun h => .inl ⟨_, t, rfl, ⟨a, rfl, h⟩, ht, q⟩
end
end Bk

namespace Bk
open PySem PySem.Spec PyProof.Rows L2 RZ
local macro_rules | `(tactic| walk_at "g") => `(tactic| (repeat first | refine ⟨_, rfl, ?_⟩ | refine ⟨cpow, ?_⟩ | refine ⟨wideM, ?_⟩ | refine ⟨_, _, rfl, rfl, ?_⟩ | refine ⟨rfl, ?_⟩))
section
variable {P : Program} {w : World} {K : PySem.W.Frag} {mg : Str → Option Value} {base : Heap}
/-! ### _is_face, _put -/
abbrev s_is_face : Stmt := topS 17
abbrev N_is_face : List Str := ["space", "block", "face"]
theorem sc_is_face : FnScope N_is_face ["space", "block", "face"] (defScope s_is_face) := ⟨rfl, rfl, rfl, by decide +kernel, rfl, by decide +kernel, by decide +kernel⟩
def spIsFace : Sp := fun vs H Q _ => ∃ (v : V) (S : Spc) (b f : Nat), vs = [v, intV b, intV f] ∧ ST H v S ∧ b < S.length ∧ f < 4 ∧ Q (.bl true) H
theorem ok_is_face {f fB : Addr} {fd fdB : FuncData} (F : Fun K "_is_face" "_is_face" s_is_face f fd) (Fis_below : Fun K "is_below" "is_below" sis_below fB fdB) (gis_below : mg "is_below" = some (.ref fB)) (bis_below : Binds K fdB ["thing", "many"] [])
    (Gis_below : FnOk P w K mg base CX0 2 fB fdB ["thing", "many"] spBelow) (m_len : mg "len" = none) : FnOk P w K mg base CX0 3 f fd ["space", "block", "face"] spIsFace := by
  refine F.ok sc_is_face (fun vs H Q E h => ?_) (fun cdv A outer s H vs Q E hr h => ?_)
  · obtain ⟨v, S, b, f, rfl, _⟩ := h
    rfl
  · obtain ⟨v, S, b, f, rfl, ⟨p, rs, rfl, fp, hb⟩, b1, b2, q⟩ := h
    have nd := sc_is_face.nd
    refine ⟨_, (pss_one (ps_ret (pe_and (pe_call Gis_below (hr.mono (by first | decide | omega)) (by rfl) gis_below Fis_below.kp bis_below .nil pass0 (pa_cons (pv 1) (pa_cons (pe_callB (kLen K rfl) (by rfl) m_len (by decide +kernel) (pa_cons (pv 0) pa_nil)) pa_nil))) (pe_one (pe_call Gis_below (hr.mono (by first | decide | omega)) (by rfl) gis_below Fis_below.kp bis_below .nil pass0 (pa_cons (pv 2) (pa_cons pe_int pa_nil))))))), ?_⟩
    have lrs : rs.length = S.length := plen hb
    have e1 : (decide ((0 : Int) ≤ (b : Int)) && decide ((b : Int) < (rs.length : Int))) = true := by
      rw [decide_eq_true (show (0 : Int) ≤ (b : Int) by omega), decide_eq_true (show (b : Int) < (rs.length : Int) by omega)]
      rfl
    have e2 : (decide ((0 : Int) ≤ (f : Int)) && decide ((f : Int) < ((4 : Nat) : Int))) = true := by
      rw [decide_eq_true (show (0 : Int) ≤ (f : Int) by omega), decide_eq_true (show (f : Int) < ((4 : Nat) : Int) by omega)]
      rfl
    refine ⟨intV b, rfl, .ref p, rfl, p, rs, rfl, .inr fp.sqt, (b : Int), rs.length, rfl, ?_⟩
    rw [e1]
    refine ⟨_, rfl, iteT ⟨intV f, rfl, (f : Int), 4, rfl, ?_⟩⟩
    rw [e2]
    exact q
def putS (S : Spc) (cs : List (Nat × Nat × Jn)) : Spc := cs.foldl (fun S c => setJ S c.1 c.2.1 c.2.2) S
theorem putS_len (cs : List (Nat × Nat × Jn)) : ∀ S : Spc, (putS S cs).length = S.length := by
  induction cs with
  | nil => intro S; rfl
  | cons c cs ih =>
    intro S
    show (putS (setJ S c.1 c.2.1 c.2.2) cs).length = S.length
    rw [ih, setJ_len]
theorem putS_l4 (cs : List (Nat × Nat × Jn)) : ∀ S : Spc, L4 S → L4 (putS S cs) := by
  induction cs with
  | nil => intro S h; exact h
  | cons c cs ih =>
    intro S h
    exact ih _ (h.set _ _ _)
theorem putS_succ {S : Spc} {cs : List (Nat × Nat × Jn)} {i : Nat} {c : Nat × Nat × Jn} (h : cs[i]? = some c) : putS S (cs.take (i + 1)) = setJ (putS S (cs.take i)) c.1 c.2.1 c.2.2 := by
  unfold putS
  rw [List.take_add_one, h, List.foldl_append]
  rfl
def CAt (H : Hp) (v : V) (c : Nat × Nat × Jn) : Prop := ∃ p x, v = .ref p ∧ FT H p [intV c.1, intV c.2.1, x] ∧ JAt H x c.2.2
theorem CAt.mono {H H' : Hp} {v : V} {c : Nat × Nat × Jn} (h : CAt H v c) (m : Tups H H') : CAt H' v c := by
  obtain ⟨p, x, e, h1, h2⟩ := h
  exact ⟨p, x, e, h1.mono m, h2.mono m⟩
abbrev s_put : Stmt := topS 18
abbrev N_put : List Str := ["space", "changes", "rows", "block", "face", "joining", "faces", "row"]
theorem sc_put : FnScope N_put ["space", "changes"] (defScope s_put) := ⟨rfl, rfl, rfl, by decide +kernel, rfl, by decide +kernel, by decide +kernel⟩
def spPut : Sp := fun vs H Q _ => ∃ (v : V) (l : Addr) (xs : List V) (S : Spc) (cs : List (Nat × Nat × Jn)), vs = [v, .ref l] ∧ ST H v S ∧ H l = some (.lst xs) ∧ Paired (CAt H) xs cs ∧ L4 S ∧ S.length ≤ 100 ∧ (∀ c ∈ cs, c.1 < S.length ∧ c.2.1 < 4) ∧ ∀ H' v', Same H H' → ST H' v' (putS S cs) → Q v' H'
theorem ok_put {f : Addr} {fd : FuncData} (F : Fun K "_put" "_put" s_put f fd) (m_tuple : mg "tuple" = none) (m_list : mg "list" = none) : FnOk P w K mg base CX0 1 f fd ["space", "changes"] spPut := by
  refine F.ok sc_put (fun vs H Q E h => ?_) (fun cdv A outer s H vs Q E hr h => ?_)
  · obtain ⟨v, l, xs, S, cs, rfl, _⟩ := h
    rfl
  · obtain ⟨v, l, xs, S, cs, rfl, ⟨p, rs, rfl, fp, hb⟩, hl, hc, h4, hz, hcs, q⟩ := h
    have nd := sc_put.nd
    refine ⟨_, (pss_cons (ps_setLc (i := 2) (own := [("faces", 6)]) (g := gName 6) (tt := tYes) rfl nd rfl rfl (sw_true rfl rfl rfl (by decide +kernel)) (kPiT K rfl (pi_tup (pv 0))) (blkOk_by (own := [("faces", 6)]) (N := N_put) (sc := defScope s_put) (by decide +kernel)) (fun _ _ _ _ _ => (pg_name (i := 6) nd rfl (Or.inl rfl))) (fun _ _ _ _ _ => pts_nil) (fun _ _ _ _ _ => (pe_callTy (kList K rfl) (by rfl) m_list (by decide +kernel) (pa_cons (pv 6) pa_nil))))
      (pss_cons (ps_for PassesOwn.never rfl (kPiL K rfl (pi_list (pv 1))) (kPgT K rfl (pg_tup (n := 3) rfl (pgs_cons (pg_name (i := 3) nd rfl (.inl rfl)) (pgs_cons (pg_name (i := 4) nd rfl (.inl rfl)) (pgs_cons (pg_name (i := 5) nd rfl (.inl rfl)) pgs_nil))))) (pss_one (ps_asg (pv 5) (pg_sub (pe_ix (kIxL K rfl) (pv 2) (pv 3) (fun _ _ => rfl)) (pv 4) set_list))))
      (pss_one (ps_ret (pe_callTy (kTupleF K rfl) (by rfl) m_tuple (by decide +kernel) (pa_cons (pe_lc (own := [("row", 7)]) (g := gName 7) (tt := tYes) rfl nd (kPiL K rfl (pi_list (pv 2))) (blkOk_by (own := [("row", 7)]) (N := N_put) (sc := defScope s_put) (by decide +kernel)) (fun _ _ _ _ _ => (pg_name (i := 7) nd rfl (Or.inl rfl))) (fun _ _ _ _ _ => pts_nil) (fun _ _ _ _ _ => (pe_callTy (kTupleF K rfl) (by rfl) m_tuple (by decide +kernel) (pa_cons (pv 7) pa_nil)))) pa_nil)))))), ?_⟩
    have lrs : rs.length = S.length := plen hb
    -- rows
    refine ⟨.ref p, rfl, p, rfl, ⟨_, fp.sqt⟩, fun D nD => ?_⟩
    refine lc_tup (xs := rs) (fun i H1 => ∃ rf, SpAt H1 D rf (S.take i) ∧ Fresh H rf ∧ Same H H1) ⟨[], ⟨upd_same, .nil, .nil⟩, fun _ z => (by cases z), same_new nD⟩ ?_ ?_ ?_
    · rintro i H1 _ ⟨rf, hf, hF, s1⟩
      exact (fp.mono s1.tups).sqt
    · rintro i x H1 hx ⟨rf, hf, hF, s1⟩
      obtain ⟨b, hbi, p1, vs, rfl, f1, h2⟩ := pget' hb hx
      have hi : i < S.length := (List.getElem?_eq_some_iff.mp hbi).1
      refine ⟨rfl, .ref p1, rfl, p1, vs, rfl, .inr (f1.mono s1.tups).sqt, fun p2 np2 => ?_⟩
      have s2 : Same H1 (upd H1 p2 (.lst vs)) := same_new np2
      refine ⟨rf, s2 _ _ hf.l, small1000 (by rw [plen hf.b, List.length_take]; omega), rf ++ [.ref p2], ?_, hF.push (fun o e => s1 _ _ e) np2, same_fill (s1.trans s2) nD⟩
      rw [List.take_add_one, hbi]
      exact hf.push s2 np2 ⟨p2, vs, rfl, upd_same, pmono h2 fun _ _ z => z.mono (s1.trans s2).tups⟩
    · rintro H1 ⟨rf, hf, hF, s1⟩
      rw [lrs, List.take_length] at hf
      -- changes
      refine ⟨.ref l, rfl, l, rfl, ⟨_, .inl (.inl (s1 _ _ hl))⟩, ?_⟩
      refine for_list (xs := xs) (fun i σ H2 => ∃ y3 y4 y5, σ = [some (.ref p), some (.ref l), some (.ref D), y3, y4, y5, none, none] ∧ SpAt H2 D rf (putS S (cs.take i)) ∧ Same H H2) ⟨none, none, none, rfl, hf, s1⟩ ?_ ?_ ?_
      · rintro i σ H2 _ ⟨y3, y4, y5, rfl, hf2, s2⟩
        exact .inl (.inl (s2 _ _ hl))
      · rintro i x σ H2 hx ⟨y3, y4, y5, rfl, hf2, s2⟩
        obtain ⟨⟨b, f, j⟩, hci, pc, vj, rfl, fc, hj⟩ := pget' hc hx
        obtain ⟨cb, cf⟩ := hcs _ (List.mem_of_getElem? hci)
        have cb' : b < (putS S (cs.take i)).length := by rw [putS_len]; exact cb
        have hj2 := hj.mono s2.tups
        obtain ⟨pb, vb, e1, e2, e3⟩ := hf2.at cb'
        have lvb : vb.length = 4 := by rw [plen e3]; exact blk_len (putS_l4 _ _ h4) cb'
        refine ⟨pc, _, rfl, (fc.mono s2.tups).sqt, rfl, _, _, rfl, _, _, rfl, _, _, rfl, rfl, ?_⟩
        refine ⟨vj, rfl, .ref D, rfl, intV b, rfl, D, rf, b, .ref pb, rfl, rfl, .inl (.inl hf2.l), atI_nat e1, intV f, rfl, pb, vb, f, f, rfl, rfl, e2, ixN_lt (by rw [lvb]; exact cf), ?_⟩
        obtain ⟨hf3, k3⟩ := hf2.set (f := f) e1 e2 hj2
        refine ⟨_, _, _, rfl, ?_, s2.inner k3 hF⟩
        rw [putS_succ hci]
        exact hf3
      · rintro σ H2 ⟨y3, y4, y5, rfl, hf2, s2⟩
        rw [plen hc, List.take_length] at hf2
        -- the result
        refine ⟨.ref D, rfl, D, rfl, ⟨_, .inl (.inl hf2.l)⟩, fun D2 nD2 => ?_⟩
        have lS : (putS S cs).length = S.length := putS_len _ _
        have lrf : rf.length = (putS S cs).length := plen hf2.b
        refine lc_list (xs := rf) (fun i H3 => ∃ ws, H3 D2 = some (.lst ws) ∧ Paired (BT H3) ws ((putS S cs).take i) ∧ Same H2 H3) ⟨[], upd_same, .nil, same_new nD2⟩ ?_ ?_ ?_
        · rintro i H3 _ ⟨ws, h3, t3, s3⟩
          exact .inl (.inl (s3 _ _ hf2.l))
        · rintro i x H3 hx ⟨ws, h3, t3, s3⟩
          obtain ⟨b, hbi, p1, vs, rfl, hp1, hv⟩ := pget' hf2.b hx
          have hi : i < (putS S cs).length := (List.getElem?_eq_some_iff.mp hbi).1
          refine ⟨rfl, .ref p1, rfl, p1, vs, rfl, .inl ⟨.inl (.inl (s3 _ _ hp1)), fun p2 o2 np2 d2 => ?_⟩⟩
          have s4 : Same H3 (upd H3 p2 (.frz o2 (.tup vs))) := same_new np2
          have b4 : BT (upd H3 p2 (.frz o2 (.tup vs))) (.ref p2) b := ⟨p2, vs, rfl, FT.new d2, pmono hv fun _ _ z => z.mono (s3.trans s4).tups⟩
          generalize upd H3 p2 (.frz o2 (.tup vs)) = H4 at s4 b4 ⊢
          have h4 := s4 _ _ h3
          refine ⟨ws, h4, small1000 (by rw [plen t3, List.length_take]; omega), ws ++ [.ref p2], upd_same, ?_, same_fill (s3.trans s4) nD2⟩
          rw [List.take_add_one, hbi]
          exact papp (pmono t3 fun _ _ z => z.mono (s4.tups.trans (tups_set h4))) (.cons (b4.mono (tups_set h4)) .nil)
        · rintro H3 ⟨ws, h3, t3, s3⟩
          rw [lrf, List.take_length] at t3
          refine ⟨D2, ws, rfl, .inl ⟨.inl (.inl h3), fun p5 o5 np5 d5 => ?_⟩⟩
          have s5 : Same H3 (upd H3 p5 (.frz o5 (.tup ws))) := same_new np5
          exact q _ _ ((s2.trans s3).trans s5) ⟨p5, ws, rfl, FT.new d5, pmono t3 fun _ _ z => z.mono s5.tups⟩
end
end Bk

namespace Bk
open PySem PySem.Spec PyProof.Rows L2 RZ
local macro_rules | `(tactic| walk_at "g") => `(tactic| (repeat first | refine ⟨_, rfl, ?_⟩ | refine ⟨cpow, ?_⟩ | refine ⟨wideM, ?_⟩ | refine ⟨_, _, rfl, rfl, ?_⟩ | refine ⟨rfl, ?_⟩))
section
variable {P : Program} {w : World} {K : PySem.W.Frag} {mg : Str → Option Value} {base : Heap}
/-! ### _renamed_joining -/
abbrev s_renamed_joining : Stmt := topS 24
abbrev N_renamed_joining : List Str := ["joining", "order", "turns", "back", "other", "turn", "place", "corner"]
theorem sc_renamed_joining : FnScope N_renamed_joining ["joining", "order", "turns", "back"] (defScope s_renamed_joining) := ⟨rfl, rfl, rfl, by decide +kernel, rfl, by decide +kernel, by decide +kernel⟩
def spRenJ : Sp := fun vs H Q _ => ∃ (N N2 : Addr → Prop) (jv ov tv bv : V) (od td : PyData) (n : Nat) (o : List Nat) (ts : List Trn) (bk : Trn) (j : Jn), vs = [jv, ov, tv, bv] ∧ JAt H jv j ∧ Jok n j ∧ Dq N H ov od ∧ norm od = .list (o.map intD) ∧ Dq N2 H tv td ∧ norm td = trnsD ts ∧ Names n o ts ∧ n ≤ 60 ∧
  TAt H bv bk ∧ bk ∈ allTurns ∧ ∀ H' v', Same H H' → JAt H' v' (renJ o ts bk j) → Q v' H'
theorem ok_renamed_joining {f : Addr} {fd : FuncData} (F : Fun K "_renamed_joining" "_renamed_joining" s_renamed_joining f fd) (m_tuple : mg "tuple" = none) : FnOk P w K mg base CX0 1 f fd ["joining", "order", "turns", "back"] spRenJ := by
  refine F.ok sc_renamed_joining (fun vs H Q E h => ?_) (fun cdv A outer s H vs Q E hr h => ?_)
  · obtain ⟨N, N2, jv, ov, tv, bv, od, td, n, o, ts, bk, j, rfl, _⟩ := h
    rfl
  · obtain ⟨N, N2, jv, ov, tv, bv, od, td, n, o, ts, bk, j, rfl, hj, hjo, ho, no, ht, nt, hn, n60, ⟨pb, rfl, fb⟩, hbk, q⟩ := h
    have nd := sc_renamed_joining.nd
    refine ⟨_, (pss_cons (ps_if (pt_cmpR op_isN (pv 0) pe_non (nomark _)) (pss_one (ps_ret pe_non)) pss_nil)
      (pss_cons (ps_asg (pv 0) (kPgT K rfl (pg_tup (n := 2) rfl (pgs_cons (pg_name (i := 4) nd rfl (.inl rfl)) (pgs_cons (pg_name (i := 5) nd rfl (.inr rfl)) pgs_nil)))))
      (pss_cons (ps_set (i := 6) nd rfl (.inr rfl) (pe_idxE (kBM K rfl (pe_bm PySem.F.plainAttrs_list PySem.F.slot_list_index PySem.F.type_list_index (kIndexI K rfl) (pv 1) (pa_cons (pv 4) pa_nil))) (pe_bmF PySem.F.plainAttrs_tuple PySem.F.slot_tuple_index PySem.F.type_tuple_index (kTupIxN K rfl) (pv 1) (pa_cons (pv 4) pa_nil))))
      (pss_one (ps_ret (pe_tupF (pa_cons (pv 6) (pa_cons (pe_callTy (kTupleF K rfl) (by rfl) m_tuple (by decide +kernel) (pa_cons (pe_lc (own := [("corner", 7)]) (g := gName 7) (tt := tYes) rfl nd (kPiT K rfl (pi_tup (pv 3))) (blkOk_by (own := [("corner", 7)]) (N := N_renamed_joining) (sc := defScope s_renamed_joining) (by decide +kernel)) (fun _ _ _ _ _ => (pg_name (i := 7) nd rfl (Or.inl rfl))) (fun _ _ _ _ _ => pts_nil) (fun _ _ _ _ _ => (pe_ix (kIxE K rfl) (pe_ix (kIxE K rfl) (pv 2) (pv 6) (fun _ _ => rfl)) (pe_ix (kIxT K rfl) (pv 5) (pv 7) (fun _ _ => rfl)) (fun _ _ => rfl)))) pa_nil)) pa_nil)))))))), ?_⟩
    refine ⟨jv, rfl, rfl, ?_⟩
    rw [hj.isN]
    refine ⟨_, rfl, ?_⟩
    cases j with
    | none => exact iteT (q H _ (Same.refl H) rfl)
    | some k =>
      obtain ⟨b, t⟩ := k
      obtain ⟨hb, htm⟩ := hjo b t rfl
      obtain ⟨pj, pq, rfl, f1, f2⟩ := hj
      obtain ⟨mb, ib⟩ := hn.idx hb
      refine iteF ⟨.ref pj, rfl, pj, _, rfl, f1.sqt, rfl, _, _, rfl, _, _, rfl, rfl, ?_⟩
      -- place
      obtain ⟨a, rfl, ha⟩ := turn_of (K := K) ho no
      refine idxE a o b (fun R z => ⟨_, rfl, z⟩) (fun R z => ⟨_, rfl, z⟩) ha mb (by rw [hn.lo]; omega) ?_
      obtain ⟨_, _, et, mt⟩ := hn.at ib
      obtain ⟨a2, ys, x2, dx, rfl, hq, ly, hx2, hxd, nx⟩ := turns_at (K := K) ht nt et
      obtain ⟨a3, rfl, h3⟩ := turn_of (K := K) hxd nx
      have lbk := turns4 bk hbk
      refine ⟨intV (o.idxOf b), rfl, .ref pb, rfl, pb, rfl, ⟨_, fb.sqt⟩, fun D nD => ?_⟩
      refine lc_tup (xs := trnV bk) (fun i H2 => H2 = upd H D (.lst (((bk.take i).map fun c => tf (tsAt ts (o.idxOf b)) (tf t c)).map intV))) rfl ?_ ?_ ?_
      · rintro i H2 _ rfl
        exact (fb.mono (same_new nD).tups).sqt
      · rintro i x H2 hx rfl
        obtain ⟨c, rfl, hc⟩ : ∃ c, x = intV c ∧ bk[i]? = some c := by
          unfold trnV at hx
          rw [List.getElem?_map] at hx
          cases e : bk[i]? with
          | none => rw [e] at hx; cases hx
          | some c => rw [e] at hx; exact ⟨c, (Option.some.inj hx).symm, rfl⟩
        have c4 := lbk.2.1 c (List.mem_of_getElem? hc)
        have htf := tf_lt t htm c c4
        have htf2 := tf_lt _ mt (tf t c) htf.1
        have s2 : Same H (upd H D (.lst (((bk.take i).map fun c => tf (tsAt ts (o.idxOf b)) (tf t c)).map intV))) := same_new nD
        refine ⟨rfl, .ref a2, rfl, intV (o.idxOf b), rfl, ixS (hq.imp (fun z => s2.seq z) (fun z => s2.sqt z)) (atI_nat hx2) ?_⟩
        refine ⟨.ref pq, rfl, intV c, rfl, pq, trnV t, c, intV (tf t c), rfl, rfl, (f2.mono s2.tups).sqt, atI_nat (by unfold trnV; rw [List.getElem?_map, htf.2]; rfl), ?_⟩
        refine ixE (seq_same h3 s2) (atI_nat (v := intV (tf (tsAt ts (o.idxOf b)) (tf t c))) (by unfold trnV; rw [List.getElem?_map, htf2.2]; rfl)) ?_
        refine ⟨_, upd_same, small1000 (by rw [List.length_map, List.length_map, List.length_take, lbk.1]; omega), ?_⟩
        rw [upd_upd, take_succ_map hc, List.map_append]
        rfl
      · rintro H2 rfl
        rw [show (trnV bk).length = bk.length from List.length_map .., List.take_length]
        generalize hw : (bk.map fun c => tf (tsAt ts (o.idxOf b)) (tf t c)) = w
        have s2 : Same H (upd H D (.lst (w.map intV))) := same_new nD
        have h2 : (upd H D (.lst (w.map intV))) D = some (.lst (trnV w)) := upd_same
        generalize upd H D (.lst (w.map intV)) = H2 at s2 h2 ⊢
        refine ⟨D, _, rfl, .inl ⟨.inl (.inl h2), fun p2 o2 np2 d2 => ?_⟩⟩
        have s3 : Same H2 (upd H2 p2 (.frz o2 (.tup (trnV w)))) := same_new np2
        have ft : FT (upd H2 p2 (.frz o2 (.tup (trnV w)))) p2 (trnV w) := FT.new d2
        generalize upd H2 p2 (.frz o2 (.tup (trnV w))) = H3 at s3 ft ⊢
        refine ⟨Nat.le_of_lt (small1000 (by show 2 ≤ 1000; decide)), fun p3 o3 np3 d3 => ?_⟩
        have s4 : Same H3 (upd H3 p3 (.frz o3 (.tup [intV (o.idxOf b), .ref p2]))) := same_new np3
        refine q _ _ ((s2.trans s3).trans s4) ?_
        show JAt _ _ (some (o.idxOf b, bk.map fun c => tf (tsAt ts (o.idxOf b)) (tf t c)))
        rw [hw]
        exact ⟨p3, p2, rfl, FT.new d3, ft.mono s4.tups⟩
/-! ### _renamed_block -/
abbrev s_renamed_block : Stmt := topS 23
abbrev N_renamed_block : List Str := ["space", "order", "turns", "place", "block", "back", "face"]
theorem sc_renamed_block : FnScope N_renamed_block ["space", "order", "turns", "place"] (defScope s_renamed_block) := ⟨rfl, rfl, rfl, by decide +kernel, rfl, by decide +kernel, by decide +kernel⟩
def spRenB : Sp := fun vs H Q _ => ∃ (N N2 : Addr → Prop) (v ov tv : V) (od td : PyData) (S : Spc) (o : List Nat) (ts : List Trn) (k : Nat), vs = [v, ov, tv, intV k] ∧ ST H v S ∧ Good S ∧ Dq N H ov od ∧ norm od = .list (o.map intD) ∧ Dq N2 H tv td ∧ norm td = trnsD ts ∧ Names S.length o ts ∧ S.length ≤ 60 ∧
  k < S.length ∧ ∀ H' v', Same H H' → BT H' v' (renB S o ts k) → Q v' H'
theorem ok_renamed_block {f fC fJ : Addr} {fd fdC fdJ : FuncData} (F : Fun K "_renamed_block" "_renamed_block" s_renamed_block f fd)
    (Fcontrary : Fun K "contrary" "contrary" scontrary fC fdC) (gcontrary : mg "contrary" = some (.ref fC)) (bcontrary : Binds K fdC ["turn"] []) (Gcontrary : FnOk P w K mg base CX0 1 fC fdC ["turn"] spBackE)
    (F_renamed_joining : Fun K "_renamed_joining" "_renamed_joining" s_renamed_joining fJ fdJ) (g_renamed_joining : mg "_renamed_joining" = some (.ref fJ)) (b_renamed_joining : Binds K fdJ ["joining", "order", "turns", "back"] []) (G_renamed_joining : FnOk P w K mg base CX0 1 fJ fdJ ["joining", "order", "turns", "back"] spRenJ)
    (m_tuple : mg "tuple" = none) : FnOk P w K mg base CX0 2 f fd ["space", "order", "turns", "place"] spRenB := by
  refine F.ok sc_renamed_block (fun vs H Q E h => ?_) (fun cdv A outer s H vs Q E hr h => ?_)
  · obtain ⟨N, N2, v, ov, tv, od, td, S, o, ts, k, rfl, _⟩ := h
    rfl
  · obtain ⟨N, N2, v, ov, tv, od, td, S, o, ts, k, rfl, hv, hG, ho, no, ht, nt, hn, n60, hk, q⟩ := h
    have nd := sc_renamed_block.nd
    refine ⟨_, (pss_cons (ps_set (i := 4) nd rfl (.inr rfl) (pe_ix (kIxT K rfl) (pv 0) (pe_ix (kIxE K rfl) (pv 1) (pv 3) (fun _ _ => rfl)) (fun _ _ => rfl)))
      (pss_cons (ps_set (i := 5) nd rfl (.inr rfl) (pe_call Gcontrary (hr.mono (by first | decide | omega)) (by rfl) gcontrary Fcontrary.kp bcontrary .nil pass0 (pa_cons (pe_ix (kIxE K rfl) (pv 2) (pv 3) (fun _ _ => rfl)) pa_nil)))
      (pss_one (ps_ret (pe_callTy (kTupleF K rfl) (by rfl) m_tuple (by decide +kernel) (pa_cons (pe_lc (own := [("face", 6)]) (g := gName 6) (tt := tYes) rfl nd (kPiT K rfl (pi_tup (pv 5))) (blkOk_by (own := [("face", 6)]) (N := N_renamed_block) (sc := defScope s_renamed_block) (by decide +kernel)) (fun _ _ _ _ _ => (pg_name (i := 6) nd rfl (Or.inl rfl))) (fun _ _ _ _ _ => pts_nil) (fun _ _ _ _ _ => (pe_call G_renamed_joining (hr.mono (by first | decide | omega)) (by rfl) g_renamed_joining F_renamed_joining.kp b_renamed_joining .nil pass0 (pa_cons (pe_ix (kIxT K rfl) (pv 4) (pv 6) (fun _ _ => rfl)) (pa_cons (pv 1) (pa_cons (pv 2) (pa_cons (pv 5) pa_nil))))))) pa_nil)))))), ?_⟩
    obtain ⟨eo, lo, et, mt⟩ := hn.at hk
    obtain ⟨a, rfl, ha⟩ := turn_of (K := K) ho no
    obtain ⟨a2, ys, x2, dx, rfl, hq, ly, hx2, hxd, nx⟩ := turns_at (K := K) ht nt et
    obtain ⟨a3, rfl, h3⟩ := turn_of (K := K) hxd nx
    obtain ⟨b4, bat, bmem⟩ := back4 mt
    obtain ⟨j0, hj0⟩ := hG.l4.get (b := tf o k) (f := 0) lo (by decide)
    obtain ⟨p, rs, pb, vb, x0, rfl, f1, k1, f2, _, _⟩ := hv.face hj0
    refine ⟨.ref p, rfl, .ref a, rfl, intV k, rfl, ixE ha (atI_nat (v := intV (tf o k)) (by unfold trnV; rw [List.getElem?_map, eo]; rfl)) ?_⟩
    refine ⟨p, rs, (tf o k : Nat), .ref pb, rfl, rfl, f1.sqt, atI_nat k1, ?_⟩
    -- back
    refine ⟨.ref a2, rfl, intV k, rfl, ixS hq (atI_nat hx2) ?_⟩
    refine backE h3 mt (fun H1 pbk s1 n1 T1 => ?_)
    obtain ⟨pbk', e1, T1⟩ := T1
    cases e1
    refine ⟨.ref pbk, rfl, pbk, rfl, ⟨_, T1.sqt⟩, fun D nD => ?_⟩
    refine lc_tup (xs := trnV (back (tsAt ts k))) (fun i H2 => ∃ ws, H2 D = some (.lst ws) ∧ Paired (JAt H2) ws (((back (tsAt ts k)).take i).map fun f => renJ o ts (back (tsAt ts k)) ((getJ S (tf o k) f).getD none)) ∧ Same H1 H2) ⟨[], upd_same, .nil, same_new nD⟩ ?_ ?_ ?_
    · rintro i H2 _ ⟨ws, h2, t2, s2⟩
      exact (T1.mono s2.tups).sqt
    · rintro i x H2 hx ⟨ws, h2, t2, s2⟩
      obtain ⟨c, rfl, hc⟩ : ∃ c, x = intV c ∧ (back (tsAt ts k))[i]? = some c := by
        unfold trnV at hx
        rw [List.getElem?_map] at hx
        cases e : (back (tsAt ts k))[i]? with
        | none => rw [e] at hx; cases hx
        | some c => rw [e] at hx; exact ⟨c, (Option.some.inj hx).symm, rfl⟩
      have c4 := bmem c (List.mem_of_getElem? hc)
      obtain ⟨j, hj⟩ := hG.l4.get (b := tf o k) (f := c) lo c4
      obtain ⟨p', rs', pb', vb', x, ep, f1', k1', f2', k2', jx⟩ := hv.face hj
      cases ep
      obtain rfl := f1.inj f1'
      rw [k1] at k1'
      cases k1'
      obtain rfl := f2.inj f2'
      have sA := s1.trans s2
      refine ⟨rfl, .ref pb, rfl, intV c, rfl, pb, vb, c, x, rfl, rfl, (f2.mono sA.tups).sqt, atI_nat k2', ?_⟩
      refine ⟨.ref a, rfl, .ref a2, rfl, .ref pbk, rfl, N, N2, x, .ref a, .ref a2, .ref pbk, od, td, S.length, o, ts, back (tsAt ts k), j, rfl, jx.mono sA.tups, hG.jokAt hj, ho.same sA, no, ht.same sA, nt, hn, n60, ⟨pbk, rfl, T1.mono s2.tups⟩, back_mem mt, fun H3 v3 s3 j3 => ?_⟩
      have h3 := s3 _ _ h2
      refine ⟨ws, h3, small1000 (by rw [plen t2, List.length_map, List.length_take, b4]; omega), ws ++ [v3], upd_same, ?_, same_fill (s2.trans s3) nD⟩
      rw [take_succ_map hc, hj]
      exact papp (pmono t2 fun _ _ z => z.mono (s3.tups.trans (tups_set h3))) (.cons (j3.mono (tups_set h3)) .nil)
    · rintro H2 ⟨ws, h2, t2, s2⟩
      rw [show (trnV (back (tsAt ts k))).length = (back (tsAt ts k)).length from List.length_map .., List.take_length] at t2
      refine ⟨D, ws, rfl, .inl ⟨.inl (.inl h2), fun p2 o2 np2 d2 => ?_⟩⟩
      have s3 : Same H2 (upd H2 p2 (.frz o2 (.tup ws))) := same_new np2
      exact q _ _ ((s1.trans s2).trans s3) ⟨p2, ws, rfl, FT.new d2, pmono t2 fun _ _ z => z.mono s3.tups⟩
/-! ### renamed -/
abbrev srenamed : Stmt := topS 22
abbrev Nrenamed : List Str := ["space", "order", "turns", "whole", "many", "turn", "place"]
theorem screnamed : FnScope Nrenamed ["space", "order", "turns"] (defScope srenamed) := ⟨rfl, rfl, rfl, by decide +kernel, rfl, by decide +kernel, by decide +kernel⟩
def spRenamed : Sp := fun vs H Q _ => ∃ (N N1 N2 : Addr → Prop) (v ov tv : V) (d od td : PyData) (S : Spc) (o : List Nat) (ts : List Trn), vs = [v, ov, tv] ∧ Dq N H v d ∧ norm d = nS S ∧ Good S ∧ 1 ≤ S.length ∧ S.length ≤ 60 ∧ Dq N1 H ov od ∧ norm od = .list (o.map intD) ∧ Dq N2 H tv td ∧ norm td = trnsD ts ∧ Names S.length o ts ∧
  ∀ H' v', Same H H' → ST H' v' (renS S o ts) → Q v' H'
theorem okrenamed {f fX fO fL fT fB : Addr} {fd fdX fdO fdL fdT fdB : FuncData} (F : Fun K "renamed" "renamed" srenamed f fd)
    (Fspace_of : Fun K "space_of" "space_of" sspace_of fX fdX) (gspace_of : mg "space_of" = some (.ref fX)) (bspace_of : Binds K fdX ["blocks"] []) (Gspace_of : FnOk P w K mg base CX0 6 fX fdX ["blocks"] spSpace)
    (Fis_order : Fun K "is_order" "is_order" sis_order fO fdO) (gis_order : mg "is_order" = some (.ref fO)) (bis_order : Binds K fdO ["thing", "many"] []) (Gis_order : FnOk P w K mg base CX0 2 fO fdO ["thing", "many"] spOrder)
    (Fis_listed : Fun K "is_listed" "is_listed" sis_listed fL fdL) (gis_listed : mg "is_listed" = some (.ref fL)) (bis_listed : Binds K fdL ["thing"] []) (Gis_listed : FnOk P w K mg base CX0 1 fL fdL ["thing"] spListed)
    (Fis_turn : Fun K "is_turn" "is_turn" sis_turn fT fdT) (gis_turn : mg "is_turn" = some (.ref fT)) (bis_turn : Binds K fdT ["thing"] []) (Gis_turn : FnOk P w K mg base CX0 3 fT fdT ["thing"] spTurn)
    (F_renamed_block : Fun K "_renamed_block" "_renamed_block" s_renamed_block fB fdB) (g_renamed_block : mg "_renamed_block" = some (.ref fB)) (b_renamed_block : Binds K fdB ["space", "order", "turns", "place"] []) (G_renamed_block : FnOk P w K mg base CX0 2 fB fdB ["space", "order", "turns", "place"] spRenB)
    (m_len : mg "len" = none) (m_tuple : mg "tuple" = none) (m_all : mg "all" = none) (m_range : mg "range" = none) : FnOk P w K mg base CX0 7 f fd ["space", "order", "turns"] spRenamed := by
  refine F.ok screnamed (fun vs H Q E h => ?_) (fun cdv A outer s H vs Q E hr h => ?_)
  · obtain ⟨N, N1, N2, v, ov, tv, d, od, td, S, o, ts, rfl, _⟩ := h
    rfl
  · obtain ⟨N, N1, N2, v, ov, tv, d, od, td, S, o, ts, rfl, hd, nd0, hG, hl1, hl2, ho, no, ht, nt, hn, q⟩ := h
    have nd := screnamed.nd
    refine ⟨_, (pss_cons (ps_set (i := 3) nd rfl (.inr rfl) (pe_call Gspace_of (hr.mono (by first | decide | omega)) (by rfl) gspace_of Fspace_of.kp bspace_of .nil pass0 (pa_cons (pv 0) pa_nil)))
      (pss_cons (ps_set (i := 4) nd rfl (.inl rfl) (pe_callB (kLen K rfl) (by rfl) m_len (by decide +kernel) (pa_cons (pv 3) pa_nil)))
      (pss_cons (ps_if (pt_not (pt_val (pe_call Gis_order (hr.mono (by first | decide | omega)) (by rfl) gis_order Fis_order.kp bis_order .nil pass0 (pa_cons (pv 1) (pa_cons (pv 4) pa_nil))))) (pss_one ps_never) pss_nil)
      (pss_cons (ps_if (pw_or (pt_not (pt_val (pe_call Gis_listed (hr.mono (by first | decide | omega)) (by rfl) gis_listed Fis_listed.kp bis_listed .nil pass0 (pa_cons (pv 2) pa_nil)))) (pw_or (pt_cmpR op_ne (pe_callB (kLen K rfl) (by rfl) m_len (by decide +kernel) (pa_cons (pv 2) pa_nil)) (pv 4) (nomark _)) (pw_or1 (pt_not (pt_val (pe_callB (kAll K rfl rfl) (by rfl) m_all (by decide +kernel) (pa_cons (pe_lc (own := [("turn", 5)]) (g := gName 5) (tt := tYes) rfl nd (kPiS K rfl (pv 2)) (blkOk_by (own := [("turn", 5)]) (N := Nrenamed) (sc := defScope srenamed) (by decide +kernel)) (fun _ _ _ _ _ => (pg_name (i := 5) nd rfl (Or.inl rfl))) (fun _ _ _ _ _ => pts_nil) (fun _ _ _ _ _ => (pe_call Gis_turn (hr.mono (by first | decide | omega)) (by rfl) gis_turn Fis_turn.kp bis_turn .nil pass0 (pa_cons (pv 5) pa_nil)))) pa_nil))))))).pt (pss_one ps_never) pss_nil)
      (pss_one (ps_ret (pe_callTy (kTupleF K rfl) (by rfl) m_tuple (by decide +kernel) (pa_cons (pe_lc (own := [("place", 6)]) (g := gName 6) (tt := tYes) rfl nd (pi_range1 (by rfl) m_range (pa_cons (pv 4) pa_nil)) (blkOk_by (own := [("place", 6)]) (N := Nrenamed) (sc := defScope srenamed) (by decide +kernel)) (fun _ _ _ _ _ => (pg_name (i := 6) nd rfl (Or.inl rfl))) (fun _ _ _ _ _ => pts_nil) (fun _ _ _ _ _ => (pe_call G_renamed_block (hr.mono (by first | decide | omega)) (by rfl) g_renamed_block F_renamed_block.kp b_renamed_block .nil pass0 (pa_cons (pv 3) (pa_cons (pv 1) (pa_cons (pv 2) (pa_cons (pv 6) pa_nil))))))) pa_nil)))))))), ?_⟩
    refine ⟨v, rfl, N, v, d, S, rfl, hd, nd0, hG, hl1, by omega, fun H1 u s1 st1 => ?_⟩
    have st1' := st1
    obtain ⟨p, rs, rfl, f1, b1⟩ := st1
    have lrs : rs.length = S.length := plen b1
    refine ⟨.ref p, rfl, p, rs, rfl, .inr f1.sqt, ?_⟩
    refine ⟨ov, rfl, V.int rs.length, rfl, N1, ov, od, o, rs.length, rfl, ho.same s1, no, by rw [lrs]; exact hn.o, by omega, fun H2 s2 => ⟨_, rfl, iteF ?_⟩⟩
    have ht2 := ht.same (s1.trans s2)
    obtain ⟨a, xs, ds, rfl, hq, _, hds, en⟩ := ht2.seq (K := K) nt
    have lxs : xs.length = S.length := by rw [hds.len, norm_len en, hn.l]
    have sq : isSeqD td = true := by
      cases td <;> first | rfl | (simp only [norm, trnsD] at nt; cases nt)
    refine ⟨.ref a, rfl, N2, .ref a, td, rfl, ht2, fun H3 s3 => ?_⟩
    rw [sq]
    refine ⟨_, rfl, iteF ?_⟩
    have hq3 := hq.imp (fun z => s3.seq z) (fun z => s3.sqt z)
    refine ⟨.ref a, rfl, a, xs, rfl, hq3, V.int rs.length, rfl, rfl, _, rfl, iteNS (by rw [lxs, lrs]) ?_⟩
    refine ⟨.ref a, rfl, a, xs, rfl, hq3, fun J C hJ hC => ?_⟩
    intro D nD
    refine lc_seq (xs := xs) hJ (fun i H4 => H4 D = some (.lst ((List.replicate i true).map V.bl)) ∧ Same H3 H4) ⟨upd_same, same_new nD⟩ ?_ ?_ ?_
    · rintro i H4 ⟨h4, s4⟩
      exact SeqIt.mono K hJ (fun o e => s4 _ _ e) hC
    · rintro i x H4 hx ⟨h4, s4⟩
      obtain ⟨dx, hdx, hxd⟩ := hds.get hx
      obtain ⟨t, hti, et⟩ := norm_at en hdx
      have lk := (List.getElem?_eq_some_iff.mp hx).1
      refine ⟨rfl, x, rfl, N2, x, dx, t, rfl, hxd.same (s3.trans s4), et, hn.t t (List.mem_of_getElem? hti), fun H5 s5 => ?_⟩
      refine ⟨_, s5 _ _ h4, small1000 (by rw [List.length_map, List.length_replicate]; omega), ?_, same_fill (s4.trans s5) nD⟩
      rw [upd_same, List.replicate_succ', List.map_append]
      rfl
    · rintro H4 ⟨h4, s4⟩
      have eall : (List.replicate xs.length true).all id = true := by
        rw [List.all_eq_true]
        intro y hy
        rw [List.eq_of_mem_replicate hy]
        rfl
      refine ⟨D, _, rfl, .inl (.inl h4), _, rfl, ?_⟩
      rw [eall]
      refine iteF ?_
      have s14 := (s2.trans s3).trans s4
      refine ⟨V.int rs.length, rfl, (rs.length : Int), rfl, by omega, by omega, fun D2 nD2 => ?_⟩
      rw [lrs, Int.toNat_natCast]
      refine lc_range (lo := 0) (n := S.length) (fun i H5 => ∃ ws, H5 D2 = some (.lst ws) ∧ Paired (BT H5) ws ((List.range i).map (renB S o ts)) ∧ Same H4 H5) ⟨[], upd_same, .nil, same_new nD2⟩ ?_ ?_
      · rintro i H5 hi ⟨ws, h5, t5, s5⟩
        rw [Int.zero_add]
        have s15 := s14.trans s5
        refine ⟨rfl, .ref p, rfl, ov, rfl, .ref a, rfl, intV i, rfl, N1, N2, .ref p, ov, .ref a, od, td, S, o, ts, i, rfl, st1'.mono s15.tups, hG, ho.same (s1.trans s15), no, ht.same (s1.trans s15), nt, hn, hl2, hi, fun H6 v6 s6 b6 => ?_⟩
        have h6 := s6 _ _ h5
        refine ⟨ws, h6, small1000 (by rw [plen t5, List.length_map, List.length_range]; omega), ws ++ [v6], upd_same, ?_, same_fill (s5.trans s6) nD2⟩
        rw [List.range_succ, List.map_append]
        exact papp (pmono t5 fun _ _ z => z.mono (s6.tups.trans (tups_set h6))) (.cons (b6.mono (tups_set h6)) .nil)
      · rintro H5 ⟨ws, h5, t5, s5⟩
        refine ⟨D2, ws, rfl, .inl ⟨.inl (.inl h5), fun p2 o2 np2 d2 => ?_⟩⟩
        have s6 : Same H5 (upd H5 p2 (.frz o2 (.tup ws))) := same_new np2
        exact q _ _ (((s1.trans s14).trans s5).trans s6) ⟨p2, ws, rfl, FT.new d2, pmono t5 fun _ _ z => z.mono s6.tups⟩
end
end Bk

namespace Bk
open PySem PySem.Spec PyProof.Rows L2 RZ
local macro_rules | `(tactic| walk_at "g") => `(tactic| (repeat first | refine ⟨_, rfl, ?_⟩ | refine ⟨cpow, ?_⟩ | refine ⟨wideM, ?_⟩ | refine ⟨_, _, rfl, rfl, ?_⟩ | refine ⟨rfl, ?_⟩))
section
variable {P : Program} {w : World} {K : PySem.W.Frag} {mg : Str → Option Value} {base : Heap}
theorem rgV_nat (n : Nat) : rgV 0 (n : Int) = (List.range n).map intV := by
  unfold rgV
  rw [show ((n : Int) - 0).toNat = n by omega]
  exact List.map_congr_left fun x _ => by
    show V.int (0 + (x : Int)) = V.int (x : Int)
    rw [Int.zero_add]
structure NamesAt (H0 H : Hp) (R po pt : Addr) (o : List Nat) (ws : List V) (ts : List Trn) (n : Nat) : Prop where
  ho : H po = some (.lst (trnV o))
  ht : H pt = some (.lst ws)
  hw : Paired (TAt H) ws ts
  ok : Names n o ts
  ao : Away R po H
  at_ : Away R pt H
  ne : po ≠ pt
  fo : H0 po = none
  ft : H0 pt = none
def spNames : Sp := fun vs H Q _ => ∃ (R : Addr) (n : Nat), vs = [.ref R, intV n] ∧ 1 ≤ n ∧ n ≤ 60 ∧ ReelOk R H ∧
  ∀ H' p po pt o ws ts, Keep R H H' → Aw R H H' → ReelOk R H' → FT H' p [.ref po, .ref pt] → NamesAt H H' R po pt o ws ts n → Q (.ref p) H'
end
end Bk

namespace Bk
open PySem PySem.Spec PyProof.Rows L2 RZ
local macro_rules | `(tactic| walk_at "g") => `(tactic| (repeat first | refine ⟨_, rfl, ?_⟩ | refine ⟨cpow, ?_⟩ | refine ⟨wideM, ?_⟩ | refine ⟨_, _, rfl, rfl, ?_⟩ | refine ⟨rfl, ?_⟩))
/-! ### renamed spaces, face by face -/
theorem spc_ext {U W : Spc} (l : U.length = W.length) (h4 : L4 U) (h4' : L4 W) (h : ∀ b g, b < U.length → g < 4 → getJ U b g = getJ W b g) : U = W := by
  apply List.ext_getElem l
  intro b hb hb'
  have e1 : U[b]? = some U[b] := List.getElem?_eq_getElem hb
  have e2 : W[b]? = some W[b] := List.getElem?_eq_getElem hb'
  have l1 := h4 _ (List.getElem_mem hb)
  have l2 := h4' _ (List.getElem_mem hb')
  apply List.ext_getElem (l1.trans l2.symm)
  intro g hg hg'
  have := h b g hb (by omega)
  unfold getJ at this
  rw [e1, e2] at this
  have z : U[b][g]? = W[b][g]? := this
  rw [List.getElem?_eq_getElem hg, List.getElem?_eq_getElem hg'] at z
  exact Option.some.inj z
theorem tf_eq {t : Trn} {i c : Nat} (h : t[i]? = some c) : tf t i = c := by
  unfold tf
  rw [h]
  rfl
theorem range_tf {b : Trn} (h : b.length = 4) : b = (List.range 4).map (tf b) := by
  apply List.ext_getElem (by rw [h]; rfl)
  intro i h1 h2
  rw [List.getElem_map, List.getElem_range]
  exact (tf_eq (List.getElem?_eq_getElem h1)).symm
theorem tf_map {w : Trn} {f : Nat → Nat} {c : Nat} (hc : c < w.length) : tf (w.map f) c = f (tf w c) := by
  unfold tf
  rw [List.getElem?_map, List.getElem?_eq_getElem hc]
  rfl
def tJ (S : Spc) (o : List Nat) (ts : List Trn) (b g : Nat) : Jn := renJ o ts (back (tsAt ts b)) ((getJ S (tf o b) (tf (back (tsAt ts b)) g)).getD none)
theorem getJ_ren {S : Spc} {o : List Nat} {ts : List Trn} {b g : Nat} (hb : b < S.length) (hg : g < 4) (ht : tsAt ts b ∈ allTurns) : getJ (renS S o ts) b g = some (tJ S o ts b g) := by
  have e1 : (renS S o ts)[b]? = some (renB S o ts b) := by
    unfold renS
    rw [List.getElem?_map, List.getElem?_range hb]
    rfl
  unfold getJ
  rw [e1]
  show (renB S o ts b)[g]? = _
  unfold renB
  rw [List.getElem?_map, ((back4 ht).2.1 g hg).1]
  rfl
theorem renS_l4 {S : Spc} {o : List Nat} {ts : List Trn} (h : Names S.length o ts) : L4 (renS S o ts) := fun b hb => by
  unfold renS at hb
  obtain ⟨k, hk, rfl⟩ := List.mem_map.mp hb
  exact renB_len (h.at (List.mem_range.mp hk)).2.2.2
/-- all turns are there and back -/
theorem there {t : Trn} (h : t ∈ allTurns) {f : Nat} (hf : f < 4) : tf t f < 4 ∧ tf (back t) (tf t f) = f := ⟨(tf_lt t h f hf).1, tf_back t h f hf⟩
theorem backto {t : Trn} (h : t ∈ allTurns) {g : Nat} (hg : g < 4) : tf (back t) g < 4 ∧ tf t (tf (back t) g) = g := by
  have hb := back_mem h
  have := there hb hg
  rw [back_back t h] at this
  exact this
theorem map_set4 {α : Type} {F G : Nat → α} {g0 : Nat} (hg : g0 < 4) (h : ∀ g < 4, g ≠ g0 → F g = G g) : ((List.range 4).map F).set g0 (G g0) = (List.range 4).map G := by
  apply List.ext_getElem (by rw [List.length_set, List.length_map, List.length_map])
  intro i h1 h2
  rw [List.length_map, List.length_range] at h2
  rw [List.getElem_set, List.getElem_map, List.getElem_map, List.getElem_range]
  by_cases e : g0 = i
  · rw [if_pos e, e]
  · rw [if_neg e]
    exact h i h2 (fun z => e z.symm)
/-- what stands so far -/
structure Part (S : Spc) (o : List Nat) (ts : List Trn) (k f : Nat) (U : Spc) : Prop where
  l : U.length = S.length
  l4 : L4 U
  at_ : ∀ b g, b < S.length → g < 4 → getJ U b g = some (if b < k ∨ (b = k ∧ tf (back (tsAt ts b)) g < f) then tJ S o ts b g else none)
theorem Part.zero (S : Spc) (o : List Nat) (ts : List Trn) : Part S o ts 0 0 (freeS S.length) := by
  refine ⟨List.length_replicate, (freeS_good _).l4, fun b g hb hg => ?_⟩
  obtain ⟨z, hz⟩ := (freeS_good S.length).l4.get (b := b) (f := g) (by unfold freeS; rw [List.length_replicate]; exact hb) hg
  rw [hz, freeS_get hz, if_neg (by omega)]
theorem Part.next {S : Spc} {o : List Nat} {ts : List Trn} {k : Nat} {U : Spc} (h : Part S o ts k 4 U) (hn : Names S.length o ts) : Part S o ts (k + 1) 0 U := by
  refine ⟨h.l, h.l4, fun b g hb hg => ?_⟩
  rw [h.at_ b g hb hg]
  have := (backto (hn.at hb).2.2.2 hg).1
  by_cases e : b < k ∨ (b = k ∧ tf (back (tsAt ts b)) g < 4)
  · rw [if_pos e, if_pos (by omega)]
  · rw [if_neg e, if_neg (by omega)]
theorem Part.skip {S : Spc} {o : List Nat} {ts : List Trn} {k f : Nat} {U : Spc} (h : Part S o ts k f U) (hn : Names S.length o ts) (hk : k < S.length) (e : getJ S (tf o k) f = some none) : Part S o ts k (f + 1) U := by
  refine ⟨h.l, h.l4, fun b g hb hg => ?_⟩
  rw [h.at_ b g hb hg]
  by_cases e1 : b < k ∨ (b = k ∧ tf (back (tsAt ts b)) g < f)
  · rw [if_pos e1, if_pos (by omega)]
  · rw [if_neg e1]
    by_cases e2 : b < k ∨ (b = k ∧ tf (back (tsAt ts b)) g < f + 1)
    · rw [if_pos e2]
      obtain ⟨rfl, e3⟩ : b = k ∧ tf (back (tsAt ts b)) g = f := by omega
      unfold tJ
      rw [e3, e]
      rfl
    · rw [if_neg e2]
theorem Part.put {S : Spc} {o : List Nat} {ts : List Trn} {k f n : Nat} {t : Trn} {U : Spc} (h : Part S o ts k f U) (hn : Names S.length o ts) (hk : k < S.length) (hf : f < 4) (e : getJ S (tf o k) f = some (some (n, t))) :
    Part S o ts k (f + 1) (setJ U k (tf (tsAt ts k) f) (renJ o ts (back (tsAt ts k)) (some (n, t)))) := by
  have mt := (hn.at hk).2.2.2
  have th := there mt hf
  refine ⟨by rw [setJ_len]; exact h.l, h.l4.set _ _ _, fun b g hb hg => ?_⟩
  rw [getJ_set, h.at_ b g hb hg]
  by_cases c : b = k ∧ g = tf (tsAt ts k) f
  · obtain ⟨rfl, rfl⟩ := c
    rw [if_pos ⟨rfl, rfl⟩, Option.map_some]
    have e2 : (if b < b ∨ (b = b ∧ tf (back (tsAt ts b)) (tf (tsAt ts b) f) < f + 1) then tJ S o ts b (tf (tsAt ts b) f) else none) = tJ S o ts b (tf (tsAt ts b) f) := if_pos (.inr ⟨rfl, by rw [th.2]; omega⟩)
    rw [e2]
    unfold tJ
    rw [th.2, e]
    rfl
  · rw [if_neg c]
    have nf : b = k → tf (back (tsAt ts b)) g ≠ f := fun z z2 => c ⟨z, by
      subst z
      have := (backto mt hg).2
      rw [z2] at this
      exact this.symm⟩
    by_cases e1 : b < k ∨ (b = k ∧ tf (back (tsAt ts b)) g < f)
    · rw [if_pos e1, if_pos (by omega)]
    · rw [if_neg e1, if_neg (fun z => e1 (by
        rcases z with z | ⟨z1, z2⟩
        · exact .inl z
        · have := nf z1
          exact .inr ⟨z1, by omega⟩))]
theorem Part.done {S : Spc} {o : List Nat} {ts : List Trn} {U : Spc} (h : Part S o ts S.length 0 U) (hn : Names S.length o ts) : U = renS S o ts := by
  refine spc_ext (h.l.trans (renS_len S o ts).symm) h.l4 (renS_l4 hn) fun b g hb hg => ?_
  rw [h.l] at hb
  rw [h.at_ b g hb hg, getJ_ren hb hg (hn.at hb).2.2.2, if_pos (.inl hb)]
/-- the turn so far -/
def turnTo (tk : Trn) (X : Nat → Nat) (c : Nat) : List Nat := (List.range 4).map fun g => if tf (back tk) g < c then X (tf (back tk) g) else 0
theorem turnTo_zero (tk : Trn) (X : Nat → Nat) : turnTo tk X 0 = [0, 0, 0, 0] := rfl
theorem turnTo_set {tk : Trn} (h : tk ∈ allTurns) (X : Nat → Nat) {c : Nat} (hc : c < 4) : (turnTo tk X c).set (tf tk c) (X c) = turnTo tk X (c + 1) := by
  have th := there h hc
  unfold turnTo
  have e : X c = (fun g => if tf (back tk) g < c + 1 then X (tf (back tk) g) else 0) (tf tk c) := by
    show X c = if tf (back tk) (tf tk c) < c + 1 then X (tf (back tk) (tf tk c)) else 0
    rw [th.2, if_pos (by omega)]
  rw [e]
  refine map_set4 (F := fun g => if tf (back tk) g < c then X (tf (back tk) g) else 0) (G := fun g => if tf (back tk) g < c + 1 then X (tf (back tk) g) else 0) th.1 fun g hg ne => ?_
  show (if tf (back tk) g < c then X (tf (back tk) g) else 0) = if tf (back tk) g < c + 1 then X (tf (back tk) g) else 0
  have nc : tf (back tk) g ≠ c := fun z => ne (by
    have := (backto h hg).2
    rw [z] at this
    exact this.symm)
  by_cases e1 : tf (back tk) g < c
  · rw [if_pos e1, if_pos (by omega)]
  · rw [if_neg e1, if_neg (by omega)]
theorem turnTo_all {tk : Trn} (h : tk ∈ allTurns) (X : Nat → Nat) : turnTo tk X 4 = (back tk).map X := by
  have e := range_tf (back4 h).1
  unfold turnTo
  conv => rhs; rw [e, List.map_map]
  refine List.map_congr_left fun g hg => ?_
  rw [if_pos (backto h (List.mem_range.mp hg)).1]
  rfl
end Bk

namespace Bk
open PySem PySem.Spec PyProof.Rows L2 RZ
/-! ### turns put together -/
/-- first a, then b -/
def cmp (a b : Trn) : Trn := a.map (tf b)
def idT : Trn := [0, 1, 2, 3]
theorem cmp_turn : ∀ a ∈ allTurns, ∀ b ∈ allTurns, cmp a b ∈ allTurns ∧ back (cmp a b) = cmp (back b) (back a) := by decide +kernel
theorem cmp_back : ∀ a ∈ allTurns, cmp a (back a) = idT ∧ cmp (back a) a = idT := by decide +kernel
theorem idT_turn : idT ∈ allTurns ∧ back idT = idT := by decide +kernel
theorem tf_cmp {a b : Trn} (ha : a ∈ allTurns) {c : Nat} (hc : c < 4) : tf (cmp a b) c = tf b (tf a c) := tf_map (by rw [(turns4 a ha).1]; exact hc)
theorem map_lt {b : Trn} {f g : Nat → Nat} (hb : ∀ c ∈ b, c < 4) (h : ∀ c < 4, f c = g c) : b.map f = b.map g := List.map_congr_left fun c hc => h c (hb c hc)
theorem lt4 {t : Trn} (h : t ∈ allTurns) : ∀ c ∈ t, c < 4 := (turns4 t h).2.1
/-- a renamed joining's turn -/
theorem ren_turn {bk t u : Trn} (hb : bk ∈ allTurns) (ht : t ∈ allTurns) : (bk.map fun c => tf u (tf t c)) = cmp (cmp bk t) u := by
  unfold cmp
  rw [List.map_map]
  rfl
theorem cmp_assoc {a b c : Trn} (ha : a ∈ allTurns) (hb : b ∈ allTurns) : cmp (cmp a b) c = cmp a (cmp b c) := by
  have h : ∀ x < 4, (tf c ∘ tf b) x = tf (cmp b c) x := fun x hx => (tf_cmp hb hx).symm
  show (a.map (tf b)).map (tf c) = a.map (tf (cmp b c))
  rw [List.map_map]
  exact map_lt (lt4 ha) h
theorem cmp_id {a : Trn} (ha : a ∈ allTurns) : cmp a idT = a ∧ cmp idT a = a := by
  constructor
  · have h : ∀ c < 4, tf idT c = id c := by decide
    show a.map (tf idT) = a
    rw [map_lt (lt4 ha) h, List.map_id]
  · exact (range_tf (turns4 a ha).1).symm
theorem tf_inj {t : Trn} (h : t ∈ allTurns) {a b : Nat} (ha : a < 4) (hb : b < 4) (e : tf t a = tf t b) : a = b := by
  have h1 := (there h ha).2
  rw [e, (there h hb).2] at h1
  exact h1.symm
/-! ### orders -/
theorem Names.nd {n : Nat} {o : List Nat} {ts : List Trn} (h : Names n o ts) : o.Nodup := h.o.symm.nodup List.nodup_range
theorem Names.at_idx {n : Nat} {o : List Nat} {ts : List Trn} (h : Names n o ts) {b : Nat} (hb : b < n) : tf o (o.idxOf b) = b := by
  have hm := (h.idx hb).1
  have hl : o.idxOf b < o.length := List.idxOf_lt_length_iff.mpr hm
  refine tf_eq ?_
  rw [List.getElem?_eq_getElem hl, List.getElem_idxOf]
theorem Names.idx_at {n : Nat} {o : List Nat} {ts : List Trn} (h : Names n o ts) {k : Nat} (hk : k < n) : o.idxOf (tf o k) = k := by
  obtain ⟨e, l, _, _⟩ := h.at hk
  have e2 : o[o.idxOf (tf o k)]? = some (tf o k) := by
    have hl : o.idxOf (tf o k) < o.length := List.idxOf_lt_length_iff.mpr (List.mem_of_getElem? e)
    rw [List.getElem?_eq_getElem hl, List.getElem_idxOf]
  exact nd_ix h.nd e2 e
theorem tsAt_eq {ts : List Trn} {k : Nat} {t : Trn} (h : ts[k]? = some t) : tsAt ts k = t := by
  unfold tsAt
  rw [h]
  rfl
theorem tsAt_map {α : Type} {l : List α} {f : α → Trn} {k : Nat} {x : α} (h : l[k]? = some x) : tsAt (l.map f) k = f x := tsAt_eq (by rw [List.getElem?_map, h]; rfl)
theorem tf_mapat {l : List Nat} {f : Nat → Nat} {k x : Nat} (h : l[k]? = some x) : tf (l.map f) k = f x := tf_eq (by rw [List.getElem?_map, h]; rfl)
/-- where a face goes -/
theorem tJ_some {S : Spc} {o : List Nat} {ts : List Trn} {b g n : Nat} {t : Trn} (h : getJ S (tf o b) (tf (back (tsAt ts b)) g) = some (some (n, t))) : tJ S o ts b g = some (o.idxOf n, (back (tsAt ts b)).map fun c => tf (tsAt ts (o.idxOf n)) (tf t c)) := by
  unfold tJ
  rw [h]
  rfl
theorem tJ_none {S : Spc} {o : List Nat} {ts : List Trn} {b g : Nat} (h : getJ S (tf o b) (tf (back (tsAt ts b)) g) = some none) : tJ S o ts b g = none := by
  unfold tJ
  rw [h]
  rfl
theorem ren_get {S : Spc} {o : List Nat} {ts : List Trn} (hG : Good S) (hn : Names S.length o ts) {b g : Nat} (hb : b < S.length) (hg : g < 4) : ∃ j, getJ S (tf o b) (tf (back (tsAt ts b)) g) = some j ∧ getJ (renS S o ts) b g = some (renJ o ts (back (tsAt ts b)) j) := by
  obtain ⟨_, lo, _, mt⟩ := hn.at hb
  obtain ⟨j, hj⟩ := hG.l4.get (b := tf o b) (f := tf (back (tsAt ts b)) g) lo (backto mt hg).1
  refine ⟨j, hj, ?_⟩
  rw [getJ_ren hb hg mt]
  unfold tJ
  rw [hj]
  rfl
theorem good_ren {S : Spc} {o : List Nat} {ts : List Trn} (hG : Good S) (hn : Names S.length o ts) : Good (renS S o ts) := by
  refine ⟨renS_l4 hn, fun b g m u e => ?_⟩
  obtain ⟨hb, hg⟩ := (renS_l4 hn).of e
  rw [renS_len] at hb
  obtain ⟨j, hj, ej⟩ := ren_get hG hn hb hg
  obtain ⟨_, lo, _, mt⟩ := hn.at hb
  rw [ej] at e
  cases j with
  | none => cases e
  | some x =>
    obtain ⟨n, t⟩ := x
    obtain ⟨htm, hne, hbk⟩ := hG.both _ _ _ _ hj
    have nl := hG.lt hj
    obtain ⟨_, im⟩ := hn.idx nl
    obtain ⟨_, _, _, mtm⟩ := hn.at im
    have hbm := back_mem mt
    have e' := Option.some.inj (Option.some.inj e)
    injection e' with e1 e2
    rw [ren_turn hbm htm] at e2
    have c1 := cmp_turn _ hbm _ htm
    have c2 := cmp_turn _ c1.1 _ mtm
    subst e1 e2
    have f4 := (backto mt hg).1
    have eg : tf (cmp (cmp (back (tsAt ts b)) t) (tsAt ts (o.idxOf n))) g = tf (tsAt ts (o.idxOf n)) (tf t (tf (back (tsAt ts b)) g)) := by
      rw [tf_cmp c1.1 hg, tf_cmp hbm hg]
    have t4 := (there htm f4).1
    refine ⟨c2.1, fun z => ?_, ?_⟩
    · rw [eg] at z
      injection z with z1 z2
      refine hne (Prod.ext ?_ ?_)
      · show n = tf o b
        rw [← z1, hn.at_idx nl]
      · show tf t _ = _
        rw [z1] at z2
        have := (there mt t4).2
        rw [z2] at this
        exact this.symm
    · rw [eg]
      have hg2 := (there mtm t4).1
      rw [getJ_ren im hg2 mtm]
      have hx : getJ S (tf o (o.idxOf n)) (tf (back (tsAt ts (o.idxOf n))) (tf (tsAt ts (o.idxOf n)) (tf t (tf (back (tsAt ts b)) g)))) = some (some (tf o b, back t)) := by
        rw [hn.at_idx nl, (there mtm t4).2]
        exact hbk
      rw [tJ_some hx, hn.idx_at hb, ren_turn (back_mem mtm) (back_mem htm), c2.2, c1.2, back_back _ mt]
      rw [cmp_assoc (back_mem mtm) (back_mem htm)]
/-! ### renamed twice, renamed back -/
def bothT (ts : List Trn) (o2 : List Nat) (ts2 : List Trn) : List Trn := (List.range o2.length).map fun k => cmp (tsAt ts (tf o2 k)) (tsAt ts2 k)
theorem bothT_at {n : Nat} {o o2 : List Nat} {ts ts2 : List Trn} (h : Names n o ts) (h2 : Names n o2 ts2) {k : Nat} (hk : k < n) : tsAt (bothT ts o2 ts2) k = cmp (tsAt ts (tf o2 k)) (tsAt ts2 k) := by
  unfold bothT
  exact tsAt_map (by rw [List.getElem?_range (by rw [h2.lo]; exact hk)])
theorem names_both {n : Nat} {o o2 : List Nat} {ts ts2 : List Trn} (h : Names n o ts) (h2 : Names n o2 ts2) : Names n (o2.map (tf o)) (bothT ts o2 ts2) := by
  refine ⟨?_, by unfold bothT; rw [List.length_map, List.length_range, h2.lo], fun t ht => ?_⟩
  · have e : (List.range n).map (tf o) = o := by
      apply List.ext_getElem (by rw [List.length_map, List.length_range, h.lo])
      intro i h1 hi
      rw [List.getElem_map, List.getElem_range]
      exact tf_eq (List.getElem?_eq_getElem hi)
    refine (h2.o.map (tf o)).trans ?_
    rw [e]
    exact h.o
  · unfold bothT at ht
    obtain ⟨k, hk, rfl⟩ := List.mem_map.mp ht
    rw [List.mem_range, h2.lo] at hk
    obtain ⟨_, lo, _, m2⟩ := h2.at hk
    exact (cmp_turn _ (h.at lo).2.2.2 _ m2).1
theorem ren_ren {S : Spc} {o o2 : List Nat} {ts ts2 : List Trn} (hG : Good S) (h : Names S.length o ts) (h2 : Names S.length o2 ts2) : renS (renS S o ts) o2 ts2 = renS S (o2.map (tf o)) (bothT ts o2 ts2) := by
  have h3 := names_both h h2
  have h2' : Names (renS S o ts).length o2 ts2 := by rw [renS_len]; exact h2
  refine spc_ext (by rw [renS_len, renS_len, renS_len]) (renS_l4 h2') (renS_l4 h3) fun b g hb hg => ?_
  rw [renS_len, renS_len] at hb
  obtain ⟨e2, lo2, _, m2⟩ := h2.at hb
  obtain ⟨_, _, _, m1⟩ := h.at lo2
  obtain ⟨j3, hj3, ej3⟩ := ren_get hG h3 hb hg
  obtain ⟨j2, hj2, ej2⟩ := ren_get (good_ren hG h) h2' (by rw [renS_len]; exact hb) hg
  obtain ⟨j1, hj1, ej1⟩ := ren_get hG h lo2 (backto m2 hg).1
  rw [ej2, ej3]
  rw [ej1] at hj2
  have e12 := Option.some.inj hj2
  have hb3 := bothT_at h h2 hb
  have eo : tf (o2.map (tf o)) b = tf o (tf o2 b) := tf_mapat e2
  have cb := cmp_turn _ m1 _ m2
  rw [eo, hb3, cb.2, tf_cmp (back_mem m2) hg, hj1] at hj3
  have e13 := Option.some.inj hj3
  subst e13 e12
  rw [hb3, cb.2]
  cases j1 with
  | none => rfl
  | some x =>
    obtain ⟨n, t⟩ := x
    obtain ⟨nl, tm⟩ := hG.jokAt hj1 n t rfl
    obtain ⟨_, i1⟩ := h.idx nl
    obtain ⟨_, i2⟩ := h2.idx i1
    have ei : (o2.map (tf o)).idxOf n = o2.idxOf (o.idxOf n) := by
      have e4 : (o2.map (tf o))[o2.idxOf (o.idxOf n)]? = some n := by
        rw [List.getElem?_map, (h2.at i2).1, h2.at_idx i1]
        show some (tf o (o.idxOf n)) = some n
        rw [h.at_idx nl]
      have := h3.idx_at i2
      rw [tf_eq e4] at this
      exact this
    obtain ⟨_, _, _, mA⟩ := h.at i1
    obtain ⟨_, _, _, mB⟩ := h2.at i2
    show some (some (o2.idxOf (o.idxOf n), (back (tsAt ts2 b)).map fun c => tf (tsAt ts2 (o2.idxOf (o.idxOf n))) (tf ((back (tsAt ts (tf o2 b))).map fun c => tf (tsAt ts (o.idxOf n)) (tf t c)) c))) =
      some (some ((o2.map (tf o)).idxOf n, (cmp (back (tsAt ts2 b)) (back (tsAt ts (tf o2 b)))).map fun c => tf (tsAt (bothT ts o2 ts2) ((o2.map (tf o)).idxOf n)) (tf t c)))
    have c0 := cmp_turn _ (back_mem m2) _ (back_mem m1)
    have c1 := cmp_turn _ (back_mem m1) _ tm
    have c2 := cmp_turn _ c1.1 _ mA
    rw [ei, bothT_at h h2 i2, h2.at_idx i1, ren_turn (back_mem m1) tm, ren_turn (back_mem m2) c2.1, ren_turn c0.1 tm]
    rw [cmp_assoc (back_mem m2) c2.1, cmp_assoc c1.1 mA, cmp_assoc (back_mem m1) tm, ← cmp_assoc (back_mem m2) (back_mem m1), ← cmp_assoc c0.1 tm]
theorem ren_id {S : Spc} (hG : Good S) {ts : List Trn} (ht : ∀ k < S.length, tsAt ts k = idT) (l : ts.length = S.length) : renS S (List.range S.length) ts = S := by
  have hn : Names S.length (List.range S.length) ts := by
    refine ⟨.refl _, l, fun t h => ?_⟩
    obtain ⟨k, hk⟩ := List.mem_iff_getElem?.mp h
    have := ht k (by have := (List.getElem?_eq_some_iff.mp hk).1; omega)
    rw [tsAt_eq hk] at this
    rw [this]
    exact idT_turn.1
  refine spc_ext (renS_len _ _ _) (renS_l4 hn) hG.l4 fun b g hb hg => ?_
  rw [renS_len] at hb
  obtain ⟨j, hj, ej⟩ := ren_get hG hn hb hg
  have eb : tf (List.range S.length) b = b := tf_eq (List.getElem?_range hb)
  have id4 : ∀ c < 4, tf idT c = c := by decide
  rw [ht b hb, idT_turn.2] at hj ej
  rw [eb, id4 g hg] at hj
  rw [ej, hj]
  cases j with
  | none => rfl
  | some x =>
    obtain ⟨n, t⟩ := x
    obtain ⟨nl, tm⟩ := hG.jokAt hj n t rfl
    have ei : (List.range S.length).idxOf n = n := by
      have := hn.idx_at nl
      rw [tf_eq (List.getElem?_range nl)] at this
      exact this
    show some (some ((List.range S.length).idxOf n, idT.map fun c => tf (tsAt ts ((List.range S.length).idxOf n)) (tf t c))) = some (some (n, t))
    rw [ei, ht n nl, ren_turn idT_turn.1 tm, (cmp_id tm).2, (cmp_id tm).1]
def placesOf (n : Nat) (o : List Nat) : List Nat := (List.range n).map fun b => o.idxOf b
theorem places_at {n : Nat} {o : List Nat} {k : Nat} (hk : k < n) : (placesOf n o)[k]? = some (o.idxOf k) := by
  unfold placesOf
  rw [List.getElem?_map, List.getElem?_range hk]
  rfl
theorem names_back {n : Nat} {o : List Nat} {ts : List Trn} (h : Names n o ts) : Names n (placesOf n o) ((placesOf n o).map fun k => back (tsAt ts k)) := by
  have hl : (placesOf n o).length = n := by unfold placesOf; rw [List.length_map, List.length_range]
  refine ⟨?_, by rw [List.length_map, hl], fun t ht => ?_⟩
  · have e : (List.range n).map (fun k => o.idxOf (tf o k)) = List.range n := by
      conv => rhs; rw [← List.map_id (List.range n)]
      exact List.map_congr_left fun k hk => h.idx_at (List.mem_range.mp hk)
    have e2 : (List.range n).map (tf o) = o := by
      apply List.ext_getElem (by rw [List.length_map, List.length_range, h.lo])
      intro i h1 hi
      rw [List.getElem_map, List.getElem_range]
      exact tf_eq (List.getElem?_eq_getElem hi)
    have p1 : (placesOf n o).Perm (o.map fun b => o.idxOf b) := by
      unfold placesOf
      exact (h.o.symm).map _
    refine p1.trans ?_
    have e3 : (o.map fun b => o.idxOf b) = (List.range n).map (fun k => o.idxOf (tf o k)) := by
      conv => lhs; rw [← e2, List.map_map]
      rw [e2]
      rfl
    rw [e3, e]
  · obtain ⟨k, hk, rfl⟩ := List.mem_map.mp ht
    unfold placesOf at hk
    obtain ⟨b, hb, rfl⟩ := List.mem_map.mp hk
    exact back_mem (h.at (h.idx (List.mem_range.mp hb)).2).2.2.2
theorem ren_back {S : Spc} {o : List Nat} {ts : List Trn} (hG : Good S) (h : Names S.length o ts) : renS (renS S o ts) (placesOf S.length o) ((placesOf S.length o).map fun k => back (tsAt ts k)) = S := by
  have hb := names_back h
  rw [ren_ren hG h hb]
  have e1 : (placesOf S.length o).map (tf o) = List.range S.length := by
    unfold placesOf
    rw [List.map_map]
    conv => rhs; rw [← List.map_id (List.range S.length)]
    exact List.map_congr_left fun k hk => h.at_idx (List.mem_range.mp hk)
  rw [e1]
  refine ren_id hG (fun k hk => ?_) (by have := (names_both h hb).l; exact this)
  rw [bothT_at h hb hk, tsAt_map (places_at hk), tf_eq (places_at hk)]
  exact (cmp_back _ (h.at (h.idx hk).2).2.2.2).1
end Bk

namespace Bk
open PySem PySem.Spec PyProof.Rows L2 RZ
/-! ### parted, joined, beside: renamed -/
theorem Good.part {S : Spc} (h : Good S) {b f n : Nat} {t : Trn} (e : getJ S b f = some (some (n, t))) : Good (setJ (setJ S b f none) n (tf t f) none) := by
  obtain ⟨ht, hne, hbk⟩ := h.both _ _ _ _ e
  have hf := (h.l4.of e).2
  refine ⟨(h.l4.set _ _ _).set _ _ _, fun x y m u g => ?_⟩
  have G : ∀ x y, getJ (setJ (setJ S b f none) n (tf t f) none) x y = if x = n ∧ y = tf t f then (getJ S x y).map fun _ => none else if x = b ∧ y = f then (getJ S x y).map fun _ => none else getJ S x y := fun x y => by
    rw [getJ_set, getJ_set]
    by_cases c1 : x = n ∧ y = tf t f
    · rw [if_pos c1, if_pos c1]
      by_cases c2 : x = b ∧ y = f
      · exact absurd (Prod.ext (c1.1.symm.trans c2.1) (c1.2.symm.trans c2.2)) hne
      · rw [if_neg c2]
    · rw [if_neg c1, if_neg c1]
  rw [G] at g ⊢
  by_cases c1 : x = n ∧ y = tf t f
  · rw [if_pos c1] at g
    cases hz : getJ S x y with
    | none => rw [hz] at g; cases g
    | some z => rw [hz] at g; cases g
  · rw [if_neg c1] at g
    by_cases c2 : x = b ∧ y = f
    · rw [if_pos c2] at g
      cases hz : getJ S x y with
      | none => rw [hz] at g; cases g
      | some z => rw [hz] at g; cases g
    · rw [if_neg c2] at g
      obtain ⟨hu, q2, q3⟩ := h.both _ _ _ _ g
      have hy := (h.l4.of g).2
      refine ⟨hu, q2, ?_⟩
      rw [if_neg, if_neg]
      · exact q3
      · rintro ⟨rfl, hz⟩
        rw [hz, e] at q3
        have e2 := Option.some.inj (Option.some.inj q3)
        injection e2 with e2 e3
        refine c1 ⟨e2.symm, ?_⟩
        have := tf_back u hu y hy
        rw [hz, ← e3] at this
        exact this.symm
      · rintro ⟨rfl, hz⟩
        rw [hz, hbk] at q3
        have e2 := Option.some.inj (Option.some.inj q3)
        injection e2 with e2 e3
        refine c2 ⟨e2.symm, ?_⟩
        have e4 : t = u := by rw [← back_back t ht, e3, back_back u hu]
        subst e4
        have a1 := tf_back t ht y hy
        have a2 := tf_back t ht f hf
        rw [hz] at a1
        omega
/-- beside, as plain lists -/
def besS (S U : Spc) : Spc := S ++ shS S.length U
theorem shS_len (m : Nat) (S : Spc) : (shS m S).length = S.length := by
  unfold shS
  rw [List.length_map]
theorem besS_len (S U : Spc) : (besS S U).length = S.length + U.length := by
  unfold besS
  rw [List.length_append, shS_len]
theorem shS_shS (m k : Nat) (S : Spc) : shS m (shS k S) = shS (k + m) S := by
  unfold shS
  rw [List.map_map]
  refine List.map_congr_left fun b _ => ?_
  show shB m (shB k b) = shB (k + m) b
  unfold shB
  rw [List.map_map]
  refine List.map_congr_left fun j _ => ?_
  cases j with
  | none => rfl
  | some x =>
    obtain ⟨n, t⟩ := x
    show some (n + k + m, t) = some (n + (k + m), t)
    rw [Nat.add_assoc]
theorem shS_app (m : Nat) (S U : Spc) : shS m (S ++ U) = shS m S ++ shS m U := by
  unfold shS
  rw [List.map_append]
theorem besS_assoc (S U W : Spc) : besS (besS S U) W = besS S (besS U W) := by
  unfold besS
  rw [List.length_append, shS_len, shS_app, shS_shS, List.append_assoc, Nat.add_comm S.length]

def partS (S : Spc) (b f n : Nat) (t : Trn) : Spc := setJ (setJ S b f none) n (tf t f) none
theorem partS_len (S : Spc) (b f n : Nat) (t : Trn) : (partS S b f n t).length = S.length := by
  unfold partS
  rw [setJ_len, setJ_len]
theorem ren_set {S : Spc} {o : List Nat} {ts : List Trn} (h4 : L4 S) (hn : Names S.length o ts) {b f : Nat} {j : Jn} (hb : b < S.length) (hf : f < 4) :
    renS (setJ S b f j) o ts = setJ (renS S o ts) (o.idxOf b) (tf (tsAt ts (o.idxOf b)) f) (renJ o ts (back (tsAt ts (o.idxOf b))) j) := by
  have hn' : Names (setJ S b f j).length o ts := by rw [setJ_len]; exact hn
  refine spc_ext (by rw [renS_len, setJ_len, setJ_len, renS_len]) (renS_l4 hn') ((renS_l4 hn).set _ _ _) fun x g hx hg => ?_
  rw [renS_len, setJ_len] at hx
  obtain ⟨_, lo, _, mt⟩ := hn.at hx
  obtain ⟨_, ib⟩ := hn.idx hb
  obtain ⟨_, _, _, mb⟩ := hn.at ib
  obtain ⟨j0, hj0⟩ := h4.get (b := tf o x) (f := tf (back (tsAt ts x)) g) lo (backto mt hg).1
  rw [getJ_set, getJ_ren (by rw [setJ_len]; exact hx) hg mt, getJ_ren hx hg mt]
  unfold tJ
  rw [getJ_set, hj0]
  by_cases c : tf o x = b ∧ tf (back (tsAt ts x)) g = f
  · have c' : x = o.idxOf b ∧ g = tf (tsAt ts (o.idxOf b)) f := by
      have e1 : x = o.idxOf b := by rw [← c.1, hn.idx_at hx]
      refine ⟨e1, ?_⟩
      rw [← e1, ← c.2, (backto mt hg).2]
    rw [if_pos c, if_pos c', ← c'.1]
    rfl
  · have c' : ¬ (x = o.idxOf b ∧ g = tf (tsAt ts (o.idxOf b)) f) := fun z => c ⟨by rw [z.1, hn.at_idx hb], by rw [z.2, z.1, (there mb hf).2]⟩
    rw [if_neg c, if_neg c']
/-- the turn of a renamed joining -/
def inner (o : List Nat) (ts : List Trn) (b n : Nat) (t : Trn) : Trn := cmp (cmp (back (tsAt ts (o.idxOf b))) t) (tsAt ts (o.idxOf n))
theorem inner_turn {n0 : Nat} {o : List Nat} {ts : List Trn} (hn : Names n0 o ts) {b n f : Nat} {t : Trn} (hb : b < n0) (hnn : n < n0) (ht : t ∈ allTurns) (hf : f < 4) :
    inner o ts b n t ∈ allTurns ∧ tf (inner o ts b n t) (tf (tsAt ts (o.idxOf b)) f) = tf (tsAt ts (o.idxOf n)) (tf t f) ∧ back (inner o ts b n t) = inner o ts n b (back t) ∧ tf (tsAt ts (o.idxOf b)) f < 4 := by
  obtain ⟨_, _, _, mb⟩ := hn.at (hn.idx hb).2
  obtain ⟨_, _, _, mn⟩ := hn.at (hn.idx hnn).2
  have hbm := back_mem mb
  have c1 := cmp_turn _ hbm _ ht
  have c2 := cmp_turn _ c1.1 _ mn
  have th := there mb hf
  refine ⟨c2.1, ?_, ?_, th.1⟩
  · unfold inner
    rw [tf_cmp c1.1 th.1, tf_cmp hbm th.1, th.2]
  · unfold inner
    rw [c2.2, c1.2, back_back _ mb, cmp_assoc (back_mem mn) (back_mem ht)]
theorem renJ_inner {n0 : Nat} {o : List Nat} {ts : List Trn} (hn : Names n0 o ts) {b n : Nat} {t : Trn} (hb : b < n0) (ht : t ∈ allTurns) : renJ o ts (back (tsAt ts (o.idxOf b))) (some (n, t)) = some (o.idxOf n, inner o ts b n t) := by
  obtain ⟨_, _, _, mb⟩ := hn.at (hn.idx hb).2
  show some (o.idxOf n, _) = _
  rw [ren_turn (back_mem mb) ht]
  rfl
theorem ren_face {S : Spc} {o : List Nat} {ts : List Trn} (h4 : L4 S) (hn : Names S.length o ts) {b f : Nat} {j : Jn} (e : getJ S b f = some j) : getJ (renS S o ts) (o.idxOf b) (tf (tsAt ts (o.idxOf b)) f) = some (renJ o ts (back (tsAt ts (o.idxOf b))) j) := by
  obtain ⟨hb, hf⟩ := h4.of e
  obtain ⟨_, ib⟩ := hn.idx hb
  obtain ⟨_, _, _, mb⟩ := hn.at ib
  rw [getJ_ren ib (there mb hf).1 mb]
  unfold tJ
  rw [hn.at_idx hb, (there mb hf).2, e]
  rfl
theorem ren_part {S : Spc} {o : List Nat} {ts : List Trn} (hG : Good S) (hn : Names S.length o ts) {b f n : Nat} {t : Trn} (e : getJ S b f = some (some (n, t))) :
    renS (partS S b f n t) o ts = partS (renS S o ts) (o.idxOf b) (tf (tsAt ts (o.idxOf b)) f) (o.idxOf n) (inner o ts b n t) := by
  obtain ⟨hb, hf⟩ := hG.l4.of e
  obtain ⟨htm, _, _⟩ := hG.both _ _ _ _ e
  have nl := hG.lt e
  unfold partS
  rw [ren_set (hG.l4.set _ _ _) (by rw [setJ_len]; exact hn) (by rw [setJ_len]; exact nl) (tf_lt t htm f hf).1, ren_set hG.l4 hn hb hf, (inner_turn hn hb nl htm hf).2.1]
  rfl
theorem ren_join {S : Spc} {o : List Nat} {ts : List Trn} (hG : Good S) (hn : Names S.length o ts) {b f n : Nat} {t : Trn} (hb : b < S.length) (hf : f < 4) (nl : n < S.length) (htm : t ∈ allTurns) :
    renS (joinJ S b f n t) o ts = joinJ (renS S o ts) (o.idxOf b) (tf (tsAt ts (o.idxOf b)) f) (o.idxOf n) (inner o ts b n t) := by
  unfold joinJ
  rw [ren_set (hG.l4.set _ _ _) (by rw [setJ_len]; exact hn) (by rw [setJ_len]; exact nl) (tf_lt t htm f hf).1, ren_set hG.l4 hn hb hf, (inner_turn hn hb nl htm hf).2.1]
  rw [renJ_inner hn hb htm, renJ_inner hn nl (back_mem htm), (inner_turn hn hb nl htm hf).2.2.1]
theorem map_none {x : Option Jn} {j k : Jn} (h : x = some j) : (x.map fun _ => k) = some k := by
  rw [h]
  rfl
theorem join_part {S : Spc} (hG : Good S) {b f n : Nat} {t : Trn} (e : getJ S b f = some (some (n, t))) : joinJ (partS S b f n t) b f n t = S := by
  obtain ⟨htm, hne, hbk⟩ := hG.both _ _ _ _ e
  refine spc_ext (by rw [joinJ_len, partS_len]) ((((hG.l4.set _ _ _).set _ _ _).set _ _ _).set _ _ _) hG.l4 fun x g _ _ => ?_
  unfold joinJ partS
  rw [getJ_set, getJ_set, getJ_set, getJ_set]
  by_cases c1 : x = n ∧ g = tf t f
  · have c2 : ¬ (x = b ∧ g = f) := fun z => hne (Prod.ext (c1.1.symm.trans z.1) (c1.2.symm.trans z.2))
    rw [if_pos c1, if_neg c2, if_pos c1, if_neg c2, c1.1, c1.2, hbk]
    rfl
  · by_cases c2 : x = b ∧ g = f
    · rw [if_neg c1, if_pos c2, if_neg c1, if_pos c2, c2.1, c2.2, e]
      rfl
    · rw [if_neg c1, if_neg c2, if_neg c1, if_neg c2]
theorem part_join {S : Spc} (hG : Good S) {b f n : Nat} {t : Trn} (ht : t ∈ allTurns) (h1 : getJ S b f = some none) (h2 : getJ S n (tf t f) = some none) (hne : (n, tf t f) ≠ (b, f)) : partS (joinJ S b f n t) n (tf t f) b (back t) = S := by
  have hf := (hG.l4.of h1).2
  refine spc_ext (by rw [partS_len, joinJ_len]) ((((hG.l4.set _ _ _).set _ _ _).set _ _ _).set _ _ _) hG.l4 fun x g _ _ => ?_
  unfold joinJ partS
  rw [tf_back t ht f hf, getJ_set, getJ_set, getJ_set, getJ_set]
  by_cases c2 : x = b ∧ g = f
  · have c1 : ¬ (x = n ∧ g = tf t f) := fun z => hne (Prod.ext (z.1.symm.trans c2.1) (z.2.symm.trans c2.2))
    rw [if_pos c2, if_neg c1, if_neg c1, if_pos c2, c2.1, c2.2, h1]
    rfl
  · by_cases c1 : x = n ∧ g = tf t f
    · rw [if_neg c2, if_pos c1, if_pos c1, if_neg c2, c1.1, c1.2, h2]
      rfl
    · rw [if_neg c2, if_neg c1, if_neg c1, if_neg c2]
/-- two of unlike joinings at a face are not equal -/
theorem eqvAll_false : ∀ {xs ys : List PyData} {i : Nat} {x y : PyData}, xs[i]? = some x → ys[i]? = some y → PyData.eqv x y = false → PyData.eqvAll xs ys = false
  | [], _, i, x, y, h, _, _ => by simp at h
  | _ :: _, [], i, x, y, _, h, _ => by simp at h
  | a :: xs, b :: ys, 0, x, y, h1, h2, e => by
    have e1 : a = x := by simpa using h1
    have e2 : b = y := by simpa using h2
    subst e1 e2
    simp only [PyData.eqvAll, e, Bool.false_and]
  | a :: xs, b :: ys, i + 1, x, y, h1, h2, e => by
    have := eqvAll_false (xs := xs) (ys := ys) (i := i) (by simpa using h1) (by simpa using h2) e
    simp only [PyData.eqvAll, this, Bool.and_false]
theorem spc_unlike {S U : Spc} {b f n : Nat} {t : Trn} (h1 : getJ S b f = some none) (h2 : getJ U b f = some (some (n, t))) : PyData.eqv (shutD S) (shutD U) = false := by
  unfold getJ at h1 h2
  cases hs : S[b]? with
  | none => rw [hs] at h1; cases h1
  | some x =>
    cases hu : U[b]? with
    | none => rw [hu] at h2; cases h2
    | some y =>
      rw [hs] at h1
      rw [hu] at h2
      have h1' : x[f]? = some none := h1
      have h2' : y[f]? = some (some (n, t)) := h2
      simp only [shutD, PyData.eqv]
      refine eqvAll_false (i := b) (x := .tuple (x.map jD)) (y := .tuple (y.map jD)) (by rw [List.getElem?_map, hs]; rfl) (by rw [List.getElem?_map, hu]; rfl) ?_
      simp only [PyData.eqv]
      refine eqvAll_false (i := f) (x := .none) (y := jD (some (n, t))) (by rw [List.getElem?_map, h1']; rfl) (by rw [List.getElem?_map, h2']; rfl) ?_
      simp only [jD, PyData.eqv]
/-- two beside each other, the other way about -/
def otherWay (s u : Nat) : List Nat := (List.range s).map (fun k => u + k) ++ List.range u
theorem other_names (s u : Nat) : Names (u + s) (otherWay s u) (List.replicate (s + u) idT) := by
  refine ⟨?_, by rw [List.length_replicate]; omega, fun t h => by rw [List.eq_of_mem_replicate h]; exact idT_turn.1⟩
  have e : List.range (u + s) = List.range u ++ (List.range s).map (fun k => u + k) := List.range_add
  rw [e]
  exact List.perm_append_comm
theorem other_at {s u k : Nat} : (k < s → (otherWay s u)[k]? = some (u + k)) ∧ (∀ i, i < u → (otherWay s u)[s + i]? = some i) := by
  unfold otherWay
  constructor
  · intro h
    rw [List.getElem?_append_left (by rw [List.length_map, List.length_range]; exact h), List.getElem?_map, List.getElem?_range h]
    rfl
  · intro i h
    rw [List.getElem?_append_right (by rw [List.length_map, List.length_range]; omega), List.length_map, List.length_range, Nat.add_sub_cancel_left, List.getElem?_range h]
theorem ren_bes {S U : Spc} (hS : Good S) (hU : Good U) : renS (besS U S) (otherWay S.length U.length) (List.replicate (S.length + U.length) idT) = besS S U := by
  have lb := besS_len U S
  have hn : Names (besS U S).length (otherWay S.length U.length) (List.replicate (S.length + U.length) idT) := by
    rw [lb]
    exact other_names _ _
  have hG : Good (besS U S) := hU.twice hS
  have hG2 : Good (besS S U) := hS.twice hU
  have hts : ∀ k < S.length + U.length, tsAt (List.replicate (S.length + U.length) idT) k = idT := fun k hk => tsAt_eq (by rw [List.getElem?_replicate, if_pos hk])
  have id4 : ∀ c < 4, tf idT c = c := by decide
  have ridx : ∀ {n : Nat} {t : Trn}, n < (besS U S).length → t ∈ allTurns → renJ (otherWay S.length U.length) (List.replicate (S.length + U.length) idT) idT (some (n, t)) = some ((otherWay S.length U.length).idxOf n, t) := fun {n t} hnl ht => by
    show some (_, idT.map fun c => tf (tsAt _ _) (tf t c)) = _
    rw [hts _ (by have := (hn.idx hnl).2; rw [lb] at this; omega), ren_turn idT_turn.1 ht, (cmp_id ht).2, (cmp_id ht).1]
  refine spc_ext (by rw [renS_len, lb, besS_len]; omega) (renS_l4 hn) hG2.l4 fun b g hb hg => ?_
  rw [renS_len] at hb
  obtain ⟨j, hj, ej⟩ := ren_get hG hn hb hg
  rw [lb] at hb
  rw [hts b (by omega), idT_turn.2] at hj ej
  rw [id4 g hg] at hj
  rw [ej]
  by_cases c : b < S.length
  · rw [tf_eq (other_at.1 c)] at hj
    unfold besS at hj ⊢
    rw [getJ_right, getJ_sh] at hj
    rw [getJ_left c]
    cases hx : getJ S b g with
    | none => rw [hx] at hj; cases hj
    | some x =>
      rw [hx] at hj
      cases x with
      | none =>
        cases hj
        rfl
      | some y =>
        obtain ⟨n, t⟩ := y
        obtain ⟨nl, tm⟩ := hS.jokAt hx n t rfl
        cases hj
        have h1 := hn.idx_at (k := n) (by rw [lb]; omega)
        rw [tf_eq (other_at.1 nl)] at h1
        show some (renJ _ _ idT (some (n + U.length, t))) = _
        rw [ridx (by rw [lb]; omega) tm, Nat.add_comm n, h1]
  · obtain ⟨i, rfl⟩ : ∃ i, b = S.length + i := ⟨b - S.length, by omega⟩
    have hi : i < U.length := by omega
    rw [tf_eq ((other_at (k := 0)).2 i hi)] at hj
    unfold besS at hj ⊢
    rw [getJ_left hi] at hj
    rw [getJ_right, getJ_sh, hj]
    cases j with
    | none => rfl
    | some y =>
      obtain ⟨n, t⟩ := y
      obtain ⟨nl, tm⟩ := hU.jokAt hj n t rfl
      have h1 := hn.idx_at (k := S.length + n) (by rw [lb]; omega)
      rw [tf_eq ((other_at (k := 0)).2 n nl)] at h1
      show some (renJ _ _ idT (some (n, t))) = some (some (n + S.length, t))
      rw [ridx (by rw [lb]; omega) tm, h1, Nat.add_comm]
end Bk

namespace Bk
open PySem PySem.Spec PyProof.Rows L2 RZ
local macro_rules | `(tactic| walk_at "g") => `(tactic| (repeat first | refine ⟨_, rfl, ?_⟩ | refine ⟨cpow, ?_⟩ | refine ⟨wideM, ?_⟩ | refine ⟨_, _, rfl, rfl, ?_⟩ | refine ⟨rfl, ?_⟩))
section
variable {X : Cx} (K : PySem.W.Frag)
/-- t + u, neither empty -/
def rCatF (K : PySem.W.Frag) : R2 := fun x y H Q => ∃ a b xs ys, x = .ref a ∧ y = .ref b ∧ SqT K H a xs ∧ SqT K H b ys ∧ xs ≠ [] ∧ ys ≠ [] ∧ xs.length + ys.length ≤ sizeLine ∧ ∀ p o, H p = none → o.dict = none → Q (.ref p) (upd H p (.frz o (.tup (xs ++ ys))))
theorem kCatF (h : X.K = K) : OpR X (binaryOp .Add) (rCatF K) := by
  subst h
  rintro pins s σ H x y v u Q I rx ry ⟨a, b, xs, ys, rfl, rfl, ha, hb, hx, hy, hz, q⟩
  cases rx
  cases ry
  obtain ⟨us, r1, p1, _⟩ := I.tuple ha
  obtain ⟨ws, r2, p2, _⟩ := I.tuple hb
  refine HT.cat_tup p1 p2 (fun z => hx (r1.nil_iff.mp z)) (fun z => absurd (r2.nil_iff.mp z) hy) (fun _ => ?_) (by rw [← r1.length, ← r2.length]; exact hz)
  have g : (s.heap.push { cls := .type "tuple", data := .seq (us ++ ws).toArray }).get? s.heap.objs.size = some { cls := .type "tuple", data := .seq (us ++ ws).toArray } := Heap.get?_push_size _ rfl
  exact ⟨.ref s.heap.objs.size, _, I.laid (t' := s.toks) (o := .frz { cls := .type "tuple", data := .seq (us ++ ws).toArray } (.tup (xs ++ ys))) (fun _ _ z => Heap.get?_push_of_some _ z) (Nat.le_refl _) ⟨g, by rw [List.length_append]; exact hz, _, r1.append r2, ⟨_, g, rfl, _, rfl⟩⟩, rfl, q _ _ (I.hok.fresh (Nat.le_refl _)) rfl⟩
end
section
variable {P : Program} {w : World} {K : PySem.W.Frag} {mg : Str → Option Value} {base : Heap}
/-! ### _block_behind -/
abbrev s_block_behind : Stmt := topS 21
abbrev N_block_behind : List Str := ["block", "many", "joining"]
theorem sc_block_behind : FnScope N_block_behind ["block", "many"] (defScope s_block_behind) := ⟨rfl, rfl, rfl, by decide +kernel, rfl, by decide +kernel, by decide +kernel⟩
def spBehind : Sp := fun vs H Q _ => ∃ (v : V) (b : Blk) (m : Nat), vs = [v, intV m] ∧ BT H v b ∧ b.length ≤ 100 ∧ ∀ H' v', Same H H' → BT H' v' (shB m b) → Q v' H'
theorem ok_block_behind {f : Addr} {fd : FuncData} (F : Fun K "_block_behind" "_block_behind" s_block_behind f fd) (m_tuple : mg "tuple" = none) : FnOk P w K mg base CX0 1 f fd ["block", "many"] spBehind := by
  refine F.ok sc_block_behind (fun vs H Q E h => ?_) (fun cdv A outer s H vs Q E hr h => ?_)
  · obtain ⟨v, b, m, rfl, _⟩ := h
    rfl
  · obtain ⟨v, b, m, rfl, ⟨p, vs, rfl, fp, hv⟩, hl, q⟩ := h
    have nd := sc_block_behind.nd
    refine ⟨_, (pss_one (ps_ret (pe_callTy (kTupleF K rfl) (by rfl) m_tuple (by decide +kernel) (pa_cons (pe_lc (own := [("joining", 2)]) (g := gName 2) (tt := tYes) rfl nd (kPiT K rfl (pi_tup (pv 0))) (blkOk_by (own := [("joining", 2)]) (N := N_block_behind) (sc := defScope s_block_behind) (by decide +kernel)) (fun _ _ _ _ _ => (pg_name (i := 2) nd rfl (Or.inl rfl))) (fun _ _ _ _ _ => pts_nil) (fun _ _ _ _ _ => (pe_ifExp (pt_cmpR op_isN (pv 2) pe_non (nomark _)) pe_non (pe_tupF (pa_cons (pe_op op_add (pe_ix (kIxT K rfl) (pv 2) pe_int (fun _ _ => rfl)) (pv 1)) (pa_cons (pe_ix (kIxT K rfl) (pv 2) pe_int (fun _ _ => rfl)) pa_nil)))))) pa_nil)))), ?_⟩
    refine ⟨.ref p, rfl, p, rfl, ⟨_, fp.sqt⟩, fun D nD => ?_⟩
    refine lc_tup (xs := vs) (fun k H1 => ∃ ws, H1 D = some (.lst ws) ∧ Paired (JAt H1) ws ((shB m b).take k) ∧ Same H H1) ⟨[], upd_same, .nil, same_new nD⟩ ?_ ?_ ?_
    · rintro k H1 _ ⟨ws, h1, t1, s1⟩
      exact (fp.mono s1.tups).sqt
    · rintro k v H1 hvk ⟨ws, h1, t1, s1⟩
      obtain ⟨j, hj, jv⟩ := pget' hv hvk
      have jv1 := jv.mono s1.tups
      have hk : k < b.length := (List.getElem?_eq_some_iff.mp hj).1
      have lw : ws.length < sizeLine := small1000 (by rw [plen t1, List.length_take]; omega)
      have ej : (shB m b)[k]? = some (shJ m j) := by
        unfold shB
        rw [List.getElem?_map, hj]
        rfl
      refine ⟨rfl, v, rfl, rfl, ?_⟩
      rw [jv1.isN]
      refine ⟨_, rfl, ?_⟩
      cases j with
      | none =>
        refine iteT ⟨ws, h1, lw, ws ++ [.non], upd_same, ?_, same_fill s1 nD⟩
        rw [List.take_add_one, ej]
        exact papp (pmono t1 fun _ _ z => z.mono (tups_set h1)) (.cons rfl .nil)
      | some nt =>
        obtain ⟨n, t⟩ := nt
        obtain ⟨pj, pq, rfl, f1, f2⟩ := jv1
        refine iteF ?_
        refine ⟨.ref pj, rfl, pj, _, 0, intV n, rfl, rfl, f1.sqt, rfl, intV m, rfl, n, m, rfl, rfl, .ref pj, rfl, pj, _, 1, .ref pq, rfl, rfl, f1.sqt, rfl, Nat.le_of_lt (small1000 (by show 2 ≤ 1000; decide)), fun p4 o4 np4 d4 => ?_⟩
        have s4 : Same H1 (upd H1 p4 (.frz o4 (.tup [.int ((n : Int) + (m : Int)), .ref pq]))) := same_new np4
        have j4 : JAt (upd H1 p4 (.frz o4 (.tup [.int ((n : Int) + (m : Int)), .ref pq]))) (.ref p4) (shJ m (some (n, t))) := JAt.sh (q := pq) ⟨o4, d4, by
          rw [show (intV (n + m) : V) = .int ((n : Int) + (m : Int)) from congrArg V.int (by omega)]
          exact upd_same⟩ (f2.mono s4.tups)
        have h4 := s4 _ _ h1
        refine ⟨ws, h4, lw, ws ++ [.ref p4], upd_same, ?_, same_fill (s1.trans s4) nD⟩
        rw [List.take_add_one, ej]
        exact papp (pmono t1 fun _ _ z => z.mono (s4.tups.trans (tups_set h4))) (.cons (j4.mono (tups_set h4)) .nil)
    · rintro H1 ⟨ws, h1, t1, s1⟩
      have lvs : vs.length = (shB m b).length := by
        unfold shB
        rw [List.length_map]
        exact plen hv
      rw [lvs, List.take_length] at t1
      refine ⟨D, ws, rfl, .inl ⟨.inl (.inl h1), fun p2 o2 np2 d2 => ?_⟩⟩
      exact q _ _ (s1.trans (same_new np2)) ⟨p2, ws, rfl, FT.new d2, pmono t1 fun _ _ z => z.mono (same_new np2).tups⟩
/-! ### beside -/
abbrev sbeside : Stmt := topS 20
abbrev Nbeside : List Str := ["one", "other", "first", "block"]
theorem scbeside : FnScope Nbeside ["one", "other"] (defScope sbeside) := ⟨rfl, rfl, rfl, by decide +kernel, rfl, by decide +kernel, by decide +kernel⟩
def spBeside : Sp := fun vs H Q _ => ∃ (N1 N2 : Addr → Prop) (v1 v2 : V) (d1 d2 : PyData) (S U : Spc), vs = [v1, v2] ∧ Dq N1 H v1 d1 ∧ Dq N2 H v2 d2 ∧ norm d1 = nS S ∧ norm d2 = nS U ∧ Good S ∧ Good U ∧ 1 ≤ S.length ∧ 1 ≤ U.length ∧ S.length ≤ 100 ∧ U.length ≤ 100 ∧
  ∀ H' v', Same H H' → ST H' v' (besS S U) → Q v' H'
theorem okbeside {f fX fB : Addr} {fd fdX fdB : FuncData} (F : Fun K "beside" "beside" sbeside f fd) (Fspace_of : Fun K "space_of" "space_of" sspace_of fX fdX) (gspace_of : mg "space_of" = some (.ref fX)) (bspace_of : Binds K fdX ["blocks"] []) (Gspace_of : FnOk P w K mg base CX0 6 fX fdX ["blocks"] spSpace)
    (F_block_behind : Fun K "_block_behind" "_block_behind" s_block_behind fB fdB) (g_block_behind : mg "_block_behind" = some (.ref fB)) (b_block_behind : Binds K fdB ["block", "many"] []) (G_block_behind : FnOk P w K mg base CX0 1 fB fdB ["block", "many"] spBehind)
    (m_len : mg "len" = none) (m_tuple : mg "tuple" = none) : FnOk P w K mg base CX0 7 f fd ["one", "other"] spBeside := by
  refine F.ok scbeside (fun vs H Q E h => ?_) (fun cdv A outer s H vs Q E hr h => ?_)
  · obtain ⟨N1, N2, v1, v2, d1, d2, S, U, rfl, _⟩ := h
    rfl
  · obtain ⟨N1, N2, v1, v2, d1, d2, S, U, rfl, hd1, hd2, n1, n2, hG1, hG2, a1, a2, a3, a4, q⟩ := h
    have nd := scbeside.nd
    refine ⟨_, (pss_cons (ps_set (i := 2) nd rfl (.inr rfl) (pe_call Gspace_of (hr.mono (by first | decide | omega)) (by rfl) gspace_of Fspace_of.kp bspace_of .nil pass0 (pa_cons (pv 0) pa_nil)))
      (pss_one (ps_ret (pe_op (kCatF K rfl) (pv 2) (pe_callTy (kTupleF K rfl) (by rfl) m_tuple (by decide +kernel) (pa_cons (pe_lc (own := [("block", 3)]) (g := gName 3) (tt := tYes) rfl nd (kPiT K rfl (pi_tup (pe_call Gspace_of (hr.mono (by first | decide | omega)) (by rfl) gspace_of Fspace_of.kp bspace_of .nil pass0 (pa_cons (pv 1) pa_nil)))) (blkOk_by (own := [("block", 3)]) (N := Nbeside) (sc := defScope sbeside) (by decide +kernel)) (fun _ _ _ _ _ => (pg_name (i := 3) nd rfl (Or.inl rfl))) (fun _ _ _ _ _ => pts_nil) (fun _ _ _ _ _ => (pe_call G_block_behind (hr.mono (by first | decide | omega)) (by rfl) g_block_behind F_block_behind.kp b_block_behind .nil pass0 (pa_cons (pv 3) (pa_cons (pe_callB (kLen K rfl) (by rfl) m_len (by decide +kernel) (pa_cons (pv 2) pa_nil)) pa_nil))))) pa_nil)))))), ?_⟩
    refine ⟨v1, rfl, N1, v1, d1, S, rfl, hd1, n1, hG1, a1, a3, fun H1 u1 s1 st1 => ?_⟩
    refine ⟨u1, rfl, v2, rfl, N2, v2, d2, U, rfl, hd2.same s1, n2, hG2, a2, a4, fun H2 u2 s2 st2 => ?_⟩
    have st12 := st1.mono s2.tups
    obtain ⟨p1, r1, rfl, f1, b1⟩ := st12
    obtain ⟨p2, r2, rfl, f2, b2⟩ := st2
    have l1 : r1.length = S.length := plen b1
    have l2 : r2.length = U.length := plen b2
    refine ⟨p2, rfl, ⟨_, f2.sqt⟩, fun D nD => ?_⟩
    refine lc_tup (xs := r2) (fun k H3 => ∃ ws, H3 D = some (.lst ws) ∧ Paired (BT H3) ws ((shS S.length U).take k) ∧ Same H2 H3) ⟨[], upd_same, .nil, same_new nD⟩ ?_ ?_ ?_
    · rintro k H3 _ ⟨ws, h3, t3, s3⟩
      exact (f2.mono s3.tups).sqt
    · rintro k x H3 hx ⟨ws, h3, t3, s3⟩
      obtain ⟨b, hb, bx⟩ := pget' b2 hx
      have hk : k < U.length := (List.getElem?_eq_some_iff.mp hb).1
      have eb : (shS S.length U)[k]? = some (shB S.length b) := by
        unfold shS
        rw [List.getElem?_map, hb]
        rfl
      refine ⟨rfl, x, rfl, .ref p1, rfl, p1, r1, rfl, .inr (f1.mono s3.tups).sqt, x, b, S.length, (by rw [l1]; rfl), bx.mono s3.tups, by rw [hG2.l4 b (List.mem_of_getElem? hb)]; omega, fun H4 v4 s4 b4 => ?_⟩
      have h4 := s4 _ _ h3
      refine ⟨ws, h4, small1000 (by rw [plen t3, List.length_take]; omega), ws ++ [v4], upd_same, ?_, same_fill (s3.trans s4) nD⟩
      rw [List.take_add_one, eb]
      exact papp (pmono t3 fun _ _ z => z.mono (s4.tups.trans (tups_set h4))) (.cons (b4.mono (tups_set h4)) .nil)
    · rintro H3 ⟨ws, h3, t3, s3⟩
      rw [l2, ← shS_len S.length U, List.take_length] at t3
      have lw : ws.length = U.length := by rw [plen t3, shS_len]
      refine ⟨D, ws, rfl, .inl ⟨.inl (.inl h3), fun p3 o3 np3 d3 => ?_⟩⟩
      have s4 : Same H3 (upd H3 p3 (.frz o3 (.tup ws))) := same_new np3
      have f3 : FT (upd H3 p3 (.frz o3 (.tup ws))) p3 ws := FT.new d3
      generalize upd H3 p3 (.frz o3 (.tup ws)) = H4 at s4 f3 ⊢
      have f14 := f1.mono (s3.trans s4).tups
      refine ⟨p1, p3, r1, ws, rfl, rfl, f14.sqt, f3.sqt, fun z => by rw [z] at l1; simp at l1; omega, fun z => by rw [z] at lw; simp at lw; omega, Nat.le_of_lt (small1000 (by omega)), fun p5 o5 np5 d5 => ?_⟩
      have s5 : Same H4 (upd H4 p5 (.frz o5 (.tup (r1 ++ ws)))) := same_new np5
      refine q _ _ ((((s1.trans s2).trans s3).trans s4).trans s5) ⟨p5, r1 ++ ws, rfl, FT.new d5, papp (pmono b1 fun _ _ z => z.mono ((s3.trans s4).trans s5).tups) (pmono t3 fun _ _ z => z.mono (s4.trans s5).tups)⟩
end
end Bk

namespace Bk
open PySem PySem.Spec PyProof.Rows L2 RZ
local macro_rules | `(tactic| walk_at "g") => `(tactic| (repeat first | refine ⟨_, rfl, ?_⟩ | refine ⟨cpow, ?_⟩ | refine ⟨wideM, ?_⟩ | refine ⟨_, _, rfl, rfl, ?_⟩ | refine ⟨rfl, ?_⟩))
section
variable {P : Program} {w : World} {K : PySem.W.Frag} {mg : Str → Option Value} {base : Heap}
/-! ### parted -/
abbrev sparted : Stmt := topS 19
abbrev Nparted : List Str := ["space", "block", "face", "whole", "other", "turn"]
theorem scparted : FnScope Nparted ["space", "block", "face"] (defScope sparted) := ⟨rfl, rfl, rfl, by decide +kernel, rfl, by decide +kernel, by decide +kernel⟩
def spParted : Sp := fun vs H Q _ => ∃ (N : Addr → Prop) (v : V) (d : PyData) (S : Spc) (b f n : Nat) (t : Trn), vs = [v, intV b, intV f] ∧ Dq N H v d ∧ norm d = nS S ∧ Good S ∧ S.length ≤ 60 ∧ getJ S b f = some (some (n, t)) ∧ ∀ H' v', Same H H' → ST H' v' (partS S b f n t) → Q v' H'
theorem okparted {f fX fF fP : Addr} {fd fdX fdF fdP : FuncData} (F : Fun K "parted" "parted" sparted f fd)
    (Fspace_of : Fun K "space_of" "space_of" sspace_of fX fdX) (gspace_of : mg "space_of" = some (.ref fX)) (bspace_of : Binds K fdX ["blocks"] []) (Gspace_of : FnOk P w K mg base CX0 6 fX fdX ["blocks"] spSpace)
    (F_is_face : Fun K "_is_face" "_is_face" s_is_face fF fdF) (g_is_face : mg "_is_face" = some (.ref fF)) (b_is_face : Binds K fdF ["space", "block", "face"] []) (G_is_face : FnOk P w K mg base CX0 3 fF fdF ["space", "block", "face"] spIsFace)
    (F_put : Fun K "_put" "_put" s_put fP fdP) (g_put : mg "_put" = some (.ref fP)) (b_put : Binds K fdP ["space", "changes"] []) (G_put : FnOk P w K mg base CX0 1 fP fdP ["space", "changes"] spPut) : FnOk P w K mg base CX0 7 f fd ["space", "block", "face"] spParted := by
  refine F.ok scparted (fun vs H Q E h => ?_) (fun cdv A outer s H vs Q E hr h => ?_)
  · obtain ⟨N, v, d, S, b, f, n, t, rfl, _⟩ := h
    rfl
  · obtain ⟨N, v, d, S, b, f, n, t, rfl, hd, hn, hG, hz, g1, q⟩ := h
    have nd := scparted.nd
    refine ⟨_, (pss_cons (ps_set (i := 3) nd rfl (.inl rfl) (pe_call Gspace_of (hr.mono (by first | decide | omega)) (by rfl) gspace_of Fspace_of.kp bspace_of .nil pass0 (pa_cons (pv 0) pa_nil)))
      (pss_cons (ps_if (pt_not (pt_val (pe_call G_is_face (hr.mono (by first | decide | omega)) (by rfl) g_is_face F_is_face.kp b_is_face .nil pass0 (pa_cons (pv 3) (pa_cons (pv 1) (pa_cons (pv 2) pa_nil)))))) (pss_one ps_never) pss_nil)
      (pss_cons (ps_if (pt_cmpR op_isN (pe_ix (kIxT K rfl) (pe_ix (kIxT K rfl) (pv 3) (pv 1) (fun _ _ => rfl)) (pv 2) (fun _ _ => rfl)) pe_non (nomark _)) (pss_one ps_never) pss_nil)
      (pss_cons (ps_asg (pe_ix (kIxT K rfl) (pe_ix (kIxT K rfl) (pv 3) (pv 1) (fun _ _ => rfl)) (pv 2) (fun _ _ => rfl)) (kPgT K rfl (pg_tup (n := 2) rfl (pgs_cons (pg_name (i := 4) nd rfl (.inl rfl)) (pgs_cons (pg_name (i := 5) nd rfl (.inl rfl)) pgs_nil)))))
      (pss_one (ps_ret (pe_call G_put (hr.mono (by first | decide | omega)) (by rfl) g_put F_put.kp b_put .nil pass0 (pa_cons (pv 3) (pa_cons (pe_lst (pa_cons (pe_tupF (pa_cons (pv 1) (pa_cons (pv 2) (pa_cons pe_non pa_nil)))) (pa_cons (pe_tupF (pa_cons (pv 4) (pa_cons (pe_ix (kIxT K rfl) (pv 5) (pv 2) (fun _ _ => rfl)) (pa_cons pe_non pa_nil)))) pa_nil))) pa_nil))))))))), ?_⟩
    have lb := hG.l4.of g1
    obtain ⟨htm, hne, g2⟩ := hG.both _ _ _ _ g1
    have ln := hG.l4.of g2
    have htf := tf_lt t htm f lb.2
    refine ⟨v, rfl, N, v, d, S, rfl, hd, hn, hG, by omega, by omega, fun H1 u s1 st1 => ?_⟩
    obtain ⟨p, rs, pb, vb, x, rfl, f1, k1, f2, k2, jx⟩ := st1.face g1
    refine ⟨.ref p, rfl, intV b, rfl, intV f, rfl, .ref p, S, b, f, rfl, st1, lb.1, lb.2, _, rfl, iteF ?_⟩
    refine ⟨.ref p, rfl, intV b, rfl, p, rs, b, .ref pb, rfl, rfl, f1.sqt, atI_nat k1, intV f, rfl, pb, vb, f, x, rfl, rfl, f2.sqt, atI_nat k2, rfl, ?_⟩
    rw [jx.isN]
    refine ⟨_, rfl, iteF ?_⟩
    obtain ⟨pj, pq, rfl, f3, f4⟩ := jx
    refine ⟨.ref p, rfl, intV b, rfl, p, rs, b, .ref pb, rfl, rfl, f1.sqt, atI_nat k1, intV f, rfl, pb, vb, f, .ref pj, rfl, rfl, f2.sqt, atI_nat k2, ?_⟩
    refine ⟨pj, _, rfl, f3.sqt, rfl, _, _, rfl, _, _, rfl, rfl, ?_⟩
    refine ⟨.ref p, rfl, intV b, rfl, intV f, rfl, Nat.le_of_lt (small1000 (by show 3 ≤ 1000; decide)), fun p4 o4 np4 d4 => ?_⟩
    have s7 : Same H1 (upd H1 p4 (.frz o4 (.tup [intV b, intV f, .non]))) := same_new np4
    have c7 : CAt (upd H1 p4 (.frz o4 (.tup [intV b, intV f, .non]))) (.ref p4) (b, f, none) := ⟨p4, _, rfl, FT.new d4, rfl⟩
    generalize upd H1 p4 (.frz o4 (.tup [intV b, intV f, .non])) = H7 at s7 c7 ⊢
    refine ⟨intV n, rfl, .ref pq, rfl, intV f, rfl, pq, trnV t, f, intV (tf t f), rfl, rfl, (f4.mono s7.tups).sqt, atI_nat (by unfold trnV; rw [List.getElem?_map, htf.2]; rfl), Nat.le_of_lt (small1000 (by show 3 ≤ 1000; decide)), fun p6 o6 np6 d6 => ?_⟩
    have s10 : Same H7 (upd H7 p6 (.frz o6 (.tup [intV n, intV (tf t f), .non]))) := same_new np6
    have c10 : CAt (upd H7 p6 (.frz o6 (.tup [intV n, intV (tf t f), .non]))) (.ref p6) (n, tf t f, none) := ⟨p6, _, rfl, FT.new d6, rfl⟩
    generalize upd H7 p6 (.frz o6 (.tup [intV n, intV (tf t f), .non])) = H10 at s10 c10 ⊢
    refine ⟨Nat.le_of_lt (small1000 (by show 2 ≤ 1000; decide)), fun l nl => ?_⟩
    have s11 : Same H10 (upd H10 l (.lst [.ref p4, .ref p6])) := same_new nl
    have h11 : (upd H10 l (.lst [.ref p4, .ref p6])) l = some (.lst [.ref p4, .ref p6]) := upd_same
    generalize upd H10 l (.lst [.ref p4, .ref p6]) = H11 at s11 h11 ⊢
    have s111 := (s7.trans s10).trans s11
    refine ⟨.ref p, l, _, S, [(b, f, none), (n, tf t f, none)], rfl, st1.mono s111.tups, h11, .cons (c7.mono (s10.trans s11).tups) (.cons (c10.mono s11.tups) .nil), hG.l4, by omega, fun c hc => ?_, fun H' v' s' st' => q H' v' ((s1.trans s111).trans s') st'⟩
    rcases List.mem_cons.mp hc with rfl | hc
    · exact lb
    rw [List.mem_singleton.mp hc]
    exact ln
end
end Bk

/-! sorted(x), x a text. -/
namespace Bk
open PySem PySem.Spec PyProof.Rows L2 TL
def charsOf (x : Str) : List Str := (tl x).map fun c => (⟨#[c]⟩ : Str)
theorem chars_are {x : Str} {acc : Array Value} (h : ItemsOf (SignAt x) acc x.cps.size) : StrsAre acc.toList (charsOf x) := by
  obtain ⟨hz, hv⟩ := h
  have lv : acc.toList.length = (tl x).length := by
    rw [Array.length_toList, hz]
    rfl
  have go : ∀ (l : List Nat) (us : List Value), us.length = l.length → (∀ (j : Nat) (v : Value), us[j]? = some v → ∃ (c : Nat) (t : Tok), l[j]? = some c ∧ v = Value.str ⟨#[c]⟩ t) → Vals ((l.map fun c => (⟨#[c]⟩ : Str)).map V.str) us := by
    intro l
    induction l with
    | nil =>
      intro us e _
      have : us = [] := List.length_eq_zero_iff.mp e
      subst this
      exact .nil
    | cons c l ih =>
      intro us e hu
      cases us with
      | nil => cases e
      | cons u us =>
        obtain ⟨c', t, h1, rfl⟩ := hu 0 u rfl
        have e1 : c = c' := by simpa using h1
        subst e1
        exact .cons ⟨t, rfl⟩ (ih us (by simpa using e) fun j v hj => by
          obtain ⟨c'', t', h2, h3⟩ := hu (j + 1) v (by simpa using hj)
          exact ⟨c'', t', by simpa using h2, h3⟩)
  refine strs_of_vals (go (tl x) acc.toList lv fun j v hj => ?_)
  obtain ⟨c, t, h1, h2⟩ := hv j v (by simpa using hj)
  exact ⟨c, t, by simpa [tl] using h1, h2⟩
section
variable {P : Program} {w : World} {A : Around} {E : Value → Shared → Prop} {s : Shared}
theorem sorted_text (hh : A.handled = none) (x : Str) (t : Tok) {Q : Value → Shared → Prop} (h64 : x.length < 64)
    (hQ : ∀ s' p (out : Array Value) (c : Nat) (ys : List Str), (∀ b o, s.heap.get? b = some o → s'.heap.get? b = some o) → s'.gens = s.gens → s'.os = s.os → s.heap.get? p = none → s'.heap.get? p = some (seqObj "list" out c) → StrsAre out.toList ys → ys.Perm (charsOf x) → sortedS ys = true → Q (.ref p) s') :
    wpAny (model P w) A (call (.builtin "sorted") [.str x t]) Q E s := by
  have short : x.cps.size < 64 := h64
  refine Calls.call_function_entry kind_sorted plain_sorted entry_sorted (args_sorted1 _) (show wpAny _ _ (Builtin.«sorted» _) _ _ _ from ?_)
  unfold Builtin.«sorted»
  refine wpAny_bind (m := checkCount "sorted" 1 1 _) (wpAny_pure (wpAny_bind (wpAny_collect_str (A := A.in1) hh x t (fun s1 acc k1 g1 _ o1 items => ?_) (by rw [sizeLine_eq]; omega))))
  have hS := chars_are items
  have lv : acc.toList.length < 64 := by
    rw [Array.length_toList, items.1]
    exact short
  refine wpAny_bind (wpAny_newList ?_ (by rw [sizeLine_eq]; omega))
  have laid : (s1.heap.push (seqObj "list" acc.toList.toArray 0)).get? s1.heap.objs.size = some (seqObj "list" acc.toList.toArray 0) := Heap.get?_push_size _ rfl
  refine wpAny_bind (wpAny_holding (wpAny_call_entry slot_list_sort ⟨_, laid, rfl⟩ entry_list_sort (list_sort_treeK strKind_oneLt laid hS.keysOf (fun v₁ v₂ rest e => keyKind_strs (by rw [← e]; exact hS)) lv fun st' pm so => ⟨_, rfl, ?_⟩) (args_list_sort _)))
  obtain ⟨ys, y1, y2, y3⟩ := sorted_out_str hS pm so
  obtain ⟨c, hc⟩ := sortedHeap_at (vs := acc.toList) (out := (arrOf st').map (·.2)) laid
  refine wpAny_pure ⟨_, rfl, hQ _ s1.heap.objs.size _ c ys (fun b u e => ?_) g1 o1 ?_ hc y1 y2 y3⟩
  · have q := k1 b u e
    have lt := Heap.lt_size q
    refine (sortedHeap_old (Nat.ne_of_lt lt) (Nat.lt_of_lt_of_le lt (by rw [size_push']; exact Nat.le_succ _))).trans ?_
    exact Heap.get?_push_of_some _ q
  · cases e : s.heap.get? s1.heap.objs.size with
    | none => rfl
    | some o => exact absurd (Heap.lt_size (k1 _ _ e)) (Nat.lt_irrefl _)
end
/-- sorted(x): a new list of x's signs, from the least on -/
def rSortTxt : List V → Hp → VK → Prop := fun vs H Q => ∃ x : Str, vs = [.str x] ∧ x.length < 64 ∧ ∀ (ys : List Str) (p : Addr), ys.Perm (charsOf x) → sortedS ys = true → H p = none → Q (.ref p) (upd H p (.lst (ys.map V.str)))
theorem cr_sortTxt {X : Cx} (hc : X.calm = true) : CallR X (.builtin "sorted") rSortTxt := by
  rintro pins s σ H vs us Q I r ⟨x, rfl, h64, q⟩
  obtain ⟨u, rfl, t, rfl⟩ := r.one
  refine sorted_text (I.ok.hd hc) x t h64 fun s' p out c ys k g o hp at_ hS pm so => ?_
  have nH : H p = none := I.hok.gone hp
  have ln : (ys.map V.str).length ≤ sizeLine := by
    rw [List.length_map, pm.length_eq, charsOf, List.length_map, ← len_tl, sizeLine_eq]
    omega
  have J : Inv X pins σ (upd H p (.lst (ys.map V.str))) s' := I.call' (ch := []) o (Un.laidN k hp nH) (I.hok.laidN k nH ⟨ln, out.toList, c, vals_of_strs hS, by simpa using at_⟩) (by rw [g]; exact I.bare) (fun _ z => nomatch z)
  exact ⟨.ref p, _, J, rfl, q ys p pm so nH⟩
end Bk

namespace Bk
open PySem PySem.Spec PyProof.Rows L2
local macro_rules | `(tactic| walk_at "g") => `(tactic| (repeat first | refine ⟨_, rfl, ?_⟩ | refine ⟨cpow, ?_⟩ | refine ⟨wideM, ?_⟩ | refine ⟨_, _, rfl, rfl, ?_⟩ | refine ⟨rfl, ?_⟩))
/-! ### texts -/
def figT (t : Trn) : Str := Txt.join (Str.ofString "") (t.map numT)
def wordT : Jn → Str
  | none => Str.ofString "-"
  | some (n, t) => numT n ++ Str.ofString ":" ++ figT t
def lineT (b : Blk) : Str := Txt.join (Str.ofString " ") (b.map wordT)
def textT (S : Spc) : Str := Txt.join (Str.ofString "\n") (S.map lineT)
theorem fig_len : ∀ n < 4, (numT n).length ≤ 1 := by decide +kernel
theorem sum_le {ys : List Str} {c : Nat} (h : ∀ y ∈ ys, y.length ≤ c) : (ys.map (·.length)).sum ≤ ys.length * c := by
  induction ys with
  | nil => simp
  | cons y r ih =>
    have h1 := h y List.mem_cons_self
    have h2 := ih fun z hz => h z (List.mem_cons_of_mem _ hz)
    rw [List.map_cons, List.sum_cons, List.length_cons, Nat.add_mul, Nat.one_mul]
    omega
theorem join_le {a : Str} {ys : List Str} {c : Nat} (h : ∀ y ∈ ys, y.length ≤ c) : (Txt.join a ys).length ≤ ys.length * c + ys.length * a.length := by
  rw [show Txt.join a ys = Str.join a ys from TL.join_eq a ys]
  have h1 := StrLaws.join_length_le a ys
  have h2 := sum_le h
  omega
theorem fig_le {t : Trn} (hl : t.length = 4) (h : ∀ x ∈ t, x < 4) : (figT t).length ≤ 4 := by
  have h1 : (figT t).length ≤ (t.map numT).length * 1 + (t.map numT).length * (Str.ofString "").length := join_le fun y hy => by
    obtain ⟨x, hx, rfl⟩ := List.mem_map.mp hy
    exact fig_len x (h x hx)
  rw [List.length_map, hl] at h1
  exact h1
theorem word_len {j : Jn} (h : Jb j) : (wordT j).length ≤ 7 := by
  cases j with
  | none => decide +kernel
  | some k =>
    obtain ⟨n, t⟩ := k
    obtain ⟨h1, h2, h3⟩ := h n t rfl
    show (numT n ++ Str.ofString ":" ++ figT t).length ≤ 7
    rw [strLen_append, strLen_append]
    have := num_len n h1
    have := fig_le h2 h3
    have e : (Str.ofString ":").length = 1 := by decide +kernel
    omega
theorem line_len {b : Blk} (h4 : b.length = 4) (h : ∀ j ∈ b, Jb j) : (lineT b).length ≤ 32 := by
  have h1 : (lineT b).length ≤ (b.map wordT).length * 7 + (b.map wordT).length * (Str.ofString " ").length := join_le fun y hy => by
    obtain ⟨j, hj, rfl⟩ := List.mem_map.mp hy
    exact word_len (h j hj)
  rw [List.length_map, h4] at h1
  exact h1
section
variable {P : Program} {w : World} {K : PySem.W.Frag} {mg : Str → Option Value} {base : Heap}
/-! ### _word_of -/
abbrev s_word_of : Stmt := topS 29
abbrev N_word_of : List Str := ["joining", "other", "turn", "figures", "corner"]
theorem sc_word_of : FnScope N_word_of ["joining"] (defScope s_word_of) := ⟨rfl, rfl, rfl, by decide +kernel, rfl, by decide +kernel, by decide +kernel⟩
def spWord : Sp := fun vs H Q _ => ∃ (N : Addr → Prop) (v : V) (d : PyData) (j : Jn), vs = [v] ∧ Dq N H v d ∧ norm d = nJ j ∧ Jb j ∧ ∀ H', Same H H' → Q (.str (wordT j)) H'
theorem ok_word_of {f : Addr} {fd : FuncData} (F : Fun K "_word_of" "_word_of" s_word_of f fd) (m_str : mg "str" = none) : FnOk P w K mg base CX0 1 f fd ["joining"] spWord := by
  refine F.ok sc_word_of (fun vs H Q E h => ?_) (fun cdv A outer s H vs Q E hr h => ?_)
  · obtain ⟨N, v, d, j, rfl, _⟩ := h
    rfl
  · obtain ⟨N, v, d, j, rfl, hd, hn, hb, q⟩ := h
    have nd := sc_word_of.nd
    refine ⟨_, (pss_cons (ps_if (pt_cmpR op_isN (pv 0) pe_non (nomark _)) (pss_one (ps_ret pe_str)) pss_nil)
      (pss_cons (ps_asg (pv 0) (kPgS K rfl (pg_tup (n := 2) rfl (pgs_cons (pg_name (i := 1) nd rfl (.inl rfl)) (pgs_cons (pg_name (i := 2) nd rfl (.inl rfl)) pgs_nil))) (pg_unl (n := 2) rfl (pgs_cons (pg_name (i := 1) nd rfl (.inl rfl)) (pgs_cons (pg_name (i := 2) nd rfl (.inl rfl)) pgs_nil)))))
      (pss_cons (ps_set (i := 3) nd rfl (.inl rfl) (kJoin K rfl (pe_join pe_str (pe_lc (own := [("corner", 4)]) (g := gName 4) (tt := tYes) rfl nd (kPiS K rfl (pv 2)) (blkOk_by (own := [("corner", 4)]) (N := N_word_of) (sc := defScope s_word_of) (by decide +kernel)) (fun _ _ _ _ _ => (pg_name (i := 4) nd rfl (Or.inl rfl))) (fun _ _ _ _ _ => pts_nil) (fun _ _ _ _ _ => (pe_callTy call_str_int (by rfl) m_str (by decide +kernel) (pa_cons (pv 4) pa_nil)))))))
      (pss_one (ps_ret (pe_joined (.cons (pe_fmt (pv 1)) (.cons pe_str (.cons (pe_fmt (pv 3)) .nil))))))))), ?_⟩
    refine ⟨v, rfl, rfl, _, rfl, ?_⟩
    cases j with
    | none =>
      rw [nJ_none] at hn
      have ev := hd.isNon hn
      subst ev
      refine iteT ?_
      exact q H (Same.refl H)
    | some k =>
      obtain ⟨n, t⟩ := k
      obtain ⟨hn64, ht4, htx⟩ := hb n t rfl
      rw [nJ_some] at hn
      obtain ⟨a, xs, ds, rfl, hq, _, hds, en⟩ := hd.seq (K := K) hn
      refine iteF ?_
      obtain ⟨v1, v2, d1, d2, rfl, h1, en1, h2, en2⟩ := hds.pair en
      have e1 := h1.isInt en1
      obtain ⟨a2, xs2, ds2, rfl, hq2, _, hds2, en2⟩ := h2.seq (K := K) en2
      subst e1
      refine ⟨.ref a, rfl, a, _, rfl, hq, rfl, _, _, rfl, _, _, rfl, rfl, ?_⟩
      have l2 : xs2.length = t.length := by rw [hds2.len, ← norms_len, en2, List.length_map]
      refine ⟨⟨_, rfl⟩, .ref a2, rfl, a2, xs2, rfl, hq2, fun J C hJ hC => ?_⟩
      intro D nD
      refine lc_seq (xs := xs2) hJ (fun i H2 => H2 = upd H D (.lst (((t.take i).map numT).map V.str))) rfl ?_ ?_ ?_
      · rintro i H2 rfl
        exact SeqIt.mono K hJ (fun o e => same_new nD _ _ e) hC
      · rintro i x H2 hx rfl
        obtain ⟨di, hdi, hxi⟩ := hds2.get hx
        have hi : i < t.length := by rw [← l2]; exact (List.getElem?_eq_some_iff.mp hx).1
        have hti : t[i]? = some t[i] := List.getElem?_eq_getElem hi
        have edi : norm di = intD t[i] := by
          have z : (norms ds2)[i]? = some (norm di) := by rw [norms_map, List.getElem?_map, hdi]; rfl
          rw [en2, List.getElem?_map, hti] at z
          exact (Option.some.inj z).symm
        have ex := hxi.isInt (i := (t[i] : Int)) edi
        subst ex
        have hx4 := htx _ (List.getElem_mem hi)
        refine ⟨rfl, intV t[i], rfl, (t[i] : Int), rfl, num_log (by omega), _, upd_same, small1000 (by rw [List.length_map, List.length_map, List.length_take]; omega), ?_⟩
        rw [upd_upd, List.take_add_one, hti, List.map_append, List.map_append]
        rfl
      · rintro H2 rfl
        rw [l2, List.take_length]
        have lsum := sum_le (ys := t.map numT) (c := 1) fun y hy => by
          obtain ⟨x, hx, rfl⟩ := List.mem_map.mp hy
          exact fig_len x (htx x hx)
        rw [List.length_map, ht4] at lsum
        refine ⟨_, D, t.map numT, rfl, rfl, .inl (.inl (.inl upd_same)), ?_, ?_⟩
        · rw [List.length_map, ht4]
          exact Nat.le_trans (Nat.add_le_add lsum (Nat.le_refl _)) (by decide +kernel)
        have lf := fig_le ht4 htx
        have ln := num_len n hn64
        have e1 : (Str.ofString ":").length = 1 := by decide +kernel
        have e0 : (Str.empty ++ numT n : Str) = numT n := by
          show (⟨#[] ++ (numT n).cps⟩ : Str) = numT n
          rw [Array.empty_append]
        refine ⟨intV n, rfl, .inr ⟨n, rfl, num_log hn64, _, rfl, ?_, _, rfl, ?_, .str (figT t), rfl, .inl ⟨_, rfl, Nat.le_of_lt (small1000 (by omega)), _, rfl, ?_, ?_⟩⟩⟩
        · show (Str.empty ++ numT n).length ≤ sizeLine
          rw [e0]
          exact Nat.le_of_lt (small1000 (by omega))
        · show (Str.empty ++ numT n ++ Str.ofString ":").length ≤ sizeLine
          rw [e0, strLen_append]
          exact Nat.le_of_lt (small1000 (by omega))
        · show (Str.empty ++ numT n ++ Str.ofString ":" ++ figT t).length ≤ sizeLine
          rw [e0, strLen_append, strLen_append]
          exact Nat.le_of_lt (small1000 (by omega))
        · show Q (.str (Str.empty ++ numT n ++ Str.ofString ":" ++ figT t)) _
          rw [e0]
          exact q _ (same_new nD)
/-! ### _line_of -/
abbrev s_line_of : Stmt := topS 28
abbrev N_line_of : List Str := ["block", "joining"]
theorem sc_line_of : FnScope N_line_of ["block"] (defScope s_line_of) := ⟨rfl, rfl, rfl, by decide +kernel, rfl, by decide +kernel, by decide +kernel⟩
def spLine : Sp := fun vs H Q _ => ∃ (N : Addr → Prop) (v : V) (d : PyData) (b : Blk), vs = [v] ∧ Dq N H v d ∧ norm d = nB b ∧ b.length = 4 ∧ (∀ j ∈ b, Jb j) ∧ ∀ H', Same H H' → Q (.str (lineT b)) H'
theorem ok_line_of {f fW : Addr} {fd fdW : FuncData} (F : Fun K "_line_of" "_line_of" s_line_of f fd) (F_word_of : Fun K "_word_of" "_word_of" s_word_of fW fdW) (g_word_of : mg "_word_of" = some (.ref fW)) (b_word_of : Binds K fdW ["joining"] [])
    (m_str : mg "str" = none) : FnOk P w K mg base CX0 2 f fd ["block"] spLine := by
  have G_word_of : FnOk P w K mg base CX0 1 fW fdW ["joining"] spWord := ok_word_of F_word_of m_str
  refine F.ok sc_line_of (fun vs H Q E h => ?_) (fun cdv A outer s H vs Q E hr h => ?_)
  · obtain ⟨N, v, d, b, rfl, _⟩ := h
    rfl
  · obtain ⟨N, v, d, b, rfl, hd, hn, h4, hb, q⟩ := h
    have nd := sc_line_of.nd
    refine ⟨_, (pss_one (ps_ret (kJoin K rfl (pe_join pe_str (pe_lc (own := [("joining", 1)]) (g := gName 1) (tt := tYes) rfl nd (kPiS K rfl (pv 0)) (blkOk_by (own := [("joining", 1)]) (N := N_line_of) (sc := defScope s_line_of) (by decide +kernel)) (fun _ _ _ _ _ => (pg_name (i := 1) nd rfl (Or.inl rfl))) (fun _ _ _ _ _ => pts_nil) (fun _ _ _ _ _ => (pe_call G_word_of (hr.mono (by first | decide | omega)) (by rfl) g_word_of F_word_of.kp b_word_of .nil pass0 (pa_cons (pv 1) pa_nil)))))))), ?_⟩
    obtain ⟨a, xs, ds, rfl, hq, _, hds, en⟩ := hd.seq (K := K) hn
    have lx : xs.length = b.length := by rw [hds.len, norm_len en]
    refine ⟨⟨_, rfl⟩, .ref a, rfl, a, xs, rfl, hq, fun J C hJ hC => ?_⟩
    intro D nD
    refine lc_seq (xs := xs) hJ (fun i H2 => H2 D = some (.lst (((b.take i).map wordT).map V.str)) ∧ Same H H2) ⟨upd_same, same_new nD⟩ ?_ ?_ ?_
    · rintro i H2 ⟨h2, s2⟩
      exact SeqIt.mono K hJ (fun o e => s2 _ _ e) hC
    · rintro i x H2 hx ⟨h2, s2⟩
      obtain ⟨di, hdi, hxi⟩ := hds.get hx
      obtain ⟨j, hj, ej⟩ := norm_at en hdi
      have hi : i < b.length := (List.getElem?_eq_some_iff.mp hj).1
      refine ⟨rfl, x, rfl, N, x, di, j, rfl, hxi.same s2, ej, hb j (List.mem_of_getElem? hj), fun H3 s3 => ?_⟩
      refine ⟨_, s3 _ _ h2, small1000 (by rw [List.length_map, List.length_map, List.length_take]; omega), ?_, same_fill (s2.trans s3) nD⟩
      rw [upd_same, List.take_add_one, hj, List.map_append, List.map_append]
      rfl
    · rintro H2 ⟨h2, s2⟩
      rw [lx, List.take_length] at h2
      have ls := sum_le (ys := b.map wordT) (c := 7) fun y hy => by
        obtain ⟨j, hj, rfl⟩ := List.mem_map.mp hy
        exact word_len (hb j hj)
      rw [List.length_map, h4] at ls
      refine ⟨_, D, b.map wordT, rfl, rfl, .inl (.inl (.inl h2)), ?_, q H2 s2⟩
      rw [List.length_map, h4]
      exact Nat.le_trans (Nat.add_le_add ls (Nat.le_refl _)) (by decide +kernel)
/-! ### space_text -/
abbrev sspace_text : Stmt := topS 27
abbrev Nspace_text : List Str := ["space", "block"]
theorem scspace_text : FnScope Nspace_text ["space"] (defScope sspace_text) := ⟨rfl, rfl, rfl, by decide +kernel, rfl, by decide +kernel, by decide +kernel⟩
def spText : Sp := fun vs H Q _ => ∃ (N : Addr → Prop) (v : V) (d : PyData) (S : Spc), vs = [v] ∧ Dq N H v d ∧ norm d = nS S ∧ Sb S ∧ ∀ H', Same H H' → Q (.str (textT S)) H'
theorem ok_space_text {f fL fW : Addr} {fd fdL fdW : FuncData} (F : Fun K "space_text" "space_text" sspace_text f fd) (F_line_of : Fun K "_line_of" "_line_of" s_line_of fL fdL) (g_line_of : mg "_line_of" = some (.ref fL)) (b_line_of : Binds K fdL ["block"] [])
    (F_word_of : Fun K "_word_of" "_word_of" s_word_of fW fdW) (g_word_of : mg "_word_of" = some (.ref fW)) (b_word_of : Binds K fdW ["joining"] []) (m_str : mg "str" = none) : FnOk P w K mg base CX0 3 f fd ["space"] spText := by
  have G_line_of : FnOk P w K mg base CX0 2 fL fdL ["block"] spLine := ok_line_of F_line_of F_word_of g_word_of b_word_of m_str
  refine F.ok scspace_text (fun vs H Q E h => ?_) (fun cdv A outer s H vs Q E hr h => ?_)
  · obtain ⟨N, v, d, S, rfl, _⟩ := h
    rfl
  · obtain ⟨N, v, d, S, rfl, hd, hn, hS, q⟩ := h
    have nd := scspace_text.nd
    refine ⟨_, (pss_one (ps_ret (kJoin K rfl (pe_join pe_str (pe_lc (own := [("block", 1)]) (g := gName 1) (tt := tYes) rfl nd (kPiS K rfl (pv 0)) (blkOk_by (own := [("block", 1)]) (N := Nspace_text) (sc := defScope sspace_text) (by decide +kernel)) (fun _ _ _ _ _ => (pg_name (i := 1) nd rfl (Or.inl rfl))) (fun _ _ _ _ _ => pts_nil) (fun _ _ _ _ _ => (pe_call G_line_of (hr.mono (by first | decide | omega)) (by rfl) g_line_of F_line_of.kp b_line_of .nil pass0 (pa_cons (pv 1) pa_nil)))))))), ?_⟩
    obtain ⟨a, xs, ds, rfl, hq, _, hds, en⟩ := hd.seq (K := K) hn
    have lx : xs.length = S.length := by rw [hds.len, norm_len en]
    have hS1 := hS.1
    refine ⟨⟨_, rfl⟩, .ref a, rfl, a, xs, rfl, hq, fun J C hJ hC => ?_⟩
    intro D nD
    refine lc_seq (xs := xs) hJ (fun i H2 => H2 D = some (.lst (((S.take i).map lineT).map V.str)) ∧ Same H H2) ⟨upd_same, same_new nD⟩ ?_ ?_ ?_
    · rintro i H2 ⟨h2, s2⟩
      exact SeqIt.mono K hJ (fun o e => s2 _ _ e) hC
    · rintro i x H2 hx ⟨h2, s2⟩
      obtain ⟨di, hdi, hxi⟩ := hds.get hx
      obtain ⟨b, hb, eb⟩ := norm_at en hdi
      have hi : i < S.length := (List.getElem?_eq_some_iff.mp hb).1
      obtain ⟨hb4, hbj⟩ := hS.2 b (List.mem_of_getElem? hb)
      refine ⟨rfl, x, rfl, N, x, di, b, rfl, hxi.same s2, eb, hb4, hbj, fun H3 s3 => ?_⟩
      refine ⟨_, s3 _ _ h2, small1000 (by rw [List.length_map, List.length_map, List.length_take]; omega), ?_, same_fill (s2.trans s3) nD⟩
      rw [upd_same, List.take_add_one, hb, List.map_append, List.map_append]
      rfl
    · rintro H2 ⟨h2, s2⟩
      rw [lx, List.take_length] at h2
      have ls := sum_le (ys := S.map lineT) (c := 32) fun y hy => by
        obtain ⟨b, hb, rfl⟩ := List.mem_map.mp hy
        exact line_len (hS.2 b hb).1 (hS.2 b hb).2
      rw [List.length_map] at ls
      refine ⟨_, D, S.map lineT, rfl, rfl, .inl (.inl (.inl h2)), ?_, q H2 s2⟩
      rw [List.length_map]
      have e1 : (Str.ofString "\n").length = 1 := by decide +kernel
      show _ + S.length * (Str.ofString "\n").length ≤ 16777216
      rw [e1]
      omega
end
end Bk

namespace Bk
open PySem PySem.Spec PyProof.Rows L2 TL
local macro_rules | `(tactic| walk_at "g") => `(tactic| (repeat first | refine ⟨_, rfl, ?_⟩ | refine ⟨cpow, ?_⟩ | refine ⟨wideM, ?_⟩ | refine ⟨_, _, rfl, rfl, ?_⟩ | refine ⟨rfl, ?_⟩))
def digsS : Str := Str.ofString "0123456789"
def isDig (c : Nat) : Bool := decide (c ∈ tl digsS)
def isNumL : List Nat → Bool
  | [] => false
  | c :: r => (c :: r).all isDig && (decide (c :: r = [48]) || decide (c ≠ 48))
def isNumW (x : Str) : Bool := isNumL (tl x)
section
variable {P : Program} {w : World} {K : PySem.W.Frag} {mg : Str → Option Value} {base : Heap}
abbrev sis_number_word : Stmt := topS 33
abbrev Nis_number_word : List Str := ["word", "sign"]
theorem scis_number_word : FnScope Nis_number_word ["word"] (defScope sis_number_word) := ⟨rfl, rfl, rfl, by decide +kernel, rfl, by decide +kernel, by decide +kernel⟩
def spNumW : Sp := fun vs H Q _ => ∃ x : Str, vs = [.str x] ∧ x.length ≤ 100 ∧ ∀ H', Same H H' → Q (.bl (isNumW x)) H'
theorem okis_number_word {f : Addr} {fd : FuncData} {tF : Tok} (F : Fun K "is_number_word" "is_number_word" sis_number_word f fd) (g_FIGURES : mg "FIGURES" = some (.str digsS tF)) (m_all : mg "all" = none) : FnOk P w K mg base CX0 1 f fd ["word"] spNumW := by
  have r_FIGURES : RelV (V.str digsS) (.str digsS tF) := ⟨_, rfl⟩
  refine F.ok scis_number_word (fun vs H Q E h => ?_) (fun cdv A outer s H vs Q E hr h => ?_)
  · obtain ⟨x, rfl, _⟩ := h
    rfl
  · obtain ⟨x, rfl, hx, q⟩ := h
    have nd := scis_number_word.nd
    refine ⟨_, (pss_cons (ps_if (pw_or (pt_cmpR op_eq (pv 0) pe_str (nomark _)) (pw_or1 (pt_not (pt_val (pe_callB (kAll K rfl rfl) (by rfl) m_all (by decide +kernel) (pa_cons (pe_lc (own := [("sign", 1)]) (g := gName 1) (tt := tYes) rfl nd (pi_str (pv 0)) (blkOk_by (own := [("sign", 1)]) (N := Nis_number_word) (sc := defScope sis_number_word) (by decide +kernel)) (fun _ _ _ _ _ => (pg_name (i := 1) nd rfl (Or.inl rfl))) (fun _ _ _ _ _ => pts_nil) (fun _ _ _ _ _ => (pe_cmpR op_in_sign (pv 1) (pe_glob (by rfl) g_FIGURES r_FIGURES) (by rfl)))) pa_nil)))))).pt (pss_one (ps_ret pe_bl)) pss_nil)
      (pss_one (ps_ret (pe_or (pe_cmpR op_eq (pv 0) pe_str (nomark _)) (pe_one (pe_cmpR op_ne (pe_ix ix_str (pv 0) pe_int (fun _ _ => rfl)) pe_str (nomark _))))))), ?_⟩
    have hl : x.cps.size = (tl x).length := len_tl x
    have hx' : (tl x).length ≤ 100 := by rw [← hl]; exact hx
    have e0 : decide (V.str x = V.str (Str.ofString "")) = (tl x).isEmpty := by
      cases e : tl x with
      | nil =>
        have : x = Str.ofString "" := ext_tl (by rw [e]; decide +kernel)
        rw [this]
        rfl
      | cons c r =>
        refine decide_eq_false fun z => ?_
        injection z with z
        rw [z] at e
        have : tl (Str.ofString "") = [] := by decide +kernel
        rw [this] at e
        cases e
    refine ⟨.str x, rfl, rfl, _, congrArg V.bl e0, ?_⟩
    cases e : tl x with
    | nil =>
      refine iteT (iteT ?_)
      have := q H (Same.refl H)
      rw [show isNumW x = false by unfold isNumW; rw [e]; rfl] at this
      exact this
    | cons c r =>
      refine iteF ?_
      refine ⟨.str x, rfl, x, rfl, fun D nD => ?_⟩
      refine lc_it walk_str (fun i H2 => H2 = upd H D (.lst ((((tl x).take i).map isDig).map V.bl))) rfl (fun _ _ _ _ => trivial) ?_ ?_
      · rintro i v H2 H3 hi rfl ⟨rfl, d, hd, rfl⟩
        have hd' : (tl x)[i]? = some d := by rw [← hd]; exact Array.getElem?_toList
        refine ⟨rfl, .str ⟨#[d]⟩, rfl, d, digsS, rfl, rfl, _, upd_same, small1000 (by rw [List.length_map, List.length_map, List.length_take]; omega), ?_⟩
        rw [upd_upd, List.take_add_one, hd', List.map_append, List.map_append]
        rfl
      · rintro H2 rfl
        rw [hl, List.take_length]
        refine ⟨D, _, rfl, .inl (.inl upd_same), _, rfl, ?_⟩
        have s2 : Same H (upd H D (.lst (((tl x).map isDig).map V.bl))) := same_new nD
        generalize upd H D (.lst (((tl x).map isDig).map V.bl)) = H2 at s2 ⊢
        have ea : ((tl x).map isDig).all id = (c :: r).all isDig := by
          rw [List.all_map, e]
          rfl
        rw [ea]
        have q2 := q H2 s2
        unfold isNumW at q2
        rw [e] at q2
        rw [show isNumL (c :: r) = ((c :: r).all isDig && (decide (c :: r = [48]) || decide (c ≠ 48))) from rfl] at q2
        cases ha : (c :: r).all isDig with
        | false =>
          rw [ha] at q2
          refine iteT ?_
          exact q2
        | true =>
          rw [ha, Bool.true_and] at q2
          refine iteF ?_
          refine ⟨.str x, rfl, rfl, ?_⟩
          have e48 : decide (V.str x = V.str (Str.ofString "0")) = decide (c :: r = [48]) := by
            refine decide_eq_decide.mpr ⟨fun z => ?_, fun z => ?_⟩
            · injection z with z
              rw [← e, z]
              decide +kernel
            · rw [z] at e
              exact congrArg V.str (ext_tl (by rw [e]; decide +kernel))
          rw [e48]
          refine ⟨_, rfl, ?_⟩
          cases h0 : decide (c :: r = [48]) with
          | true =>
            rw [h0] at q2
            exact iteT q2
          | false =>
            rw [h0, Bool.false_or] at q2
            refine iteF ?_
            have hat : atI x.cps.toList 0 = some c := by
              show atI (tl x) 0 = some c
              rw [e]
              exact atI_nat (xs := c :: r) (j := 0) rfl
            refine ⟨.str x, rfl, x, 0, c, rfl, rfl, Nat.le_of_lt (small1000 (by omega)), hat, rfl, ?_⟩
            have e1 : (!decide (V.str ⟨#[c]⟩ = V.str (Str.ofString "0"))) = decide (c ≠ 48) := by
              have e2 : decide (V.str ⟨#[c]⟩ = V.str (Str.ofString "0")) = decide (c = 48) := by
                refine decide_eq_decide.mpr ⟨fun z => ?_, fun z => ?_⟩
                · injection z with z
                  have : tl (⟨#[c]⟩ : Str) = tl (Str.ofString "0") := congrArg tl z
                  rw [show tl (Str.ofString "0") = [48] by decide +kernel] at this
                  exact (List.cons.inj this).1
                · rw [z]
                  exact congrArg V.str (ext_tl (by decide +kernel))
              rw [e2]
              exact decide_not.symm
            rw [e1]
            exact q2
/-! ### is_joining_word -/
def fourS : List Str := [Str.ofString "0", Str.ofString "1", Str.ofString "2", Str.ofString "3"]
def isTurnW (x : Str) : Bool := decide ((charsOf x).Perm fourS)
def isJoinW (x : Str) : Bool := isNumW (Txt.partition x (Str.ofString ":")).1 && isTurnW (Txt.partition x (Str.ofString ":")).2.2
theorem dp_strs {H : Hp} : ∀ ns : List Str, DpAll K H (ns.map V.str) (ns.map PyData.str)
  | [] => .nil
  | n :: ns => .cons (.str n) (dp_strs ns)
theorem strs_lay : ∀ ns : List Str, (∀ n ∈ ns, ∀ c ∈ tl n, c < 1000) → PyData.canLayAll0 (ns.map PyData.str) = true ∧ PyData.depthAll (ns.map PyData.str) ≤ 1
  | [], _ => by simp [PyData.canLayAll0, PyData.depthAll]
  | n :: ns, hn => by
    have h := strs_lay ns fun m hm => hn m (List.mem_cons_of_mem _ hm)
    have h0 : PyData.strOk n = true := by
      show n.cps.all (· < 0x110000) = true
      rw [← Array.all_toList]
      refine List.all_eq_true.mpr fun c hc => decide_eq_true ?_
      have := hn n List.mem_cons_self c hc
      omega
    simp only [List.map_cons, PyData.canLayAll0, PyData.depthAll, PyData.canLay0, PyData.depth, h0, Bool.true_and]
    exact ⟨h.1, by omega⟩
theorem strs_shaped {ns : List Str} (hn : ∀ n ∈ ns, ∀ c ∈ tl n, c < 1000) : SeqAt.shaped (.list (ns.map PyData.str)) = true := by
  have h := strs_lay ns hn
  have h2 : PyData.depth (.list (ns.map PyData.str)) ≤ 64 := by
    simp only [PyData.depth]
    omega
  show (PyData.canLay0 (.list (ns.map PyData.str)) && decide (PyData.depth (.list (ns.map PyData.str)) ≤ 64)) = true
  rw [Bool.and_eq_true]
  exact ⟨by simp only [PyData.canLay0]; exact h.1, decide_eq_true h2⟩
theorem eqv_strs : ∀ xs ys : List Str, PyData.eqvAll (xs.map PyData.str) (ys.map PyData.str) = decide (xs = ys)
  | [], [] => rfl
  | [], y :: ys => rfl
  | x :: xs, [] => rfl
  | x :: xs, y :: ys => by
    simp only [List.map_cons, PyData.eqvAll, PyData.eqv, eqv_strs xs ys]
    by_cases h : x = y
    · subst h
      simp
    · simp [h]
theorem four_sorted : ∀ a ∈ fourS, ∀ b ∈ fourS, ∀ c ∈ fourS, ∀ d ∈ fourS, sortedS [a, b, c, d] = true → [a, b, c, d].Nodup → [a, b, c, d] = fourS := by decide +kernel
theorem four_uniq {ys : List Str} (h : ys.Perm fourS) (so : sortedS ys = true) : ys = fourS := by
  have hl : ys.length = 4 := h.length_eq
  have hn : ys.Nodup := h.symm.nodup (by decide +kernel)
  match ys, hl with
  | [a, b, c, d], _ =>
    exact four_sorted a (h.mem_iff.mp (by simp)) b (h.mem_iff.mp (by simp)) c (h.mem_iff.mp (by simp)) d (h.mem_iff.mp (by simp)) so hn
abbrev sis_joining_word : Stmt := topS 32
abbrev Nis_joining_word : List Str := ["word", "number", "_", "turn"]
theorem scis_joining_word : FnScope Nis_joining_word ["word"] (defScope sis_joining_word) := ⟨rfl, rfl, rfl, by decide +kernel, rfl, by decide +kernel, by decide +kernel⟩
def spJoinW : Sp := fun vs H Q _ => ∃ x : Str, vs = [.str x] ∧ x.length ≤ 60 ∧ (∀ c ∈ tl x, c < 1000) ∧ ∀ H', Same H H' → Q (.bl (isJoinW x)) H'
theorem par_le (S : List Nat) : ∀ (l acc a b : List Nat), par S acc l = some (a, b) → a.length ≤ acc.length + l.length ∧ b.length ≤ l.length
  | [], acc, a, b, h => by cases h
  | c :: r, acc, a, b, h => by
    cases hp : pre S (c :: r) with
    | true =>
      rw [par_hit hp] at h
      injection h with h
      injection h with h1 h2
      subst h1 h2
      rw [List.length_drop]
      exact ⟨by omega, by omega⟩
    | false =>
      rw [par_miss hp] at h
      have := par_le S r (acc ++ [c]) a b h
      rw [List.length_append] at this
      simp only [List.length_cons, List.length_nil] at this ⊢
      omega
theorem par_mem (S : List Nat) : ∀ (l acc a b : List Nat), par S acc l = some (a, b) → ∀ c ∈ b, c ∈ l
  | [], acc, a, b, h => by cases h
  | c :: r, acc, a, b, h => by
    cases hp : pre S (c :: r) with
    | true =>
      rw [par_hit hp] at h
      injection h with h
      injection h with h1 h2
      subst h1 h2
      exact fun d hd => List.mem_of_mem_drop hd
    | false =>
      rw [par_miss hp] at h
      exact fun d hd => List.mem_cons_of_mem _ (par_mem S r (acc ++ [c]) a b h d hd)
theorem part_mem (x y : Str) (hy : tl y ≠ []) : ∀ c ∈ tl (Txt.partition x y).2.2, c ∈ tl x := by
  rw [partition_par x y hy]
  cases h : par (tl y) [] (tl x) with
  | none => exact fun c hc => by cases hc
  | some ab =>
    obtain ⟨a, b⟩ := ab
    exact par_mem _ _ _ _ _ h
theorem part_le (x y : Str) (hy : tl y ≠ []) : (Txt.partition x y).1.length ≤ x.length ∧ (Txt.partition x y).2.2.length ≤ x.length := by
  rw [partition_par x y hy, len_tl x]
  cases h : par (tl y) [] (tl x) with
  | none => exact ⟨Nat.le_of_eq (len_tl x), Nat.zero_le _⟩
  | some ab =>
    obtain ⟨a, b⟩ := ab
    have := par_le _ _ _ _ _ h
    simp only [List.length_nil, Nat.zero_add] at this
    exact this
theorem okis_joining_word {f fN : Addr} {fd fdN : FuncData} (F : Fun K "is_joining_word" "is_joining_word" sis_joining_word f fd) (Fis_number_word : Fun K "is_number_word" "is_number_word" sis_number_word fN fdN) (gis_number_word : mg "is_number_word" = some (.ref fN)) (bis_number_word : Binds K fdN ["word"] [])
    (Gis_number_word : FnOk P w K mg base CX0 1 fN fdN ["word"] spNumW) (m_sorted : mg "sorted" = none) : FnOk P w K mg base CX0 2 f fd ["word"] spJoinW := by
  refine F.ok scis_joining_word (fun vs H Q E h => ?_) (fun cdv A outer s H vs Q E hr h => ?_)
  · obtain ⟨x, rfl, _⟩ := h
    rfl
  · obtain ⟨x, rfl, hx, hc, q⟩ := h
    have nd := scis_joining_word.nd
    refine ⟨_, (pss_cons (ps_asg (pe_partition (pv 0) pe_str) (kPgT K rfl (pg_tup (n := 3) rfl (pgs_cons (pg_name (i := 1) nd rfl (.inl rfl)) (pgs_cons (pg_name (i := 2) nd rfl (.inl rfl)) (pgs_cons (pg_name (i := 3) nd rfl (.inl rfl)) pgs_nil))))))
      (pss_one (ps_ret (pe_and (pe_call Gis_number_word (hr.mono (by first | decide | omega)) (by rfl) gis_number_word Fis_number_word.kp bis_number_word .nil pass0 (pa_cons (pv 1) pa_nil)) (pe_one (pe_cmpR (kEqD K rfl hr.units) (pe_callB (cr_sortTxt rfl) (by rfl) m_sorted (by decide +kernel) (pa_cons (pv 3) pa_nil)) (pe_lst (pa_cons pe_str (pa_cons pe_str (pa_cons pe_str (pa_cons pe_str pa_nil))))) (nomark _))))))), ?_⟩
    obtain ⟨p1, p2⟩ := part_le x (Str.ofString ":") (by decide +kernel)
    refine ⟨.str x, rfl, ⟨x, rfl⟩, x, Str.ofString ":", rfl, rfl, by decide +kernel, Nat.le_of_lt (small1000 (by omega)), fun p np => ?_⟩
    have s1 : Same H (upd H p (.tup [.str (Txt.partition x (Str.ofString ":")).1, .str (Txt.partition x (Str.ofString ":")).2.1, .str (Txt.partition x (Str.ofString ":")).2.2])) := same_new np
    refine ⟨p, _, rfl, .inl (.inl upd_same), rfl, _, _, rfl, _, _, rfl, _, _, rfl, rfl, ?_⟩
    generalize upd H p (.tup [.str (Txt.partition x (Str.ofString ":")).1, .str (Txt.partition x (Str.ofString ":")).2.1, .str (Txt.partition x (Str.ofString ":")).2.2]) = H1 at s1 ⊢
    refine ⟨.str (Txt.partition x (Str.ofString ":")).1, rfl, _, rfl, by omega, fun H2 s2 => ⟨_, rfl, ?_⟩⟩
    have q' := fun H' (z : Same H1 H') => q H' (s1.trans z)
    unfold isJoinW at q'
    cases hN : isNumW (Txt.partition x (Str.ofString ":")).1 with
    | false =>
      rw [hN] at q'
      exact iteF (q' H2 s2)
    | true =>
      rw [hN] at q'
      refine iteT ?_
      refine ⟨.str (Txt.partition x (Str.ofString ":")).2.2, rfl, _, rfl, by omega, fun ys p' pm so np' => ?_⟩
      have s3 : Same H2 (upd H2 p' (.lst (ys.map V.str))) := same_new np'
      have h3 : (upd H2 p' (.lst (ys.map V.str))) p' = some (.lst (ys.map V.str)) := upd_same
      generalize upd H2 p' (.lst (ys.map V.str)) = H3 at s3 h3 ⊢
      refine ⟨by decide, fun L nL => ?_⟩
      have s4 : Same H3 (upd H3 L (.lst (fourS.map V.str))) := same_new nL
      have hys : ∀ n ∈ ys, ∀ c ∈ tl n, c < 1000 := fun n hn c hcn => by
        have := pm.mem_iff.mp hn
        unfold charsOf at this
        obtain ⟨d, hd, rfl⟩ := List.mem_map.mp this
        have e1 : c ∈ [d] := hcn
        rw [List.mem_singleton.mp e1]
        exact hc d (part_mem x (Str.ofString ":") (by decide +kernel) d hd)
      refine ⟨.list (ys.map PyData.str), .list (fourS.map PyData.str), .lst (.inl (.inl (s4 _ _ h3))) (dp_strs ys), .lst (.inl (.inl upd_same)) (dp_strs fourS), strs_shaped hys, strs_shaped (by decide +kernel), ?_⟩
      have ee : PyData.eqv (.list (ys.map PyData.str)) (.list (fourS.map PyData.str)) = isTurnW (Txt.partition x (Str.ofString ":")).2.2 := by
        show PyData.eqvAll _ _ = _
        rw [eqv_strs]
        unfold isTurnW
        refine decide_eq_decide.mpr ⟨fun z => ?_, fun z => four_uniq (pm.trans z) so⟩
        rw [← z]
        exact pm.symm
      rw [ee]
      exact q' _ ((s2.trans s3).trans s4)
end
end Bk

namespace Bk
open PySem PySem.Spec PyProof.Rows L2 TL
local macro_rules | `(tactic| walk_at "g") => `(tactic| (repeat first | refine ⟨_, rfl, ?_⟩ | refine ⟨cpow, ?_⟩ | refine ⟨wideM, ?_⟩ | refine ⟨_, _, rfl, rfl, ?_⟩ | refine ⟨rfl, ?_⟩))
def hasForm (ws : List Str) : Bool := decide (ws.length = 4) && ws.all fun x => decide (V.str x = V.str (Str.ofString "-")) || isJoinW x
/-! ### texts of words -/
theorem joinL_nil : ∀ ps : List (List Nat), joinL [] ps = ps.flatten
  | [] => rfl
  | [p] => by simp [joinL]
  | p :: q :: r => by
    show p ++ ([] ++ joinL [] (q :: r)) = _
    rw [joinL_nil (q :: r)]
    rfl
theorem tl_numT (n : Nat) : tl (numT n) = numL n := tl_num n
theorem tl_fig {t : Trn} (h : ∀ x ∈ t, x < 4) : tl (figT t) = t.map (48 + ·) := by
  unfold figT
  rw [join_eq, tl_join, show tl (Str.ofString "") = [] by decide +kernel, joinL_nil, List.map_map]
  induction t with
  | nil => rfl
  | cons x t ih =>
    rw [List.map_cons, List.flatten_cons, ih fun y hy => h y (List.mem_cons_of_mem _ hy), Function.comp, tl_numT, numL_lt (by have := h x List.mem_cons_self; omega)]
    rfl
theorem numT_inj {m n : Nat} (h : numT m = numT n) : m = n := numL_inj (by rw [← tl_numT, ← tl_numT, h])
theorem tl_word (n : Nat) (t : Trn) : tl (wordT (some (n, t))) = numL n ++ 58 :: tl (figT t) := by
  show tl (numT n ++ Str.ofString ":" ++ figT t) = _
  rw [tl_append, tl_append, tl_numT, show tl (Str.ofString ":") = [58] by decide +kernel, List.append_assoc]
  rfl
theorem word_no (n : Nat) (t : Trn) : decide (V.str (wordT (some (n, t))) = V.str (Str.ofString "-")) = false := by
  refine decide_eq_false fun z => ?_
  injection z with z
  have := congrArg tl z
  rw [tl_word, show tl (Str.ofString "-") = [45] by decide +kernel] at this
  have h58 : 58 ∈ [45] := by
    rw [← this]
    simp
  revert h58
  decide
theorem word_part (n : Nat) (t : Trn) : Txt.partition (wordT (some (n, t))) (Str.ofString ":") = (numT n, Str.ofString ":", figT t) :=
  partition_app (s := 58) (S := []) (by decide +kernel) (by rw [tl_numT]; exact numL_free (by omega))
theorem num_word : ∀ n < 64, isNumW (numT n) = true := by decide +kernel
theorem turn_word : ∀ t ∈ allTurns, isTurnW (figT t) = true := by decide +kernel
/-- the numbers below m -/
def Jt (j : Jn) : Prop := ∀ n t, j = some (n, t) → n < 64 ∧ t ∈ allTurns
theorem Jt.jb {j : Jn} (h : Jt j) : Jb j := fun n t e => ⟨(h n t e).1, (turns4 t (h n t e).2).1, (turns4 t (h n t e).2).2.1⟩
theorem word_form {j : Jn} (h : Jt j) : (decide (V.str (wordT j) = V.str (Str.ofString "-")) || isJoinW (wordT j)) = true := by
  cases j with
  | none => rfl
  | some k =>
    obtain ⟨n, t⟩ := k
    obtain ⟨h1, h2⟩ := h n t rfl
    rw [word_no, Bool.false_or]
    unfold isJoinW
    rw [word_part]
    show (isNumW (numT n) && isTurnW (figT t)) = true
    rw [num_word n h1, turn_word t h2]
    rfl
theorem line_form {b : Blk} (h4 : b.length = 4) (h : ∀ j ∈ b, Jt j) : hasForm (b.map wordT) = true := by
  unfold hasForm
  rw [List.length_map, h4, List.all_map]
  refine List.all_eq_true.mpr fun j hj => ?_
  exact word_form (h j hj)
theorem word_mem {j : Jn} (h : Jb j) : ∀ c ∈ tl (wordT j), c = 45 ∨ (48 ≤ c ∧ c ≤ 58) := by
  cases j with
  | none => decide +kernel
  | some k =>
    obtain ⟨n, t⟩ := k
    obtain ⟨h1, h2, h3⟩ := h n t rfl
    intro c hc
    rw [tl_word] at hc
    rcases List.mem_append.mp hc with z | z
    · refine .inr ⟨?_, ?_⟩
      · by_cases y : 48 ≤ c
        · exact y
        · exact absurd z (numL_free (by omega))
      · by_cases y : c ≤ 57
        · omega
        · exact absurd z (numL_free (by omega))
    · rcases List.mem_cons.mp z with z | z
      · omega
      · rw [tl_fig h3] at z
        obtain ⟨x, hx, rfl⟩ := List.mem_map.mp z
        have := h3 x hx
        show 48 + x = 45 ∨ 48 ≤ 48 + x ∧ 48 + x ≤ 58
        omega
theorem word_free {j : Jn} (h : Jb j) : 32 ∉ tl (wordT j) ∧ 10 ∉ tl (wordT j) := ⟨fun z => by have := word_mem h _ z; omega, fun z => by have := word_mem h _ z; omega⟩
theorem line_split {b : Blk} (h4 : b.length = 4) (h : ∀ j ∈ b, Jb j) : Txt.split (lineT b) (Str.ofString " ") = b.map wordT :=
  split_join (s := 32) (S := []) (by decide +kernel) (by decide +kernel) (by
    intro e
    have := congrArg List.length e
    rw [List.length_map, h4] at this
    cases this) fun p hp => by
      obtain ⟨j, hj, rfl⟩ := List.mem_map.mp hp
      exact (word_free (h j hj)).1
theorem mem_joinL {S : List Nat} {c : Nat} : ∀ {ps : List (List Nat)}, c ∈ joinL S ps → c ∈ S ∨ ∃ p ∈ ps, c ∈ p
  | [], h => by cases h
  | [p], h => .inr ⟨p, List.mem_singleton.mpr rfl, h⟩
  | p :: q :: r, h => by
    rcases List.mem_append.mp (show c ∈ p ++ (S ++ joinL S (q :: r)) from h) with z | z
    · exact .inr ⟨p, List.mem_cons_self, z⟩
    · rcases List.mem_append.mp z with z | z
      · exact .inl z
      · rcases mem_joinL z with z | ⟨p', hp, z⟩
        · exact .inl z
        · exact .inr ⟨p', List.mem_cons_of_mem _ hp, z⟩
theorem tl_join' (y : Str) (ps : List Str) : tl (Txt.join y ps) = joinL (tl y) (ps.map tl) := by rw [join_eq, tl_join]
theorem line_free {b : Blk} (h : ∀ j ∈ b, Jb j) : 10 ∉ tl (lineT b) := by
  intro z
  unfold lineT at z
  rw [tl_join'] at z
  rcases mem_joinL z with z | ⟨p, hp, z⟩
  · revert z
    decide +kernel
  · rw [List.map_map] at hp
    obtain ⟨j, hj, rfl⟩ := List.mem_map.mp hp
    exact (word_free (h j hj)).2 z
theorem text_split {S : Spc} (h : Sb S) (h1 : 1 ≤ S.length) : Txt.split (textT S) (Str.ofString "\n") = S.map lineT :=
  split_join (s := 10) (S := []) (by decide +kernel) (by decide +kernel) (by
    intro e
    have := congrArg List.length e
    rw [List.length_map] at this
    simp only [List.length_nil] at this
    omega) fun p hp => by
      obtain ⟨b, hb, rfl⟩ := List.mem_map.mp hp
      exact line_free (h.2 b hb).2
theorem text_len {S : Spc} (h : Sb S) : (textT S).length ≤ 1400 := by
  have h1 : (textT S).length ≤ (S.map lineT).length * 32 + (S.map lineT).length * (Str.ofString "\n").length := join_le fun y hy => by
    obtain ⟨b, hb, rfl⟩ := List.mem_map.mp hy
    exact line_len (h.2 b hb).1 (h.2 b hb).2
  have e1 : (Str.ofString "\n").length = 1 := by decide +kernel
  have := h.1
  rw [List.length_map, e1] at h1
  omega
theorem Good.jt {S : Spc} (h : Good S) (hl : S.length ≤ 40) : ∀ b ∈ S, ∀ j ∈ b, Jt j := by
  intro b hb j hj n t e
  subst e
  obtain ⟨i, hi⟩ := List.mem_iff_getElem?.mp hb
  obtain ⟨f, hf⟩ := List.mem_iff_getElem?.mp hj
  have g : getJ S i f = some (some (n, t)) := by
    unfold getJ
    rw [hi]
    exact hf
  have := h.lt g
  exact ⟨by omega, (h.both _ _ _ _ g).1⟩
/-- a comprehension of a dict over a range -/
theorem dc_range {lo : Int} {n : Nat} {g : TG} {tt : TT} {tk tv : TE} {vs : List Nat} {σ : L2.St} {H1 : Hp} {D : Addr} {Qd : Hp → Prop} (Pv : Nat → Hp → Prop) (h0 : Pv 0 (upd H1 D (.dK [])))
    (hs : ∀ i H, i < n → Pv i H → g (.int (lo + i)) (wipe σ vs) H fun σ2 H2 => wipe σ2 vs = wipe σ vs ∧ tt σ2 H2 fun b H3 =>
      if b = true then tk σ2 H3 fun y H4 => tv σ2 H4 fun z H5 => ∃ kvs k, y = kV k ∧ H5 D = some (.dK kvs) ∧ kvs.length < sizeLine ∧ Pv (i + 1) (upd H5 D (.dK (putK kvs k z))) else Pv (i + 1) H3) (hd : ∀ H, Pv n H → Qd H) :
    ∃ W : Nat → Nat → Hp → Prop, (∃ m, W 0 m (upd H1 D (.dK []))) ∧ ∀ i m H, W i m H →
      ((Itr lo n).stop i H ∧ Qd H) ∨ ((Itr lo n).go i H ∧ ∃ Nx : Hp → Prop, (∀ H', Nx H' → ∃ m', m' < m ∧ W (i + 1) m' H') ∧ ∀ x H', (Itr lo n).yld i H x H' → g x (wipe σ vs) H' fun σ2 H2 => wipe σ2 vs = wipe σ vs ∧ tt σ2 H2 fun b H3 =>
        if b = true then tk σ2 H3 fun y H4 => tv σ2 H4 fun z H5 => ∃ kvs k, y = kV k ∧ H5 D = some (.dK kvs) ∧ kvs.length < sizeLine ∧ Nx (upd H5 D (.dK (putK kvs k z))) else Nx H3) := by
  refine ⟨fun i m H => m = n - i ∧ i ≤ n ∧ Pv i H, ⟨n, by simp, Nat.zero_le _, h0⟩, ?_⟩
  rintro i m H ⟨rfl, hi, p⟩
  by_cases hlt : i < n
  · refine .inr ⟨hlt, Pv (i + 1), fun H' p' => ⟨n - (i + 1), by omega, rfl, hlt, p'⟩, fun x H' y => ?_⟩
    obtain ⟨e, y⟩ := y
    subst e y
    exact hs i _ hlt p
  · have e : i = n := by omega
    subst e
    exact .inl ⟨Nat.le_refl _, hd H p⟩
section
variable {P : Program} {w : World} {K : PySem.W.Frag} {mg : Str → Option Value} {base : Heap}
/-! ### _has_form -/
abbrev s_has_form : Stmt := topS 31
abbrev N_has_form : List Str := ["words", "word"]
theorem sc_has_form : FnScope N_has_form ["words"] (defScope s_has_form) := ⟨rfl, rfl, rfl, by decide +kernel, rfl, by decide +kernel, by decide +kernel⟩
def spHasForm : Sp := fun vs H Q _ => ∃ (a : Addr) (ws : List Str), vs = [.ref a] ∧ H a = some (.lst (ws.map V.str)) ∧ ws.length ≤ 60 ∧ (∀ x ∈ ws, x.length ≤ 60 ∧ ∀ c ∈ tl x, c < 1000) ∧ ∀ H', Same H H' → Q (.bl (hasForm ws)) H'
theorem ok_has_form {f fJ : Addr} {fd fdJ : FuncData} (F : Fun K "_has_form" "_has_form" s_has_form f fd) (Fis_joining_word : Fun K "is_joining_word" "is_joining_word" sis_joining_word fJ fdJ) (gis_joining_word : mg "is_joining_word" = some (.ref fJ)) (bis_joining_word : Binds K fdJ ["word"] [])
    (Gis_joining_word : FnOk P w K mg base CX0 2 fJ fdJ ["word"] spJoinW) (m_all : mg "all" = none) (m_len : mg "len" = none) : FnOk P w K mg base CX0 3 f fd ["words"] spHasForm := by
  refine F.ok sc_has_form (fun vs H Q E h => ?_) (fun cdv A outer s H vs Q E hr h => ?_)
  · obtain ⟨a, ws, rfl, _⟩ := h
    rfl
  · obtain ⟨a, ws, rfl, ha, hl, hw, q⟩ := h
    have nd := sc_has_form.nd
    refine ⟨_, (pss_one (ps_ret (pe_and (pe_cmpR op_eq (pe_callB (kLen K rfl) (by rfl) m_len (by decide +kernel) (pa_cons (pv 0) pa_nil)) pe_int (nomark _)) (pe_one (pe_callB (kAll K rfl rfl) (by rfl) m_all (by decide +kernel) (pa_cons (pe_lc (own := [("word", 1)]) (g := gName 1) (tt := tYes) rfl nd (kPiL K rfl (pi_list (pv 0))) (blkOk_by (own := [("word", 1)]) (N := N_has_form) (sc := defScope s_has_form) (by decide +kernel)) (fun _ _ _ _ _ => (pg_name (i := 1) nd rfl (Or.inl rfl))) (fun _ _ _ _ _ => pts_nil) (fun _ _ _ _ _ => (pe_or (pe_cmpR op_eq (pv 1) pe_str (nomark _)) (pe_one (pe_call Gis_joining_word (hr.mono (by first | decide | omega)) (by rfl) gis_joining_word Fis_joining_word.kp bis_joining_word .nil pass0 (pa_cons (pv 1) pa_nil)))))) pa_nil)))))), ?_⟩
    have lw : (ws.map V.str).length = ws.length := List.length_map ..
    have el : decide (V.int ((ws.map V.str).length : Int) = V.int 4) = decide (ws.length = 4) := by
      rw [lw, dec_int, Bool.eq_iff_iff]
      simp
      omega
    refine ⟨.ref a, rfl, a, _, rfl, .inl (.inl (.inl ha)), rfl, _, congrArg V.bl el, ?_⟩
    unfold hasForm at q
    cases h4 : decide (ws.length = 4) with
    | false =>
      rw [h4] at q
      exact iteF (q H (Same.refl H))
    | true =>
      rw [h4, Bool.true_and] at q
      refine iteT ?_
      refine ⟨.ref a, rfl, a, rfl, ⟨_, .inl (.inl ha)⟩, fun D nD => ?_⟩
      refine lc_list (xs := ws.map V.str) (fun i H2 => H2 D = some (.lst (((ws.take i).map fun x => decide (V.str x = V.str (Str.ofString "-")) || isJoinW x).map V.bl)) ∧ Same H H2) ⟨upd_same, same_new nD⟩ ?_ ?_ ?_
      · rintro i H2 _ ⟨h2, s2⟩
        exact .inl (.inl (s2 _ _ ha))
      · rintro i v H2 hv ⟨h2, s2⟩
        rw [List.getElem?_map] at hv
        cases hx : ws[i]? with
        | none =>
          rw [hx] at hv
          cases hv
        | some x =>
          rw [hx] at hv
          have ev : V.str x = v := Option.some.inj hv
          subst ev
          obtain ⟨hx1, hx2⟩ := hw x (List.mem_of_getElem? hx)
          have fin : ∀ H3, Same H2 H3 → ∃ acc, H3 D = some (.lst acc) ∧ acc.length < sizeLine ∧ ((upd H3 D (.lst (acc ++ [V.bl (decide (V.str x = V.str (Str.ofString "-")) || isJoinW x)]))) D = some (.lst (((ws.take (i + 1)).map fun x => decide (V.str x = V.str (Str.ofString "-")) || isJoinW x).map V.bl)) ∧ Same H (upd H3 D (.lst (acc ++ [V.bl (decide (V.str x = V.str (Str.ofString "-")) || isJoinW x)])))) := fun H3 s3 => by
            refine ⟨_, s3 _ _ h2, small1000 (by rw [List.length_map, List.length_map, List.length_take]; omega), ?_, same_fill (s2.trans s3) nD⟩
            rw [upd_same, List.take_add_one, hx, List.map_append, List.map_append]
            rfl
          refine ⟨rfl, .str x, rfl, rfl, _, rfl, ?_⟩
          cases hd : decide (V.str x = V.str (Str.ofString "-")) with
          | true =>
            rw [hd, Bool.true_or] at fin
            exact iteT (fin H2 (Same.refl _))
          | false =>
            rw [hd, Bool.false_or] at fin
            refine iteF ?_
            exact ⟨.str x, rfl, x, rfl, hx1, hx2, fin⟩
      · rintro H2 ⟨h2, s2⟩
        rw [lw, List.take_length] at h2
        refine ⟨D, _, rfl, .inl (.inl h2), ?_⟩
        rw [List.all_map]
        exact q H2 s2
/-! ### _joining_told -/
abbrev s_joining_told : Stmt := topS 35
abbrev N_joining_told : List Str := ["word", "numbers", "number", "_", "turn", "figure"]
theorem sc_joining_told : FnScope N_joining_told ["word", "numbers"] (defScope s_joining_told) := ⟨rfl, rfl, rfl, by decide +kernel, rfl, by decide +kernel, by decide +kernel⟩
def Nums (H : Hp) (dd : Addr) (m : Nat) : Prop := ∃ kvs, H dd = some (.dK kvs) ∧ ∀ n < m, valV kvs (.inr (numT n)) = some (intV n)
theorem Nums.same {H H' : Hp} {dd : Addr} {m : Nat} (h : Nums H dd m) (s : Same H H') : Nums H' dd m := by
  obtain ⟨kvs, h1, h2⟩ := h
  exact ⟨kvs, s _ _ h1, h2⟩
def NewD (H H' : Hp) (v : V) (d : PyData) : Prop := ∀ N : Addr → Prop, (∀ a, N a → H a ≠ none) → Dq N H' v d
def spJTold : Sp := fun vs H Q _ => ∃ (j : Jn) (dd : Addr) (m : Nat), vs = [.str (wordT j), .ref dd] ∧ Nums H dd m ∧ Jb j ∧ (∀ n t, j = some (n, t) → n < m) ∧ ∀ H' v d, Same H H' → NewD H H' v d → norm d = nJ j → Q v H'
theorem ok_joining_told {f : Addr} {fd : FuncData} (F : Fun K "_joining_told" "_joining_told" s_joining_told f fd) (m_int : mg "int" = none) : FnOk P w K mg base CX0 1 f fd ["word", "numbers"] spJTold := by
  refine F.ok sc_joining_told (fun vs H Q E h => ?_) (fun cdv A outer s H vs Q E hr h => ?_)
  · obtain ⟨j, dd, m, rfl, _⟩ := h
    rfl
  · obtain ⟨j, dd, m, rfl, hN, hb, hm, q⟩ := h
    have nd := sc_joining_told.nd
    refine ⟨_, (pss_cons (ps_if (pt_cmpR op_eq (pv 0) pe_str (nomark _)) (pss_one (ps_ret pe_non)) pss_nil)
      (pss_cons (ps_asg (pe_partition (pv 0) pe_str) (kPgT K rfl (pg_tup (n := 3) rfl (pgs_cons (pg_name (i := 2) nd rfl (.inl rfl)) (pgs_cons (pg_name (i := 3) nd rfl (.inl rfl)) (pgs_cons (pg_name (i := 4) nd rfl (.inl rfl)) pgs_nil))))))
      (pss_one (ps_ret (pe_tupF (pa_cons (pe_dget1 (hu_of hr) (pv 1) (pv 2) ⟨by rfl, by rfl, by rfl, by rfl⟩) (pa_cons (pe_lc (own := [("figure", 5)]) (g := gName 5) (tt := tYes) rfl nd (pi_str (pv 4)) (blkOk_by (own := [("figure", 5)]) (N := N_joining_told) (sc := defScope s_joining_told) (by decide +kernel)) (fun _ _ _ _ _ => (pg_name (i := 5) nd rfl (Or.inl rfl))) (fun _ _ _ _ _ => pts_nil) (fun _ _ _ _ _ => (pe_callTy call_int_str (by rfl) m_int (by decide +kernel) (pa_cons (pv 5) pa_nil)))) pa_nil))))))), ?_⟩
    have wl := word_len hb
    refine ⟨.str (wordT j), rfl, rfl, ?_⟩
    cases j with
    | none =>
      refine ⟨true, rfl, iteT ?_⟩
      exact q H .non .none (Same.refl H) (fun _ _ => .non) rfl
    | some k =>
      obtain ⟨n, t⟩ := k
      obtain ⟨h1, h2, h3⟩ := hb n t rfl
      refine ⟨_, congrArg V.bl (word_no n t), iteF ?_⟩
      refine ⟨.str (wordT (some (n, t))), rfl, ⟨_, rfl⟩, wordT (some (n, t)), Str.ofString ":", rfl, rfl, by decide +kernel, Nat.le_of_lt (small1000 (by omega)), fun p np => ?_⟩
      rw [word_part]
      refine ⟨p, _, rfl, .inl (.inl upd_same), rfl, _, _, rfl, _, _, rfl, _, _, rfl, rfl, ?_⟩
      have s1 : Same H (upd H p (.tup [.str (numT n), .str (Str.ofString ":"), .str (figT t)])) := same_new np
      show _
      generalize upd H p (.tup [.str (numT n), .str (Str.ofString ":"), .str (figT t)]) = H1 at s1 ⊢
      obtain ⟨kvs, hk, hv⟩ := hN.same s1
      refine ⟨.ref dd, rfl, dd, rfl, .inl ⟨kvs, .inl hk⟩, .str (numT n), rfl, some (intV n), ?_, ?_⟩
      · have := DGet.k (k := .inr (numT n)) hk
        rw [hv n (hm n t rfl)] at this
        exact this
      refine ⟨.str (figT t), rfl, figT t, rfl, fun D nD => ?_⟩
      have tf := tl_fig h3
      have lf : (figT t).cps.size = t.length := by
        have := len_tl (figT t)
        rw [tf, List.length_map] at this
        exact this
      refine lc_it walk_str (fun i H2 => H2 = upd H1 D (.lst ((t.take i).map intV))) rfl (fun _ _ _ _ => trivial) ?_ ?_
      · rintro i v H2 H3 hi rfl ⟨rfl, c, hc, rfl⟩
        have hc' : (tl (figT t))[i]? = some c := by rw [← hc]; exact Array.getElem?_toList
        rw [tf, List.getElem?_map] at hc'
        cases hx : t[i]? with
        | none =>
          rw [hx] at hc'
          cases hc'
        | some x =>
          rw [hx] at hc'
          have ec : 48 + x = c := Option.some.inj hc'
          subst ec
          have hx4 := h3 x (List.mem_of_getElem? hx)
          have es : (⟨#[48 + x]⟩ : Str) = numT x := ext_tl (by
            rw [tl_numT, numL_lt (by omega)])
          rw [es]
          refine ⟨rfl, .str (numT x), rfl, numT x, (x : Int), rfl, int_num (by rw [numL_lt (by omega)]; show 1 ≤ 4300; decide), by have := num_len x (by omega); omega, _, upd_same, small1000 (by rw [List.length_map, List.length_take]; omega), ?_⟩
          rw [upd_upd, List.take_add_one, hx, List.map_append]
          rfl
      · rintro H2 rfl
        rw [lf, List.take_length]
        refine ⟨(show 2 ≤ sizeLine by decide), fun p2 o2 np2 dn => ?_⟩
        have s2 : Same H1 (upd H1 D (.lst (t.map intV))) := same_new nD
        have h2' : (upd H1 D (.lst (t.map intV))) D = some (.lst (t.map intV)) := upd_same
        generalize upd H1 D (.lst (t.map intV)) = H2 at s2 h2' np2 ⊢
        have s3 : Same H2 (upd H2 p2 (.frz o2 (.tup [intV n, .ref D]))) := same_new np2
        have f3 : FT (upd H2 p2 (.frz o2 (.tup [intV n, .ref D]))) p2 [intV n, .ref D] := FT.new dn
        refine q _ _ (.tuple [intD n, .list (t.map intD)]) ((s1.trans s2).trans s3) (fun N hN' => .tup f3 (.cons (.int _) (.cons (.lst (s3 _ _ h2') (fun z => hN' D z ?_) (dqs_ints t)) .nil))) ?_
        · cases e : H D with
          | none => rfl
          | some o =>
            have := s1 _ _ e
            rw [nD] at this
            cases this
        · rw [nJ_some]
          simp only [norm, norms, norm_ints, intD]
end
end Bk

namespace Bk
open PySem PySem.Spec PyProof.Rows L2 TL
local macro_rules | `(tactic| walk_at "g") => `(tactic| (repeat first | refine ⟨_, rfl, ?_⟩ | refine ⟨cpow, ?_⟩ | refine ⟨wideM, ?_⟩ | refine ⟨_, _, rfl, rfl, ?_⟩ | refine ⟨rfl, ?_⟩))
theorem upd_eq {H : Hp} {a : Addr} {o : HO} (h : H a = some o) : upd H a o = H := by
  funext b
  by_cases e : b = a
  · subst e
    rw [upd_same, h]
  · rw [upd_ne e]
theorem kPiE {X : Cx} (K : PySem.W.Frag) {tg l : Expr} {ta : TA} (h : X.K = K) (x : PI X tg l (iEnum X.K ta)) : PI X tg l (iEnum K ta) := h ▸ x
theorem new_none {H H' : Hp} {D : Addr} (s : Same H H') (n : H' D = none) : H D = none := by
  cases e : H D with
  | none => rfl
  | some o =>
    have := s _ _ e
    rw [n] at this
    cases this
/-- stored in a new list -/
theorem Dq.fillN {N N' : Addr → Prop} {H : Hp} {D : Addr} {o : HO} {v : V} {d : PyData} (h : Dq N H v d) (n : ∀ a, N' a → N a) (hD : N D) {u : List V} (e : H D = some (.lst u)) : Dq N' (upd H D o) v d :=
  h.mono (tups_set e) n fun a xs ha hn => by
    rw [upd_ne (fun z => hn (by rw [z]; exact hD))]
    exact ha
theorem Dqs.fillN {N N' : Addr → Prop} {H : Hp} {D : Addr} {o : HO} (n : ∀ a, N' a → N a) (hD : N D) {u : List V} (e : H D = some (.lst u)) : ∀ {vs : List V} {ds : List PyData}, Dqs N H vs ds → Dqs N' (upd H D o) vs ds
  | _, _, .nil => .nil
  | _, _, .cons h t => .cons (h.fillN n hD e) (Dqs.fillN n hD e t)
theorem Dqs.snocN {N : Addr → Prop} {H : Hp} {v : V} {d : PyData} (h : Dq N H v d) : ∀ {vs : List V} {ds : List PyData}, Dqs N H vs ds → Dqs N H (vs ++ [v]) (ds ++ [d])
  | _, _, .nil => .cons h .nil
  | _, _, .cons h1 t => .cons h1 (Dqs.snocN h t)
theorem Dqs.sameN {N : Addr → Prop} {H H' : Hp} (s : Same H H') : ∀ {vs : List V} {ds : List PyData}, Dqs N H vs ds → Dqs N H' vs ds
  | _, _, .nil => .nil
  | _, _, .cons h t => .cons (h.same s) (Dqs.sameN s t)
theorem norms_snoc {ds : List PyData} {d e : PyData} {es : List PyData} (h : norms ds = es) (he : norm d = e) : norms (ds ++ [d]) = es ++ [e] := by
  rw [norms_map, List.map_append, ← norms_map, h]
  show es ++ [norm d] = _
  rw [he]
section
variable {P : Program} {w : World} {K : PySem.W.Frag} {mg : Str → Option Value} {base : Heap}
/-! ### _block_told -/
abbrev s_block_told : Stmt := topS 34
abbrev N_block_told : List Str := ["words", "numbers", "word"]
theorem sc_block_told : FnScope N_block_told ["words", "numbers"] (defScope s_block_told) := ⟨rfl, rfl, rfl, by decide +kernel, rfl, by decide +kernel, by decide +kernel⟩
def spBTold : Sp := fun vs H Q _ => ∃ (a dd : Addr) (b : Blk) (m : Nat), vs = [.ref a, .ref dd] ∧ H a = some (.lst ((b.map wordT).map V.str)) ∧ Nums H dd m ∧ b.length = 4 ∧ (∀ j ∈ b, Jb j ∧ ∀ n t, j = some (n, t) → n < m) ∧ ∀ H' v d, Same H H' → NewD H H' v d → norm d = nB b → Q v H'
theorem ok_block_told {f fJ : Addr} {fd fdJ : FuncData} (F : Fun K "_block_told" "_block_told" s_block_told f fd) (F_joining_told : Fun K "_joining_told" "_joining_told" s_joining_told fJ fdJ) (g_joining_told : mg "_joining_told" = some (.ref fJ)) (b_joining_told : Binds K fdJ ["word", "numbers"] [])
    (G_joining_told : FnOk P w K mg base CX0 1 fJ fdJ ["word", "numbers"] spJTold) : FnOk P w K mg base CX0 2 f fd ["words", "numbers"] spBTold := by
  refine F.ok sc_block_told (fun vs H Q E h => ?_) (fun cdv A outer s H vs Q E hr h => ?_)
  · obtain ⟨a, dd, b, m, rfl, _⟩ := h
    rfl
  · obtain ⟨a, dd, b, m, rfl, ha, hN, h4, hb, q⟩ := h
    have nd := sc_block_told.nd
    refine ⟨_, (pss_one (ps_ret (pe_lc (own := [("word", 2)]) (g := gName 2) (tt := tYes) rfl nd (kPiL K rfl (pi_list (pv 0))) (blkOk_by (own := [("word", 2)]) (N := N_block_told) (sc := defScope s_block_told) (by decide +kernel)) (fun _ _ _ _ _ => (pg_name (i := 2) nd rfl (Or.inl rfl))) (fun _ _ _ _ _ => pts_nil) (fun _ _ _ _ _ => (pe_call G_joining_told (hr.mono (by first | decide | omega)) (by rfl) g_joining_told F_joining_told.kp b_joining_told .nil pass0 (pa_cons (pv 2) (pa_cons (pv 1) pa_nil))))))), ?_⟩
    have lw : ((b.map wordT).map V.str).length = b.length := by rw [List.length_map, List.length_map]
    refine ⟨.ref a, rfl, a, rfl, ⟨_, .inl (.inl ha)⟩, fun D nD => ?_⟩
    refine lc_list (xs := (b.map wordT).map V.str) (fun i H2 => ∃ vs ds, H2 D = some (.lst vs) ∧ vs.length = i ∧ i ≤ 4 ∧ norms ds = (b.take i).map nJ ∧ (∀ N : Addr → Prop, (∀ a, N a → H a ≠ none) → Dqs (fun a => a = D ∨ N a) H2 vs ds) ∧ Same H H2) ⟨[], [], upd_same, rfl, by decide, rfl, fun _ _ => .nil, same_new nD⟩ ?_ ?_ ?_
    · rintro i H2 _ ⟨vs, ds, h2, l2, i4, n2, d2, s2⟩
      exact .inl (.inl (s2 _ _ ha))
    · rintro i v H2 hv ⟨vs, ds, h2, l2, i4, n2, d2, s2⟩
      rw [List.getElem?_map, List.getElem?_map] at hv
      cases hx : b[i]? with
      | none =>
        rw [hx] at hv
        cases hv
      | some j =>
        rw [hx] at hv
        have ev : V.str (wordT j) = v := Option.some.inj hv
        subst ev
        obtain ⟨hj1, hj2⟩ := hb j (List.mem_of_getElem? hx)
        have hi : i < 4 := by
          have := (List.getElem?_eq_some_iff.mp hx).1
          omega
        refine ⟨rfl, .str (wordT j), rfl, .ref dd, rfl, j, dd, m, rfl, hN.same s2, hj1, hj2, fun H3 v3 d3 s3 n3 e3 => ?_⟩
        have h3 := s3 _ _ h2
        refine ⟨vs, h3, small1000 (by omega), vs ++ [v3], ds ++ [d3], upd_same, by rw [List.length_append, l2]; rfl, hi, ?_, fun N hN' => ?_, same_fill (s2.trans s3) nD⟩
        · rw [List.take_add_one, hx, List.map_append]
          exact norms_snoc n2 e3
        · have c1 := (d2 N hN').sameN s3
          have c2 := n3 (fun a => a = D ∨ N a) fun a ha' => by
            rcases ha' with rfl | ha'
            · rw [h2]
              exact fun z => by cases z
            · cases e : H a with
              | none => exact absurd e (hN' a ha')
              | some o => rw [s2 _ _ e]; exact fun z => by cases z
          exact Dqs.fillN (fun _ z => z) (.inl rfl) h3 (Dqs.snocN c2 c1)
    · rintro H2 ⟨vs, ds, h2, l2, i4, n2, d2, s2⟩
      rw [lw, List.take_length] at n2
      refine q H2 (.ref D) (.list ds) s2 (fun N hN' => .lst h2 (fun z => hN' D z nD) ?_) ?_
      · have := d2 N hN'
        have e := Dqs.fillN (o := .lst vs) (fun a z => .inr z) (.inl rfl) h2 this (N' := N)
        rwa [upd_eq h2] at e
      · simp only [norm, n2, nB]
/-! ### read_space -/
def WAt (D : Addr) (H : Hp) (v : V) (b : Blk) : Prop := ∃ p, v = .ref p ∧ p ≠ D ∧ H p = some (.lst ((b.map wordT).map V.str))
theorem WAt.same {D : Addr} {H H' : Hp} {v : V} {b : Blk} (h : WAt D H v b) (s : Same H H') : WAt D H' v b := by
  obtain ⟨p, e, n, hp⟩ := h
  exact ⟨p, e, n, s _ _ hp⟩
theorem WAt.fill {D : Addr} {H : Hp} {o : HO} {v : V} {b : Blk} (h : WAt D H v b) : WAt D (upd H D o) v b := by
  obtain ⟨p, e, n, hp⟩ := h
  exact ⟨p, e, n, by rw [upd_ne n]; exact hp⟩
theorem valV_put {kvs : List (Key × V)} {k : Key} {v : V} (h : valV kvs k = none) (j : Key) : valV (putK kvs k v) j = if j = k then some v else valV kvs j := by
  unfold putK
  rw [valV_any, h]
  exact valV_snoc k j v kvs h
theorem putK_new {kvs : List (Key × V)} {k : Key} {v : V} (h : valV kvs k = none) : putK kvs k v = kvs ++ [(k, v)] := by
  unfold putK
  rw [valV_any, h]
  rfl
abbrev sread_space : Stmt := topS 30
abbrev Nread_space : List Str := ["text", "rows", "at", "words", "numbers", "line", "block", "row"]
theorem scread_space : FnScope Nread_space ["text"] (defScope sread_space) := ⟨rfl, rfl, rfl, by decide +kernel, rfl, by decide +kernel, by decide +kernel⟩
def spRead : Sp := fun vs H Q _ => ∃ (S : Spc), vs = [.str (textT S)] ∧ Good S ∧ 1 ≤ S.length ∧ S.length ≤ 40 ∧ ∀ H' v, Same H H' → ST H' v S → Q v H'
theorem okread_space {f fF fB fX : Addr} {fd fdF fdB fdX : FuncData} (F : Fun K "read_space" "read_space" sread_space f fd) (F_has_form : Fun K "_has_form" "_has_form" s_has_form fF fdF) (g_has_form : mg "_has_form" = some (.ref fF)) (b_has_form : Binds K fdF ["words"] []) (G_has_form : FnOk P w K mg base CX0 3 fF fdF ["words"] spHasForm)
    (F_block_told : Fun K "_block_told" "_block_told" s_block_told fB fdB) (g_block_told : mg "_block_told" = some (.ref fB)) (b_block_told : Binds K fdB ["words", "numbers"] []) (G_block_told : FnOk P w K mg base CX0 2 fB fdB ["words", "numbers"] spBTold)
    (Fspace_of : Fun K "space_of" "space_of" sspace_of fX fdX) (gspace_of : mg "space_of" = some (.ref fX)) (bspace_of : Binds K fdX ["blocks"] []) (Gspace_of : FnOk P w K mg base CX0 6 fX fdX ["blocks"] spSpace)
    (m_enumerate : mg "enumerate" = none) (m_str : mg "str" = none) (m_range : mg "range" = none) (m_len : mg "len" = none) : FnOk P w K mg base CX0 7 f fd ["text"] spRead := by
  refine F.ok scread_space (fun vs H Q E h => ?_) (fun cdv A outer s H vs Q E hr h => ?_)
  · obtain ⟨S, rfl, _⟩ := h
    rfl
  · obtain ⟨S, rfl, hG, hS1, hS2, q⟩ := h
    have nd := scread_space.nd
    refine ⟨_, (pss_cons (ps_setLc (i := 1) (own := [("line", 5)]) (g := gName 5) (tt := tYes) rfl nd rfl rfl (sw_true rfl rfl rfl (by decide +kernel)) (kPiL K rfl (pi_list (pe_split (pv 0) pe_str))) (blkOk_by (own := [("line", 5)]) (N := Nread_space) (sc := defScope sread_space) (by decide +kernel)) (fun _ _ _ _ _ => (pg_name (i := 5) nd rfl (Or.inl rfl))) (fun _ _ _ _ _ => pts_nil) (fun _ _ _ _ _ => (pe_split (pv 5) pe_str)))
      (pss_cons (ps_for PassesOwn.never rfl (kPiE K rfl (pi_enum (by rfl) m_enumerate (pa_cons (pv 1) pa_nil))) (kPgT K rfl (pg_tup (n := 2) rfl (pgs_cons (pg_name (i := 2) nd rfl (.inl rfl)) (pgs_cons (pg_name (i := 3) nd rfl (.inl rfl)) pgs_nil)))) (pss_one (ps_if (pt_not (pt_val (pe_call G_has_form (hr.mono (by first | decide | omega)) (by rfl) g_has_form F_has_form.kp b_has_form .nil pass0 (pa_cons (pv 3) pa_nil)))) (pss_one ps_never) pss_nil)))
      (pss_cons (ps_set (i := 4) nd rfl (.inr rfl) (pe_dc (own := [("block", 6)]) (g := gName 6) (tt := tYes) rfl nd (pi_range1 (by rfl) m_range (pa_cons (pe_callB (kLen K rfl) (by rfl) m_len (by decide +kernel) (pa_cons (pv 1) pa_nil)) pa_nil)) (blkOk_by (own := [("block", 6)]) (N := Nread_space) (sc := defScope sread_space) (by decide +kernel)) (fun _ _ _ _ _ => (pg_name (i := 6) nd rfl (Or.inl rfl))) (fun _ _ _ _ _ => pts_nil) (fun _ _ _ _ _ => (pe_callTy call_str_int (by rfl) m_str (by decide +kernel) (pa_cons (pv 6) pa_nil))) (fun _ _ _ _ _ => (pv 6))))
      (pss_one (ps_ret (pe_call Gspace_of (hr.mono (by first | decide | omega)) (by rfl) gspace_of Fspace_of.kp bspace_of .nil pass0 (pa_cons (pe_lc (own := [("row", 7)]) (g := gName 7) (tt := tYes) rfl nd (kPiL K rfl (pi_list (pv 1))) (blkOk_by (own := [("row", 7)]) (N := Nread_space) (sc := defScope sread_space) (by decide +kernel)) (fun _ _ _ _ _ => (pg_name (i := 7) nd rfl (Or.inl rfl))) (fun _ _ _ _ _ => pts_nil) (fun _ _ _ _ _ => (pe_call G_block_told (hr.mono (by first | decide | omega)) (by rfl) g_block_told F_block_told.kp b_block_told .nil pass0 (pa_cons (pv 7) (pa_cons (pv 4) pa_nil))))) pa_nil))))))), ?_⟩
    have hb := hG.sb hS2
    have hj := hG.jt hS2
    have tl' := text_len hb
    refine ⟨.str (textT S), rfl, ⟨_, rfl⟩, textT S, Str.ofString "\n", rfl, rfl, by decide +kernel, by rw [sizeLine_eq]; omega, fun p0 np0 => ?_⟩
    rw [text_split hb hS1]
    have s0 : Same H (upd H p0 (.lst ((S.map lineT).map V.str))) := same_new np0
    have h0 : (upd H p0 (.lst ((S.map lineT).map V.str))) p0 = some (.lst ((S.map lineT).map V.str)) := upd_same
    generalize upd H p0 (.lst ((S.map lineT).map V.str)) = H0 at s0 h0 ⊢
    have lS : ((S.map lineT).map V.str).length = S.length := by rw [List.length_map, List.length_map]
    refine ⟨p0, rfl, ⟨_, .inl (.inl h0)⟩, fun D nD => ?_⟩
    refine lc_list (xs := (S.map lineT).map V.str) (fun i H2 => ∃ ws, H2 D = some (.lst ws) ∧ Paired (WAt D H2) ws (S.take i) ∧ Same H0 H2) ⟨[], upd_same, .nil, same_new nD⟩ ?_ ?_ ?_
    · rintro i H2 _ ⟨ws, h2, w2, s2⟩
      exact .inl (.inl (s2 _ _ h0))
    · rintro i v H2 hv ⟨ws, h2, w2, s2⟩
      rw [List.getElem?_map, List.getElem?_map] at hv
      cases hx : S[i]? with
      | none =>
        rw [hx] at hv
        cases hv
      | some b =>
        rw [hx] at hv
        have ev : V.str (lineT b) = v := Option.some.inj hv
        subst ev
        obtain ⟨hb4, hbj⟩ := hb.2 b (List.mem_of_getElem? hx)
        have hi : i < S.length := (List.getElem?_eq_some_iff.mp hx).1
        have ll := line_len hb4 hbj
        refine ⟨rfl, .str (lineT b), rfl, ⟨_, rfl⟩, lineT b, Str.ofString " ", rfl, rfl, by decide +kernel, by rw [sizeLine_eq]; omega, fun p1 np1 => ?_⟩
        rw [line_split hb4 hbj]
        have s3 : Same H2 (upd H2 p1 (.lst ((b.map wordT).map V.str))) := same_new np1
        have h3 := s3 _ _ h2
        have hp : (upd H2 p1 (.lst ((b.map wordT).map V.str))) p1 = some (.lst ((b.map wordT).map V.str)) := upd_same
        generalize upd H2 p1 (.lst ((b.map wordT).map V.str)) = H3 at s3 h3 hp ⊢
        have ne1 : p1 ≠ D := fun z => by rw [z, h2] at np1; cases np1
        refine ⟨ws, h3, small1000 (by rw [plen w2, List.length_take]; omega), ws ++ [.ref p1], upd_same, ?_, same_fill (s2.trans s3) nD⟩
        rw [List.take_add_one, hx]
        exact papp (pmono w2 fun _ _ z => (z.same s3).fill) (.cons ⟨p1, rfl, ne1, by rw [upd_ne ne1]; exact hp⟩ .nil)
    · rintro H2 ⟨ws, h2, w2, s2⟩
      rw [lS, List.take_length] at w2
      have s02 := s0.trans s2
      have lws : ws.length = S.length := plen w2
      refine ⟨.ref D, rfl, D, ws, rfl, .inl (.inl h2), ?_⟩
      refine for_it (walk_enum (xs := ws)) (fun i σ H3 => ∃ y2 y3 y4, σ = [some (.str (textT S)), some (.ref D), y2, y3, y4, none, none, none] ∧ Same H2 H3) ⟨none, none, none, rfl, Same.refl _⟩ ?_ ?_ ?_
      · rintro i σ H3 _ ⟨y2, y3, y4, rfl, s3⟩
        exact .inl (.inl (s3 _ _ h2))
      · rintro i v σ H3 H4 hi ⟨y2, y3, y4, rfl, s3⟩ ⟨T, x, y, rfl, nT, rfl, hx, hy⟩
        cases hx
        obtain ⟨b, hbi, wb⟩ := pget' w2 hy
        obtain ⟨hb4, hbj⟩ := hb.2 b (List.mem_of_getElem? hbi)
        have s4 : Same H3 (upd H3 T (.tup [.int (i : Nat), y])) := same_new nT
        refine ⟨T, [.int (i : Nat), y], rfl, .inl (.inl upd_same), rfl, .int (i : Nat), [y], rfl, y, [], rfl, rfl, ?_⟩
        generalize upd H3 T (.tup [.int (i : Nat), y]) = H4 at s4 ⊢
        obtain ⟨p, rfl, _, hp⟩ := wb.same (s3.trans s4)
        refine ⟨.ref p, rfl, p, b.map wordT, rfl, hp, by rw [List.length_map]; omega, fun x hx => ?_, fun H5 s5 => ?_⟩
        · obtain ⟨j, hjb, rfl⟩ := List.mem_map.mp hx
          have := word_len (hbj j hjb)
          exact ⟨by omega, fun c hc => by have := word_mem (hbj j hjb) c hc; omega⟩
        · rw [line_form hb4 (hj b (List.mem_of_getElem? hbi))]
          refine ⟨_, rfl, iteF ?_⟩
          exact ⟨_, _, _, rfl, (s3.trans s4).trans s5⟩
      · rintro σ H3 ⟨y2, y3, y4, rfl, s3⟩
        have h3 := s3 _ _ h2
        refine ⟨.ref D, rfl, D, ws, rfl, .inl (.inl (.inl h3)), _, rfl, by rw [lws]; omega, by rw [lws]; omega, ?_⟩
        rw [lws, Int.toNat_natCast]
        intro DD nDD
        refine dc_range (lo := 0) (n := S.length) (fun i H4 => ∃ kvs : List (Key × V), H4 = upd H3 DD (.dK kvs) ∧ kvs.length = i ∧ ∀ n, valV kvs (.inr (numT n)) = if n < i then some (intV n) else none) ⟨[], rfl, rfl, fun n => rfl⟩ ?_ ?_
        · rintro i H4 hi ⟨kvs, rfl, lk, hv⟩
          rw [Int.zero_add]
          have hn : valV kvs (.inr (numT i)) = none := by
            rw [hv i, if_neg (by omega)]
          refine ⟨rfl, intV i, rfl, (i : Int), rfl, num_log (by omega), intV i, rfl, kvs, .inr (numT i), rfl, upd_same, small1000 (by omega), putK kvs (.inr (numT i)) (intV i), by rw [upd_upd], ?_, fun n => ?_⟩
          · rw [putK_new hn, List.length_append, lk]
            rfl
          · rw [valV_put hn]
            by_cases e : n = i
            · subst e
              rw [if_pos rfl, if_pos (by omega)]
            · rw [if_neg (fun z => e (numT_inj (Sum.inr.inj z))), hv n]
              by_cases l : n < i
              · rw [if_pos l, if_pos (by omega)]
              · rw [if_neg l, if_neg (by omega)]
        · rintro H4 ⟨kvs, e4, lk, hv⟩
          have s4 : Same H3 H4 := by
            rw [e4]
            exact same_new nDD
          have hN : Nums H4 DD S.length := ⟨kvs, by rw [e4]; exact upd_same, fun n hn => by rw [hv n, if_pos hn]⟩
          clear e4
          have h4 := s4 _ _ h3
          refine ⟨.ref D, rfl, D, rfl, ⟨_, .inl (.inl h4)⟩, fun L nL => ?_⟩
          refine lc_list (xs := ws) (fun i H5 => ∃ vs ds, H5 L = some (.lst vs) ∧ vs.length = i ∧ norms ds = (S.take i).map nB ∧ Dqs (fun a => a = L) H5 vs ds ∧ Same H4 H5) ⟨[], [], upd_same, rfl, rfl, .nil, same_new nL⟩ ?_ ?_ ?_
          · rintro i H5 _ ⟨vs, ds, h5, l5, n5, d5, s5⟩
            exact .inl (.inl (s5 _ _ h4))
          · rintro i v H5 hv5 ⟨vs, ds, h5, l5, n5, d5, s5⟩
            obtain ⟨b, hbi, wb⟩ := pget' w2 hv5
            obtain ⟨hb4, hbj⟩ := hb.2 b (List.mem_of_getElem? hbi)
            have hi : i < S.length := (List.getElem?_eq_some_iff.mp hbi).1
            obtain ⟨p, rfl, _, hp⟩ := wb.same ((s3.trans s4).trans s5)
            refine ⟨rfl, .ref p, rfl, .ref DD, rfl, p, DD, b, S.length, rfl, hp, hN.same s5, hb4, fun j hjb => ⟨hbj j hjb, fun n t e => ?_⟩, fun H6 v6 d6 s6 n6 e6 => ?_⟩
            · subst e
              obtain ⟨f, hf⟩ := List.mem_iff_getElem?.mp hjb
              have g : getJ S i f = some (some (n, t)) := by
                unfold getJ
                rw [hbi]
                exact hf
              exact hG.lt g
            · have h6 := s6 _ _ h5
              refine ⟨vs, h6, small1000 (by omega), vs ++ [v6], ds ++ [d6], upd_same, by rw [List.length_append, l5]; rfl, ?_, ?_, same_fill (s5.trans s6) nL⟩
              · rw [List.take_add_one, hbi, List.map_append]
                exact norms_snoc n5 e6
              · have c2 := n6 (fun a => a = L) fun a ha' => by
                  rw [ha', h5]
                  exact fun z => by cases z
                exact Dqs.fillN (N := fun a => a = L) (fun _ z => z) rfl h6 (Dqs.snocN c2 (d5.sameN s6))
          · rintro H5 ⟨vs, ds, h5, l5, n5, d5, s5⟩
            rw [lws, List.take_length] at n5
            have d5' := Dqs.fillN (o := .lst vs) (N := fun a => a = L) (N' := fun _ => False) (fun a z => z.elim) rfl h5 d5
            rw [upd_eq h5] at d5'
            exact ⟨fun _ => False, .ref L, .list ds, S, rfl, .lst h5 (fun z => z) d5', (by simp only [norm, n5, nS]), hG, hS1, by omega, fun H6 v6 s6 st6 => q _ _ ((((s02.trans s3).trans s4).trans s5).trans s6) st6⟩
end
end Bk

namespace Bk
open PySem PySem.Spec PyProof.Rows L2 TL
local macro_rules | `(tactic| walk_at "g") => `(tactic| (repeat first | refine ⟨_, rfl, ?_⟩ | refine ⟨cpow, ?_⟩ | refine ⟨wideM, ?_⟩ | refine ⟨_, _, rfl, rfl, ?_⟩ | refine ⟨rfl, ?_⟩))
/-- numbers exchanged -/
def numJ (fs : List Nat) (j : Jn) : Jn := j.map fun k => (tf fs k.1, k.2)
theorem cut_front {a b : Str} (hb : b.length = 5) : cutS (a ++ b) none (some (-5)) = a := by
  refine ext_tl ?_
  have ha := len_tl a
  have hb' := len_tl b
  have hz : (a ++ b).length = a.length + 5 := by rw [strLen_append, hb]
  show ((tl (a ++ b)).drop 0).take (HT.sIx (a ++ b).length (a ++ b).length (some (-5)) - 0) = tl a
  have e : HT.sIx (a ++ b).length (a ++ b).length (some (-5)) = (tl a).length := by
    show (if (-5 : Int) < 0 then ((-5 : Int) + ((a ++ b).length : Int)).toNat else min (-5 : Int).toNat (a ++ b).length) = _
    rw [if_pos (by decide), hz]
    omega
  rw [e, List.drop_zero, Nat.sub_zero, tl_append, List.take_left]
theorem cut_back {a b : Str} (hb : b.length = 5) : cutS (a ++ b) (some (-5)) none = b := by
  refine ext_tl ?_
  have ha := len_tl a
  have hb' := len_tl b
  have hz : (a ++ b).length = a.length + 5 := by rw [strLen_append, hb]
  show ((tl (a ++ b)).drop (HT.sIx (a ++ b).length 0 (some (-5)))).take ((a ++ b).length - HT.sIx (a ++ b).length 0 (some (-5))) = tl b
  have e : HT.sIx (a ++ b).length 0 (some (-5)) = (tl a).length := by
    show (if (-5 : Int) < 0 then ((-5 : Int) + ((a ++ b).length : Int)).toNat else min (-5 : Int).toNat (a ++ b).length) = _
    rw [if_pos (by decide), hz]
    omega
  rw [e, tl_append, List.drop_left, hz]
  exact List.take_of_length_le (by omega)
theorem fig_len4 {t : Trn} (h4 : t.length = 4) (h : ∀ x ∈ t, x < 4) : (figT t).length = 4 := by rw [len_tl, tl_fig h, List.length_map, h4]
theorem tail5 {t : Trn} (h4 : t.length = 4) (h : ∀ x ∈ t, x < 4) : (Str.ofString ":" ++ figT t).length = 5 := by
  rw [strLen_append, fig_len4 h4 h]
  decide +kernel
theorem word_two (n : Nat) (t : Trn) : wordT (some (n, t)) = numT n ++ (Str.ofString ":" ++ figT t) := ext_tl (by
  rw [tl_append, tl_append, tl_word, tl_numT]
  rfl)
theorem numJ_jb {fs : List Nat} {j : Jn} (h : Jb j) (hf : ∀ n t, j = some (n, t) → n < fs.length) (h64 : ∀ x ∈ fs, x < 64) : Jb (numJ fs j) := by
  cases j with
  | none => exact jb_none
  | some k =>
    obtain ⟨n, t⟩ := k
    obtain ⟨h1, h2, h3⟩ := h n t rfl
    intro n' t' e
    have e' : (tf fs n, t) = (n', t') := Option.some.inj e
    injection e' with e1 e2
    subst e1 e2
    have hn := hf n t rfl
    refine ⟨?_, h2, h3⟩
    have hg : fs[n]? = some fs[n] := List.getElem?_eq_getElem hn
    have : tf fs n = fs[n] := by
      unfold tf
      simp [List.getD, hg]
    rw [this]
    exact h64 _ (List.getElem_mem hn)
section
variable {P : Program} {w : World} {K : PySem.W.Frag} {mg : Str → Option Value} {base : Heap}
abbrev s_law_numbered : Stmt := topS 47
abbrev N_law_numbered : List Str := ["line", "numbers", "words", "word"]
theorem sc_law_numbered : FnScope N_law_numbered ["line", "numbers"] (defScope s_law_numbered) := ⟨rfl, rfl, rfl, by decide +kernel, rfl, by decide +kernel, by decide +kernel⟩
def spNumb : Sp := fun vs H Q _ => ∃ (b : Blk) (L : Addr) (fs : List Nat), vs = [.str (lineT b), .ref L] ∧ H L = some (.lst (fs.map intV)) ∧ b.length = 4 ∧ (∀ j ∈ b, Jb j ∧ ∀ n t, j = some (n, t) → n < fs.length) ∧ (∀ x ∈ fs, x < 64) ∧ ∀ H', Same H H' → Q (.str (lineT (b.map (numJ fs)))) H'
theorem ok_law_numbered {f : Addr} {fd : FuncData} (F : Fun K "_law_numbered" "_law_numbered" s_law_numbered f fd) (m_int : mg "int" = none) (m_str : mg "str" = none) : FnOk P w K mg base CX0 1 f fd ["line", "numbers"] spNumb := by
  refine F.ok sc_law_numbered (fun vs H Q E h => ?_) (fun cdv A outer s H vs Q E hr h => ?_)
  · obtain ⟨b, L, fs, rfl, _⟩ := h
    rfl
  · obtain ⟨b, L, fs, rfl, hL, h4, hb, h64, q⟩ := h
    have nd := sc_law_numbered.nd
    refine ⟨_, (pss_cons (ps_set (i := 2) nd rfl (.inl rfl) (pe_split (pv 0) pe_str))
      (pss_one (ps_ret (kJoin K rfl (pe_join pe_str (pe_lc (own := [("word", 3)]) (g := gName 3) (tt := tYes) rfl nd (kPiL K rfl (pi_list (pv 2))) (blkOk_by (own := [("word", 3)]) (N := N_law_numbered) (sc := defScope s_law_numbered) (by decide +kernel)) (fun _ _ _ _ _ => (pg_name (i := 3) nd rfl (Or.inl rfl))) (fun _ _ _ _ _ => pts_nil) (fun _ _ _ _ _ => (pe_ifExp (pt_cmpR op_eq (pv 3) pe_str (nomark _)) (pv 3) (pe_op op_add_str (pe_callTy call_str_int (by rfl) m_str (by decide +kernel) (pa_cons (pe_ix (kIxL K rfl) (pv 1) (pe_callTy call_int_str (by rfl) m_int (by decide +kernel) (pa_cons (pe_slice sl_str (pv 3) po_none (po_some (pe_un un_neg pe_int))) pa_nil)) (fun _ _ => rfl)) pa_nil)) (pe_slice sl_str (pv 3) (po_some (pe_un un_neg pe_int)) po_none)))))))))), ?_⟩
    have hbj : ∀ j ∈ b, Jb j := fun j hj => (hb j hj).1
    have ll := line_len h4 hbj
    refine ⟨.str (lineT b), rfl, ⟨_, rfl⟩, lineT b, Str.ofString " ", rfl, rfl, by decide +kernel, by rw [sizeLine_eq]; omega, fun p1 np1 => ?_⟩
    rw [line_split h4 hbj]
    have s1 : Same H (upd H p1 (.lst ((b.map wordT).map V.str))) := same_new np1
    have h1 : (upd H p1 (.lst ((b.map wordT).map V.str))) p1 = some (.lst ((b.map wordT).map V.str)) := upd_same
    generalize upd H p1 (.lst ((b.map wordT).map V.str)) = H1 at s1 h1 ⊢
    have lw : ((b.map wordT).map V.str).length = b.length := by rw [List.length_map, List.length_map]
    refine ⟨⟨_, rfl⟩, .ref p1, rfl, p1, rfl, ⟨_, .inl (.inl h1)⟩, fun D nD => ?_⟩
    have jn : ∀ j ∈ b.map (numJ fs), Jb j := fun j hj => by
      obtain ⟨i, hi, rfl⟩ := List.mem_map.mp hj
      exact numJ_jb (hb i hi).1 (hb i hi).2 h64
    refine lc_list (xs := (b.map wordT).map V.str) (fun i H2 => H2 = upd H1 D (.lst ((((b.take i).map (numJ fs)).map wordT).map V.str))) rfl ?_ ?_ ?_
    · rintro i H2 _ rfl
      exact .inl (.inl ((same_new nD) _ _ h1))
    · rintro i v H2 hv rfl
      rw [List.getElem?_map, List.getElem?_map] at hv
      cases hx : b[i]? with
      | none =>
        rw [hx] at hv
        cases hv
      | some j =>
        rw [hx] at hv
        have ev : V.str (wordT j) = v := Option.some.inj hv
        subst ev
        have hjm := List.mem_of_getElem? hx
        obtain ⟨hj1, hj2⟩ := hb j hjm
        have fin : ∃ acc, (upd H1 D (.lst ((((b.take i).map (numJ fs)).map wordT).map V.str))) D = some (.lst acc) ∧ acc.length < sizeLine ∧ upd (upd H1 D (.lst ((((b.take i).map (numJ fs)).map wordT).map V.str))) D (.lst (acc ++ [V.str (wordT (numJ fs j))])) = upd H1 D (.lst ((((b.take (i + 1)).map (numJ fs)).map wordT).map V.str)) := by
          refine ⟨_, upd_same, small1000 (by simp only [List.length_map, List.length_take]; omega), ?_⟩
          rw [upd_upd, List.take_add_one, hx, List.map_append, List.map_append, List.map_append]
          rfl
        refine ⟨rfl, .str (wordT j), rfl, rfl, ?_⟩
        cases j with
        | none => exact ⟨true, rfl, iteT ⟨.str (wordT none), rfl, fin⟩⟩
        | some k =>
          obtain ⟨n, t⟩ := k
          obtain ⟨n64, t4, tx⟩ := hj1 n t rfl
          have hn := hj2 n t rfl
          refine ⟨_, congrArg V.bl (word_no n t), iteF ?_⟩
          have c1 : cutS (wordT (some (n, t))) none (some (-5)) = numT n := by
            rw [word_two]
            exact cut_front (tail5 t4 tx)
          have c2 : cutS (wordT (some (n, t))) (some (-5)) none = Str.ofString ":" ++ figT t := by
            rw [word_two]
            exact cut_back (tail5 t4 tx)
          have wl := word_len hj1
          have hg : fs[n]? = some (tf fs n) := by
            have : fs[n]? = some fs[n] := List.getElem?_eq_getElem hn
            unfold tf
            simp [List.getD, this]
          have x64 := h64 _ (List.mem_of_getElem? hg)
          refine ⟨.ref L, rfl, .str (wordT (some (n, t))), rfl, 5, rfl, -5, rfl, wordT (some (n, t)), rfl, by rw [sizeLine_eq]; omega, ?_⟩
          rw [c1]
          refine ⟨numT n, (n : Int), rfl, int_num (by have := numL_len (n := n) (k := 2) (by decide) (by omega); omega), by have := num_len n n64; omega, L, fs.map intV, (n : Int), intV (tf fs n), rfl, rfl, .inl (.inl ((same_new nD) _ _ (s1 _ _ hL))), atI_nat (by rw [List.getElem?_map, hg]; rfl), (tf fs n : Int), rfl, num_log x64, .str (wordT (some (n, t))), rfl, 5, rfl, -5, rfl, wordT (some (n, t)), rfl, by rw [sizeLine_eq]; omega, ?_⟩
          rw [c2]
          refine ⟨numT (tf fs n), Str.ofString ":" ++ figT t, rfl, rfl, ?_, ?_⟩
          · have := num_len _ x64
            rw [tail5 t4 tx, sizeLine_eq]
            omega
          · have e : numT (tf fs n) ++ (Str.ofString ":" ++ figT t) = wordT (numJ fs (some (n, t))) := (word_two _ _).symm
            rw [e]
            exact fin
    · rintro H2 rfl
      rw [lw, List.take_length]
      have ls := sum_le (ys := (b.map (numJ fs)).map wordT) (c := 7) fun y hy => by
        obtain ⟨j, hj, rfl⟩ := List.mem_map.mp hy
        exact word_len (jn j hj)
      rw [List.length_map, List.length_map, h4] at ls
      refine ⟨_, D, (b.map (numJ fs)).map wordT, rfl, rfl, .inl (.inl (.inl upd_same)), ?_, q _ (s1.trans (same_new nD))⟩
      rw [List.length_map, List.length_map, h4]
      exact Nat.le_trans (Nat.add_le_add ls (Nat.le_refl _)) (by decide +kernel)
end
end Bk

namespace Bk
open PySem PySem.Spec PyProof.Rows L2 TL
local macro_rules | `(tactic| walk_at "g") => `(tactic| (repeat first | refine ⟨_, rfl, ?_⟩ | refine ⟨cpow, ?_⟩ | refine ⟨wideM, ?_⟩ | refine ⟨_, _, rfl, rfl, ?_⟩ | refine ⟨rfl, ?_⟩))
/-! ### a def whose return leaves a token out -/
def PSsP (X : Cx) (st : List Stmt) (t : TS) : Prop :=
  ∀ (pins : List (Addr × Obj)) (s : Shared) (σ : L2.St) (H : Hp) (D : Ends), Inv X pins σ H s → t D σ H → wpAny (model X.prog X.w) X.A (execs st X.env) (fun fl s' => 1 ≤ s'.toks ∧ SP X pins D fl s') X.xe s
def rJn (K : PySem.W.Frag) : V → List V → Hp → VK → Prop := fun x xs H Q => ∃ a p, ∃ ys : List Str, x = .str a ∧ xs = [.ref p] ∧ (SqL K H p (ys.map V.str) ∨ SqT K H p (ys.map V.str)) ∧ (ys.map (·.length)).sum + ys.length * a.length ≤ 16777216 ∧ Q (.str (Txt.join a ys)) H
section
variable {X : Cx} {e : Expr} {te : TE} {y : Str} {j : Nat} {c0 apos pos p : Pos}
theorem pss_toks (he : PE X e te) (hs : starEach [e] X.env = [(false, eval e X.env)] := by rfl) (hbase : attributeBase (.Constant (.str y) j c0) "join" X.env (eval (.Constant (.str y) j c0) X.env) = eval (.Constant (.str y) j c0) X.env := by rfl) (hline : (apos.endLine == pos.line) = true := by rfl) :
    PSsP X [.Return (some (.Call (.Attribute (.Constant (.str y) j c0) "join" apos) [e] [] pos)) p] (tRet (tM1 (rJn X.K) (tC (.str y)) te)) := by
  intro pins s σ H D I h
  obtain ⟨_, h⟩ := h
  refine wpAny_execs_cons (wpAny_Return_some (PySem.Call_method1 hbase hs hline (Calls.Constant_str ?_)))
  refine ⟨"str", _, PySem.F.plainAttrs_str, PySem.F.slot_str_join, PySem.F.type_str_join, typeIs_str _ _ _, (fun _ e => nomatch e), Calls.callWith_builtin rfl (Calls.evalArgs_plain (Calls.spliced_cons ?_))⟩
  refine wpAny_mono (PySem.wpAny_toks_of (n := 1) (by show 1 ≤ s.toks + 1; omega) (he.run pins { s with toks := s.toks + 1 } σ H _ (I.tok _) h)) (fun u s2 q => ?_) fun _ _ z => z.2
  obtain ⟨hk, z, H2, I2, r2, q2⟩ := q
  refine Calls.spliced_nil ?_
  refine wpAny_mono (PySem.wpAny_toks_of (n := 1) hk (mt_join (X := X) pins s2 σ H2 (.str y) [z] _ [u] _ I2 ⟨_, rfl⟩ (.cons r2 .nil) q2)) (fun v s3 q => ?_) fun _ _ z => z.2
  obtain ⟨hk3, z3, H3, I3, r3, q3⟩ := q
  exact ⟨hk3, z3, σ, H3, I3, r3, q3⟩
end
structure FnP (P : Program) (w : World) (K : PySem.W.Frag) (mg : Str → Option Value) (base : Heap) (k : Nat) (f : Addr) (fd : FuncData) (ps : List Str) (sp : Sp) : Prop where
  len : ∀ vs H Q E, sp vs H Q E → vs.length = ps.length
  run : ∀ (A : Around) (outer : List Env) (s : Shared) (H : Hp) (args : Args) (us : List Value) (vs : List V) (Q : VK) (E : XK), Room k A → Env0 P w K mg base A outer s H → BindsTo s fd args (ps.zip us) → Vals vs us → sp vs H Q E →
    codeAny (model P w) A (.call (.ref f) args) (fun r s' => 1 ≤ s'.toks ∧ CR CX0 outer P w H s Q E r s') s
theorem PSsP.nox {X : Cx} {st : List Stmt} {t : TS} (h : PSsP X.nox st t) : PSsP X st t := fun pins s σ H D I hw =>
  wpAny_mono (h pins s σ H D (I.wish _) hw) (fun _ _ q => ⟨q.1, q.2.unwish⟩) fun _ _ z => False.elim z
theorem fn_ofP {P : Program} {w : World} {K : PySem.W.Frag} {mg : Str → Option Value} {base : Heap} {k : Nat} {f : Addr} {name qual : Str} {params : Arguments} {body : List Stmt} {scope : Scope} {dV kV doc pm cdv ct oc : Value} {an od : Option Addr}
    {osl : Array (Option Value)} {N ps : List Str} {sp : Sp} (lk : K.lookup f = some ⟨oc, od, .func (PySem.W.fnOf name qual params body scope dV kV doc pm an cdv ct), osl⟩) (hcd : PySem.W.codeIn K cdv qual = true) (S : FnScope N ps scope)
    (len : ∀ vs H Q E, sp vs H Q E → vs.length = ps.length)
    (hbody : ∀ (A : Around) (outer : List Env) (s : Shared) (H : Hp) (vs : List V) (Q : VK) (E : XK), Room k (A.deeper (envOfC qual scope s.heap.objs.size f cdv)) → sp vs H Q E →
      ∃ t, PSsP (cxOf CX0 P w K mg base N qual scope f cdv A outer s H E) body t ∧ t { nx := fun _ H' => Q .non H', rt := Q } (start N vs) H) :
    FnP P w K mg base (k + 1) f (PySem.W.fnOf name qual params body scope dV kV doc pm an cdv ct) ps sp := by
  refine ⟨len, fun A outer s H args us vs Q E hr e0 hb r hsp => ?_⟩
  have hl := len _ _ _ _ hsp
  have KX : K.In s.heap := e0.mod.kin.keeps fun b o e => (e0.bs b o e).1
  have lim : s.heap.NoLimit := e0.mod.nolimit.keeps fun b o e => (e0.bs b o e).1
  have hkind : ∀ y ∈ ps.zip us, scope.names.lookup y.1 = some .local ∨ (scope.names.lookup y.1 = some .cell ∧ ((cellsFrom (s.heap.objs.size + 1) scope.names []).lookup y.1).isSome = true) := fun ⟨n, v⟩ hy => by
    rcases S.par n (List.of_mem_zip hy).1 with q | q
    · exact .inl q
    · exact .inr ⟨q, PySem.W.cellsFrom_some _ _ _ (.inl q)⟩
  refine codeAny_call_function hr.depth (KX _ _ lk) rfl S.co S.gen rfl (PySem.W.codeRec_of KX hcd) (hb _ _ _ _ ?_)
  refine wpAny_newFunctionEnv_cells S.kind hkind fun env he s1 x => ?_
  subst he
  refine ⟨lim.keeps x.toInCall.keep, codeAny_func ?_⟩
  obtain ⟨t, ht, hq⟩ := hbody A outer s H vs Q E (hr.deeper _) hsp
  have I : Inv (cxOf CX0 P w K mg base N qual scope f cdv A outer s H E) [] (start N vs) H s1 := inv_start S hr.hd e0 hl r x
  refine wpAny_mono (ht [] s1 (start N vs) H _ I hq) (fun fl s' hs => ?_) fun e s' hs => wpAny_mono hs (fun _ _ z => False.elim z) fun _ _ z => False.elim z
  obtain ⟨hk, hs⟩ := hs
  have fin : ∀ {σ' : L2.St} {H' : Hp} {v : V} {u : Value}, Inv (cxOf CX0 P w K mg base N qual scope f cdv A outer s H E) [] σ' H' s' → RelV v u → Q v H' → CE outer P w H s Q u s' :=
    fun {σ' H' v u} J rv q => ⟨v, H', J.os, J.bare, J.base, J.hok, rv, q⟩
  cases fl with
  | ret u =>
    obtain ⟨v, σ', H', J, rv, q⟩ := hs
    exact ⟨hk, fin J rv q⟩
  | next =>
    obtain ⟨σ', H', J, q⟩ := hs
    exact ⟨hk, fin (v := V.non) (u := Value.none) J rfl q⟩
  | brk =>
    obtain ⟨_, _, _, q⟩ := hs
    exact False.elim q
  | cont =>
    obtain ⟨_, _, _, q⟩ := hs
    exact False.elim q
theorem _root_.L2.Fun.okP {P : Program} {w : World} {K : PySem.W.Frag} {mg : Str → Option Value} {base : Heap} {x qual : Str} {st : Stmt} {f : Addr} {fd : FuncData} {N ps : List Str} {k : Nat} {sp : Sp} (F : Fun K x qual st f fd) (S : FnScope N ps (defScope st)) (len : ∀ vs H Q E, sp vs H Q E → vs.length = ps.length)
    (hbody : ∀ (cdv : Value) (A : Around) (outer : List Env) (s : Shared) (H : Hp) (vs : List V) (Q : VK) (E : XK), Room k (A.deeper (envOfC qual (defScope st) s.heap.objs.size f cdv)) → sp vs H Q E →
      ∃ t, PSsP (cxOf CX0 P w K mg base N qual (defScope st) f cdv A outer s H E).nox (defBody st) t ∧ t { nx := fun _ H' => Q .non H', rt := Q } (start N vs) H) : FnP P w K mg base (k + 1) f fd ps sp := by
  obtain ⟨oc, od, kV, doc, pm, an, cdv, ct, osl, rfl, lk, hcd⟩ := F.ex
  refine fn_ofP lk hcd S len fun A outer s H vs Q E hr hsp => ?_
  obtain ⟨t, h, q⟩ := hbody cdv A outer s H vs Q E hr hsp
  exact ⟨t, h.nox, q⟩
section
variable {X : Cx} {k : Nat} {f : Addr} {fd : FuncData} {ps : List Str} {sp : Sp} {x y z : Str} {E : XK} {e : Expr} {es : List Expr} {t : TA} {p p2 apos pos c0 c1 : Pos} {j0 j1 : Nat}
theorem run_fnP {pins : List (Addr × Obj)} {σ : L2.St} {H : Hp} {s : Shared} {Q : VK} {us : List Value} {vs : List V} (F : FnP X.prog X.w X.K X.mg X.base k f fd ps sp) (hr : Room k X.A) (hb : Binds X.K fd ps [])
    (I : Inv X pins σ H s) (r : Vals vs us) (h : sp vs H Q E) : wpAny (model X.prog X.w) X.A (call (.ref f) us) (fun v s' => 1 ≤ s'.toks ∧ EP X pins σ Q v s') X.xe s := by
  have hl : us.length = ps.length := by rw [← r.length]; exact F.len _ _ _ _ h
  have hb' := hb s us I.kIn (by rw [List.append_nil]; exact hl)
  rw [List.append_nil] at hb'
  refine wpAny_call (codeAny_mono (F.run X.A X.stack s H ⟨us, []⟩ us vs Q E hr I.env0 hb' r h) fun r s' hq => ?_)
  obtain ⟨hk, hq⟩ := hq
  cases r with
  | error e => exact False.elim hq
  | ok fl =>
    cases fl with
    | ret u => exact ⟨hk, I.after hq⟩
    | next => exact False.elim hq
    | brk => exact False.elim hq
    | cont => exact False.elim hq
/-- f(..).replace(y, z) -/
theorem pe_replP (F : FnP X.prog X.w X.K X.mg X.base k f fd ps sp) (hr : Room k X.A) (hg : Gl X x) (hm : X.mg x = some (.ref f)) (hk : PySem.W.keepIn X.K (.ref f) = true) (hb : Binds X.K fd ps [])
    (ha : PA X (e :: es) t) (hdb : (x == ("__debug__" : Str)) = false := by decide) (he : starEach (e :: es) X.env = (false, eval e X.env) :: starEach es X.env := by rfl) (hpl : (backTo p2 (starEach es X.env)).any (·.1) = false := by rfl)
    (hyz : (y == z) = false := by decide)
    (hst : starEach [.Constant (.str y) j0 c0, .Constant (.str z) j1 c1] X.env = [(false, eval (.Constant (.str y) j0 c0) X.env), (false, eval (.Constant (.str z) j1 c1) X.env)] := by rfl)
    (hbase : attributeBase (.Call (.Name x p) (e :: es) [] p2) "replace" X.env (eval (.Call (.Name x p) (e :: es) [] p2) X.env) = eval (.Call (.Name x p) (e :: es) [] p2) X.env := by rfl) (hline : (apos.endLine == pos.line) = true := by rfl) :
    PE X (.Call (.Attribute (.Call (.Name x p) (e :: es) [] p2) "replace" apos) [.Constant (.str y) j0 c0, .Constant (.str z) j1 c1] [] pos) (CwR.tReplC (tCall sp [] E0 t) y z) := by
  refine ⟨fun pins s σ H Q I h => ?_⟩
  refine PySem.Call_method2 hbase hst hline ?_
  refine wpAny_Call_Name_kw (ld_glob I hg hm ?_ hdb)
  refine PySem.W.callWith_K (h₀ := X.base) I.ok.mod.kin hk (thn (ha.run p2 pins s σ H _ I h) fun us s1 ⟨vs, H1, I1, r, q⟩ => ⟨I1.kIn, ?_⟩) he hpl
  have q : sp vs H1 (fun v H1 => ∃ x, v = V.str x ∧ x.length + (x.length + 1) * z.length ≤ 16777216 ∧ Q (V.str (Txt.replace x y z)) H1) E0 := by
    have q' := q
    simp only [List.append_nil] at q'
    exact q'
  show wpAny _ _ (call (.ref f) us) _ _ s1
  refine wpAny_mono (run_fnP F hr hb I1 r q) (fun v s1 q => ?_) fun _ _ z => z
  obtain ⟨hk, v', H1, I1, r1, x, e1, hb, q⟩ := q
  subst e1
  obtain ⟨tx, e2⟩ := r1
  subst e2
  refine ⟨"str", _, PySem.F.plainAttrs_str, PySem.F.slot_str_replace, PySem.F.type_str_replace, typeIs_str _ _ _, (fun _ e => nomatch e), Calls.callWith_builtin rfl (Calls.evalArgs_plain (Calls.spliced_cons ?_))⟩
  refine Calls.Constant_str (Calls.spliced_cons (Calls.Constant_str (Calls.spliced_nil ?_)))
  exact PySem.SC.replace (by show s1.toks ≠ 0; omega) (by show s1.toks + 1 ≠ 0; omega) (by show s1.toks ≠ s1.toks + 1; omega) hyz hb fun t' k => ⟨.str (Txt.replace x y z), H1, I1.tok k, ⟨t', rfl⟩, q⟩
end
section
variable {P : Program} {w : World} {K : PySem.W.Frag} {mg : Str → Option Value} {base : Heap}
theorem okspace_textP {f fL fW : Addr} {fd fdL fdW : FuncData} (F : Fun K "space_text" "space_text" sspace_text f fd) (F_line_of : Fun K "_line_of" "_line_of" s_line_of fL fdL) (g_line_of : mg "_line_of" = some (.ref fL)) (b_line_of : Binds K fdL ["block"] [])
    (F_word_of : Fun K "_word_of" "_word_of" s_word_of fW fdW) (g_word_of : mg "_word_of" = some (.ref fW)) (b_word_of : Binds K fdW ["joining"] []) (m_str : mg "str" = none) : FnP P w K mg base 3 f fd ["space"] spText := by
  have G_line_of : FnOk P w K mg base CX0 2 fL fdL ["block"] spLine := ok_line_of F_line_of F_word_of g_word_of b_word_of m_str
  refine F.okP scspace_text (fun vs H Q E h => ?_) (fun cdv A outer s H vs Q E hr h => ?_)
  · obtain ⟨N, v, d, S, rfl, _⟩ := h
    rfl
  · obtain ⟨N, v, d, S, rfl, hd, hn, hS, q⟩ := h
    have nd := scspace_text.nd
    refine ⟨_, pss_toks (pe_lc (own := [("block", 1)]) (g := gName 1) (tt := tYes) rfl nd (kPiS K rfl (pv 0)) (blkOk_by (own := [("block", 1)]) (N := Nspace_text) (sc := defScope sspace_text) (by decide +kernel)) (fun _ _ _ _ _ => (pg_name (i := 1) nd rfl (Or.inl rfl))) (fun _ _ _ _ _ => pts_nil) (fun _ _ _ _ _ => (pe_call G_line_of (hr.mono (by first | decide | omega)) (by rfl) g_line_of F_line_of.kp b_line_of .nil pass0 (pa_cons (pv 1) pa_nil)))), ?_⟩
    obtain ⟨a, xs, ds, rfl, hq, _, hds, en⟩ := hd.seq (K := K) hn
    have lx : xs.length = S.length := by rw [hds.len, norm_len en]
    have hS1 := hS.1
    refine ⟨⟨_, rfl⟩, .ref a, rfl, a, xs, rfl, hq, fun J C hJ hC => ?_⟩
    intro D nD
    refine lc_seq (xs := xs) hJ (fun i H2 => H2 D = some (.lst (((S.take i).map lineT).map V.str)) ∧ Same H H2) ⟨upd_same, same_new nD⟩ ?_ ?_ ?_
    · rintro i H2 ⟨h2, s2⟩
      exact SeqIt.mono K hJ (fun o e => s2 _ _ e) hC
    · rintro i x H2 hx ⟨h2, s2⟩
      obtain ⟨di, hdi, hxi⟩ := hds.get hx
      obtain ⟨b, hb, eb⟩ := norm_at en hdi
      have hi : i < S.length := (List.getElem?_eq_some_iff.mp hb).1
      obtain ⟨hb4, hbj⟩ := hS.2 b (List.mem_of_getElem? hb)
      refine ⟨rfl, x, rfl, N, x, di, b, rfl, hxi.same s2, eb, hb4, hbj, fun H3 s3 => ?_⟩
      refine ⟨_, s3 _ _ h2, small1000 (by rw [List.length_map, List.length_map, List.length_take]; omega), ?_, same_fill (s2.trans s3) nD⟩
      rw [upd_same, List.take_add_one, hb, List.map_append, List.map_append]
      rfl
    · rintro H2 ⟨h2, s2⟩
      rw [lx, List.take_length] at h2
      have ls := sum_le (ys := S.map lineT) (c := 32) fun y hy => by
        obtain ⟨b, hb, rfl⟩ := List.mem_map.mp hy
        exact line_len (hS.2 b hb).1 (hS.2 b hb).2
      rw [List.length_map] at ls
      refine ⟨_, D, S.map lineT, rfl, rfl, .inl (.inl (.inl h2)), ?_, q H2 s2⟩
      rw [List.length_map]
      have e1 : (Str.ofString "\n").length = 1 := by decide +kernel
      show _ + S.length * (Str.ofString "\n").length ≤ 16777216
      rw [e1]
      omega
end
end Bk

namespace Bk
open PySem PySem.Spec PyProof.Rows L2 TL RZ
local macro_rules | `(tactic| walk_at "g") => `(tactic| (repeat first | refine ⟨_, rfl, ?_⟩ | refine ⟨cpow, ?_⟩ | refine ⟨wideM, ?_⟩ | refine ⟨_, _, rfl, rfl, ?_⟩ | refine ⟨rfl, ?_⟩))
def wordsT (S : Spc) : List Str := (S.map fun b => b.map wordT).flatten
theorem words_cons (b : Blk) (S : Spc) : wordsT (b :: S) = b.map wordT ++ wordsT S := rfl
theorem words_len : ∀ {S : Spc}, (∀ b ∈ S, b.length = 4) → (wordsT S).length = 4 * S.length
  | [], _ => rfl
  | b :: S, h => by
    rw [words_cons, List.length_append, List.length_map, h b List.mem_cons_self, words_len fun c hc => h c (List.mem_cons_of_mem _ hc), List.length_cons]
    omega
theorem words_at : ∀ {S : Spc}, (∀ b ∈ S, b.length = 4) → ∀ k, (wordsT S)[k]? = (getJ S (k / 4) (k % 4)).map wordT
  | [], _, k => by simp [wordsT, getJ]
  | b :: S, h, k => by
    have hb := h b List.mem_cons_self
    rw [words_cons]
    by_cases hk : k < 4
    · rw [List.getElem?_append_left (by rw [List.length_map]; omega), List.getElem?_map, show k / 4 = 0 by omega, show k % 4 = k by omega]
      rfl
    · rw [List.getElem?_append_right (by rw [List.length_map]; omega), List.length_map, hb, words_at (fun c hc => h c (List.mem_cons_of_mem _ hc)) (k - 4), show k / 4 = (k - 4) / 4 + 1 by omega, show k % 4 = (k - 4) % 4 by omega]
      rfl
theorem joinL_app {s : List Nat} : ∀ {ps qs : List (List Nat)}, ps ≠ [] → qs ≠ [] → joinL s (ps ++ qs) = joinL s ps ++ (s ++ joinL s qs)
  | [], qs, h, _ => absurd rfl h
  | [p], [], _, h => absurd rfl h
  | [p], q :: r, _, _ => rfl
  | p :: p' :: r, qs, _, h => by
    show p ++ (s ++ joinL s (p' :: r ++ qs)) = (p ++ (s ++ joinL s (p' :: r))) ++ (s ++ joinL s qs)
    rw [joinL_app (by simp) h]
    simp only [List.append_assoc]
theorem joinL_flat {s : List Nat} : ∀ {pss : List (List (List Nat))}, (∀ ps ∈ pss, ps ≠ []) → joinL s (pss.map (joinL s)) = joinL s pss.flatten
  | [], _ => rfl
  | [ps], _ => by
    rw [List.flatten_cons, List.flatten_nil, List.append_nil]
    rfl
  | ps :: qs :: r, h => by
    have ih := joinL_flat (s := s) (pss := qs :: r) fun p hp => h p (List.mem_cons_of_mem _ hp)
    show joinL s ps ++ (s ++ joinL s ((qs :: r).map (joinL s))) = _
    rw [ih]
    show joinL s ps ++ (s ++ joinL s (qs :: r).flatten) = joinL s (ps ++ (qs :: r).flatten)
    rw [joinL_app (h ps List.mem_cons_self) (by
      rw [List.flatten_cons]
      intro e
      exact h qs (by simp) (List.append_eq_nil_iff.mp e).1)]
theorem rep_text {S : Spc} (h : Sb S) (h1 : 1 ≤ S.length) : Txt.replace (textT S) (Str.ofString "\n") (Str.ofString " ") = Txt.join (Str.ofString " ") (wordsT S) := by
  have e10 : (Str.ofString "\n") = ⟨#[10]⟩ := ext_tl (by decide +kernel)
  rw [e10, StrLaws.replace_one, ← e10, text_split h h1]
  refine ext_tl ?_
  rw [tl_join, tl_join', show tl (Str.ofString " ") = [32] by decide +kernel, List.map_map]
  have e : (S.map (tl ∘ lineT)) = ((S.map fun b => (b.map wordT).map tl)).map (joinL [32]) := by
    rw [List.map_map]
    refine List.map_congr_left fun b _ => ?_
    show tl (lineT b) = joinL [32] ((b.map wordT).map tl)
    unfold lineT
    rw [tl_join', show tl (Str.ofString " ") = [32] by decide +kernel]
  rw [e, joinL_flat]
  · unfold wordsT
    rw [List.map_flatten, List.map_map]
    rfl
  · intro ps hp
    obtain ⟨b, hb, rfl⟩ := List.mem_map.mp hp
    have := (h.2 b hb).1
    intro z
    have := congrArg List.length z
    rw [List.length_map, List.length_map] at this
    simp only [List.length_nil] at this
    omega
theorem rep_split {S : Spc} (h : Sb S) (h1 : 1 ≤ S.length) : Txt.split (Txt.replace (textT S) (Str.ofString "\n") (Str.ofString " ")) (Str.ofString " ") = wordsT S := by
  rw [rep_text h h1]
  have hl := words_len fun b hb => (h.2 b hb).1
  refine split_join (s := 32) (S := []) (by decide +kernel) (by decide +kernel) (fun e => ?_) fun p hp => ?_
  · rw [e] at hl
    simp only [List.length_nil] at hl
    omega
  · unfold wordsT at hp
    rw [List.mem_flatten] at hp
    obtain ⟨l, hl', hp⟩ := hp
    obtain ⟨b, hb, rfl⟩ := List.mem_map.mp hl'
    obtain ⟨j, hj, rfl⟩ := List.mem_map.mp hp
    exact (word_free ((h.2 b hb).2 j hj)).1
theorem two_perm {N a b : Nat} (ha : a < N) (hb : b < N) (hne : a ≠ b) : ((List.range N).filter fun k => k == a || k == b).Perm [a, b] := by
  refine (List.perm_ext_iff_of_nodup (List.nodup_range.filter _) (by simp [hne])).mpr fun k => ?_
  rw [List.mem_filter, List.mem_range]
  simp only [Bool.or_eq_true, beq_iff_eq, List.mem_cons, List.not_mem_nil, or_false]
  exact ⟨fun z => z.2, fun z => ⟨by rcases z with z | z <;> omega, z⟩⟩
theorem part_at {S : Spc} (hG : Good S) {b f n : Nat} {t : Trn} (e : getJ S b f = some (some (n, t))) (c g : Nat) :
    getJ (partS S b f n t) c g = if (c = b ∧ g = f) ∨ (c = n ∧ g = tf t f) then some none else getJ S c g := by
  obtain ⟨htm, hne, hbk⟩ := hG.both _ _ _ _ e
  unfold partS
  rw [getJ_set, getJ_set]
  by_cases c1 : c = n ∧ g = tf t f
  · obtain ⟨rfl, rfl⟩ := c1
    rw [if_pos (show c = c ∧ tf t f = tf t f from ⟨rfl, rfl⟩), if_pos (show (c = b ∧ tf t f = f) ∨ (c = c ∧ tf t f = tf t f) from .inr ⟨rfl, rfl⟩)]
    by_cases c2 : c = b ∧ tf t f = f
    · rw [if_pos c2, hbk]
      rfl
    · rw [if_neg c2, hbk]
      rfl
  · rw [if_neg c1]
    by_cases c2 : c = b ∧ g = f
    · obtain ⟨rfl, rfl⟩ := c2
      rw [if_pos ⟨rfl, rfl⟩, if_pos (.inl ⟨rfl, rfl⟩), e]
      rfl
    · rw [if_neg c2, if_neg (fun z => z.elim c2 c1)]
theorem eqDoms {x y : Str} : (!decide (V.str x = V.str y)) = (x != y) := by
  rw [Bool.eq_iff_iff]
  simp
/-- where the words of a space and of a parted one are unlike -/
theorem unlike_at {S : Spc} (hG : Good S) {a n : Nat} {t : Trn} (e : getJ S (a / 4) (a % 4) = some (some (n, t))) {k : Nat} {w o : Str} (hw : (wordsT S)[k]? = some w) (ho : (wordsT (partS S (a / 4) (a % 4) n t))[k]? = some o) :
    (!decide (V.str w = V.str o)) = (k == a || k == 4 * n + tf t (a % 4)) ∧ ((k == a || k == 4 * n + tf t (a % 4)) = true → o = Str.ofString "-") := by
  obtain ⟨htm, hne, hbk⟩ := hG.both _ _ _ _ e
  have hf := tf_lt t htm (a % 4) (by omega)
  have hGp := hG.part e
  rw [words_at hG.l4] at hw
  rw [words_at (S := partS S (a / 4) (a % 4) n t) hGp.l4, part_at hG e] at ho
  by_cases c : (k / 4 = a / 4 ∧ k % 4 = a % 4) ∨ (k / 4 = n ∧ k % 4 = tf t (a % 4))
  · rw [if_pos c] at ho
    have ho' : Str.ofString "-" = o := Option.some.inj ho
    have ck : (k == a || k == 4 * n + tf t (a % 4)) = true := by
      rw [Bool.or_eq_true, beq_iff_eq, beq_iff_eq]
      rcases c with c | c
      · left
        omega
      · right
        omega
    rw [ck]
    refine ⟨?_, fun _ => ho'.symm⟩
    have hj : ∃ m u, getJ S (k / 4) (k % 4) = some (some (m, u)) := by
      rcases c with c | c
      · rw [c.1, c.2]
        exact ⟨_, _, e⟩
      · rw [c.1, c.2]
        exact ⟨_, _, hbk⟩
    obtain ⟨m, u, hj⟩ := hj
    rw [hj] at hw
    have hw' : wordT (some (m, u)) = w := Option.some.inj hw
    rw [← hw', ← ho', word_no]
    rfl
  · rw [if_neg c] at ho
    rw [hw] at ho
    have e1 : w = o := Option.some.inj ho
    have ck : (k == a || k == 4 * n + tf t (a % 4)) = false := by
      rw [Bool.or_eq_false_iff, beq_eq_false_iff_ne, beq_eq_false_iff_ne]
      exact ⟨fun z => c (.inl (by rw [z]; exact ⟨rfl, rfl⟩)), fun z => c (.inr ⟨by omega, by omega⟩)⟩
    rw [ck, e1, decide_eq_true rfl]
    exact ⟨rfl, fun z => by cases z⟩
section
variable {P : Program} {w : World} {K : PySem.W.Frag} {mg : Str → Option Value} {base : Heap}
theorem repl_le {S : Spc} (h : Sb S) : (Txt.replace (textT S) (Str.ofString "\n") (Str.ofString " ")).length ≤ 2801 := by
  have h1 := TK.replace_len (textT S) (Str.ofString "\n") (Str.ofString " ")
  have h2 := text_len h
  have e1 : (Str.ofString " ").length = 1 := by decide +kernel
  rw [e1] at h1
  omega
/-! ### _law_parted_right -/
abbrev s_law_parted_right : Stmt := topS 49
abbrev N_law_parted_right : List Str := ["space", "words", "at", "other", "unlike", "k"]
theorem sc_law_parted_right : FnScope N_law_parted_right ["space"] (defScope s_law_parted_right) := ⟨rfl, rfl, rfl, by decide +kernel, rfl, by decide +kernel, by decide +kernel⟩
def spPRight : Sp := fun vs H Q _ => ∃ (v : V) (S : Spc), vs = [v] ∧ ST H v S ∧ Good S ∧ 1 ≤ S.length ∧ S.length ≤ 20 ∧ ∀ H', Same H H' → Q (.bl true) H'
theorem ok_law_parted_right {f fS fP : Addr} {fd fdS fdP : FuncData} (F : Fun K "_law_parted_right" "_law_parted_right" s_law_parted_right f fd) (Fspace_text : Fun K "space_text" "space_text" sspace_text fS fdS) (gspace_text : mg "space_text" = some (.ref fS)) (bspace_text : Binds K fdS ["space"] [])
    (Pspace_text : FnP P w K mg base 3 fS fdS ["space"] spText) (Fparted : Fun K "parted" "parted" sparted fP fdP) (gparted : mg "parted" = some (.ref fP)) (bparted : Binds K fdP ["space", "block", "face"] []) (Gparted : FnOk P w K mg base CX0 7 fP fdP ["space", "block", "face"] spParted)
    (m_range : mg "range" = none) (m_len : mg "len" = none) : FnOk P w K mg base CX0 8 f fd ["space"] spPRight := by
  refine F.ok sc_law_parted_right (fun vs H Q E h => ?_) (fun cdv A outer s H vs Q E hr h => ?_)
  · obtain ⟨v, S, rfl, _⟩ := h
    rfl
  · obtain ⟨v, S, rfl, st, hG, hS1, hS2, q⟩ := h
    have nd := sc_law_parted_right.nd
    refine ⟨_, (pss_cons (ps_set (i := 1) nd rfl (.inr rfl) (pe_split (pe_replP Pspace_text (hr.mono (by first | decide | omega)) (by rfl) gspace_text Fspace_text.kp bspace_text (pa_cons (pv 0) pa_nil)) pe_str))
      (pss_cons (ps_for PassesOwn.never rfl (pi_range1 (by rfl) m_range (pa_cons (pe_callB (kLen K rfl) (by rfl) m_len (by decide +kernel) (pa_cons (pv 1) pa_nil)) pa_nil)) (pg_name (i := 2) nd rfl (.inl rfl)) (pss_one (ps_if (pt_cmpR op_ne (pe_ix (kIxL K rfl) (pv 1) (pv 2) (fun _ _ => rfl)) pe_str (nomark _)) (pss_cons (ps_set (i := 3) nd rfl (.inr rfl) (pe_split (pe_replP Pspace_text (hr.mono (by first | decide | omega)) (by rfl) gspace_text Fspace_text.kp bspace_text (pa_cons (pe_call Gparted (hr.mono (by first | decide | omega)) (by rfl) gparted Fparted.kp bparted .nil pass0 (pa_cons (pv 0) (pa_cons (pe_op op_fdivN (pv 2) pe_int) (pa_cons (pe_op op_modN (pv 2) pe_int) pa_nil)))) pa_nil)) pe_str))
      (pss_cons (ps_setLc (i := 4) (own := [("k", 5)]) (g := gName 5) rfl nd rfl rfl (sw_true rfl rfl rfl (by decide +kernel)) (pi_range1 (by rfl) m_range (pa_cons (pe_callB (kLen K rfl) (by rfl) m_len (by decide +kernel) (pa_cons (pv 1) pa_nil)) pa_nil)) (blkOk_by (own := [("k", 5)]) (N := N_law_parted_right) (sc := defScope s_law_parted_right) (by decide +kernel)) (fun _ _ _ _ _ => (pg_name (i := 5) nd rfl (Or.inl rfl))) (fun _ _ _ _ _ => (pts_one (pt_cmpR op_ne (pe_ix (kIxL K rfl) (pv 1) (pv 5) (fun _ _ => rfl)) (pe_ix (kIxL K rfl) (pv 3) (pv 5) (fun _ _ => rfl)) (nomark _)))) (fun _ _ _ _ _ => (pv 5)))
      (pss_one (ps_if (pw_or (pt_cmpR op_ne (pe_callB (kLen K rfl) (by rfl) m_len (by decide +kernel) (pa_cons (pv 4) pa_nil)) pe_int (nomark _)) (pw_or (pt_cmpR (kNotIn K rfl) (pv 2) (pv 4) (by rfl)) (pw_or1 (pt_cmpR (kNeD K rfl hr.units) (pe_lc (own := [("k", 5)]) (g := gName 5) (tt := tYes) rfl nd (kPiL K rfl (pi_list (pv 4))) (blkOk_by (own := [("k", 5)]) (N := N_law_parted_right) (sc := defScope s_law_parted_right) (by decide +kernel)) (fun _ _ _ _ _ => (pg_name (i := 5) nd rfl (Or.inl rfl))) (fun _ _ _ _ _ => pts_nil) (fun _ _ _ _ _ => (pe_ix (kIxL K rfl) (pv 3) (pv 5) (fun _ _ => rfl)))) (pe_lst (pa_cons pe_str (pa_cons pe_str pa_nil))) (nomark _))))).pt (pss_one (ps_ret pe_bl)) pss_nil)))) pss_nil)))
      (pss_one (ps_ret pe_bl)))), ?_⟩
    have hb := hG.sb (by omega)
    have tl1 := text_len hb
    have e1 : (Str.ofString " ").length = 1 := by decide +kernel
    have lws : (wordsT S).length = 4 * S.length := words_len hG.l4
    refine ⟨v, rfl, fun _ => False, v, shutD S, S, rfl, st.dq, norm_shut S, hb, fun H1 s1 => ⟨textT S, rfl, by rw [e1]; omega, ⟨_, rfl⟩, _, Str.ofString " ", rfl, rfl, by decide +kernel, ?_, fun pw npw => ?_⟩⟩
    · have := repl_le hb
      rw [sizeLine_eq]
      omega
    · rw [rep_split hb hS1]
      have s2 : Same H1 (upd H1 pw (.lst ((wordsT S).map V.str))) := same_new npw
      have h2 : (upd H1 pw (.lst ((wordsT S).map V.str))) pw = some (.lst ((wordsT S).map V.str)) := upd_same
      have s02 := s1.trans s2
      generalize upd H1 pw (.lst ((wordsT S).map V.str)) = H2 at s2 h2 s02 ⊢
      have lw : ((wordsT S).map V.str).length = 4 * S.length := by rw [List.length_map, lws]
      refine ⟨.ref pw, rfl, pw, _, rfl, .inl (.inl (.inl h2)), _, rfl, by rw [lw]; omega, by rw [lw]; omega, ?_⟩
      rw [lw, Int.toNat_natCast]
      refine for_range (lo := 0) (n := 4 * S.length) (fun i σ H3 => ∃ y2 y3 y4, σ = [some v, some (.ref pw), y2, y3, y4, none] ∧ Same H2 H3) ⟨none, none, none, rfl, Same.refl _⟩ ?_ ?_
      · rintro i σ H3 hi ⟨y2, y3, y4, rfl, s3⟩
        rw [Int.zero_add]
        have h3 := s3 _ _ h2
        have st3 := st.mono (s02.trans s3).tups
        obtain ⟨j, hj⟩ := hG.l4.get (b := i / 4) (f := i % 4) (by omega) (by omega)
        have wi : (wordsT S)[i]? = some (wordT j) := by
          rw [words_at hG.l4, hj]
          rfl
        refine ⟨.ref pw, rfl, intV i, rfl, pw, _, (i : Int), .str (wordT j), rfl, rfl, .inl (.inl h3), atI_nat (by rw [List.getElem?_map, wi]; rfl), rfl, ?_⟩
        cases j with
        | none =>
          refine ⟨false, congrArg V.bl (by rw [show wordT none = Str.ofString "-" from rfl, decide_eq_true rfl]; rfl), iteF ?_⟩
          exact ⟨_, _, _, rfl, s3⟩
        | some nt =>
          obtain ⟨n, t⟩ := nt
          obtain ⟨htm, hne, hbk⟩ := hG.both _ _ _ _ hj
          obtain ⟨hbb, hff⟩ := hG.l4.of hj
          have hnn : n < S.length := hG.lt hj
          have htf := tf_lt t htm (i % 4) hff
          refine ⟨true, congrArg V.bl (by rw [word_no]; rfl), iteT ?_⟩
          have e1' : V.int ((i : Int).fdiv 4) = intV (i / 4) := congrArg V.int (fdiv_nat i 4)
          have e2' : V.int ((i : Int).fmod 4) = intV (i % 4) := congrArg V.int (fmod_nat i 4)
          have hGp : Good (partS S (i / 4) (i % 4) n t) := hG.part hj
          have lp := partS_len S (i / 4) (i % 4) n t
          have sbp : Sb (partS S (i / 4) (i % 4) n t) := hGp.sb (by rw [lp]; omega)
          have lwp : (wordsT (partS S (i / 4) (i % 4) n t)).length = 4 * S.length := by rw [words_len hGp.l4, lp]
          refine ⟨v, rfl, intV i, rfl, _, _, rfl, rfl, ⟨by decide, by decide⟩, intV i, rfl, _, _, rfl, rfl, (show (4 : Int) ≠ 0 by decide), fun _ => False, v, shutD S, S, i / 4, i % 4, n, t, (by rw [← e1', ← e2']; rfl), st3.dq, norm_shut S, hG, by omega, hj, fun H4 u4 s4 st4 => ?_⟩
          refine ⟨fun _ => False, u4, shutD _, partS S (i / 4) (i % 4) n t, rfl, st4.dq, norm_shut _, sbp, fun H5 s5 => ⟨textT (partS S (i / 4) (i % 4) n t), rfl, ?_, ⟨_, rfl⟩, _, Str.ofString " ", rfl, rfl, by decide +kernel, ?_, fun po npo => ?_⟩⟩
          · have := text_len sbp
            rw [e1]
            omega
          · have := repl_le sbp
            rw [sizeLine_eq]
            omega
          rw [rep_split sbp (by rw [lp]; omega)]
          have s6 : Same H5 (upd H5 po (.lst ((wordsT (partS S (i / 4) (i % 4) n t)).map V.str))) := same_new npo
          have h6 : (upd H5 po (.lst ((wordsT (partS S (i / 4) (i % 4) n t)).map V.str))) po = some (.lst ((wordsT (partS S (i / 4) (i % 4) n t)).map V.str)) := upd_same
          have s36 := (s4.trans s5).trans s6
          generalize upd H5 po (.lst ((wordsT (partS S (i / 4) (i % 4) n t)).map V.str)) = H6 at s6 h6 s36 ⊢
          have h6' := s36 _ _ h3
          -- unlike
          refine ⟨.ref pw, rfl, pw, _, rfl, .inl (.inl (.inl h6')), _, rfl, by rw [lw]; omega, by rw [lw]; omega, fun D nD => ?_⟩
          rw [lw, Int.toNat_natCast]
          refine lc_range (lo := 0) (n := 4 * S.length) (fun k H7 => H7 D = some (.lst (((List.range k).filter fun k => k == i || k == 4 * n + tf t (i % 4)).map intV)) ∧ Same H6 H7) ⟨upd_same, same_new nD⟩ ?_ ?_
          · rintro k H7 hk ⟨h7, s7⟩
            rw [Int.zero_add]
            have gw : (wordsT S)[k]? = some (wordsT S)[k] := List.getElem?_eq_getElem (by omega)
            have go : (wordsT (partS S (i / 4) (i % 4) n t))[k]? = some (wordsT (partS S (i / 4) (i % 4) n t))[k] := List.getElem?_eq_getElem (by omega)
            have hu := (unlike_at hG hj gw go).1
            refine ⟨rfl, .ref pw, rfl, intV k, rfl, pw, _, (k : Int), .str _, rfl, rfl, .inl (.inl (s7 _ _ h6')), atI_nat (by rw [List.getElem?_map, gw]; rfl), .ref po, rfl, intV k, rfl, po, _, (k : Int), .str _, rfl, rfl, .inl (.inl (s7 _ _ h6)), atI_nat (by rw [List.getElem?_map, go]; rfl), rfl, _, congrArg V.bl hu, ite2 (fun e => ?_) (fun e => ?_)⟩
            · refine ⟨intV k, rfl, _, h7, small1000 (by
                rw [List.length_map]
                refine Nat.le_trans (List.length_filter_le _ _) ?_
                rw [List.length_range]
                omega), ?_, same_fill s7 nD⟩
              rw [upd_same, List.range_succ, List.filter_append, List.map_append]
              have ef : ([k].filter fun k => k == i || k == 4 * n + tf t (i % 4)) = [k] := by
                rw [List.filter_cons, if_pos e]
                rfl
              rw [ef]
              rfl
            · refine ⟨?_, s7⟩
              rw [List.range_succ, List.filter_append]
              have ef : ([k].filter fun k => k == i || k == 4 * n + tf t (i % 4)) = [] := by
                rw [List.filter_cons, if_neg e]
                rfl
              rw [ef, List.append_nil]
              exact h7
          · rintro H7 ⟨h7, s7⟩
            have pm := two_perm (N := 4 * S.length) (a := i) (b := 4 * n + tf t (i % 4)) hi (by omega) (fun z => hne (Prod.ext (by show n = i / 4; omega) (by show tf t (i % 4) = i % 4; omega)))
            generalize hks : ((List.range (4 * S.length)).filter fun k => k == i || k == 4 * n + tf t (i % 4)) = ks at h7 pm
            have lk : ks.length = 2 := pm.length_eq
            have lkm : (ks.map intV).length = 2 := by rw [List.length_map, lk]
            have ho7 := s7 _ _ h6
            have hlen : (!decide (V.int ((ks.map intV).length : Int) = V.int 2)) = false := by
              rw [lkm]
              rfl
            have hin : (!inV (intV i) (ks.map intV)) = false := by
              have : inV (intV i) (ks.map intV) = true := List.any_eq_true.mpr ⟨intV i, List.mem_map_of_mem (pm.mem_iff.mpr List.mem_cons_self), by simp [intV, eqV]⟩
              rw [this]
              rfl
            have hfl : (ks.map intV).all flatV = true := List.all_eq_true.mpr fun x hx => by
              obtain ⟨k, _, rfl⟩ := List.mem_map.mp hx
              rfl
            refine ⟨.ref D, rfl, D, _, rfl, .inl (.inl (.inl h7)), rfl, _, congrArg V.bl hlen, iteF ?_⟩
            refine ⟨intV i, rfl, .ref D, rfl, D, _, rfl, .inl (.inl (.inl h7)), rfl, hfl, _, congrArg V.bl hin, iteF ?_⟩
            refine ⟨.ref D, rfl, D, rfl, ⟨_, .inl (.inl h7)⟩, fun D2 nD2 => ?_⟩
            refine lc_list (xs := ks.map intV) (fun m H8 => H8 D2 = some (.lst ((List.replicate m (Str.ofString "-")).map V.str)) ∧ Same H7 H8) ⟨upd_same, same_new nD2⟩ ?_ ?_ ?_
            · rintro m H8 _ ⟨h8, s8⟩
              exact .inl (.inl (s8 _ _ h7))
            · rintro m x H8 hx ⟨h8, s8⟩
              rw [List.getElem?_map] at hx
              cases hk : ks[m]? with
              | none =>
                rw [hk] at hx
                cases hx
              | some k =>
                rw [hk] at hx
                have ex : intV k = x := Option.some.inj hx
                subst ex
                have hm : m < 2 := by
                  have := (List.getElem?_eq_some_iff.mp hk).1
                  omega
                have hkm := pm.mem_iff.mp (List.mem_of_getElem? hk)
                have hkN : k < 4 * S.length ∧ (k == i || k == 4 * n + tf t (i % 4)) = true := by
                  rw [Bool.or_eq_true, beq_iff_eq, beq_iff_eq]
                  rcases List.mem_cons.mp hkm with z | z
                  · exact ⟨by omega, .inl z⟩
                  · have := List.mem_singleton.mp z
                    exact ⟨by omega, .inr this⟩
                have gw : (wordsT S)[k]? = some (wordsT S)[k] := List.getElem?_eq_getElem (by omega)
                have go : (wordsT (partS S (i / 4) (i % 4) n t))[k]? = some (wordsT (partS S (i / 4) (i % 4) n t))[k] := List.getElem?_eq_getElem (by omega)
                have hu := (unlike_at hG hj gw go).2 hkN.2
                rw [hu] at go
                refine ⟨rfl, .ref po, rfl, intV k, rfl, po, _, (k : Int), .str (Str.ofString "-"), rfl, rfl, .inl (.inl (s8 _ _ ho7)), atI_nat (by rw [List.getElem?_map, go]; rfl), _, h8, small1000 (by rw [List.length_map, List.length_replicate]; omega), ?_, same_fill s8 nD2⟩
                rw [upd_same, List.replicate_succ', List.map_append]
                rfl
            · rintro H8 ⟨h8, s8⟩
              rw [lkm] at h8
              refine ⟨by decide, fun L nL => ?_⟩
              have s9 : Same H8 (upd H8 L (.lst ([Str.ofString "-", Str.ofString "-"].map V.str))) := same_new nL
              refine ⟨.list ([Str.ofString "-", Str.ofString "-"].map PyData.str), .list ([Str.ofString "-", Str.ofString "-"].map PyData.str), .lst (.inl (.inl (s9 _ _ h8))) (dp_strs [Str.ofString "-", Str.ofString "-"]), .lst (.inl (.inl upd_same)) (dp_strs [Str.ofString "-", Str.ofString "-"]), strs_shaped (by decide +kernel), strs_shaped (by decide +kernel), ?_⟩
              have ee : (!PyData.eqv (.list ([Str.ofString "-", Str.ofString "-"].map PyData.str)) (.list ([Str.ofString "-", Str.ofString "-"].map PyData.str))) = false := by
                show (!PyData.eqvAll _ _) = _
                rw [eqv_strs, decide_eq_true rfl]
                rfl
              rw [ee]
              refine ⟨_, rfl, iteF ?_⟩
              exact ⟨_, _, _, rfl, (((s3.trans s36).trans s7).trans s8).trans s9⟩
      · rintro σ H3 ⟨y2, y3, y4, rfl, s3⟩
        exact q _ (s02.trans s3)
end
end Bk

namespace Bk
open PySem PySem.Spec PyProof.Rows L2 TL RZ
local macro_rules | `(tactic| walk_at "g") => `(tactic| (repeat first | refine ⟨_, rfl, ?_⟩ | refine ⟨cpow, ?_⟩ | refine ⟨wideM, ?_⟩ | refine ⟨_, _, rfl, rfl, ?_⟩ | refine ⟨rfl, ?_⟩))
theorem rep_flat {α : Type} (x : α) (n : Nat) : (List.replicate n [x]).flatten = List.replicate n x := by
  induction n with
  | zero => rfl
  | succ n ih =>
    rw [List.replicate_succ, List.flatten_cons, ih]
    rfl
theorem prep {α β : Type} {F : α → β → Prop} {x : α} {y : β} (n : Nat) (h : F x y) : Paired F (List.replicate n x) (List.replicate n y) := by
  induction n with
  | zero => exact .nil
  | succ n ih =>
    rw [List.replicate_succ, List.replicate_succ]
    exact .cons h ih
theorem id_at {n k : Nat} (h : k < n) : tsAt (List.replicate n idT) k = idT := by
  unfold tsAt
  simp [h]
theorem id_names {n : Nat} {o : List Nat} (h : o.Perm (List.range n)) : Names n o (List.replicate n idT) :=
  ⟨h, List.length_replicate, fun t ht => by
    rw [List.eq_of_mem_replicate ht]
    exact idT_turn.1⟩
theorem turn_id : ∀ t ∈ allTurns, (idT.map fun c => tf idT (tf t c)) = t := by decide +kernel
theorem ren_plain {S : Spc} {o : List Nat} (hG : Good S) (h : o.Perm (List.range S.length)) :
    renS S o (List.replicate S.length idT) = o.map fun c => ((S[c]?).getD []).map (numJ ((List.range S.length).map o.idxOf)) := by
  have hn := id_names h
  refine List.ext_getElem? fun k => ?_
  unfold renS
  rw [List.getElem?_map, List.getElem?_map]
  by_cases hk : k < S.length
  · obtain ⟨eo, lo, _, _⟩ := hn.at hk
    rw [List.getElem?_range hk, eo]
    show some (renB S o _ k) = some _
    congr 1
    unfold renB
    rw [id_at hk, idT_turn.2]
    obtain ⟨b, hb⟩ : ∃ b, S[tf o k]? = some b := ⟨_, List.getElem?_eq_getElem lo⟩
    have hb4 := hG.l4 b (List.mem_of_getElem? hb)
    show List.map _ idT = ((S[tf o k]?).getD []).map _
    rw [hb, Option.getD_some]
    refine List.ext_getElem? fun f => ?_
    rw [List.getElem?_map, List.getElem?_map]
    by_cases hf : f < 4
    · have e1 : idT[f]? = some f := by
        have : ∀ f < 4, idT[f]? = some f := by decide
        exact this f hf
      obtain ⟨j, hj⟩ : ∃ j, b[f]? = some j := ⟨_, List.getElem?_eq_getElem (by omega)⟩
      have hg : getJ S (tf o k) f = some j := by
        unfold getJ
        rw [hb]
        exact hj
      rw [e1, hj]
      show some (renJ o _ idT ((getJ S (tf o k) f).getD none)) = some (numJ _ j)
      rw [hg, Option.getD_some]
      cases j with
      | none => rfl
      | some nt =>
        obtain ⟨n, t⟩ := nt
        have hnl := hG.lt hg
        have htm := (hG.both _ _ _ _ hg).1
        have hi := (hn.idx hnl).2
        show some (some (o.idxOf n, idT.map fun c => tf (tsAt (List.replicate S.length idT) (o.idxOf n)) (tf t c))) = some (some (tf ((List.range S.length).map o.idxOf) n, t))
        rw [id_at hi, turn_id t htm, tf_map (by rw [List.length_range]; exact hnl)]
        have e2 : tf (List.range S.length) n = n := by
          unfold tf
          rw [List.getElem?_range hnl]
          rfl
        rw [e2]
    · have e1 : idT[f]? = none := List.getElem?_eq_none (by show 4 ≤ f; omega)
      have e2 : b[f]? = none := List.getElem?_eq_none (by omega)
      rw [e1, e2]
      rfl
  · have e1 : (List.range S.length)[k]? = none := List.getElem?_eq_none (by rw [List.length_range]; omega)
    have e2 : o[k]? = none := List.getElem?_eq_none (by rw [h.length_eq, List.length_range]; omega)
    rw [e1, e2]
    rfl
section
variable {P : Program} {w : World} {K : PySem.W.Frag} {mg : Str → Option Value} {base : Heap}
/-! ### _law_order_right -/
abbrev s_law_order_right : Stmt := topS 48
abbrev N_law_order_right : List Str := ["reel", "space", "left", "order", "lines", "places", "told", "block"]
theorem sc_law_order_right : FnScope N_law_order_right ["reel", "space"] (defScope s_law_order_right) := ⟨rfl, rfl, rfl, by decide +kernel, rfl, by decide +kernel, by decide +kernel⟩
def spORight : Sp := fun vs H Q _ => ∃ (R : Addr) (v : V) (S : Spc), vs = [.ref R, v] ∧ ReelOk R H ∧ ST H v S ∧ Good S ∧ 1 ≤ S.length ∧ S.length ≤ 20 ∧ ∀ H', Keep R H H' → ReelOk R H' → Q (.bl true) H'
theorem ok_law_order_right {f fD fS fX fN : Addr} {fd fdD fdS fdX fdN : FuncData} (F : Fun K "_law_order_right" "_law_order_right" s_law_order_right f fd)
    (F_law_draw : Fun K "_law_draw" "_law_draw" s_law_draw fD fdD) (g_law_draw : mg "_law_draw" = some (.ref fD)) (b_law_draw : Binds K fdD ["reel", "many"] []) (G_law_draw : FnOk P w K mg base CX0 1 fD fdD ["reel", "many"] spDraw)
    (Fspace_text : Fun K "space_text" "space_text" sspace_text fS fdS) (gspace_text : mg "space_text" = some (.ref fS)) (bspace_text : Binds K fdS ["space"] []) (Gspace_text : FnOk P w K mg base CX0 3 fS fdS ["space"] spText)
    (Frenamed : Fun K "renamed" "renamed" srenamed fX fdX) (grenamed : mg "renamed" = some (.ref fX)) (brenamed : Binds K fdX ["space", "order", "turns"] []) (Grenamed : FnOk P w K mg base CX0 7 fX fdX ["space", "order", "turns"] spRenamed)
    (F_law_numbered : Fun K "_law_numbered" "_law_numbered" s_law_numbered fN fdN) (g_law_numbered : mg "_law_numbered" = some (.ref fN)) (b_law_numbered : Binds K fdN ["line", "numbers"] []) (G_law_numbered : FnOk P w K mg base CX0 1 fN fdN ["line", "numbers"] spNumb)
    (m_range : mg "range" = none) (m_list : mg "list" = none) (m_len : mg "len" = none) : FnOk P w K mg base CX0 8 f fd ["reel", "space"] spORight := by
  refine F.ok sc_law_order_right (fun vs H Q E h => ?_) (fun cdv A outer s H vs Q E hr h => ?_)
  · obtain ⟨R, v, S, rfl, _⟩ := h
    rfl
  · obtain ⟨R, v, S, rfl, hR, st, hG, hS1, hS2, q⟩ := h
    have nd := sc_law_order_right.nd
    refine ⟨_, (pss_cons (ps_set (i := 2) nd rfl (.inr rfl) (pe_listRg rfl (by rfl) m_list (prg_1 (by rfl) m_range (pe_callB (kLen K rfl) (by rfl) m_len (by decide +kernel) (pa_cons (pv 1) pa_nil)))))
      (pss_cons (ps_set (i := 3) nd rfl (.inr rfl) (pe_lc (own := [("block", 7)]) (g := gName 7) (tt := tYes) rfl nd (kPiT K rfl (pi_tup (pv 1))) (blkOk_by (own := [("block", 7)]) (N := N_law_order_right) (sc := defScope s_law_order_right) (by decide +kernel)) (fun _ _ _ _ _ => (pg_name (i := 7) nd rfl (Or.inl rfl))) (fun _ _ _ _ _ => pts_nil) (fun _ _ _ _ _ => (kBM K rfl (pe_bm PySem.F.plainAttrs_list PySem.F.slot_list_pop PySem.F.type_list_pop mt_popAt (pv 2) (pa_cons (pe_call G_law_draw (hr.mono (by first | decide | omega)) (by rfl) g_law_draw F_law_draw.kp b_law_draw .nil pass0 (pa_cons (pv 0) (pa_cons (pe_callB (kLen K rfl) (by rfl) m_len (by decide +kernel) (pa_cons (pv 2) pa_nil)) pa_nil))) pa_nil))))))
      (pss_cons (ps_set (i := 4) nd rfl (.inr rfl) (pe_split (pe_call Gspace_text (hr.mono (by first | decide | omega)) (by rfl) gspace_text Fspace_text.kp bspace_text .nil pass0 (pa_cons (pv 1) pa_nil)) pe_str))
      (pss_cons (ps_set (i := 5) nd rfl (.inr rfl) (pe_lc (own := [("block", 7)]) (g := gName 7) (tt := tYes) rfl nd (pi_range1 (by rfl) m_range (pa_cons (pe_callB (kLen K rfl) (by rfl) m_len (by decide +kernel) (pa_cons (pv 1) pa_nil)) pa_nil)) (blkOk_by (own := [("block", 7)]) (N := N_law_order_right) (sc := defScope s_law_order_right) (by decide +kernel)) (fun _ _ _ _ _ => (pg_name (i := 7) nd rfl (Or.inl rfl))) (fun _ _ _ _ _ => pts_nil) (fun _ _ _ _ _ => (kBM K rfl (pe_bm PySem.F.plainAttrs_list PySem.F.slot_list_index PySem.F.type_list_index (kIndexI K rfl) (pv 3) (pa_cons (pv 7) pa_nil))))))
      (pss_cons (ps_set (i := 6) nd rfl (.inl rfl) (pe_call Gspace_text (hr.mono (by first | decide | omega)) (by rfl) gspace_text Fspace_text.kp bspace_text .nil pass0 (pa_cons (pe_call Grenamed (hr.mono (by first | decide | omega)) (by rfl) grenamed Frenamed.kp brenamed .nil pass0 (pa_cons (pv 1) (pa_cons (pv 3) (pa_cons (pe_op op_rep (pe_lst (pa_cons (pe_tupF (pa_cons pe_int (pa_cons pe_int (pa_cons pe_int (pa_cons pe_int pa_nil))))) pa_nil)) (pe_callB (kLen K rfl) (by rfl) m_len (by decide +kernel) (pa_cons (pv 1) pa_nil))) pa_nil)))) pa_nil)))
      (pss_one (ps_ret (pe_cmpR op_eq (pv 6) (kJoin K rfl (pe_join pe_str (pe_lc (own := [("block", 7)]) (g := gName 7) (tt := tYes) rfl nd (kPiL K rfl (pi_list (pv 3))) (blkOk_by (own := [("block", 7)]) (N := N_law_order_right) (sc := defScope s_law_order_right) (by decide +kernel)) (fun _ _ _ _ _ => (pg_name (i := 7) nd rfl (Or.inl rfl))) (fun _ _ _ _ _ => pts_nil) (fun _ _ _ _ _ => (pe_call G_law_numbered (hr.mono (by first | decide | omega)) (by rfl) g_law_numbered F_law_numbered.kp b_law_numbered .nil pass0 (pa_cons (pe_ix (kIxL K rfl) (pv 4) (pv 7) (fun _ _ => rfl)) (pa_cons (pv 5) pa_nil))))))) (nomark _))))))))), ?_⟩
    have st0 := st
    obtain ⟨pv, rv, rfl, fv, bv⟩ := st
    have lrv : rv.length = S.length := plen bv
    have hb := hG.sb (by omega)
    refine ⟨.ref pv, rfl, pv, rv, rfl, .inr fv.sqt, (rv.length : Int), rfl, RgOk.of_le (by omega) (by omega) (by omega) (by omega), fun L nL => ?_⟩
    rw [lrv, rgV_nat]
    have h1 : (upd H L (.lst ((List.range S.length).map intV))) L = some (.lst (trnV (List.range S.length))) := upd_same
    have s1 : Same H (upd H L (.lst ((List.range S.length).map intV))) := same_new nL
    have aL : Away R L (upd H L (.lst ((List.range S.length).map intV))) := hR.away nL
    generalize upd H L (.lst ((List.range S.length).map intV)) = H1 at h1 s1 aL ⊢
    -- order
    refine ⟨.ref pv, rfl, pv, rfl, ⟨_, (fv.mono s1.tups).sqt⟩, fun D nD => ?_⟩
    have nLD : L ≠ D := ne_of_none h1 nD
    refine lc_tup (xs := rv) (fun i H3 => ∃ fs gs, H3 L = some (.lst (trnV fs)) ∧ H3 D = some (.lst (trnV gs)) ∧ (gs ++ fs).Perm (List.range S.length) ∧ gs.length = i ∧ Away R D H3 ∧ Away R L H3 ∧ Keep R H H3 ∧ Aw R H H3)
      ⟨List.range S.length, [], by rw [upd_ne nLD]; exact h1, upd_same, .refl _, rfl, aL.ok.away nD, aL.same (same_new nD), Keep.of (s1.trans (same_new nD)), (s1.trans (same_new nD)).aw⟩ ?_ ?_ ?_
    · rintro i H3 _ ⟨fs, gs, h3, h3', pm, hg, aD3, aL3, k3, w3⟩
      exact (fv.mono (k3.tups hR)).sqt
    · rintro i x0 H3 hx0 ⟨fs, gs, h3, h3', pm, rfl, aD3, aL3, k3, w3⟩
      have hi : gs.length < S.length := by
        have := (List.getElem?_eq_some_iff.mp hx0).1
        omega
      have hl : fs.length = S.length - gs.length := by
        have := pm.length_eq
        rw [List.length_append, List.length_range] at this
        omega
      have lm : (trnV fs).length = fs.length := List.length_map ..
      refine ⟨rfl, .ref L, rfl, .inl ⟨rfl, _, .inl (.inl h3)⟩, .ref R, rfl, .ref L, rfl, L, _, rfl, .inl (.inl (.inl h3)), R, ((trnV fs).length : Int), rfl, by rw [lm]; omega, by rw [lm]; omega, aD3.ok, fun H4 r k4 hR4 w4 r0 r1 => ?_⟩
      rw [lm] at r1
      obtain ⟨x, hx⟩ : ∃ x, fs[r.toNat]? = some x := ⟨_, List.getElem?_eq_getElem (by omega)⟩
      have h4 := k4 _ _ h3 aL3.ne
      have h4' := k4 _ _ h3' aD3.ne
      have aL4 := w4 L (fun z => by rw [h3] at z; cases z) aL3
      have aD4 := w4 D (fun z => by rw [h3'] at z; cases z) aD3
      refine ⟨L, _, r, r.toNat, intV x, rfl, rfl, h4, by omega, by omega, pop_ix lm r0 r1, by unfold trnV; rw [List.getElem?_map, hx]; rfl, ?_⟩
      have ee : (trnV fs).eraseIdx r.toNat = trnV (fs.eraseIdx r.toNat) := erase_map
      rw [ee]
      have h5 : (upd H4 L (.lst (trnV (fs.eraseIdx r.toNat)))) L = some (.lst (trnV (fs.eraseIdx r.toNat))) := upd_same
      have h5' : (upd H4 L (.lst (trnV (fs.eraseIdx r.toNat)))) D = some (.lst (trnV gs)) := by rw [upd_ne nLD.symm]; exact h4'
      have aL5 : Away R L (upd H4 L (.lst (trnV (fs.eraseIdx r.toNat)))) := aL4.fill
      have aD5 : Away R D (upd H4 L (.lst (trnV (fs.eraseIdx r.toNat)))) := aD4.fill' aL4
      have k5 : Keep R H (upd H4 L (.lst (trnV (fs.eraseIdx r.toNat)))) := keep_fill (k3.trans k4) nL
      have w5 : Aw R H (upd H4 L (.lst (trnV (fs.eraseIdx r.toNat)))) := (w3.trans k3 w4).trans (k3.trans k4) (Aw.fill aL4)
      generalize upd H4 L (.lst (trnV (fs.eraseIdx r.toNat))) = H5 at h5 h5' aL5 aD5 k5 w5 ⊢
      refine ⟨_, h5', small1000 (by unfold trnV; rw [List.length_map]; omega), fs.eraseIdx r.toNat, gs ++ [x], by rw [upd_ne nLD]; exact h5, by rw [upd_same]; unfold trnV; rw [List.map_append]; rfl, ?_, by rw [List.length_append]; rfl, aD5.fill, aL5.fill' aD5, keep_fill k5 (s1.free nD), w5.trans k5 (Aw.fill aD5)⟩
      rw [List.append_assoc]
      exact ((pperm_erase hx).append_left gs).trans pm
    · rintro H3 ⟨fs, gs, h3, h3', pm, hg, aD3, aL3, k3, w3⟩
      rw [lrv] at hg
      have el : fs = [] := by
        have := pm.length_eq
        rw [List.length_append, List.length_range] at this
        exact List.length_eq_zero_iff.mp (by omega)
      subst el
      rw [List.append_nil] at pm
      have hR3 := aD3.ok
      have st3 := st0.mono (k3.tups hR)
      clear h3 aL3 w3 aL h1
      -- lines
      refine ⟨.ref pv, rfl, fun _ => False, .ref pv, shutD S, S, rfl, st3.dq, norm_shut S, hb, fun H4 s4 => ?_⟩
      have tl1 := text_len hb
      refine ⟨⟨_, rfl⟩, textT S, Str.ofString "\n", rfl, rfl, by decide +kernel, by rw [sizeLine_eq]; omega, fun pl npl => ?_⟩
      rw [text_split hb hS1]
      have s5 : Same H4 (upd H4 pl (.lst ((S.map lineT).map V.str))) := same_new npl
      have h5 : (upd H4 pl (.lst ((S.map lineT).map V.str))) pl = some (.lst ((S.map lineT).map V.str)) := upd_same
      generalize upd H4 pl (.lst ((S.map lineT).map V.str)) = H5 at s5 h5 ⊢
      have s35 := s4.trans s5
      have hD5 := s35 _ _ h3'
      have st5 := st3.mono s35.tups
      have fv5 := (fv.mono (k3.tups hR)).mono s35.tups
      have hn := id_names pm
      have lgs : gs.length = S.length := hg
      -- places
      refine ⟨.ref pv, rfl, pv, rv, rfl, .inr fv5.sqt, _, rfl, by rw [lrv]; omega, by rw [lrv]; omega, fun D2 nD2 => ?_⟩
      rw [lrv, Int.toNat_natCast]
      refine lc_range (lo := 0) (n := S.length) (fun i H6 => H6 D2 = some (.lst (((List.range i).map gs.idxOf).map intV)) ∧ Same H5 H6) ⟨upd_same, same_new nD2⟩ ?_ ?_
      · rintro k H6 hk ⟨h6, s6⟩
        rw [Int.zero_add]
        have mi : ((k : Nat) : Int) ∈ gs.map fun c : Nat => (c : Int) := List.mem_map_of_mem (hn.idx hk).1
        refine ⟨rfl, .ref D, rfl, .inl ⟨rfl, _, .inl (.inl (s6 _ _ hD5))⟩, intV k, rfl, D, gs.map (fun c : Nat => (c : Int)), ((k : Nat) : Int), rfl, rfl, by rw [← intV_map']; exact .inl (.inl (s6 _ _ hD5)), mi, Nat.le_of_lt (small1000 (by rw [List.length_map, lgs]; omega)), ?_⟩
        rw [idx_int]
        refine ⟨_, h6, small1000 (by rw [List.length_map, List.length_map, List.length_range]; omega), ?_, same_fill s6 nD2⟩
        rw [upd_same, List.range_succ, List.map_append, List.map_append]
        rfl
      · rintro H6 ⟨h6, s6⟩
        -- told
        have hD6 := s6 _ _ hD5
        have hl6 := s6 _ _ h5
        refine ⟨.ref pv, rfl, .ref D, rfl, Nat.le_of_lt (small1000 (by show 4 ≤ 1000; decide)), fun p3 o3 np3 d3 => ?_⟩
        have s17 : Same H6 (upd H6 p3 (.frz o3 (.tup [.int 0, .int 1, .int 2, .int 3]))) := same_new np3
        have f17 : FT (upd H6 p3 (.frz o3 (.tup [.int 0, .int 1, .int 2, .int 3]))) p3 (trnV [0, 1, 2, 3]) := FT.new d3
        generalize upd H6 p3 (.frz o3 (.tup [.int 0, .int 1, .int 2, .int 3])) = H7 at s17 f17 ⊢
        refine ⟨Nat.le_of_lt (small1000 (by show 1 ≤ 1000; decide)), fun p4 np4 => ?_⟩
        have s18 : Same H7 (upd H7 p4 (.lst [.ref p3])) := same_new np4
        have h18 : (upd H7 p4 (.lst [.ref p3])) p4 = some (.lst [.ref p3]) := upd_same
        generalize upd H7 p4 (.lst [.ref p3]) = H8 at s18 h18 ⊢
        have s68 := s17.trans s18
        have fv8 := fv5.mono (s6.trans s68).tups
        refine ⟨.ref pv, rfl, pv, rv, rfl, .inr fv8.sqt, p4, S.length, _, rfl, congrArg V.int (congrArg Nat.cast lrv), h18, by omega, by omega, Nat.le_of_lt (small1000 (by show _ ≤ 1000; simp; omega)), fun p5 np5 => ?_⟩
        rw [Int.toNat_natCast, rep_flat]
        have h19 : (upd H8 p5 (.lst (List.replicate S.length (.ref p3)))) p5 = some (.lst (List.replicate S.length (.ref p3))) := upd_same
        have s19 : Same H8 (upd H8 p5 (.lst (List.replicate S.length (.ref p3)))) := same_new np5
        have hw19 : Paired (TAt (upd H8 p5 (.lst (List.replicate S.length (.ref p3))))) (List.replicate S.length (.ref p3)) (List.replicate S.length idT) := prep _ ⟨p3, rfl, f17.mono (s18.trans s19).tups⟩
        generalize upd H8 p5 (.lst (List.replicate S.length (.ref p3))) = H9 at h19 s19 hw19 ⊢
        have s69 := s68.trans s19
        have st9 := st5.mono (s6.trans s69).tups
        have hGr := good_ren hG hn
        have hbr : Sb (renS S gs (List.replicate S.length idT)) := hGr.sb (by rw [renS_len]; omega)
        refine ⟨fun _ => False, fun _ => False, fun _ => False, .ref pv, .ref D, .ref p5, _, _, _, S, gs, List.replicate S.length idT, rfl, st9.dq, norm_shut _, hG, hS1, by omega, .lst (s69 _ _ hD6) (fun z => z) (dqs_ints _), norm_list _, .lst h19 (fun z => z) (tats_dqs hw19), norm_tups _, hn, fun H10 u10 s10 st10 => ?_⟩
        refine ⟨fun _ => False, u10, shutD _, renS S gs (List.replicate S.length idT), rfl, st10.dq, norm_shut _, hbr, fun H11 s11 => ?_⟩
        have s611 := (s69.trans s10).trans s11
        have hD11 := s611 _ _ hD6
        have hl11 := s611 _ _ hl6
        have h611 := s611 _ _ h6
        refine ⟨.str _, rfl, ⟨_, rfl⟩, .ref D, rfl, D, rfl, ⟨_, .inl (.inl hD11)⟩, fun D3 nD3 => ?_⟩
        have lfs : ((List.range S.length).map gs.idxOf).length = S.length := by rw [List.length_map, List.length_range]
        refine lc_list (xs := trnV gs) (fun i H12 => H12 D3 = some (.lst (((gs.take i).map fun c => lineT (((S[c]?).getD []).map (numJ ((List.range S.length).map gs.idxOf)))).map V.str)) ∧ Same H11 H12) ⟨upd_same, same_new nD3⟩ ?_ ?_ ?_
        · rintro i H12 _ ⟨h12, s12⟩
          exact .inl (.inl (s12 _ _ hD11))
        · rintro i x H12 hx ⟨h12, s12⟩
          unfold trnV at hx
          rw [List.getElem?_map] at hx
          cases hc : gs[i]? with
          | none =>
            rw [hc] at hx
            cases hx
          | some c =>
            rw [hc] at hx
            have ex : intV c = x := Option.some.inj hx
            subst ex
            have hcn : c < S.length := List.mem_range.mp (pm.mem_iff.mp (List.mem_of_getElem? hc))
            obtain ⟨b, hbc⟩ : ∃ b, S[c]? = some b := ⟨_, List.getElem?_eq_getElem hcn⟩
            obtain ⟨hb4, hbj⟩ := hb.2 b (List.mem_of_getElem? hbc)
            have hi : i < S.length := by
              have := (List.getElem?_eq_some_iff.mp hc).1
              omega
            refine ⟨rfl, .ref pl, rfl, intV c, rfl, pl, _, (c : Int), .str (lineT b), rfl, rfl, .inl (.inl (s12 _ _ hl11)), atI_nat (by rw [List.getElem?_map, List.getElem?_map, hbc]; rfl), .ref D2, rfl, b, D2, (List.range S.length).map gs.idxOf, rfl, s12 _ _ h611, hb4, fun j hj => ⟨hbj j hj, fun n t e => ?_⟩, fun x hx => ?_, fun H13 s13 => ?_⟩
            · subst e
              obtain ⟨f, hf⟩ := List.mem_iff_getElem?.mp hj
              have g : getJ S c f = some (some (n, t)) := by
                unfold getJ
                rw [hbc]
                exact hf
              rw [lfs]
              exact hG.lt g
            · obtain ⟨k, hk, rfl⟩ := List.mem_map.mp hx
              have := (hn.idx (List.mem_range.mp hk)).2
              omega
            · refine ⟨_, s13 _ _ h12, small1000 (by rw [List.length_map, List.length_map, List.length_take]; omega), ?_, same_fill (s12.trans s13) nD3⟩
              rw [upd_same, List.take_add_one, hc, List.map_append, List.map_append]
              have eb : lineT (b.map (numJ ((List.range S.length).map gs.idxOf))) = lineT (((S[c]?).getD []).map (numJ ((List.range S.length).map gs.idxOf))) := by rw [hbc]; rfl
              rw [eb]
              rfl
        · rintro H12 ⟨h12, s12⟩
          rw [show (trnV gs).length = gs.length from List.length_map .., List.take_length] at h12
          have et : gs.map (fun c => lineT (((S[c]?).getD []).map (numJ ((List.range S.length).map gs.idxOf)))) = (renS S gs (List.replicate S.length idT)).map lineT := by
            rw [ren_plain hG pm, List.map_map]
            rfl
          have ls := sum_le (ys := (renS S gs (List.replicate S.length idT)).map lineT) (c := 32) fun y hy => by
            obtain ⟨b, hb', rfl⟩ := List.mem_map.mp hy
            exact line_len (hbr.2 b hb').1 (hbr.2 b hb').2
          rw [List.length_map, renS_len] at ls
          rw [et] at h12
          refine ⟨_, D3, (renS S gs (List.replicate S.length idT)).map lineT, rfl, rfl, .inl (.inl (.inl h12)), ?_, rfl, ?_⟩
          · rw [List.length_map, renS_len]
            have e1 : (Str.ofString "\n").length = 1 := by decide +kernel
            show _ + S.length * (Str.ofString "\n").length ≤ 16777216
            rw [e1]
            omega
          · have : decide (V.str (textT (renS S gs (List.replicate S.length idT))) = V.str (Txt.join (Str.ofString "\n") ((renS S gs (List.replicate S.length idT)).map lineT))) = true := decide_eq_true rfl
            rw [this]
            have sE := ((s35.trans s6).trans s611).trans s12
            exact q _ (k3.same sE) (hR3.same sE)
end
end Bk

namespace Bk
open PySem PySem.Spec PyProof.Rows L2 TL RZ
local macro_rules | `(tactic| walk_at "g") => `(tactic| (repeat first | refine ⟨_, rfl, ?_⟩ | refine ⟨cpow, ?_⟩ | refine ⟨wideM, ?_⟩ | refine ⟨_, _, rfl, rfl, ?_⟩ | refine ⟨rfl, ?_⟩))
theorem shut_shaped {S : Spc} (h : Sb S) : SeqAt.shaped (shutD S) = true := by
  have go1 : ∀ b : Blk, PyData.canLayAll0 (b.map jD) = true := fun b => by
    induction b with
    | nil => rfl
    | cons j b ih =>
      simp only [List.map_cons, PyData.canLayAll0, (jD_lay j).1, Bool.true_and]
      exact ih
  have go2 : ∀ S : Spc, PyData.canLayAll0 (S.map fun b => .tuple (b.map jD)) = true := fun S => by
    induction S with
    | nil => rfl
    | cons b S ih =>
      simp only [List.map_cons, PyData.canLayAll0, PyData.canLay0, go1 b, Bool.true_and]
      exact ih
  have hd := (shut_tiny h).k
  show (PyData.canLay0 (shutD S) && decide ((shutD S).depth ≤ 64)) = true
  rw [Bool.and_eq_true]
  exact ⟨by simp only [shutD, PyData.canLay0]; exact go2 S, decide_eq_true (by omega)⟩
theorem shut_eqv {S : Spc} (h : Sb S) : PyData.eqv (shutD S) (shutD S) = true := SeqAt.eqv_refl _ (SeqAt.canLay_of_shaped (shut_shaped h))
section
variable {P : Program} {w : World} {K : PySem.W.Frag} {mg : Str → Option Value} {base : Heap}
theorem ST.dpS {H : Hp} {v : V} {S : Spc} (h : ST H v S) : Dp K H v (shutD S) := (h.dq (N := fun _ => False)).dp
theorem eqSS {H : Hp} {x y : V} {S : Spc} {Q : VK} (hb : Sb S) (hx : ST H x S) (hy : ST H y S) (q : Q (.bl true) H) : rEqD K x y H Q :=
  ⟨shutD S, shutD S, hx.dpS, hy.dpS, shut_shaped hb, shut_shaped hb, by rw [shut_eqv hb]; exact q⟩
theorem neSS {H : Hp} {x y : V} {S : Spc} {Q : VK} (hb : Sb S) (hx : ST H x S) (hy : ST H y S) (q : Q (.bl false) H) : rNeD K x y H Q :=
  ⟨shutD S, shutD S, hx.dpS, hy.dpS, shut_shaped hb, shut_shaped hb, by rw [shut_eqv hb]; exact q⟩
end
/-! ### what a text tells -/
theorem word_inj {i j : Jn} (hi : Jb i) (hj : Jb j) (h : wordT i = wordT j) : i = j := by
  cases i with
  | none =>
    cases j with
    | none => rfl
    | some k =>
      obtain ⟨n, t⟩ := k
      have := word_no n t
      rw [← h] at this
      rw [show wordT none = Str.ofString "-" from rfl, decide_eq_true rfl] at this
      cases this
  | some k =>
    obtain ⟨n, t⟩ := k
    cases j with
    | none =>
      have := word_no n t
      rw [h] at this
      rw [show wordT none = Str.ofString "-" from rfl, decide_eq_true rfl] at this
      cases this
    | some k' =>
      obtain ⟨m, u⟩ := k'
      have e := word_part n t
      rw [h, word_part] at e
      injection e with e1 e2
      injection e2 with e2 e3
      have en := numT_inj e1
      have et : t = u := by
        have := congrArg tl e3
        rw [tl_fig (hi n t rfl).2.2, tl_fig (hj m u rfl).2.2] at this
        exact ((List.map_inj_right (fun a b z => by omega)).mp this).symm
      rw [en, et]
theorem map_injOn {α β : Type} {f : α → β} {p : α → Prop} (hf : ∀ a b, p a → p b → f a = f b → a = b) : ∀ {l m : List α}, (∀ a ∈ l, p a) → (∀ a ∈ m, p a) → l.map f = m.map f → l = m
  | [], [], _, _, _ => rfl
  | [], _ :: _, _, _, h => by cases h
  | _ :: _, [], _, _, h => by cases h
  | a :: l, b :: m, hl, hm, h => by
    rw [List.map_cons, List.map_cons] at h
    injection h with h1 h2
    rw [hf a b (hl a List.mem_cons_self) (hm b List.mem_cons_self) h1, map_injOn hf (fun c hc => hl c (List.mem_cons_of_mem _ hc)) (fun c hc => hm c (List.mem_cons_of_mem _ hc)) h2]
theorem text_inj {S U : Spc} (hS : Sb S) (hU : Sb U) (h1 : 1 ≤ S.length) (h2 : 1 ≤ U.length) (h : textT S = textT U) : S = U := by
  have e := text_split hS h1
  rw [h, text_split hU h2] at e
  refine (map_injOn (p := fun b : Blk => b.length = 4 ∧ ∀ j ∈ b, Jb j) (fun b c hb hc z => ?_) hU.2 hS.2 e).symm
  have e2 := line_split hb.1 hb.2
  rw [z, line_split hc.1 hc.2] at e2
  exact (map_injOn (fun i j hi hj z => word_inj hi hj z) hc.2 hb.2 e2).symm
theorem eqv_ints : ∀ xs ys : List Nat, PyData.eqvAll (xs.map intD) (ys.map intD) = decide (xs = ys)
  | [], [] => rfl
  | [], y :: ys => rfl
  | x :: xs, [] => rfl
  | x :: xs, y :: ys => by
    simp only [List.map_cons, PyData.eqvAll, eqv_ints xs ys, intD, PyData.eqv]
    rw [Bool.eq_iff_iff]
    simp
    intro _
    omega
theorem eqv_j (i j : Jn) : PyData.eqv (jD i) (jD j) = decide (i = j) := by
  cases i with
  | none =>
    cases j with
    | none => simp [jD, PyData.eqv]
    | some k => simp [jD, PyData.eqv]
  | some k =>
    obtain ⟨n, t⟩ := k
    cases j with
    | none => simp [jD, PyData.eqv]
    | some k' =>
      obtain ⟨m, u⟩ := k'
      simp only [jD, PyData.eqv, PyData.eqvAll, eqv_ints, intD]
      rw [Bool.eq_iff_iff]
      simp
      intro _
      omega
theorem eqv_b : ∀ b c : Blk, PyData.eqvAll (b.map jD) (c.map jD) = decide (b = c)
  | [], [] => rfl
  | [], y :: ys => rfl
  | x :: xs, [] => rfl
  | x :: xs, y :: ys => by
    simp only [List.map_cons, PyData.eqvAll, eqv_b xs ys, eqv_j]
    rw [Bool.eq_iff_iff]
    simp
theorem eqv_bs : ∀ S U : Spc, PyData.eqvAll (S.map fun b => PyData.tuple (b.map jD)) (U.map fun b => PyData.tuple (b.map jD)) = decide (S = U)
  | [], [] => rfl
  | [], y :: ys => rfl
  | x :: xs, [] => rfl
  | x :: xs, y :: ys => by
    simp only [List.map_cons, PyData.eqvAll, eqv_bs xs ys, PyData.eqv, eqv_b]
    rw [Bool.eq_iff_iff]
    simp
theorem eqv_shut (S U : Spc) : PyData.eqv (shutD S) (shutD U) = decide (S = U) := by
  simp only [shutD, PyData.eqv, eqv_bs]
theorem text_eqv {S U : Spc} (hS : Sb S) (hU : Sb U) (h1 : 1 ≤ S.length) (h2 : 1 ≤ U.length) : decide (V.str (textT S) = V.str (textT U)) = PyData.eqv (shutD S) (shutD U) := by
  rw [eqv_shut]
  refine decide_eq_decide.mpr ⟨fun z => ?_, fun z => by rw [z]⟩
  injection z with z
  exact text_inj hS hU h1 h2 z
theorem sh_num {m : Nat} {b : Blk} {k : Nat} (h : ∀ j ∈ b, ∀ n t, j = some (n, t) → n < k) : b.map (numJ ((List.range k).map fun x => x + m)) = shB m b := by
  unfold shB
  refine List.map_congr_left fun j hj => ?_
  cases j with
  | none => rfl
  | some nt =>
    obtain ⟨n, t⟩ := nt
    have hn := h _ hj n t rfl
    show some (tf ((List.range k).map fun x => x + m) n, t) = some (n + m, t)
    have e : tf (List.range k) n = n := by
      unfold tf
      rw [List.getElem?_range hn]
      rfl
    rw [tf_map (by rw [List.length_range]; exact hn), e]
theorem text_bes {S V' : Spc} (h1 : 1 ≤ S.length) (h2 : 1 ≤ V'.length) : textT (S ++ V') = Txt.join (Str.ofString "\n") ([textT S] ++ V'.map lineT) := by
  refine ext_tl ?_
  unfold textT
  have ne1 : (S.map lineT).map tl ≠ [] := fun z => by
    have := congrArg List.length z
    simp only [List.length_map, List.length_nil] at this
    omega
  have ne2 : (V'.map lineT).map tl ≠ [] := fun z => by
    have := congrArg List.length z
    simp only [List.length_map, List.length_nil] at this
    omega
  rw [tl_join', tl_join', List.map_append, List.map_append, List.map_append, joinL_app ne1 ne2, joinL_app (by simp) ne2]
  show _ = joinL _ [tl (Txt.join _ _)] ++ _
  rw [show joinL (tl (Str.ofString "\n")) [tl (Txt.join (Str.ofString "\n") (S.map lineT))] = tl (Txt.join (Str.ofString "\n") (S.map lineT)) from rfl, tl_join']
theorem good_free : Good [free4] := Good.push (s := []) ⟨fun b h => (by cases h), fun b f n t e => (by simp [getJ] at e)⟩
end Bk

namespace Bk
open PySem PySem.Spec PyProof.Rows L2 TL RZ
local macro_rules | `(tactic| walk_at "g") => `(tactic| (repeat first | refine ⟨_, rfl, ?_⟩ | refine ⟨cpow, ?_⟩ | refine ⟨wideM, ?_⟩ | refine ⟨_, _, rfl, rfl, ?_⟩ | refine ⟨rfl, ?_⟩))
section
variable {P : Program} {w : World} {K : PySem.W.Frag} {mg : Str → Option Value} {base : Heap}
abbrev slaw : Stmt := topS 50
abbrev Nlaw : List Str := ["script", "reel", "ahead", "k", "space", "text", "greater", "lines", "both", "number", "line"]
theorem sclaw : FnScope Nlaw ["script"] (defScope slaw) := ⟨rfl, rfl, rfl, by decide +kernel, rfl, by decide +kernel, by decide +kernel⟩
def spLaw (K : PySem.W.Frag) : Sp := fun vs H Q _ => ∃ (a : Addr) (ns : List Int), vs = [.ref a] ∧ SqL K H a (ns.map V.int) ∧ ns.length ≤ 63 ∧ ∀ H', Q (.bl true) H'
theorem ok_law {f fR fD fO fX fS fA fN fC fU fB : Addr} {fd fdR fdD fdO fdX fdS fdA fdN fdC fdU fdB : FuncData} (F : Fun K "law" "law" slaw f fd)
    (F_law_reel : Fun K "_law_reel" "_law_reel" s_law_reel fR fdR) (g_law_reel : mg "_law_reel" = some (.ref fR)) (b_law_reel : Binds K fdR ["script"] [])
    (F_law_draw : Fun K "_law_draw" "_law_draw" s_law_draw fD fdD) (g_law_draw : mg "_law_draw" = some (.ref fD)) (b_law_draw : Binds K fdD ["reel", "many"] [])
    (F_law_blocks : Fun K "_law_blocks" "_law_blocks" s_law_blocks fO fdO) (g_law_blocks : mg "_law_blocks" = some (.ref fO)) (b_law_blocks : Binds K fdO ["reel", "most"] [])
    (Fspace_of : Fun K "space_of" "space_of" sspace_of fX fdX) (gspace_of : mg "space_of" = some (.ref fX)) (bspace_of : Binds K fdX ["blocks"] [])
    (Fspace_text : Fun K "space_text" "space_text" sspace_text fS fdS) (gspace_text : mg "space_text" = some (.ref fS)) (bspace_text : Binds K fdS ["space"] [])
    (Fread_space : Fun K "read_space" "read_space" sread_space fA fdA) (gread_space : mg "read_space" = some (.ref fA)) (bread_space : Binds K fdA ["text"] [])
    (F_law_order_right : Fun K "_law_order_right" "_law_order_right" s_law_order_right fN fdN) (g_law_order_right : mg "_law_order_right" = some (.ref fN)) (b_law_order_right : Binds K fdN ["reel", "space"] [])
    (F_law_parted_right : Fun K "_law_parted_right" "_law_parted_right" s_law_parted_right fC fdC) (g_law_parted_right : mg "_law_parted_right" = some (.ref fC)) (b_law_parted_right : Binds K fdC ["space"] [])
    (F_law_numbered : Fun K "_law_numbered" "_law_numbered" s_law_numbered fU fdU) (g_law_numbered : mg "_law_numbered" = some (.ref fU)) (b_law_numbered : Binds K fdU ["line", "numbers"] [])
    (Fbeside : Fun K "beside" "beside" sbeside fB fdB) (gbeside : mg "beside" = some (.ref fB)) (bbeside : Binds K fdB ["one", "other"] [])
    (G_law_reel : FnOk P w K mg base CX0 1 fR fdR ["script"] (spReel K)) (G_law_draw : FnOk P w K mg base CX0 1 fD fdD ["reel", "many"] spDraw) (G_law_blocks : FnOk P w K mg base CX0 4 fO fdO ["reel", "most"] spBlocks)
    (Gspace_of : FnOk P w K mg base CX0 6 fX fdX ["blocks"] spSpace) (Gspace_text : FnOk P w K mg base CX0 3 fS fdS ["space"] spText) (Gread_space : FnOk P w K mg base CX0 7 fA fdA ["text"] spRead)
    (G_law_order_right : FnOk P w K mg base CX0 8 fN fdN ["reel", "space"] spORight) (G_law_parted_right : FnOk P w K mg base CX0 8 fC fdC ["space"] spPRight) (G_law_numbered : FnOk P w K mg base CX0 1 fU fdU ["line", "numbers"] spNumb) (Gbeside : FnOk P w K mg base CX0 7 fB fdB ["one", "other"] spBeside)
    (m_range : mg "range" = none) (m_len : mg "len" = none) (m_min : mg "min" = none) :
    FnG P w K mg base 9 f fd ["script"] (spLaw K) := by
  refine fnG_of F sclaw (fun vs H Q E h => ?_) (fun cdv A outer s H vs Q E hg hr h => ?_)
  · obtain ⟨a, ns, rfl, _⟩ := h
    rfl
  · obtain ⟨a, ns, rfl, hS, hl, q⟩ := h
    have nd := sclaw.nd
    refine ⟨_, (pss_cons (ps_set (i := 1) nd rfl (.inl rfl) (pe_call G_law_reel (hr.mono (by first | decide | omega)) (by rfl) g_law_reel F_law_reel.kp b_law_reel .nil pass0 (pa_cons (pv 0) pa_nil)))
      (pss_cons (ps_set (i := 2) nd rfl (.inl rfl) (pe_tupF (pa_cons (pe_tupF (pa_cons pe_non (pa_cons pe_non (pa_cons pe_non (pa_cons pe_non pa_nil))))) pa_nil)))
      (pss_cons (ps_for PassesOwn.never rfl (pi_range1 (by rfl) m_range (pa_cons (pe_op op_add pe_int (pe_callB (call_min2 rfl) (by rfl) m_min (by decide +kernel) (pa_cons (pe_callB (kLen K rfl) (by rfl) m_len (by decide +kernel) (pa_cons (pv 0) pa_nil)) (pa_cons pe_int pa_nil)))) pa_nil)) (pg_name (i := 3) nd rfl (.inl rfl)) (pss_cons (ps_set (i := 4) nd rfl (.inr rfl) (pe_call Gspace_of (hr.mono (by first | decide | omega)) (by rfl) gspace_of Fspace_of.kp bspace_of .nil pass0 (pa_cons (pe_call G_law_blocks (hr.mono (by first | decide | omega)) (by rfl) g_law_blocks F_law_blocks.kp b_law_blocks .nil pass0 (pa_cons (pv 1) (pa_cons (pe_ix (kIxL K rfl) (pe_lst (pa_cons pe_int (pa_cons pe_int pa_nil))) (pe_op op_fdivN (pe_call G_law_draw (hr.mono (by first | decide | omega)) (by rfl) g_law_draw F_law_draw.kp b_law_draw .nil pass0 (pa_cons (pv 1) (pa_cons pe_int pa_nil))) pe_int) (fun _ _ => rfl)) pa_nil))) pa_nil)))
      (pss_cons (ps_set (i := 5) nd rfl (.inl rfl) (pe_call Gspace_text (hr.mono (by first | decide | omega)) (by rfl) gspace_text Fspace_text.kp bspace_text .nil pass0 (pa_cons (pv 4) pa_nil)))
      (pss_cons (ps_if (pw_or (pt_cmpR (kNeD K rfl hr.units) (pe_call Gread_space (hr.mono (by first | decide | omega)) (by rfl) gread_space Fread_space.kp bread_space .nil pass0 (pa_cons (pv 5) pa_nil)) (pv 4) (nomark _)) (pw_or1 (pt_cmpR op_ne (pe_call Gspace_text (hr.mono (by first | decide | omega)) (by rfl) gspace_text Fspace_text.kp bspace_text .nil pass0 (pa_cons (pe_call Gread_space (hr.mono (by first | decide | omega)) (by rfl) gread_space Fread_space.kp bread_space .nil pass0 (pa_cons (pv 5) pa_nil)) pa_nil)) (pv 5) (nomark _)))).pt (pss_one (ps_ret pe_bl)) pss_nil)
      (pss_cons (ps_if (pw_or (pt_cmpR op_ne (pe_cmpR op_eq (pv 5) (pe_call Gspace_text (hr.mono (by first | decide | omega)) (by rfl) gspace_text Fspace_text.kp bspace_text .nil pass0 (pa_cons (pv 2) pa_nil)) (nomark _)) (pe_cmpR (kEqD K rfl hr.units) (pv 4) (pv 2) (nomark _)) (nomark _)) (pw_or1 (pt_cmpR op_ne (pe_callB (kLen K rfl) (by rfl) m_len (by decide +kernel) (pa_cons (pe_split (pv 5) pe_str) pa_nil)) (pe_callB (kLen K rfl) (by rfl) m_len (by decide +kernel) (pa_cons (pv 4) pa_nil)) (nomark _)))).pt (pss_one (ps_ret pe_bl)) pss_nil)
      (pss_cons (ps_if (pw_or (pt_not (pt_val (pe_call G_law_order_right (hr.mono (by first | decide | omega)) (by rfl) g_law_order_right F_law_order_right.kp b_law_order_right .nil pass0 (pa_cons (pv 1) (pa_cons (pv 4) pa_nil))))) (pw_or1 (pt_not (pt_val (pe_call G_law_parted_right (hr.mono (by first | decide | omega)) (by rfl) g_law_parted_right F_law_parted_right.kp b_law_parted_right .nil pass0 (pa_cons (pv 4) pa_nil)))))).pt (pss_one (ps_ret pe_bl)) pss_nil)
      (pss_cons (ps_set (i := 6) nd rfl (.inr rfl) (pe_lc (own := [("number", 9)]) (g := gName 9) (tt := tYes) rfl nd (pi_range1 (by rfl) m_range (pa_cons (pe_callB (kLen K rfl) (by rfl) m_len (by decide +kernel) (pa_cons (pv 2) pa_nil)) pa_nil)) (blkOk_by (own := [("number", 9)]) (N := Nlaw) (sc := defScope slaw) (by decide +kernel)) (fun _ _ _ _ _ => (pg_name (i := 9) nd rfl (Or.inl rfl))) (fun _ _ _ _ _ => pts_nil) (fun _ _ _ _ _ => (pe_op op_add (pv 9) (pe_callB (kLen K rfl) (by rfl) m_len (by decide +kernel) (pa_cons (pv 4) pa_nil))))))
      (pss_cons (ps_setLc (i := 7) (own := [("line", 10)]) (g := gName 10) (tt := tYes) rfl nd rfl rfl (sw_true rfl rfl rfl (by decide +kernel)) (kPiL K rfl (pi_list (pe_split (pe_call Gspace_text (hr.mono (by first | decide | omega)) (by rfl) gspace_text Fspace_text.kp bspace_text .nil pass0 (pa_cons (pv 2) pa_nil)) pe_str))) (blkOk_by (own := [("line", 10)]) (N := Nlaw) (sc := defScope slaw) (by decide +kernel)) (fun _ _ _ _ _ => (pg_name (i := 10) nd rfl (Or.inl rfl))) (fun _ _ _ _ _ => pts_nil) (fun _ _ _ _ _ => (pe_call G_law_numbered (hr.mono (by first | decide | omega)) (by rfl) g_law_numbered F_law_numbered.kp b_law_numbered .nil pass0 (pa_cons (pv 10) (pa_cons (pv 6) pa_nil)))))
      (pss_cons (ps_set (i := 8) nd rfl (.inl rfl) (pe_call Gspace_text (hr.mono (by first | decide | omega)) (by rfl) gspace_text Fspace_text.kp bspace_text .nil pass0 (pa_cons (pe_call Gbeside (hr.mono (by first | decide | omega)) (by rfl) gbeside Fbeside.kp bbeside .nil pass0 (pa_cons (pv 4) (pa_cons (pv 2) pa_nil))) pa_nil)))
      (pss_cons (ps_if (pw_or (pt_cmpR op_ne (pv 8) (kJoin K rfl (pe_join pe_str (pe_op op_cat (pe_lst (pa_cons (pv 5) pa_nil)) (pv 7)))) (nomark _)) (pw_or1 (pt_cmpR (kNeD K rfl hr.units) (pe_call Gread_space (hr.mono (by first | decide | omega)) (by rfl) gread_space Fread_space.kp bread_space .nil pass0 (pa_cons (pv 8) pa_nil)) (pe_call Gbeside (hr.mono (by first | decide | omega)) (by rfl) gbeside Fbeside.kp bbeside .nil pass0 (pa_cons (pv 4) (pa_cons (pv 2) pa_nil))) (nomark _)))).pt (pss_one (ps_ret pe_bl)) pss_nil)
      (pss_one (ps_set (i := 2) nd rfl (.inl rfl) (pv 4)))))))))))))
      (pss_one (ps_ret pe_bl))))), ?_⟩
    refine ⟨.ref a, rfl, a, ns, rfl, hS, hl, fun H1 R s1 _ hR1 => ?_⟩
    -- ahead
    refine ⟨Nat.le_of_lt (small1000 (by show 4 ≤ 1000; decide)), fun p1 o1 np1 d1 => ?_⟩
    have s2 : Same H1 (upd H1 p1 (.frz o1 (.tup [.non, .non, .non, .non]))) := same_new np1
    have f2 : FT (upd H1 p1 (.frz o1 (.tup [.non, .non, .non, .non]))) p1 [.non, .non, .non, .non] := FT.new d1
    generalize upd H1 p1 (.frz o1 (.tup [.non, .non, .non, .non])) = H2 at s2 f2 ⊢
    refine ⟨Nat.le_of_lt (small1000 (by show 1 ≤ 1000; decide)), fun p2 o2 np2 d2 => ?_⟩
    have s3 : Same H2 (upd H2 p2 (.frz o2 (.tup [.ref p1]))) := same_new np2
    have stA : ST (upd H2 p2 (.frz o2 (.tup [.ref p1]))) (.ref p2) [free4] := ⟨p2, [.ref p1], rfl, FT.new d2, .cons ⟨p1, _, rfl, f2.mono s3.tups, .cons rfl (.cons rfl (.cons rfl (.cons rfl .nil)))⟩ .nil⟩
    generalize upd H2 p2 (.frz o2 (.tup [.ref p1])) = H3 at s3 stA ⊢
    have s13 := (s1.trans s2).trans s3
    have hR3 := hR1.same (s2.trans s3)
    obtain ⟨turns, ht, ht2⟩ : ∃ n : Nat, (1 : Int) + (if (12 : Int) < ((ns.map V.int).length : Int) then (12 : Int) else ((ns.map V.int).length : Int)) = (n : Int) ∧ n ≤ 100 := by
      rw [List.length_map]
      by_cases h : (12 : Int) < (ns.length : Int)
      · exact ⟨13, by rw [if_pos h]; rfl, by decide⟩
      · exact ⟨1 + ns.length, by rw [if_neg h]; omega, by omega⟩
    refine ⟨.ref a, rfl, a, _, rfl, .inl (s13.seq hS), _, _, rfl, _, _, rfl, rfl, (turns : Int), congrArg (fun z => [V.int z]) ht, by omega, by omega, ?_⟩
    rw [Int.toNat_natCast]
    refine for_range (lo := 0) (n := turns) (fun i σ H2 => ∃ vA U y3 y4 y5 y6 y7 y8, σ = [some (.ref a), some (.ref R), some vA, y3, y4, y5, y6, y7, y8, none, none] ∧ ReelOk R H2 ∧ ST H2 vA U ∧ Good U ∧ 1 ≤ U.length ∧ U.length ≤ 12) ⟨_, _, _, _, _, _, _, _, rfl, hR3, stA, good_free, by decide, by decide⟩ ?_ ?_
    · rintro i σ H2 hi ⟨vA, U, y3, y4, y5, y6, y7, y8, rfl, hR2, stU, hGU, hU1, hU2⟩
      have hbU := hGU.sb (by omega)
      -- space
      refine ⟨.ref R, rfl, Nat.le_of_lt (small1000 (by show 2 ≤ 1000; decide)), fun p np => ?_⟩
      have sh3 : Same H2 (upd H2 p (.lst [.int 6, .int 12])) := same_new np
      have h3 : (upd H2 p (.lst [.int 6, .int 12])) p = some (.lst [.int 6, .int 12]) := upd_same
      have hA3 := hR2.away (o := .lst [.int 6, .int 12]) np
      generalize upd H2 p (.lst [.int 6, .int 12]) = H3 at sh3 h3 hA3 ⊢
      refine ⟨.ref R, rfl, R, 4, rfl, by decide, by decide, hA3.ok, fun H4 r k4 hR4 _ r0 r1 => ?_⟩
      obtain ⟨most, hm, hm1, hm2⟩ : ∃ most : Nat, atI [V.int 6, .int 12] (r.fdiv 3) = some (intV most) ∧ 1 ≤ most ∧ most ≤ 12 := by
        have hr : r = 0 ∨ r = 1 ∨ r = 2 ∨ r = 3 := by omega
        rcases hr with rfl | rfl | rfl | rfl
        · exact ⟨6, rfl, by decide, by decide⟩
        · exact ⟨6, rfl, by decide, by decide⟩
        · exact ⟨6, rfl, by decide, by decide⟩
        · exact ⟨12, rfl, by decide, by decide⟩
      refine ⟨_, _, rfl, rfl, ⟨by decide, by decide⟩, p, _, _, _, rfl, rfl, .inl (.inl (k4 _ _ h3 hA3.ne)), hm, R, most, rfl, hm1, by omega, hR4, fun H5 l rs S k5 hR5 _ nl hS5 hF5 hG hS1 hS2 => ?_⟩
      refine ⟨fun _ => False, .ref l, _, S, rfl, hS5.dq, norm_open S, hG, hS1, by omega, fun H6 v s6 st6 => ?_⟩
      have hb := hG.sb (by omega)
      have hR6 := hR5.same s6
      have stU6 := stU.mono (((sh3.tups.trans (k4.tups hA3.ok)).trans (k5.tups hR4)).trans s6.tups)
      clear hS5 hF5 h3 hA3 stU
      -- text
      refine ⟨v, rfl, fun _ => False, v, shutD S, S, rfl, st6.dq, norm_shut S, hb, fun H7 s7 => ?_⟩
      refine ⟨.str (textT S), rfl, S, rfl, hG, hS1, by omega, fun H8 r8 s8 st8 => ?_⟩
      have st8' := st6.mono (s7.trans s8).tups
      refine ⟨v, rfl, neSS hb st8 st8' ⟨_, rfl, iteF ?_⟩⟩
      refine ⟨.str (textT S), rfl, S, rfl, hG, hS1, by omega, fun H9 r9 s9 st9 => ?_⟩
      refine ⟨fun _ => False, r9, shutD S, S, rfl, st9.dq, norm_shut S, hb, fun H10 s10 => ?_⟩
      refine ⟨.str (textT S), rfl, rfl, false, congrArg V.bl (by rw [decide_eq_true rfl]; rfl), iteF ?_⟩
      have s610 := ((s7.trans s8).trans s9).trans s10
      have st10 := st6.mono s610.tups
      have stU10 := stU6.mono s610.tups
      have hR10 := hR6.same s610
      -- one text for one space
      refine ⟨.str (textT S), rfl, vA, rfl, fun _ => False, vA, shutD U, U, rfl, stU10.dq, norm_shut U, hbU, fun H11 s11 => ?_⟩
      have st11 := st10.mono s11.tups
      have stU11 := stU10.mono s11.tups
      have ete := text_eqv hb hbU hS1 hU1
      refine ⟨rfl, v, rfl, vA, rfl, shutD S, shutD U, st11.dpS, stU11.dpS, shut_shaped hb, shut_shaped hbU, rfl, false, congrArg V.bl (by rw [ete, decide_eq_true rfl]; rfl), iteF ?_⟩
      have tl1 := text_len hb
      refine ⟨.str (textT S), rfl, ⟨_, rfl⟩, textT S, Str.ofString "\n", rfl, rfl, by decide +kernel, by rw [sizeLine_eq]; omega, fun pl npl => ?_⟩
      rw [text_split hb hS1]
      have s12 : Same H11 (upd H11 pl (.lst ((S.map lineT).map V.str))) := same_new npl
      have h12 : (upd H11 pl (.lst ((S.map lineT).map V.str))) pl = some (.lst ((S.map lineT).map V.str)) := upd_same
      generalize upd H11 pl (.lst ((S.map lineT).map V.str)) = H12 at s12 h12 ⊢
      have st12 := st11.mono s12.tups
      have stU12 := stU11.mono s12.tups
      have st12' := st12
      obtain ⟨pv, rv, rfl, fv, bv⟩ := st12'
      have lrv : rv.length = S.length := plen bv
      have hR12 := (hR10.same s11).same s12
      refine ⟨pl, _, rfl, .inl (.inl (.inl h12)), .ref pv, rfl, pv, rv, rfl, .inr fv.sqt, rfl, false, congrArg V.bl (by rw [lrv, List.length_map, List.length_map, decide_eq_true rfl]; rfl), iteF ?_⟩
      -- order, parted
      refine ⟨.ref R, rfl, .ref pv, rfl, R, .ref pv, S, rfl, hR12, st12, hG, hS1, by omega, fun H13 k13 hR13 => ?_⟩
      have st13 := st12.mono (k13.tups hR12)
      have stU13 := stU12.mono (k13.tups hR12)
      refine ⟨_, rfl, iteF ?_⟩
      refine ⟨.ref pv, rfl, .ref pv, S, rfl, st13, hG, hS1, by omega, fun H14 s14 => ?_⟩
      have st14 := st13.mono s14.tups
      have stU14 := stU13.mono s14.tups
      have hR14 := hR13.same s14
      refine ⟨_, rfl, iteF ?_⟩
      clear st6 st8 st9 st10 st11 st12 st13 stU6 stU10 stU11 stU12 stU13 st8' hR6 hR10 hR12 hR13 hR2 hR4 hR5 fv bv
      -- greater
      have st14' := st14
      obtain ⟨pv', rv', epv, fv, bv⟩ := st14'
      cases epv
      have lrv : rv'.length = S.length := plen bv
      have stU14' := stU14
      obtain ⟨pu, ru, rfl, fu, bu⟩ := stU14'
      have lru : ru.length = U.length := plen bu
      refine ⟨.ref pu, rfl, pu, ru, rfl, .inr fu.sqt, _, rfl, by rw [lru]; omega, by rw [lru]; omega, fun D nD => ?_⟩
      rw [lru, Int.toNat_natCast]
      refine lc_range (lo := 0) (n := U.length) (fun i H15 => H15 D = some (.lst (((List.range i).map fun x => x + S.length).map intV)) ∧ Same H14 H15) ⟨upd_same, same_new nD⟩ ?_ ?_
      · rintro k H15 hk ⟨h15, s15⟩
        rw [Int.zero_add]
        refine ⟨rfl, intV k, rfl, .ref pv, rfl, pv, rv', rfl, .inr (fv.mono s15.tups).sqt, _, _, rfl, rfl, _, h15, small1000 (by rw [List.length_map, List.length_map, List.length_range]; omega), ?_, same_fill s15 nD⟩
        rw [upd_same, List.range_succ, List.map_append, List.map_append, lrv]
        rfl
      · rintro H15 ⟨h15, s15⟩
        have st15 := st14.mono s15.tups
        have stU15 := stU14.mono s15.tups
        -- lines
        refine ⟨.ref pu, rfl, fun _ => False, .ref pu, shutD U, U, rfl, stU15.dq, norm_shut U, hbU, fun H16 s16 => ?_⟩
        have tl2 := text_len hbU
        refine ⟨⟨_, rfl⟩, textT U, Str.ofString "\n", rfl, rfl, by decide +kernel, by rw [sizeLine_eq]; omega, fun pm npm => ?_⟩
        rw [text_split hbU hU1]
        have s17 : Same H16 (upd H16 pm (.lst ((U.map lineT).map V.str))) := same_new npm
        have h17 : (upd H16 pm (.lst ((U.map lineT).map V.str))) pm = some (.lst ((U.map lineT).map V.str)) := upd_same
        generalize upd H16 pm (.lst ((U.map lineT).map V.str)) = H17 at s17 h17 ⊢
        have s1517 := s16.trans s17
        have h17D := s1517 _ _ h15
        have lU : ((U.map lineT).map V.str).length = U.length := by rw [List.length_map, List.length_map]
        refine ⟨pm, rfl, ⟨_, .inl (.inl h17)⟩, fun D2 nD2 => ?_⟩
        refine lc_list (xs := (U.map lineT).map V.str) (fun i H18 => H18 D2 = some (.lst (((U.take i).map fun b => lineT (b.map (numJ ((List.range U.length).map fun x => x + S.length)))).map V.str)) ∧ Same H17 H18) ⟨upd_same, same_new nD2⟩ ?_ ?_ ?_
        · rintro i H18 _ ⟨h18, s18⟩
          exact .inl (.inl (s18 _ _ h17))
        · rintro i x H18 hx ⟨h18, s18⟩
          rw [List.getElem?_map, List.getElem?_map] at hx
          cases hc : U[i]? with
          | none =>
            rw [hc] at hx
            cases hx
          | some b =>
            rw [hc] at hx
            have ex : V.str (lineT b) = x := Option.some.inj hx
            subst ex
            obtain ⟨hb4, hbj⟩ := hbU.2 b (List.mem_of_getElem? hc)
            have hi' : i < U.length := (List.getElem?_eq_some_iff.mp hc).1
            refine ⟨rfl, .str (lineT b), rfl, .ref D, rfl, b, D, (List.range U.length).map fun x => x + S.length, rfl, s18 _ _ h17D, hb4, fun j hj => ⟨hbj j hj, fun n t e => ?_⟩, fun x hx => ?_, fun H19 s19 => ?_⟩
            · subst e
              obtain ⟨f, hf⟩ := List.mem_iff_getElem?.mp hj
              have g : getJ U i f = some (some (n, t)) := by
                unfold getJ
                rw [hc]
                exact hf
              rw [List.length_map, List.length_range]
              exact hGU.lt g
            · obtain ⟨k, hk, rfl⟩ := List.mem_map.mp hx
              have := List.mem_range.mp hk
              show k + S.length < 64
              omega
            · refine ⟨_, s19 _ _ h18, small1000 (by rw [List.length_map, List.length_map, List.length_take]; omega), ?_, same_fill (s18.trans s19) nD2⟩
              rw [upd_same, List.take_add_one, hc, List.map_append, List.map_append]
              rfl
        · rintro H18 ⟨h18, s18⟩
          rw [lU, List.take_length] at h18
          have eU : (U.map fun b => lineT (b.map (numJ ((List.range U.length).map fun x => x + S.length)))) = (shS S.length U).map lineT := by
            unfold shS
            rw [List.map_map]
            refine List.map_congr_left fun b hbm => ?_
            show lineT _ = lineT (shB S.length b)
            rw [sh_num]
            intro j hj n t e
            subst e
            obtain ⟨i, hi⟩ := List.mem_iff_getElem?.mp hbm
            obtain ⟨f, hf⟩ := List.mem_iff_getElem?.mp hj
            have g : getJ U i f = some (some (n, t)) := by
              unfold getJ
              rw [hi]
              exact hf
            exact hGU.lt g
          rw [eU] at h18
          have s1518 := s1517.trans s18
          have st18 := st15.mono s1518.tups
          have stU18 := stU15.mono s1518.tups
          have hGb : Good (besS S U) := hG.twice hGU
          have lb := besS_len S U
          have hbb : Sb (besS S U) := hGb.sb (by rw [lb]; omega)
          -- both
          refine ⟨.ref pv, rfl, .ref pu, rfl, fun _ => False, fun _ => False, .ref pv, .ref pu, shutD S, shutD U, S, U, rfl, st18.dq, stU18.dq, norm_shut S, norm_shut U, hG, hGU, hS1, hU1, by omega, by omega, fun H19 b1 s19 sb1 => ?_⟩
          refine ⟨fun _ => False, b1, shutD (besS S U), besS S U, rfl, sb1.dq, norm_shut _, hbb, fun H20 s20 => ?_⟩
          have h20 := (s19.trans s20) _ _ h18
          refine ⟨.str (textT (besS S U)), rfl, ⟨_, rfl⟩, .str (textT S), rfl, (show 1 ≤ sizeLine by decide), fun p5 np5 => ?_⟩
          have s21 : Same H20 (upd H20 p5 (.lst [.str (textT S)])) := same_new np5
          have h21 : (upd H20 p5 (.lst [.str (textT S)])) p5 = some (.lst [.str (textT S)]) := upd_same
          generalize upd H20 p5 (.lst [.str (textT S)]) = H21 at s21 h21 ⊢
          have lsh : (shS S.length U).length = U.length := shS_len _ _
          refine ⟨.ref D2, rfl, p5, D2, _, _, rfl, rfl, h21, s21 _ _ h20, Nat.le_of_lt (small1000 (by simp; omega)), fun L2 nL2 => ?_⟩
          have s22 : Same H21 (upd H21 L2 (.lst ([V.str (textT S)] ++ ((shS S.length U).map lineT).map V.str))) := same_new nL2
          have h22 : (upd H21 L2 (.lst ([V.str (textT S)] ++ ((shS S.length U).map lineT).map V.str))) L2 = some (.lst (([textT S] ++ (shS S.length U).map lineT).map V.str)) := upd_same
          generalize upd H21 L2 (.lst ([V.str (textT S)] ++ ((shS S.length U).map lineT).map V.str)) = H22 at s22 h22 ⊢
          have ebt : textT (besS S U) = Txt.join (Str.ofString "\n") ([textT S] ++ (shS S.length U).map lineT) := text_bes hS1 (by rw [lsh]; exact hU1)
          refine ⟨_, L2, [textT S] ++ (shS S.length U).map lineT, rfl, rfl, .inl (.inl (.inl h22)), ?_, rfl, false, congrArg V.bl (by rw [← ebt, decide_eq_true rfl]; rfl), iteF ?_⟩
          · have ls := sum_le (ys := (shS S.length U).map lineT) (c := 32) fun y hy => by
              obtain ⟨b, hb', rfl⟩ := List.mem_map.mp hy
              have hb2 := hbb.2 b (List.mem_append_right _ hb')
              exact line_len hb2.1 hb2.2
            rw [List.length_map, lsh] at ls
            have e1 : (Str.ofString "\n").length = 1 := by decide +kernel
            rw [e1, List.map_append, List.sum_append, List.length_append, List.length_map, lsh]
            simp only [List.map_cons, List.map_nil, List.sum_cons, List.sum_nil, List.length_cons, List.length_nil]
            omega
          have s1822 := ((s19.trans s20).trans s21).trans s22
          refine ⟨.str (textT (besS S U)), rfl, besS S U, rfl, hGb, by rw [lb]; omega, by rw [lb]; omega, fun H23 r23 s23 st23 => ?_⟩
          have s1823 := s1822.trans s23
          refine ⟨.ref pv, rfl, .ref pu, rfl, fun _ => False, fun _ => False, .ref pv, .ref pu, shutD S, shutD U, S, U, rfl, (st18.mono s1823.tups).dq, (stU18.mono s1823.tups).dq, norm_shut S, norm_shut U, hG, hGU, hS1, hU1, by omega, by omega, fun H24 b2 s24 sb2 => ?_⟩
          refine neSS hbb (st23.mono s24.tups) sb2 ⟨_, rfl, iteF ?_⟩
          have s1824 := s1823.trans s24
          refine ⟨.ref pv, rfl, .ref pv, S, _, _, _, _, _, _, rfl, ((hR14.same s15).same s1518).same s1824, st18.mono s1824.tups, hG, hS1, Nat.le_trans hS2 hm2⟩
    · rintro σ H2 ⟨vA, U, y3, y4, y5, y6, y7, y8, rfl, hR2, stU, hGU, hU1, hU2⟩
      exact q H2
end
end Bk

namespace Bk
open PySem PySem.Spec PyProof.Rows L2 RZ
theorem all_mk {l : PySem.W.OpenLaw} {w : World} {K : PySem.W.Frag} {h : Heap} {mg : Str → Option Value} {fa fis_whole fis_listed fis_below fis_order fis_turn fcontrary fspace_of f_block_of f_joining_of f_goes_both_ways f_is_face f_put fparted fbeside f_block_behind frenamed f_renamed_block f_renamed_joining fspace_text f_line_of f_word_of fread_space f_has_form fis_joining_word fis_number_word f_block_told f_joining_told f_law_reel f_law_draw f_law_turns f_law_back f_law_set f_law_any f_law_ball f_law_doubled f_law_blocks f_law_numbered f_law_order_right f_law_parted_right flaw : Addr} (X : K.In h) (G : h.Ns mainGlobals mg) (hfa : mg "law" = some (.ref fa))
    {odis_whole anis_whole odis_listed anis_listed odis_below anis_below odis_order anis_order odis_turn anis_turn odcontrary ancontrary odspace_of anspace_of od_block_of an_block_of od_joining_of an_joining_of od_goes_both_ways an_goes_both_ways od_is_face an_is_face od_put an_put odparted anparted odbeside anbeside od_block_behind an_block_behind odrenamed anrenamed od_renamed_block an_renamed_block od_renamed_joining an_renamed_joining odspace_text anspace_text od_line_of an_line_of od_word_of an_word_of odread_space anread_space od_has_form an_has_form odis_joining_word anis_joining_word odis_number_word anis_number_word od_block_told an_block_told od_joining_told an_joining_told od_law_reel an_law_reel od_law_draw an_law_draw od_law_turns an_law_turns od_law_back an_law_back od_law_set an_law_set od_law_any an_law_any od_law_ball an_law_ball od_law_doubled an_law_doubled od_law_blocks an_law_blocks od_law_numbered an_law_numbered od_law_order_right an_law_order_right od_law_parted_right an_law_parted_right odlaw anlaw : Option Addr} {slis_whole slis_listed slis_below slis_order slis_turn slcontrary slspace_of sl_block_of sl_joining_of sl_goes_both_ways sl_is_face sl_put slparted slbeside sl_block_behind slrenamed sl_renamed_block sl_renamed_joining slspace_text sl_line_of sl_word_of slread_space sl_has_form slis_joining_word slis_number_word sl_block_told sl_joining_told sl_law_reel sl_law_draw sl_law_turns sl_law_back sl_law_set sl_law_any sl_law_ball sl_law_doubled sl_law_blocks sl_law_numbered sl_law_order_right sl_law_parted_right sllaw : Array (Option Value)} {ocis_whole kVis_whole dcis_whole pmis_whole cdis_whole ctis_whole ocis_listed kVis_listed dcis_listed pmis_listed cdis_listed ctis_listed ocis_below kVis_below dcis_below pmis_below cdis_below ctis_below ocis_order kVis_order dcis_order pmis_order cdis_order ctis_order ocis_turn kVis_turn dcis_turn pmis_turn cdis_turn ctis_turn occontrary kVcontrary dccontrary pmcontrary cdcontrary ctcontrary ocspace_of kVspace_of dcspace_of pmspace_of cdspace_of ctspace_of oc_block_of kV_block_of dc_block_of pm_block_of cd_block_of ct_block_of oc_joining_of kV_joining_of dc_joining_of pm_joining_of cd_joining_of ct_joining_of oc_goes_both_ways kV_goes_both_ways dc_goes_both_ways pm_goes_both_ways cd_goes_both_ways ct_goes_both_ways oc_is_face kV_is_face dc_is_face pm_is_face cd_is_face ct_is_face oc_put kV_put dc_put pm_put cd_put ct_put ocparted kVparted dcparted pmparted cdparted ctparted ocbeside kVbeside dcbeside pmbeside cdbeside ctbeside oc_block_behind kV_block_behind dc_block_behind pm_block_behind cd_block_behind ct_block_behind ocrenamed kVrenamed dcrenamed pmrenamed cdrenamed ctrenamed oc_renamed_block kV_renamed_block dc_renamed_block pm_renamed_block cd_renamed_block ct_renamed_block oc_renamed_joining kV_renamed_joining dc_renamed_joining pm_renamed_joining cd_renamed_joining ct_renamed_joining ocspace_text kVspace_text dcspace_text pmspace_text cdspace_text ctspace_text oc_line_of kV_line_of dc_line_of pm_line_of cd_line_of ct_line_of oc_word_of kV_word_of dc_word_of pm_word_of cd_word_of ct_word_of ocread_space kVread_space dcread_space pmread_space cdread_space ctread_space oc_has_form kV_has_form dc_has_form pm_has_form cd_has_form ct_has_form ocis_joining_word kVis_joining_word dcis_joining_word pmis_joining_word cdis_joining_word ctis_joining_word ocis_number_word kVis_number_word dcis_number_word pmis_number_word cdis_number_word ctis_number_word oc_block_told kV_block_told dc_block_told pm_block_told cd_block_told ct_block_told oc_joining_told kV_joining_told dc_joining_told pm_joining_told cd_joining_told ct_joining_told oc_law_reel kV_law_reel dc_law_reel pm_law_reel cd_law_reel ct_law_reel oc_law_draw kV_law_draw dc_law_draw pm_law_draw cd_law_draw ct_law_draw oc_law_turns kV_law_turns dc_law_turns pm_law_turns cd_law_turns ct_law_turns oc_law_back kV_law_back dc_law_back pm_law_back cd_law_back ct_law_back oc_law_set kV_law_set dc_law_set pm_law_set cd_law_set ct_law_set oc_law_any kV_law_any dc_law_any pm_law_any cd_law_any ct_law_any oc_law_ball kV_law_ball dc_law_ball pm_law_ball cd_law_ball ct_law_ball oc_law_doubled kV_law_doubled dc_law_doubled pm_law_doubled cd_law_doubled ct_law_doubled oc_law_blocks kV_law_blocks dc_law_blocks pm_law_blocks cd_law_blocks ct_law_blocks oc_law_numbered kV_law_numbered dc_law_numbered pm_law_numbered cd_law_numbered ct_law_numbered oc_law_order_right kV_law_order_right dc_law_order_right pm_law_order_right cd_law_order_right ct_law_order_right oc_law_parted_right kV_law_parted_right dc_law_parted_right pm_law_parted_right cd_law_parted_right ct_law_parted_right oclaw kVlaw dclaw pmlaw cdlaw ctlaw : Value}
    {tFIG : Tok}
    (ais_whole : PySem.W.nsIn K mainGlobals "is_whole" = some (some (.ref fis_whole))) (lis_whole : K.lookup fis_whole = some ⟨ocis_whole, odis_whole, .func (PySem.W.fnOf "is_whole" "is_whole" (defArgs sis_whole) (defBody sis_whole) (defScope sis_whole) .none kVis_whole dcis_whole pmis_whole anis_whole cdis_whole ctis_whole), slis_whole⟩) (cis_whole : PySem.W.codeIn K cdis_whole "is_whole" = true) (kis_whole : PySem.W.keepIn K (.ref fis_whole) = true)
    (ais_listed : PySem.W.nsIn K mainGlobals "is_listed" = some (some (.ref fis_listed))) (lis_listed : K.lookup fis_listed = some ⟨ocis_listed, odis_listed, .func (PySem.W.fnOf "is_listed" "is_listed" (defArgs sis_listed) (defBody sis_listed) (defScope sis_listed) .none kVis_listed dcis_listed pmis_listed anis_listed cdis_listed ctis_listed), slis_listed⟩) (cis_listed : PySem.W.codeIn K cdis_listed "is_listed" = true) (kis_listed : PySem.W.keepIn K (.ref fis_listed) = true)
    (ais_below : PySem.W.nsIn K mainGlobals "is_below" = some (some (.ref fis_below))) (lis_below : K.lookup fis_below = some ⟨ocis_below, odis_below, .func (PySem.W.fnOf "is_below" "is_below" (defArgs sis_below) (defBody sis_below) (defScope sis_below) .none kVis_below dcis_below pmis_below anis_below cdis_below ctis_below), slis_below⟩) (cis_below : PySem.W.codeIn K cdis_below "is_below" = true) (kis_below : PySem.W.keepIn K (.ref fis_below) = true)
    (ais_order : PySem.W.nsIn K mainGlobals "is_order" = some (some (.ref fis_order))) (lis_order : K.lookup fis_order = some ⟨ocis_order, odis_order, .func (PySem.W.fnOf "is_order" "is_order" (defArgs sis_order) (defBody sis_order) (defScope sis_order) .none kVis_order dcis_order pmis_order anis_order cdis_order ctis_order), slis_order⟩) (cis_order : PySem.W.codeIn K cdis_order "is_order" = true) (kis_order : PySem.W.keepIn K (.ref fis_order) = true)
    (ais_turn : PySem.W.nsIn K mainGlobals "is_turn" = some (some (.ref fis_turn))) (lis_turn : K.lookup fis_turn = some ⟨ocis_turn, odis_turn, .func (PySem.W.fnOf "is_turn" "is_turn" (defArgs sis_turn) (defBody sis_turn) (defScope sis_turn) .none kVis_turn dcis_turn pmis_turn anis_turn cdis_turn ctis_turn), slis_turn⟩) (cis_turn : PySem.W.codeIn K cdis_turn "is_turn" = true) (kis_turn : PySem.W.keepIn K (.ref fis_turn) = true)
    (acontrary : PySem.W.nsIn K mainGlobals "contrary" = some (some (.ref fcontrary))) (lcontrary : K.lookup fcontrary = some ⟨occontrary, odcontrary, .func (PySem.W.fnOf "contrary" "contrary" (defArgs scontrary) (defBody scontrary) (defScope scontrary) .none kVcontrary dccontrary pmcontrary ancontrary cdcontrary ctcontrary), slcontrary⟩) (ccontrary : PySem.W.codeIn K cdcontrary "contrary" = true) (kcontrary : PySem.W.keepIn K (.ref fcontrary) = true)
    (aspace_of : PySem.W.nsIn K mainGlobals "space_of" = some (some (.ref fspace_of))) (lspace_of : K.lookup fspace_of = some ⟨ocspace_of, odspace_of, .func (PySem.W.fnOf "space_of" "space_of" (defArgs sspace_of) (defBody sspace_of) (defScope sspace_of) .none kVspace_of dcspace_of pmspace_of anspace_of cdspace_of ctspace_of), slspace_of⟩) (cspace_of : PySem.W.codeIn K cdspace_of "space_of" = true) (kspace_of : PySem.W.keepIn K (.ref fspace_of) = true)
    (a_block_of : PySem.W.nsIn K mainGlobals "_block_of" = some (some (.ref f_block_of))) (l_block_of : K.lookup f_block_of = some ⟨oc_block_of, od_block_of, .func (PySem.W.fnOf "_block_of" "_block_of" (defArgs s_block_of) (defBody s_block_of) (defScope s_block_of) .none kV_block_of dc_block_of pm_block_of an_block_of cd_block_of ct_block_of), sl_block_of⟩) (c_block_of : PySem.W.codeIn K cd_block_of "_block_of" = true) (k_block_of : PySem.W.keepIn K (.ref f_block_of) = true)
    (a_joining_of : PySem.W.nsIn K mainGlobals "_joining_of" = some (some (.ref f_joining_of))) (l_joining_of : K.lookup f_joining_of = some ⟨oc_joining_of, od_joining_of, .func (PySem.W.fnOf "_joining_of" "_joining_of" (defArgs s_joining_of) (defBody s_joining_of) (defScope s_joining_of) .none kV_joining_of dc_joining_of pm_joining_of an_joining_of cd_joining_of ct_joining_of), sl_joining_of⟩) (c_joining_of : PySem.W.codeIn K cd_joining_of "_joining_of" = true) (k_joining_of : PySem.W.keepIn K (.ref f_joining_of) = true)
    (a_goes_both_ways : PySem.W.nsIn K mainGlobals "_goes_both_ways" = some (some (.ref f_goes_both_ways))) (l_goes_both_ways : K.lookup f_goes_both_ways = some ⟨oc_goes_both_ways, od_goes_both_ways, .func (PySem.W.fnOf "_goes_both_ways" "_goes_both_ways" (defArgs s_goes_both_ways) (defBody s_goes_both_ways) (defScope s_goes_both_ways) .none kV_goes_both_ways dc_goes_both_ways pm_goes_both_ways an_goes_both_ways cd_goes_both_ways ct_goes_both_ways), sl_goes_both_ways⟩) (c_goes_both_ways : PySem.W.codeIn K cd_goes_both_ways "_goes_both_ways" = true) (k_goes_both_ways : PySem.W.keepIn K (.ref f_goes_both_ways) = true)
    (a_is_face : PySem.W.nsIn K mainGlobals "_is_face" = some (some (.ref f_is_face))) (l_is_face : K.lookup f_is_face = some ⟨oc_is_face, od_is_face, .func (PySem.W.fnOf "_is_face" "_is_face" (defArgs s_is_face) (defBody s_is_face) (defScope s_is_face) .none kV_is_face dc_is_face pm_is_face an_is_face cd_is_face ct_is_face), sl_is_face⟩) (c_is_face : PySem.W.codeIn K cd_is_face "_is_face" = true) (k_is_face : PySem.W.keepIn K (.ref f_is_face) = true)
    (a_put : PySem.W.nsIn K mainGlobals "_put" = some (some (.ref f_put))) (l_put : K.lookup f_put = some ⟨oc_put, od_put, .func (PySem.W.fnOf "_put" "_put" (defArgs s_put) (defBody s_put) (defScope s_put) .none kV_put dc_put pm_put an_put cd_put ct_put), sl_put⟩) (c_put : PySem.W.codeIn K cd_put "_put" = true) (k_put : PySem.W.keepIn K (.ref f_put) = true)
    (aparted : PySem.W.nsIn K mainGlobals "parted" = some (some (.ref fparted))) (lparted : K.lookup fparted = some ⟨ocparted, odparted, .func (PySem.W.fnOf "parted" "parted" (defArgs sparted) (defBody sparted) (defScope sparted) .none kVparted dcparted pmparted anparted cdparted ctparted), slparted⟩) (cparted : PySem.W.codeIn K cdparted "parted" = true) (kparted : PySem.W.keepIn K (.ref fparted) = true)
    (abeside : PySem.W.nsIn K mainGlobals "beside" = some (some (.ref fbeside))) (lbeside : K.lookup fbeside = some ⟨ocbeside, odbeside, .func (PySem.W.fnOf "beside" "beside" (defArgs sbeside) (defBody sbeside) (defScope sbeside) .none kVbeside dcbeside pmbeside anbeside cdbeside ctbeside), slbeside⟩) (cbeside : PySem.W.codeIn K cdbeside "beside" = true) (kbeside : PySem.W.keepIn K (.ref fbeside) = true)
    (a_block_behind : PySem.W.nsIn K mainGlobals "_block_behind" = some (some (.ref f_block_behind))) (l_block_behind : K.lookup f_block_behind = some ⟨oc_block_behind, od_block_behind, .func (PySem.W.fnOf "_block_behind" "_block_behind" (defArgs s_block_behind) (defBody s_block_behind) (defScope s_block_behind) .none kV_block_behind dc_block_behind pm_block_behind an_block_behind cd_block_behind ct_block_behind), sl_block_behind⟩) (c_block_behind : PySem.W.codeIn K cd_block_behind "_block_behind" = true) (k_block_behind : PySem.W.keepIn K (.ref f_block_behind) = true)
    (arenamed : PySem.W.nsIn K mainGlobals "renamed" = some (some (.ref frenamed))) (lrenamed : K.lookup frenamed = some ⟨ocrenamed, odrenamed, .func (PySem.W.fnOf "renamed" "renamed" (defArgs srenamed) (defBody srenamed) (defScope srenamed) .none kVrenamed dcrenamed pmrenamed anrenamed cdrenamed ctrenamed), slrenamed⟩) (crenamed : PySem.W.codeIn K cdrenamed "renamed" = true) (krenamed : PySem.W.keepIn K (.ref frenamed) = true)
    (a_renamed_block : PySem.W.nsIn K mainGlobals "_renamed_block" = some (some (.ref f_renamed_block))) (l_renamed_block : K.lookup f_renamed_block = some ⟨oc_renamed_block, od_renamed_block, .func (PySem.W.fnOf "_renamed_block" "_renamed_block" (defArgs s_renamed_block) (defBody s_renamed_block) (defScope s_renamed_block) .none kV_renamed_block dc_renamed_block pm_renamed_block an_renamed_block cd_renamed_block ct_renamed_block), sl_renamed_block⟩) (c_renamed_block : PySem.W.codeIn K cd_renamed_block "_renamed_block" = true) (k_renamed_block : PySem.W.keepIn K (.ref f_renamed_block) = true)
    (a_renamed_joining : PySem.W.nsIn K mainGlobals "_renamed_joining" = some (some (.ref f_renamed_joining))) (l_renamed_joining : K.lookup f_renamed_joining = some ⟨oc_renamed_joining, od_renamed_joining, .func (PySem.W.fnOf "_renamed_joining" "_renamed_joining" (defArgs s_renamed_joining) (defBody s_renamed_joining) (defScope s_renamed_joining) .none kV_renamed_joining dc_renamed_joining pm_renamed_joining an_renamed_joining cd_renamed_joining ct_renamed_joining), sl_renamed_joining⟩) (c_renamed_joining : PySem.W.codeIn K cd_renamed_joining "_renamed_joining" = true) (k_renamed_joining : PySem.W.keepIn K (.ref f_renamed_joining) = true)
    (aspace_text : PySem.W.nsIn K mainGlobals "space_text" = some (some (.ref fspace_text))) (lspace_text : K.lookup fspace_text = some ⟨ocspace_text, odspace_text, .func (PySem.W.fnOf "space_text" "space_text" (defArgs sspace_text) (defBody sspace_text) (defScope sspace_text) .none kVspace_text dcspace_text pmspace_text anspace_text cdspace_text ctspace_text), slspace_text⟩) (cspace_text : PySem.W.codeIn K cdspace_text "space_text" = true) (kspace_text : PySem.W.keepIn K (.ref fspace_text) = true)
    (a_line_of : PySem.W.nsIn K mainGlobals "_line_of" = some (some (.ref f_line_of))) (l_line_of : K.lookup f_line_of = some ⟨oc_line_of, od_line_of, .func (PySem.W.fnOf "_line_of" "_line_of" (defArgs s_line_of) (defBody s_line_of) (defScope s_line_of) .none kV_line_of dc_line_of pm_line_of an_line_of cd_line_of ct_line_of), sl_line_of⟩) (c_line_of : PySem.W.codeIn K cd_line_of "_line_of" = true) (k_line_of : PySem.W.keepIn K (.ref f_line_of) = true)
    (a_word_of : PySem.W.nsIn K mainGlobals "_word_of" = some (some (.ref f_word_of))) (l_word_of : K.lookup f_word_of = some ⟨oc_word_of, od_word_of, .func (PySem.W.fnOf "_word_of" "_word_of" (defArgs s_word_of) (defBody s_word_of) (defScope s_word_of) .none kV_word_of dc_word_of pm_word_of an_word_of cd_word_of ct_word_of), sl_word_of⟩) (c_word_of : PySem.W.codeIn K cd_word_of "_word_of" = true) (k_word_of : PySem.W.keepIn K (.ref f_word_of) = true)
    (aread_space : PySem.W.nsIn K mainGlobals "read_space" = some (some (.ref fread_space))) (lread_space : K.lookup fread_space = some ⟨ocread_space, odread_space, .func (PySem.W.fnOf "read_space" "read_space" (defArgs sread_space) (defBody sread_space) (defScope sread_space) .none kVread_space dcread_space pmread_space anread_space cdread_space ctread_space), slread_space⟩) (cread_space : PySem.W.codeIn K cdread_space "read_space" = true) (kread_space : PySem.W.keepIn K (.ref fread_space) = true)
    (a_has_form : PySem.W.nsIn K mainGlobals "_has_form" = some (some (.ref f_has_form))) (l_has_form : K.lookup f_has_form = some ⟨oc_has_form, od_has_form, .func (PySem.W.fnOf "_has_form" "_has_form" (defArgs s_has_form) (defBody s_has_form) (defScope s_has_form) .none kV_has_form dc_has_form pm_has_form an_has_form cd_has_form ct_has_form), sl_has_form⟩) (c_has_form : PySem.W.codeIn K cd_has_form "_has_form" = true) (k_has_form : PySem.W.keepIn K (.ref f_has_form) = true)
    (ais_joining_word : PySem.W.nsIn K mainGlobals "is_joining_word" = some (some (.ref fis_joining_word))) (lis_joining_word : K.lookup fis_joining_word = some ⟨ocis_joining_word, odis_joining_word, .func (PySem.W.fnOf "is_joining_word" "is_joining_word" (defArgs sis_joining_word) (defBody sis_joining_word) (defScope sis_joining_word) .none kVis_joining_word dcis_joining_word pmis_joining_word anis_joining_word cdis_joining_word ctis_joining_word), slis_joining_word⟩) (cis_joining_word : PySem.W.codeIn K cdis_joining_word "is_joining_word" = true) (kis_joining_word : PySem.W.keepIn K (.ref fis_joining_word) = true)
    (ais_number_word : PySem.W.nsIn K mainGlobals "is_number_word" = some (some (.ref fis_number_word))) (lis_number_word : K.lookup fis_number_word = some ⟨ocis_number_word, odis_number_word, .func (PySem.W.fnOf "is_number_word" "is_number_word" (defArgs sis_number_word) (defBody sis_number_word) (defScope sis_number_word) .none kVis_number_word dcis_number_word pmis_number_word anis_number_word cdis_number_word ctis_number_word), slis_number_word⟩) (cis_number_word : PySem.W.codeIn K cdis_number_word "is_number_word" = true) (kis_number_word : PySem.W.keepIn K (.ref fis_number_word) = true)
    (a_block_told : PySem.W.nsIn K mainGlobals "_block_told" = some (some (.ref f_block_told))) (l_block_told : K.lookup f_block_told = some ⟨oc_block_told, od_block_told, .func (PySem.W.fnOf "_block_told" "_block_told" (defArgs s_block_told) (defBody s_block_told) (defScope s_block_told) .none kV_block_told dc_block_told pm_block_told an_block_told cd_block_told ct_block_told), sl_block_told⟩) (c_block_told : PySem.W.codeIn K cd_block_told "_block_told" = true) (k_block_told : PySem.W.keepIn K (.ref f_block_told) = true)
    (a_joining_told : PySem.W.nsIn K mainGlobals "_joining_told" = some (some (.ref f_joining_told))) (l_joining_told : K.lookup f_joining_told = some ⟨oc_joining_told, od_joining_told, .func (PySem.W.fnOf "_joining_told" "_joining_told" (defArgs s_joining_told) (defBody s_joining_told) (defScope s_joining_told) .none kV_joining_told dc_joining_told pm_joining_told an_joining_told cd_joining_told ct_joining_told), sl_joining_told⟩) (c_joining_told : PySem.W.codeIn K cd_joining_told "_joining_told" = true) (k_joining_told : PySem.W.keepIn K (.ref f_joining_told) = true)
    (a_law_reel : PySem.W.nsIn K mainGlobals "_law_reel" = some (some (.ref f_law_reel))) (l_law_reel : K.lookup f_law_reel = some ⟨oc_law_reel, od_law_reel, .func (PySem.W.fnOf "_law_reel" "_law_reel" (defArgs s_law_reel) (defBody s_law_reel) (defScope s_law_reel) .none kV_law_reel dc_law_reel pm_law_reel an_law_reel cd_law_reel ct_law_reel), sl_law_reel⟩) (c_law_reel : PySem.W.codeIn K cd_law_reel "_law_reel" = true) (k_law_reel : PySem.W.keepIn K (.ref f_law_reel) = true)
    (a_law_draw : PySem.W.nsIn K mainGlobals "_law_draw" = some (some (.ref f_law_draw))) (l_law_draw : K.lookup f_law_draw = some ⟨oc_law_draw, od_law_draw, .func (PySem.W.fnOf "_law_draw" "_law_draw" (defArgs s_law_draw) (defBody s_law_draw) (defScope s_law_draw) .none kV_law_draw dc_law_draw pm_law_draw an_law_draw cd_law_draw ct_law_draw), sl_law_draw⟩) (c_law_draw : PySem.W.codeIn K cd_law_draw "_law_draw" = true) (k_law_draw : PySem.W.keepIn K (.ref f_law_draw) = true)
    (a_law_turns : PySem.W.nsIn K mainGlobals "_law_turns" = some (some (.ref f_law_turns))) (l_law_turns : K.lookup f_law_turns = some ⟨oc_law_turns, od_law_turns, .func (PySem.W.fnOf "_law_turns" "_law_turns" (defArgs s_law_turns) (defBody s_law_turns) (defScope s_law_turns) .none kV_law_turns dc_law_turns pm_law_turns an_law_turns cd_law_turns ct_law_turns), sl_law_turns⟩) (c_law_turns : PySem.W.codeIn K cd_law_turns "_law_turns" = true) (k_law_turns : PySem.W.keepIn K (.ref f_law_turns) = true)
    (a_law_back : PySem.W.nsIn K mainGlobals "_law_back" = some (some (.ref f_law_back))) (l_law_back : K.lookup f_law_back = some ⟨oc_law_back, od_law_back, .func (PySem.W.fnOf "_law_back" "_law_back" (defArgs s_law_back) (defBody s_law_back) (defScope s_law_back) .none kV_law_back dc_law_back pm_law_back an_law_back cd_law_back ct_law_back), sl_law_back⟩) (c_law_back : PySem.W.codeIn K cd_law_back "_law_back" = true) (k_law_back : PySem.W.keepIn K (.ref f_law_back) = true)
    (a_law_set : PySem.W.nsIn K mainGlobals "_law_set" = some (some (.ref f_law_set))) (l_law_set : K.lookup f_law_set = some ⟨oc_law_set, od_law_set, .func (PySem.W.fnOf "_law_set" "_law_set" (defArgs s_law_set) (defBody s_law_set) (defScope s_law_set) .none kV_law_set dc_law_set pm_law_set an_law_set cd_law_set ct_law_set), sl_law_set⟩) (c_law_set : PySem.W.codeIn K cd_law_set "_law_set" = true) (k_law_set : PySem.W.keepIn K (.ref f_law_set) = true)
    (a_law_any : PySem.W.nsIn K mainGlobals "_law_any" = some (some (.ref f_law_any))) (l_law_any : K.lookup f_law_any = some ⟨oc_law_any, od_law_any, .func (PySem.W.fnOf "_law_any" "_law_any" (defArgs s_law_any) (defBody s_law_any) (defScope s_law_any) .none kV_law_any dc_law_any pm_law_any an_law_any cd_law_any ct_law_any), sl_law_any⟩) (c_law_any : PySem.W.codeIn K cd_law_any "_law_any" = true) (k_law_any : PySem.W.keepIn K (.ref f_law_any) = true)
    (a_law_ball : PySem.W.nsIn K mainGlobals "_law_ball" = some (some (.ref f_law_ball))) (l_law_ball : K.lookup f_law_ball = some ⟨oc_law_ball, od_law_ball, .func (PySem.W.fnOf "_law_ball" "_law_ball" (defArgs s_law_ball) (defBody s_law_ball) (defScope s_law_ball) .none kV_law_ball dc_law_ball pm_law_ball an_law_ball cd_law_ball ct_law_ball), sl_law_ball⟩) (c_law_ball : PySem.W.codeIn K cd_law_ball "_law_ball" = true) (k_law_ball : PySem.W.keepIn K (.ref f_law_ball) = true)
    (a_law_doubled : PySem.W.nsIn K mainGlobals "_law_doubled" = some (some (.ref f_law_doubled))) (l_law_doubled : K.lookup f_law_doubled = some ⟨oc_law_doubled, od_law_doubled, .func (PySem.W.fnOf "_law_doubled" "_law_doubled" (defArgs s_law_doubled) (defBody s_law_doubled) (defScope s_law_doubled) .none kV_law_doubled dc_law_doubled pm_law_doubled an_law_doubled cd_law_doubled ct_law_doubled), sl_law_doubled⟩) (c_law_doubled : PySem.W.codeIn K cd_law_doubled "_law_doubled" = true) (k_law_doubled : PySem.W.keepIn K (.ref f_law_doubled) = true)
    (a_law_blocks : PySem.W.nsIn K mainGlobals "_law_blocks" = some (some (.ref f_law_blocks))) (l_law_blocks : K.lookup f_law_blocks = some ⟨oc_law_blocks, od_law_blocks, .func (PySem.W.fnOf "_law_blocks" "_law_blocks" (defArgs s_law_blocks) (defBody s_law_blocks) (defScope s_law_blocks) .none kV_law_blocks dc_law_blocks pm_law_blocks an_law_blocks cd_law_blocks ct_law_blocks), sl_law_blocks⟩) (c_law_blocks : PySem.W.codeIn K cd_law_blocks "_law_blocks" = true) (k_law_blocks : PySem.W.keepIn K (.ref f_law_blocks) = true)
    (a_law_numbered : PySem.W.nsIn K mainGlobals "_law_numbered" = some (some (.ref f_law_numbered))) (l_law_numbered : K.lookup f_law_numbered = some ⟨oc_law_numbered, od_law_numbered, .func (PySem.W.fnOf "_law_numbered" "_law_numbered" (defArgs s_law_numbered) (defBody s_law_numbered) (defScope s_law_numbered) .none kV_law_numbered dc_law_numbered pm_law_numbered an_law_numbered cd_law_numbered ct_law_numbered), sl_law_numbered⟩) (c_law_numbered : PySem.W.codeIn K cd_law_numbered "_law_numbered" = true) (k_law_numbered : PySem.W.keepIn K (.ref f_law_numbered) = true)
    (a_law_order_right : PySem.W.nsIn K mainGlobals "_law_order_right" = some (some (.ref f_law_order_right))) (l_law_order_right : K.lookup f_law_order_right = some ⟨oc_law_order_right, od_law_order_right, .func (PySem.W.fnOf "_law_order_right" "_law_order_right" (defArgs s_law_order_right) (defBody s_law_order_right) (defScope s_law_order_right) .none kV_law_order_right dc_law_order_right pm_law_order_right an_law_order_right cd_law_order_right ct_law_order_right), sl_law_order_right⟩) (c_law_order_right : PySem.W.codeIn K cd_law_order_right "_law_order_right" = true) (k_law_order_right : PySem.W.keepIn K (.ref f_law_order_right) = true)
    (a_law_parted_right : PySem.W.nsIn K mainGlobals "_law_parted_right" = some (some (.ref f_law_parted_right))) (l_law_parted_right : K.lookup f_law_parted_right = some ⟨oc_law_parted_right, od_law_parted_right, .func (PySem.W.fnOf "_law_parted_right" "_law_parted_right" (defArgs s_law_parted_right) (defBody s_law_parted_right) (defScope s_law_parted_right) .none kV_law_parted_right dc_law_parted_right pm_law_parted_right an_law_parted_right cd_law_parted_right ct_law_parted_right), sl_law_parted_right⟩) (c_law_parted_right : PySem.W.codeIn K cd_law_parted_right "_law_parted_right" = true) (k_law_parted_right : PySem.W.keepIn K (.ref f_law_parted_right) = true)
    (alaw : PySem.W.nsIn K mainGlobals "law" = some (some (.ref flaw))) (llaw : K.lookup flaw = some ⟨oclaw, odlaw, .func (PySem.W.fnOf "law" "law" (defArgs slaw) (defBody slaw) (defScope slaw) .none kVlaw dclaw pmlaw anlaw cdlaw ctlaw), sllaw⟩) (claw : PySem.W.codeIn K cdlaw "law" = true) (klaw : PySem.W.keepIn K (.ref flaw) = true)
    (aFIGURES : PySem.W.nsIn K mainGlobals "FIGURES" = some (some (.str digsS tFIG)))
    (zall : PySem.W.nsIn K mainGlobals "all" = some none)
    (zbool : PySem.W.nsIn K mainGlobals "bool" = some none)
    (zenumerate : PySem.W.nsIn K mainGlobals "enumerate" = some none)
    (zint : PySem.W.nsIn K mainGlobals "int" = some none)
    (zisinstance : PySem.W.nsIn K mainGlobals "isinstance" = some none)
    (zlen : PySem.W.nsIn K mainGlobals "len" = some none)
    (zlist : PySem.W.nsIn K mainGlobals "list" = some none)
    (zmin : PySem.W.nsIn K mainGlobals "min" = some none)
    (zrange : PySem.W.nsIn K mainGlobals "range" = some none)
    (zsorted : PySem.W.nsIn K mainGlobals "sorted" = some none)
    (zstr : PySem.W.nsIn K mainGlobals "str" = some none)
    (ztuple : PySem.W.nsIn K mainGlobals "tuple" = some none)
    : ∃ fd : FuncData, (∀ (s : Shared) (v : Value), BindsTo s fd ⟨[v], []⟩ [("script", v)]) ∧ ∀ base : Heap, K.In base → base.Ns mainGlobals mg → FnG l.prog w K mg base 9 fa fd ["script"] (spLaw K) := by
  have e := hfa.symm.trans (PySem.W.mg_of X G alaw)
  cases e
  have Fis_whole := fun_mk (st := sis_whole) lis_whole cis_whole kis_whole
  have bis_whole := Fis_whole.binds (ps := ["thing"]) fun _ _ _ _ _ _ us hl => match us, hl with | [_], _ => rfl
  have gis_whole := PySem.W.mg_of X G ais_whole
  have Fis_listed := fun_mk (st := sis_listed) lis_listed cis_listed kis_listed
  have bis_listed := Fis_listed.binds (ps := ["thing"]) fun _ _ _ _ _ _ us hl => match us, hl with | [_], _ => rfl
  have gis_listed := PySem.W.mg_of X G ais_listed
  have Fis_below := fun_mk (st := sis_below) lis_below cis_below kis_below
  have bis_below := Fis_below.binds (ps := ["thing", "many"]) fun _ _ _ _ _ _ us hl => match us, hl with | [_, _], _ => rfl
  have gis_below := PySem.W.mg_of X G ais_below
  have Fis_order := fun_mk (st := sis_order) lis_order cis_order kis_order
  have bis_order := Fis_order.binds (ps := ["thing", "many"]) fun _ _ _ _ _ _ us hl => match us, hl with | [_, _], _ => rfl
  have gis_order := PySem.W.mg_of X G ais_order
  have Fis_turn := fun_mk (st := sis_turn) lis_turn cis_turn kis_turn
  have bis_turn := Fis_turn.binds (ps := ["thing"]) fun _ _ _ _ _ _ us hl => match us, hl with | [_], _ => rfl
  have gis_turn := PySem.W.mg_of X G ais_turn
  have Fcontrary := fun_mk (st := scontrary) lcontrary ccontrary kcontrary
  have bcontrary := Fcontrary.binds (ps := ["turn"]) fun _ _ _ _ _ _ us hl => match us, hl with | [_], _ => rfl
  have gcontrary := PySem.W.mg_of X G acontrary
  have Fspace_of := fun_mk (st := sspace_of) lspace_of cspace_of kspace_of
  have bspace_of := Fspace_of.binds (ps := ["blocks"]) fun _ _ _ _ _ _ us hl => match us, hl with | [_], _ => rfl
  have gspace_of := PySem.W.mg_of X G aspace_of
  have F_block_of := fun_mk (st := s_block_of) l_block_of c_block_of k_block_of
  have b_block_of := F_block_of.binds (ps := ["faces", "many"]) fun _ _ _ _ _ _ us hl => match us, hl with | [_, _], _ => rfl
  have g_block_of := PySem.W.mg_of X G a_block_of
  have F_joining_of := fun_mk (st := s_joining_of) l_joining_of c_joining_of k_joining_of
  have b_joining_of := F_joining_of.binds (ps := ["joining", "many"]) fun _ _ _ _ _ _ us hl => match us, hl with | [_, _], _ => rfl
  have g_joining_of := PySem.W.mg_of X G a_joining_of
  have F_goes_both_ways := fun_mk (st := s_goes_both_ways) l_goes_both_ways c_goes_both_ways k_goes_both_ways
  have b_goes_both_ways := F_goes_both_ways.binds (ps := ["space", "block", "face"]) fun _ _ _ _ _ _ us hl => match us, hl with | [_, _, _], _ => rfl
  have g_goes_both_ways := PySem.W.mg_of X G a_goes_both_ways
  have F_is_face := fun_mk (st := s_is_face) l_is_face c_is_face k_is_face
  have b_is_face := F_is_face.binds (ps := ["space", "block", "face"]) fun _ _ _ _ _ _ us hl => match us, hl with | [_, _, _], _ => rfl
  have g_is_face := PySem.W.mg_of X G a_is_face
  have F_put := fun_mk (st := s_put) l_put c_put k_put
  have b_put := F_put.binds (ps := ["space", "changes"]) fun _ _ _ _ _ _ us hl => match us, hl with | [_, _], _ => rfl
  have g_put := PySem.W.mg_of X G a_put
  have Fparted := fun_mk (st := sparted) lparted cparted kparted
  have bparted := Fparted.binds (ps := ["space", "block", "face"]) fun _ _ _ _ _ _ us hl => match us, hl with | [_, _, _], _ => rfl
  have gparted := PySem.W.mg_of X G aparted
  have Fbeside := fun_mk (st := sbeside) lbeside cbeside kbeside
  have bbeside := Fbeside.binds (ps := ["one", "other"]) fun _ _ _ _ _ _ us hl => match us, hl with | [_, _], _ => rfl
  have gbeside := PySem.W.mg_of X G abeside
  have F_block_behind := fun_mk (st := s_block_behind) l_block_behind c_block_behind k_block_behind
  have b_block_behind := F_block_behind.binds (ps := ["block", "many"]) fun _ _ _ _ _ _ us hl => match us, hl with | [_, _], _ => rfl
  have g_block_behind := PySem.W.mg_of X G a_block_behind
  have Frenamed := fun_mk (st := srenamed) lrenamed crenamed krenamed
  have brenamed := Frenamed.binds (ps := ["space", "order", "turns"]) fun _ _ _ _ _ _ us hl => match us, hl with | [_, _, _], _ => rfl
  have grenamed := PySem.W.mg_of X G arenamed
  have F_renamed_block := fun_mk (st := s_renamed_block) l_renamed_block c_renamed_block k_renamed_block
  have b_renamed_block := F_renamed_block.binds (ps := ["space", "order", "turns", "place"]) fun _ _ _ _ _ _ us hl => match us, hl with | [_, _, _, _], _ => rfl
  have g_renamed_block := PySem.W.mg_of X G a_renamed_block
  have F_renamed_joining := fun_mk (st := s_renamed_joining) l_renamed_joining c_renamed_joining k_renamed_joining
  have b_renamed_joining := F_renamed_joining.binds (ps := ["joining", "order", "turns", "back"]) fun _ _ _ _ _ _ us hl => match us, hl with | [_, _, _, _], _ => rfl
  have g_renamed_joining := PySem.W.mg_of X G a_renamed_joining
  have Fspace_text := fun_mk (st := sspace_text) lspace_text cspace_text kspace_text
  have bspace_text := Fspace_text.binds (ps := ["space"]) fun _ _ _ _ _ _ us hl => match us, hl with | [_], _ => rfl
  have gspace_text := PySem.W.mg_of X G aspace_text
  have F_line_of := fun_mk (st := s_line_of) l_line_of c_line_of k_line_of
  have b_line_of := F_line_of.binds (ps := ["block"]) fun _ _ _ _ _ _ us hl => match us, hl with | [_], _ => rfl
  have g_line_of := PySem.W.mg_of X G a_line_of
  have F_word_of := fun_mk (st := s_word_of) l_word_of c_word_of k_word_of
  have b_word_of := F_word_of.binds (ps := ["joining"]) fun _ _ _ _ _ _ us hl => match us, hl with | [_], _ => rfl
  have g_word_of := PySem.W.mg_of X G a_word_of
  have Fread_space := fun_mk (st := sread_space) lread_space cread_space kread_space
  have bread_space := Fread_space.binds (ps := ["text"]) fun _ _ _ _ _ _ us hl => match us, hl with | [_], _ => rfl
  have gread_space := PySem.W.mg_of X G aread_space
  have F_has_form := fun_mk (st := s_has_form) l_has_form c_has_form k_has_form
  have b_has_form := F_has_form.binds (ps := ["words"]) fun _ _ _ _ _ _ us hl => match us, hl with | [_], _ => rfl
  have g_has_form := PySem.W.mg_of X G a_has_form
  have Fis_joining_word := fun_mk (st := sis_joining_word) lis_joining_word cis_joining_word kis_joining_word
  have bis_joining_word := Fis_joining_word.binds (ps := ["word"]) fun _ _ _ _ _ _ us hl => match us, hl with | [_], _ => rfl
  have gis_joining_word := PySem.W.mg_of X G ais_joining_word
  have Fis_number_word := fun_mk (st := sis_number_word) lis_number_word cis_number_word kis_number_word
  have bis_number_word := Fis_number_word.binds (ps := ["word"]) fun _ _ _ _ _ _ us hl => match us, hl with | [_], _ => rfl
  have gis_number_word := PySem.W.mg_of X G ais_number_word
  have F_block_told := fun_mk (st := s_block_told) l_block_told c_block_told k_block_told
  have b_block_told := F_block_told.binds (ps := ["words", "numbers"]) fun _ _ _ _ _ _ us hl => match us, hl with | [_, _], _ => rfl
  have g_block_told := PySem.W.mg_of X G a_block_told
  have F_joining_told := fun_mk (st := s_joining_told) l_joining_told c_joining_told k_joining_told
  have b_joining_told := F_joining_told.binds (ps := ["word", "numbers"]) fun _ _ _ _ _ _ us hl => match us, hl with | [_, _], _ => rfl
  have g_joining_told := PySem.W.mg_of X G a_joining_told
  have F_law_reel := fun_mk (st := s_law_reel) l_law_reel c_law_reel k_law_reel
  have b_law_reel := F_law_reel.binds (ps := ["script"]) fun _ _ _ _ _ _ us hl => match us, hl with | [_], _ => rfl
  have g_law_reel := PySem.W.mg_of X G a_law_reel
  have F_law_draw := fun_mk (st := s_law_draw) l_law_draw c_law_draw k_law_draw
  have b_law_draw := F_law_draw.binds (ps := ["reel", "many"]) fun _ _ _ _ _ _ us hl => match us, hl with | [_, _], _ => rfl
  have g_law_draw := PySem.W.mg_of X G a_law_draw
  have F_law_turns := fun_mk (st := s_law_turns) l_law_turns c_law_turns k_law_turns
  have b_law_turns := F_law_turns.binds (ps := []) fun _ _ _ _ _ _ us hl => match us, hl with | [], _ => rfl
  have g_law_turns := PySem.W.mg_of X G a_law_turns
  have F_law_back := fun_mk (st := s_law_back) l_law_back c_law_back k_law_back
  have b_law_back := F_law_back.binds (ps := ["turn"]) fun _ _ _ _ _ _ us hl => match us, hl with | [_], _ => rfl
  have g_law_back := PySem.W.mg_of X G a_law_back
  have F_law_set := fun_mk (st := s_law_set) l_law_set c_law_set k_law_set
  have b_law_set := F_law_set.binds (ps := ["blocks", "block", "face", "other", "turn"]) fun _ _ _ _ _ _ us hl => match us, hl with | [_, _, _, _, _], _ => rfl
  have g_law_set := PySem.W.mg_of X G a_law_set
  have F_law_any := fun_mk (st := s_law_any) l_law_any c_law_any k_law_any
  have b_law_any := F_law_any.binds (ps := ["reel", "many"]) fun _ _ _ _ _ _ us hl => match us, hl with | [_, _], _ => rfl
  have g_law_any := PySem.W.mg_of X G a_law_any
  have F_law_ball := fun_mk (st := s_law_ball) l_law_ball c_law_ball k_law_ball
  have b_law_ball := F_law_ball.binds (ps := ["reel", "many"]) fun _ _ _ _ _ _ us hl => match us, hl with | [_, _], _ => rfl
  have g_law_ball := PySem.W.mg_of X G a_law_ball
  have F_law_doubled := fun_mk (st := s_law_doubled) l_law_doubled c_law_doubled k_law_doubled
  have b_law_doubled := F_law_doubled.binds (ps := ["blocks"]) fun _ _ _ _ _ _ us hl => match us, hl with | [_], _ => rfl
  have g_law_doubled := PySem.W.mg_of X G a_law_doubled
  have F_law_blocks := fun_mk (st := s_law_blocks) l_law_blocks c_law_blocks k_law_blocks
  have b_law_blocks := F_law_blocks.binds (ps := ["reel", "most"]) fun _ _ _ _ _ _ us hl => match us, hl with | [_, _], _ => rfl
  have g_law_blocks := PySem.W.mg_of X G a_law_blocks
  have F_law_numbered := fun_mk (st := s_law_numbered) l_law_numbered c_law_numbered k_law_numbered
  have b_law_numbered := F_law_numbered.binds (ps := ["line", "numbers"]) fun _ _ _ _ _ _ us hl => match us, hl with | [_, _], _ => rfl
  have g_law_numbered := PySem.W.mg_of X G a_law_numbered
  have F_law_order_right := fun_mk (st := s_law_order_right) l_law_order_right c_law_order_right k_law_order_right
  have b_law_order_right := F_law_order_right.binds (ps := ["reel", "space"]) fun _ _ _ _ _ _ us hl => match us, hl with | [_, _], _ => rfl
  have g_law_order_right := PySem.W.mg_of X G a_law_order_right
  have F_law_parted_right := fun_mk (st := s_law_parted_right) l_law_parted_right c_law_parted_right k_law_parted_right
  have b_law_parted_right := F_law_parted_right.binds (ps := ["space"]) fun _ _ _ _ _ _ us hl => match us, hl with | [_], _ => rfl
  have g_law_parted_right := PySem.W.mg_of X G a_law_parted_right
  have Flaw := fun_mk (st := slaw) llaw claw klaw
  have glaw := PySem.W.mg_of X G alaw
  have g_FIGURES := PySem.W.mg_of X G aFIGURES
  have m_all := PySem.W.mg_none_of X G zall
  have m_bool := PySem.W.mg_none_of X G zbool
  have m_enumerate := PySem.W.mg_none_of X G zenumerate
  have m_int := PySem.W.mg_none_of X G zint
  have m_isinstance := PySem.W.mg_none_of X G zisinstance
  have m_len := PySem.W.mg_none_of X G zlen
  have m_list := PySem.W.mg_none_of X G zlist
  have m_min := PySem.W.mg_none_of X G zmin
  have m_range := PySem.W.mg_none_of X G zrange
  have m_sorted := PySem.W.mg_none_of X G zsorted
  have m_str := PySem.W.mg_none_of X G zstr
  have m_tuple := PySem.W.mg_none_of X G ztuple
  refine ⟨PySem.W.fnOf "law" "law" (defArgs slaw) (defBody slaw) (defScope slaw) .none kVlaw dclaw pmlaw anlaw cdlaw ctlaw, fun s v => .of_eq rfl, fun base _ _ => ?_⟩
  have G_law_reel := ok_law_reel (P := l.prog) (w := w) (K := K) (mg := mg) (base := base) F_law_reel
  have G_law_draw := ok_law_draw (P := l.prog) (w := w) (K := K) (mg := mg) (base := base) F_law_draw m_len m_int
  have G_law_any := ok_law_any (P := l.prog) (w := w) (K := K) (mg := mg) (base := base) F_law_any F_law_draw g_law_draw b_law_draw F_law_turns g_law_turns b_law_turns F_law_back g_law_back b_law_back F_law_set g_law_set b_law_set m_range m_tuple m_len m_int
  have G_law_ball := ok_law_ball (P := l.prog) (w := w) (K := K) (mg := mg) (base := base) F_law_ball F_law_draw g_law_draw b_law_draw F_law_turns g_law_turns b_law_turns F_law_back g_law_back b_law_back F_law_set g_law_set b_law_set m_range m_tuple m_len m_int
  have G_law_doubled := ok_law_doubled (P := l.prog) (w := w) (K := K) (mg := mg) (base := base) F_law_doubled F_law_back g_law_back b_law_back F_law_set g_law_set b_law_set m_range m_tuple m_len m_list
  have G_law_blocks := ok_law_blocks (P := l.prog) (w := w) (K := K) (mg := mg) (base := base) F_law_blocks F_law_draw g_law_draw b_law_draw F_law_any g_law_any b_law_any F_law_ball g_law_ball b_law_ball F_law_doubled g_law_doubled b_law_doubled G_law_draw G_law_any G_law_ball G_law_doubled m_min
  have Gis_whole := okis_whole (P := l.prog) (w := w) (K := K) (mg := mg) (base := base) Fis_whole m_isinstance m_int m_bool
  have Gis_listed := okis_listed (P := l.prog) (w := w) (K := K) (mg := mg) (base := base) Fis_listed m_isinstance m_list m_tuple
  have Gis_below := okis_below (P := l.prog) (w := w) (K := K) (mg := mg) (base := base) Fis_below Fis_whole gis_whole bis_whole Gis_whole
  have Gis_order := okis_order (P := l.prog) (w := w) (K := K) (mg := mg) (base := base) Fis_order Fis_whole gis_whole bis_whole Gis_whole Fis_listed gis_listed bis_listed Gis_listed m_all m_sorted m_list m_range
  have Gis_turn := okis_turn (P := l.prog) (w := w) (K := K) (mg := mg) (base := base) Fis_turn Fis_order gis_order bis_order Gis_order
  have Gcontrary := okcontrary (P := l.prog) (w := w) (K := K) (mg := mg) (base := base) Fcontrary m_range m_tuple
  have G_joining_of := ok_joining_of (P := l.prog) (w := w) (K := K) (mg := mg) (base := base) F_joining_of Fis_listed gis_listed bis_listed Gis_listed Fis_below gis_below bis_below Gis_below Fis_turn gis_turn bis_turn Gis_turn m_len m_tuple
  have G_block_of := ok_block_of (P := l.prog) (w := w) (K := K) (mg := mg) (base := base) F_block_of Fis_listed gis_listed bis_listed Gis_listed F_joining_of g_joining_of b_joining_of G_joining_of m_len m_tuple
  have G_goes_both_ways := ok_goes_both_ways (P := l.prog) (w := w) (K := K) (mg := mg) (base := base) F_goes_both_ways Fcontrary gcontrary bcontrary Gcontrary
  have Gspace_of := okspace_of (P := l.prog) (w := w) (K := K) (mg := mg) (base := base) Fspace_of Fis_listed gis_listed bis_listed Gis_listed F_block_of g_block_of b_block_of G_block_of F_goes_both_ways g_goes_both_ways b_goes_both_ways G_goes_both_ways m_len m_tuple m_range
  have Gcontrary := fn_or Gcontrary (okcontraryL (P := l.prog) (w := w) (base := base) Fcontrary m_range m_tuple)
  have G_renamed_joining := ok_renamed_joining (P := l.prog) (w := w) (K := K) (mg := mg) (base := base) F_renamed_joining m_tuple
  have G_renamed_block := ok_renamed_block (P := l.prog) (w := w) (K := K) (mg := mg) (base := base) F_renamed_block Fcontrary gcontrary bcontrary Gcontrary F_renamed_joining g_renamed_joining b_renamed_joining G_renamed_joining m_tuple
  have Grenamed := okrenamed (P := l.prog) (w := w) (K := K) (mg := mg) (base := base) Frenamed Fspace_of gspace_of bspace_of Gspace_of Fis_order gis_order bis_order Gis_order Fis_listed gis_listed bis_listed Gis_listed Fis_turn gis_turn bis_turn Gis_turn F_renamed_block g_renamed_block b_renamed_block G_renamed_block m_len m_tuple m_all m_range
  have G_is_face := ok_is_face (P := l.prog) (w := w) (K := K) (mg := mg) (base := base) F_is_face Fis_below gis_below bis_below Gis_below m_len
  have G_put := ok_put (P := l.prog) (w := w) (K := K) (mg := mg) (base := base) F_put m_tuple m_list
  have Gparted := okparted (P := l.prog) (w := w) (K := K) (mg := mg) (base := base) Fparted Fspace_of gspace_of bspace_of Gspace_of F_is_face g_is_face b_is_face G_is_face F_put g_put b_put G_put
  have G_block_behind := ok_block_behind (P := l.prog) (w := w) (K := K) (mg := mg) (base := base) F_block_behind m_tuple
  have Gbeside := okbeside (P := l.prog) (w := w) (K := K) (mg := mg) (base := base) Fbeside Fspace_of gspace_of bspace_of Gspace_of F_block_behind g_block_behind b_block_behind G_block_behind m_len m_tuple
  have Gspace_text := ok_space_text (P := l.prog) (w := w) (K := K) (mg := mg) (base := base) Fspace_text F_line_of g_line_of b_line_of F_word_of g_word_of b_word_of m_str
  have Pspace_text := okspace_textP (P := l.prog) (w := w) (K := K) (mg := mg) (base := base) Fspace_text F_line_of g_line_of b_line_of F_word_of g_word_of b_word_of m_str
  have Gis_number_word := okis_number_word (P := l.prog) (w := w) (K := K) (mg := mg) (base := base) Fis_number_word g_FIGURES m_all
  have Gis_joining_word := okis_joining_word (P := l.prog) (w := w) (K := K) (mg := mg) (base := base) Fis_joining_word Fis_number_word gis_number_word bis_number_word Gis_number_word m_sorted
  have G_has_form := ok_has_form (P := l.prog) (w := w) (K := K) (mg := mg) (base := base) F_has_form Fis_joining_word gis_joining_word bis_joining_word Gis_joining_word m_all m_len
  have G_joining_told := ok_joining_told (P := l.prog) (w := w) (K := K) (mg := mg) (base := base) F_joining_told m_int
  have G_block_told := ok_block_told (P := l.prog) (w := w) (K := K) (mg := mg) (base := base) F_block_told F_joining_told g_joining_told b_joining_told G_joining_told
  have Gread_space := okread_space (P := l.prog) (w := w) (K := K) (mg := mg) (base := base) Fread_space F_has_form g_has_form b_has_form G_has_form F_block_told g_block_told b_block_told G_block_told Fspace_of gspace_of bspace_of Gspace_of m_enumerate m_str m_range m_len
  have G_law_numbered := ok_law_numbered (P := l.prog) (w := w) (K := K) (mg := mg) (base := base) F_law_numbered m_int m_str
  have G_law_order_right := ok_law_order_right (P := l.prog) (w := w) (K := K) (mg := mg) (base := base) F_law_order_right F_law_draw g_law_draw b_law_draw G_law_draw Fspace_text gspace_text bspace_text Gspace_text Frenamed grenamed brenamed Grenamed F_law_numbered g_law_numbered b_law_numbered G_law_numbered m_range m_list m_len
  have G_law_parted_right := ok_law_parted_right (P := l.prog) (w := w) (K := K) (mg := mg) (base := base) F_law_parted_right Fspace_text gspace_text bspace_text Pspace_text Fparted gparted bparted Gparted m_range m_len
  exact ok_law Flaw F_law_reel g_law_reel b_law_reel F_law_draw g_law_draw b_law_draw F_law_blocks g_law_blocks b_law_blocks Fspace_of gspace_of bspace_of Fspace_text gspace_text bspace_text Fread_space gread_space bread_space F_law_order_right g_law_order_right b_law_order_right F_law_parted_right g_law_parted_right b_law_parted_right F_law_numbered g_law_numbered b_law_numbered Fbeside gbeside bbeside G_law_reel G_law_draw G_law_blocks Gspace_of Gspace_text Gread_space G_law_order_right G_law_parted_right G_law_numbered Gbeside m_range m_len m_min
end Bk
open PySem PySem.W PyProof.Rows
set_option maxHeartbeats 0 in
theorem PySem.Challenge.cw_blockrooms_k13_whole_written_and_read_holds : PySem.Challenge.rw_blockrooms_k13_whole_written_and_read.Holds := by
  w_on; o_law; k_head; (case hw => w_witness2)
  k_fill
  refine Bk.walk_G (l := PySem.Challenge.rw_blockrooms_k13_whole_written_and_read) (n := 63) (k := 9) (x := "script") (sp := Bk.spLaw) rfl (by decide) rfl ⟨rfl, by decide, by decide⟩ (fun w h Y => PySem.W.kIn_of Y) ?F (fun _ _ a ns hl _ hS => ⟨a, ns, rfl, hS, hl, fun _ => rfl⟩)
  case F =>
    intro w mg fa h KX G hmg
    refine' Bk.all_mk KX G hmg ?ais_whole ?lis_whole ?cis_whole ?kis_whole ?ais_listed ?lis_listed ?cis_listed ?kis_listed ?ais_below ?lis_below ?cis_below ?kis_below ?ais_order ?lis_order ?cis_order ?kis_order ?ais_turn ?lis_turn ?cis_turn ?kis_turn ?acontrary ?lcontrary ?ccontrary ?kcontrary ?aspace_of ?lspace_of ?cspace_of ?kspace_of ?a_block_of ?l_block_of ?c_block_of ?k_block_of ?a_joining_of ?l_joining_of ?c_joining_of ?k_joining_of ?a_goes_both_ways ?l_goes_both_ways ?c_goes_both_ways ?k_goes_both_ways ?a_is_face ?l_is_face ?c_is_face ?k_is_face ?a_put ?l_put ?c_put ?k_put ?aparted ?lparted ?cparted ?kparted ?abeside ?lbeside ?cbeside ?kbeside ?a_block_behind ?l_block_behind ?c_block_behind ?k_block_behind ?arenamed ?lrenamed ?crenamed ?krenamed ?a_renamed_block ?l_renamed_block ?c_renamed_block ?k_renamed_block ?a_renamed_joining ?l_renamed_joining ?c_renamed_joining ?k_renamed_joining ?aspace_text ?lspace_text ?cspace_text ?kspace_text ?a_line_of ?l_line_of ?c_line_of ?k_line_of ?a_word_of ?l_word_of ?c_word_of ?k_word_of ?aread_space ?lread_space ?cread_space ?kread_space ?a_has_form ?l_has_form ?c_has_form ?k_has_form ?ais_joining_word ?lis_joining_word ?cis_joining_word ?kis_joining_word ?ais_number_word ?lis_number_word ?cis_number_word ?kis_number_word ?a_block_told ?l_block_told ?c_block_told ?k_block_told ?a_joining_told ?l_joining_told ?c_joining_told ?k_joining_told ?a_law_reel ?l_law_reel ?c_law_reel ?k_law_reel ?a_law_draw ?l_law_draw ?c_law_draw ?k_law_draw ?a_law_turns ?l_law_turns ?c_law_turns ?k_law_turns ?a_law_back ?l_law_back ?c_law_back ?k_law_back ?a_law_set ?l_law_set ?c_law_set ?k_law_set ?a_law_any ?l_law_any ?c_law_any ?k_law_any ?a_law_ball ?l_law_ball ?c_law_ball ?k_law_ball ?a_law_doubled ?l_law_doubled ?c_law_doubled ?k_law_doubled ?a_law_blocks ?l_law_blocks ?c_law_blocks ?k_law_blocks ?a_law_numbered ?l_law_numbered ?c_law_numbered ?k_law_numbered ?a_law_order_right ?l_law_order_right ?c_law_order_right ?k_law_order_right ?a_law_parted_right ?l_law_parted_right ?c_law_parted_right ?k_law_parted_right ?alaw ?llaw ?claw ?klaw ?aFIGURES ?zall ?zbool ?zenumerate ?zint ?zisinstance ?zlen ?zlist ?zmin ?zrange ?zsorted ?zstr ?ztuple
    (case ais_whole => k_is); (case lis_whole => k_is); (case cis_whole => k_is); (case kis_whole => k_is); (case ais_listed => k_is); (case lis_listed => k_is); (case cis_listed => k_is); (case kis_listed => k_is); (case ais_below => k_is); (case lis_below => k_is); (case cis_below => k_is); (case kis_below => k_is); (case ais_order => k_is); (case lis_order => k_is); (case cis_order => k_is); (case kis_order => k_is); (case ais_turn => k_is); (case lis_turn => k_is); (case cis_turn => k_is); (case kis_turn => k_is); (case acontrary => k_is); (case lcontrary => k_is); (case ccontrary => k_is); (case kcontrary => k_is); (case aspace_of => k_is); (case lspace_of => k_is); (case cspace_of => k_is); (case kspace_of => k_is); (case a_block_of => k_is); (case l_block_of => k_is); (case c_block_of => k_is); (case k_block_of => k_is); (case a_joining_of => k_is); (case l_joining_of => k_is); (case c_joining_of => k_is); (case k_joining_of => k_is); (case a_goes_both_ways => k_is); (case l_goes_both_ways => k_is); (case c_goes_both_ways => k_is); (case k_goes_both_ways => k_is); (case a_is_face => k_is); (case l_is_face => k_is); (case c_is_face => k_is); (case k_is_face => k_is); (case a_put => k_is); (case l_put => k_is); (case c_put => k_is); (case k_put => k_is); (case aparted => k_is); (case lparted => k_is); (case cparted => k_is); (case kparted => k_is); (case abeside => k_is); (case lbeside => k_is); (case cbeside => k_is); (case kbeside => k_is); (case a_block_behind => k_is); (case l_block_behind => k_is); (case c_block_behind => k_is); (case k_block_behind => k_is); (case arenamed => k_is); (case lrenamed => k_is); (case crenamed => k_is); (case krenamed => k_is); (case a_renamed_block => k_is); (case l_renamed_block => k_is); (case c_renamed_block => k_is); (case k_renamed_block => k_is); (case a_renamed_joining => k_is); (case l_renamed_joining => k_is); (case c_renamed_joining => k_is); (case k_renamed_joining => k_is); (case aspace_text => k_is); (case lspace_text => k_is); (case cspace_text => k_is); (case kspace_text => k_is); (case a_line_of => k_is); (case l_line_of => k_is); (case c_line_of => k_is); (case k_line_of => k_is); (case a_word_of => k_is); (case l_word_of => k_is); (case c_word_of => k_is); (case k_word_of => k_is); (case aread_space => k_is); (case lread_space => k_is); (case cread_space => k_is); (case kread_space => k_is); (case a_has_form => k_is); (case l_has_form => k_is); (case c_has_form => k_is); (case k_has_form => k_is); (case ais_joining_word => k_is); (case lis_joining_word => k_is); (case cis_joining_word => k_is); (case kis_joining_word => k_is); (case ais_number_word => k_is); (case lis_number_word => k_is); (case cis_number_word => k_is); (case kis_number_word => k_is); (case a_block_told => k_is); (case l_block_told => k_is); (case c_block_told => k_is); (case k_block_told => k_is); (case a_joining_told => k_is); (case l_joining_told => k_is); (case c_joining_told => k_is); (case k_joining_told => k_is); (case a_law_reel => k_is); (case l_law_reel => k_is); (case c_law_reel => k_is); (case k_law_reel => k_is); (case a_law_draw => k_is); (case l_law_draw => k_is); (case c_law_draw => k_is); (case k_law_draw => k_is); (case a_law_turns => k_is); (case l_law_turns => k_is); (case c_law_turns => k_is); (case k_law_turns => k_is); (case a_law_back => k_is); (case l_law_back => k_is); (case c_law_back => k_is); (case k_law_back => k_is); (case a_law_set => k_is); (case l_law_set => k_is); (case c_law_set => k_is); (case k_law_set => k_is); (case a_law_any => k_is); (case l_law_any => k_is); (case c_law_any => k_is); (case k_law_any => k_is); (case a_law_ball => k_is); (case l_law_ball => k_is); (case c_law_ball => k_is); (case k_law_ball => k_is); (case a_law_doubled => k_is); (case l_law_doubled => k_is); (case c_law_doubled => k_is); (case k_law_doubled => k_is); (case a_law_blocks => k_is); (case l_law_blocks => k_is); (case c_law_blocks => k_is); (case k_law_blocks => k_is); (case a_law_numbered => k_is); (case l_law_numbered => k_is); (case c_law_numbered => k_is); (case k_law_numbered => k_is); (case a_law_order_right => k_is); (case l_law_order_right => k_is); (case c_law_order_right => k_is); (case k_law_order_right => k_is); (case a_law_parted_right => k_is); (case l_law_parted_right => k_is); (case c_law_parted_right => k_is); (case k_law_parted_right => k_is); (case alaw => k_is); (case llaw => k_is); (case claw => k_is); (case klaw => k_is); (case aFIGURES => k_is); (case zall => k_is); (case zbool => k_is); (case zenumerate => k_is); (case zint => k_is); (case zisinstance => k_is); (case zlen => k_is); (case zlist => k_is); (case zmin => k_is); (case zrange => k_is); (case zsorted => k_is); (case zstr => k_is); (case ztuple => k_is)

