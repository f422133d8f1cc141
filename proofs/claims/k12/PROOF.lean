import PyProof.Rows.All
import Wide.All
import OpenK.AllK
import Wide.FinOn
import HandS.ForMost
import HandS.Wide
import HandS.IsInst
import HandS.FStr
import HandS.NoneIn
import HandS.Conv
import HandS.Zip
import KE.KIndexOf
import PyProof.ReprBulk
import PyProof.ReprRoads
import HandS.ForExc
import HandS.ExcIs
import KE.KIsAll
import KE.KExcIs
import PyProof.StrBlockL
import HandS.Walk
import HandS.Defaults
import HandS.ExcInit
import KE.KExcSuper
import HandS.Set
import HandS.Text
import HandS.ExcValue
import PyProof.CollectStr
import PyProof.Rows.SortStr
import HandS.DictComp
import HandS.ReplaceLit
import PyProof.StrLawsReplace
import KE.RegKSuper
import PySem.Challenge.RW_blockrooms_k12_lines_refused
set_option Elab.async false
set_option linter.all false
set_option maxRecDepth 100000
set_option maxHeartbeats 4000000
/-! Common to all laws: what stays, the reel, turns and blocks as plain Lean, and as they stand in the heap. -/
namespace Bk
open PySem PySem.Spec PyProof.Rows L2

/-! ### what stays -/
/-- all that was tracked but R is as it was -/
def Keep (R : Addr) (H H' : Hp) : Prop := ∀ b o, H b = some o → b ≠ R → H' b = some o
theorem Keep.refl (R : Addr) (H : Hp) : Keep R H H := fun _ _ h _ => h
theorem Keep.trans {R : Addr} {H H1 H2 : Hp} (a : Keep R H H1) (b : Keep R H1 H2) : Keep R H H2 := fun c o h n => b c o (a c o h n) n
theorem Keep.of {R : Addr} {H H' : Hp} (a : Same H H') : Keep R H H' := fun c o h _ => a c o h
theorem Keep.same {R : Addr} {H H1 H2 : Hp} (a : Keep R H H1) (b : Same H1 H2) : Keep R H H2 := a.trans (.of b)
theorem _root_.L2.Same.keep {R : Addr} {H H1 H2 : Hp} (a : Same H H1) (b : Keep R H1 H2) : Keep R H H2 := (Keep.of a).trans b
theorem same_new {H : Hp} {p : Addr} {o : HO} (h : H p = none) : Same H (upd H p o) := fun b x e => by
  rw [upd_ne (ne_of_none e h)]
  exact e
theorem keep_set {H : Hp} {p : Addr} {o : HO} : Keep p H (upd H p o) := fun b x e n => by
  rw [upd_ne n]
  exact e
/-- a list that a loop or comprehension fills, made since -/
theorem same_fill {H H1 : Hp} {D : Addr} {o : HO} (a : Same H H1) (h : H D = none) : Same H (upd H1 D o) := fun b x e => by
  rw [upd_ne (ne_of_none e h)]
  exact a b x e
theorem keep_fill {R : Addr} {H H1 : Hp} {D : Addr} {o : HO} (a : Keep R H H1) (h : H D = none) : Keep R H (upd H1 D o) := fun b x e n => by
  rw [upd_ne (ne_of_none e h)]
  exact a b x e n
theorem Keep.free {R : Addr} {H H' : Hp} (a : Keep R H H') {l : Addr} (h : H' l = none) (n : l ≠ R) : H l = none := by
  cases q : H l with
  | none => rfl
  | some o =>
    rw [a l o q n] at h
    cases h
theorem _root_.L2.Same.sqt {K : PySem.W.Frag} {H H' : Hp} {a : Addr} {xs : List V} (e : Same H H') (h : SqT K H a xs) : SqT K H' a xs := by
  rcases h with (h | ⟨o, h⟩) | h
  · exact .inl (.inl (e _ _ h))
  · exact .inl (.inr ⟨o, e _ _ h⟩)
  · exact .inr h
theorem lst_inj {H : Hp} {p : Addr} {xs ys : List V} (a : H p = some (.lst xs)) (b : H p = some (.lst ys)) : xs = ys := by
  rw [a] at b
  injection b with b
  injection b with b

/-! ### the reel -/
/-- the reel's four: great, cells, turned, stirred -/
structure Reel (R g c : Addr) (gs cs : List Int) (n st : Int) (H : Hp) : Prop where
  r : H R = some (.lst [.ref g, .ref c, .int n, .int st])
  g : H g = some (.lst (gs.map V.int))
  c : H c = some (.lst (cs.map V.int))
  gl : gs.length ≤ 63
  cl : cs.length ≤ 64
  g0 : ∀ x ∈ gs, 0 ≤ x
  c0 : ∀ x ∈ cs, 0 ≤ x ∧ x < 1000003
  ne : cs ≠ []
  s0 : 0 ≤ st
  s1 : st.natAbs < 2 ^ 127
def ReelOk (R : Addr) (H : Hp) : Prop := ∃ g c gs cs n st, Reel R g c gs cs n st H
theorem ReelOk.same {R : Addr} {H H' : Hp} (h : ReelOk R H) (s : Same H H') : ReelOk R H' := by
  obtain ⟨g, c, gs, cs, n, st, r⟩ := h
  exact ⟨g, c, gs, cs, n, st, ⟨s _ _ r.r, s _ _ r.g, s _ _ r.c, r.gl, r.cl, r.g0, r.c0, r.ne, r.s0, r.s1⟩⟩
/-- a list that is none of the reel's -/
def NotReel (xs : List V) : Prop := ∃ x r, xs = x :: r ∧ (∀ i : Int, x ≠ .int i) ∧ ∀ v ∈ xs, ∀ i : Int, v ≠ .int i
theorem ReelOk.set {R p : Addr} {H : Hp} {xs : List V} {o : HO} (h : ReelOk R H) (hp : H p = some (.lst xs)) (n : NotReel xs) : ReelOk R (upd H p o) ∧ p ≠ R := by
  obtain ⟨g, c, gs, cs, m, st, r⟩ := h
  obtain ⟨x, l, e, hx, hv⟩ := n
  have n1 : p ≠ R := fun z => by
    subst z
    have q := lst_inj hp r.r
    exact hv (.int m) (by rw [q]; simp) m rfl
  have nI : ∀ {q : Addr} {ns : List Int}, H q = some (.lst (ns.map V.int)) → p ≠ q := fun {q ns} hq z => by
    subst z
    have q := lst_inj hp hq
    rw [e] at q
    cases ns with
    | nil => cases q
    | cons y t =>
      injection q with q _
      exact hx y q
  have n2 := nI r.g
  have n3 := nI r.c
  exact ⟨⟨g, c, gs, cs, m, st, ⟨by rw [upd_ne n1.symm]; exact r.r, by rw [upd_ne n2.symm]; exact r.g, by rw [upd_ne n3.symm]; exact r.c, r.gl, r.cl, r.g0, r.c0, r.ne, r.s0, r.s1⟩⟩, n1⟩
/-- D is none of the reel's three lists -/
def Away (R D : Addr) (H : Hp) : Prop := ∃ g c gs cs n st, Reel R g c gs cs n st H ∧ D ≠ R ∧ D ≠ g ∧ D ≠ c
theorem Away.ok {R D : Addr} {H : Hp} (h : Away R D H) : ReelOk R H := by
  obtain ⟨g, c, gs, cs, n, st, r, _⟩ := h
  exact ⟨g, c, gs, cs, n, st, r⟩
theorem Away.ne {R D : Addr} {H : Hp} (h : Away R D H) : D ≠ R := by
  obtain ⟨g, c, gs, cs, n, st, r, h, _⟩ := h
  exact h
theorem Away.same {R D : Addr} {H H' : Hp} (h : Away R D H) (s : Same H H') : Away R D H' := by
  obtain ⟨g, c, gs, cs, n, st, r, q⟩ := h
  exact ⟨g, c, gs, cs, n, st, ⟨s _ _ r.r, s _ _ r.g, s _ _ r.c, r.gl, r.cl, r.g0, r.c0, r.ne, r.s0, r.s1⟩, q⟩
theorem Away.fill {R D : Addr} {H : Hp} {o : HO} (h : Away R D H) : Away R D (upd H D o) := by
  obtain ⟨g, c, gs, cs, n, st, r, h1, h2, h3⟩ := h
  exact ⟨g, c, gs, cs, n, st, ⟨by rw [upd_ne h1.symm]; exact r.r, by rw [upd_ne h2.symm]; exact r.g, by rw [upd_ne h3.symm]; exact r.c, r.gl, r.cl, r.g0, r.c0, r.ne, r.s0, r.s1⟩, h1, h2, h3⟩
theorem Away.fill' {R D D' : Addr} {H : Hp} {o : HO} (h : Away R D' H) (a : Away R D H) : Away R D' (upd H D o) := by
  obtain ⟨g, c, gs, cs, n, st, r, h1, h2, h3⟩ := a
  obtain ⟨g', c', _, _, _, _, r', z⟩ := h
  have e := r.r.symm.trans r'.r
  injection e with e
  injection e with e
  injection e with e1 e
  injection e with e2 e
  injection e1 with e1
  injection e2 with e2
  subst e1 e2
  exact ⟨g, c, _, _, _, _, ⟨by rw [upd_ne h1.symm]; exact r'.r, by rw [upd_ne h2.symm]; exact r'.g, by rw [upd_ne h3.symm]; exact r'.c, r'.gl, r'.cl, r'.g0, r'.c0, r'.ne, r'.s0, r'.s1⟩, z⟩
theorem ReelOk.away {R D : Addr} {H : Hp} {o : HO} (h : ReelOk R H) (hD : H D = none) : Away R D (upd H D o) := by
  obtain ⟨g, c, gs, cs, n, st, r⟩ := h
  have h1 : R ≠ D := ne_of_none r.r hD
  have h2 : g ≠ D := ne_of_none r.g hD
  have h3 : c ≠ D := ne_of_none r.c hD
  exact ⟨g, c, gs, cs, n, st, ⟨by rw [upd_ne h1]; exact r.r, by rw [upd_ne h2]; exact r.g, by rw [upd_ne h3]; exact r.c, r.gl, r.cl, r.g0, r.c0, r.ne, r.s0, r.s1⟩, h1.symm, h2.symm, h3.symm⟩
theorem Away.set {R D p : Addr} {H : Hp} {xs : List V} {o : HO} (h : Away R D H) (hp : H p = some (.lst xs)) (n : NotReel xs) : Away R D (upd H p o) ∧ p ≠ R := by
  obtain ⟨g, c, gs, cs, m, st, r, q⟩ := h
  obtain ⟨x, l, e, hx, hv⟩ := n
  have n1 : p ≠ R := fun z => by
    subst z
    have q := lst_inj hp r.r
    exact hv (.int m) (by rw [q]; simp) m rfl
  have nI : ∀ {q : Addr} {ns : List Int}, H q = some (.lst (ns.map V.int)) → p ≠ q := fun {q ns} hq z => by
    subst z
    have q := lst_inj hp hq
    rw [e] at q
    cases ns with
    | nil => cases q
    | cons y t =>
      injection q with q _
      exact hx y q
  exact ⟨⟨g, c, gs, cs, m, st, ⟨by rw [upd_ne n1.symm]; exact r.r, by rw [upd_ne (nI r.g).symm]; exact r.g, by rw [upd_ne (nI r.c).symm]; exact r.c, r.gl, r.cl, r.g0, r.c0, r.ne, r.s0, r.s1⟩, q⟩, n1⟩
/-- R's list is known by its third -/
theorem ReelOk.isR {R p : Addr} {H : Hp} {xs : List V} (h : ReelOk R H) (hp : H p = some (.lst xs)) (hx : ∀ v ∈ xs, ∀ i : Int, v ≠ .int i) : p ≠ R := fun z => by
  obtain ⟨g, c, gs, cs, m, st, r⟩ := h
  subst z
  have q := lst_inj hp r.r
  exact hx (.int m) (by rw [q]; simp) m rfl
theorem ReelOk.isT {R p : Addr} {H : Hp} {o : Obj} {u : HO} (h : ReelOk R H) (hp : H p = some (.frz o u)) : p ≠ R := fun z => by
  obtain ⟨g, c, gs, cs, m, st, r⟩ := h
  subst z
  rw [r.r] at hp
  cases hp
theorem Keep.tup {R p : Addr} {H H' : Hp} {o : Obj} {u : HO} (k : Keep R H H') (h : ReelOk R H) (hp : H p = some (.frz o u)) : H' p = some (.frz o u) := k _ _ hp (h.isT hp)

/-! ### lists of values -/
theorem small16 {n : Nat} (h : n ≤ 4000) : n < sizeLine := Nat.lt_of_le_of_lt h (by decide)
theorem get_map_int {ns : List Int} {i : Nat} {x : V} (h : (ns.map V.int)[i]? = some x) : ∃ k, x = .int k ∧ ns[i]? = some k := by
  rw [List.getElem?_map] at h
  cases e : ns[i]? with
  | none => rw [e] at h; cases h
  | some k =>
    rw [e] at h
    injection h with h
    exact ⟨k, h.symm, rfl⟩
theorem cut_to (xs : List V) (n : Nat) : cutV xs none (some (n : Int)) = xs.take n := by
  unfold cutV
  rw [HT.sIx_none, show HT.sIx xs.length xs.length (some (n : Int)) = min n xs.length from HT.sIx_nat xs.length xs.length n]
  show List.take (min n xs.length - 0) (xs.drop 0) = xs.take n
  rw [List.drop_zero, Nat.sub_zero]
  by_cases h : n ≤ xs.length
  · rw [Nat.min_eq_left h]
  · rw [Nat.min_eq_right (by omega), List.take_length, List.take_of_length_le (by omega)]
theorem cut_from1 (xs : List V) : cutV xs (some 1) none = xs.drop 1 := by
  unfold cutV
  rw [show HT.sIx xs.length 0 (some 1) = min 1 xs.length from HT.sIx_nat xs.length 0 1, HT.sIx_none]
  cases xs with
  | nil => rfl
  | cons x r =>
    rw [show min 1 (x :: r).length = 1 by
      rw [List.length_cons]
      omega]
    show (List.take ((x :: r).length - 1) r) = r
    rw [List.length_cons, Nat.add_sub_cancel]
    exact List.take_length
theorem fmod_pos {a b : Int} (h : 0 < b) : 0 ≤ a.fmod b ∧ a.fmod b < b := ⟨Int.fmod_nonneg_of_pos a h, Int.fmod_lt_of_pos a h⟩
theorem take_succ_map {α β : Type} {f : α → β} {xs : List α} {i : Nat} {x : α} (h : xs[i]? = some x) : (xs.take (i + 1)).map f = (xs.take i).map f ++ [f x] := by
  rw [List.take_add_one, h, List.map_append]
  rfl

/-! ### turns -/
abbrev Trn := List Nat
def turnsAB (a b : Nat) : List Trn := ((List.range 4).filter fun c => !(a == c || b == c)).map fun c => [a, b, c, 6 - a - b - c]
def bsOf (a : Nat) : List Nat := (List.range 4).filter fun b => !(b == a)
def turnsA (a : Nat) : List Trn := (bsOf a).flatMap (turnsAB a)
def turnsTo (n : Nat) : List Trn := (List.range n).flatMap turnsA
def allTurns : List Trn := turnsTo 4
def back (t : Trn) : Trn := (List.range 4).map fun c => t.idxOf c
def intV (n : Nat) : V := .int (n : Int)
def trnV (t : Trn) : List V := t.map intV
theorem turnsTo_succ (n : Nat) : turnsTo (n + 1) = turnsTo n ++ turnsA n := by
  unfold turnsTo
  rw [List.range_succ, List.flatMap_append]
  simp
theorem turns_len : allTurns.length = 24 := by decide +kernel
theorem turns4 : ∀ t ∈ allTurns, t.length = 4 ∧ (∀ x ∈ t, x < 4) ∧ back t ∈ allTurns ∧ (∀ x < 4, t[t.idxOf x]? = some x) ∧ t.Nodup := by decide +kernel
theorem turns_face : ∀ f < 4, ∀ a < 4, (allTurns.filter fun t => t[f]? == some a).length = 6 := by decide +kernel
theorem range_filter_succ (p : Nat → Bool) (n : Nat) : (List.range (n + 1)).filter p = (List.range n).filter p ++ (if p n then [n] else []) := by
  rw [List.range_succ, List.filter_append]
  by_cases h : p n
  · rw [if_pos h]
    simp [h]
  · rw [if_neg h]
    simp [h]

/-! ### as they stand -/
/-- a tuple stands at p, as the object o, that has no dict of its own -/
def FT (H : Hp) (p : Addr) (xs : List V) : Prop := ∃ o : Obj, o.dict = none ∧ H p = some (.frz o (.tup xs))
theorem FT.sqt {K : PySem.W.Frag} {H : Hp} {p : Addr} {xs : List V} (h : FT H p xs) : SqT K H p xs := by
  obtain ⟨o, _, h⟩ := h
  exact .inl (.inr ⟨o, h⟩)
/-- every such tuple stands -/
def Tups (H H' : Hp) : Prop := ∀ b o xs, H b = some (.frz o (.tup xs)) → H' b = some (.frz o (.tup xs))
theorem Tups.refl (H : Hp) : Tups H H := fun _ _ _ h => h
theorem Tups.trans {H H1 H2 : Hp} (a : Tups H H1) (b : Tups H1 H2) : Tups H H2 := fun c o xs h => b c o xs (a c o xs h)
theorem _root_.L2.Same.tups {H H' : Hp} (a : Same H H') : Tups H H' := fun b o xs h => a b _ h
theorem Keep.tups {R : Addr} {H H' : Hp} (k : Keep R H H') (h : ReelOk R H) : Tups H H' := fun b o xs e => k.tup h e
theorem tups_set {H : Hp} {p : Addr} {xs : List V} {o : HO} (h : H p = some (.lst xs)) : Tups H (upd H p o) := fun b _ ys e => by
  rw [upd_ne (ne_of e h (by intro z; cases z))]
  exact e
theorem FT.mono {H H' : Hp} {p : Addr} {xs : List V} (h : FT H p xs) (m : Tups H H') : FT H' p xs := by
  obtain ⟨o, d, h⟩ := h
  exact ⟨o, d, m _ _ _ h⟩
theorem FT.ne {H : Hp} {p q : Addr} {xs ys : List V} (h : FT H p xs) (k : H q = some (.lst ys)) : p ≠ q := by
  obtain ⟨o, d, h⟩ := h
  exact ne_of h k (by intro z; cases z)
theorem FT.new {H : Hp} {p : Addr} {xs : List V} {o : Obj} (d : o.dict = none) : FT (upd H p (.frz o (.tup xs))) p xs := ⟨o, d, upd_same⟩
theorem FT.inj {H : Hp} {p : Addr} {xs ys : List V} (h : FT H p xs) (k : FT H p ys) : xs = ys := by
  obtain ⟨o, d, h⟩ := h
  obtain ⟨o', d', k⟩ := k
  rw [h] at k
  injection k with k
  injection k with _ k
  injection k with k
def TAt (H : Hp) (v : V) (t : Trn) : Prop := ∃ p, v = .ref p ∧ FT H p (trnV t)
theorem TAt.mono {H H' : Hp} {v : V} {t : Trn} (h : TAt H v t) (m : Tups H H') : TAt H' v t := by
  obtain ⟨p, e, h⟩ := h
  exact ⟨p, e, h.mono m⟩
theorem pmono {α β : Type} {F G : α → β → Prop} {xs : List α} {ys : List β} (h : Paired F xs ys) (m : ∀ a b, F a b → G a b) : Paired G xs ys := Paired.mapP h m
theorem papp {α β : Type} {F : α → β → Prop} : ∀ {xs xs' : List α} {ys ys' : List β}, Paired F xs ys → Paired F xs' ys' → Paired F (xs ++ xs') (ys ++ ys')
  | _, _, _, _, .nil, h => h
  | _, _, _, _, .cons a t, h => .cons a (papp t h)
theorem plen {α β : Type} {F : α → β → Prop} {xs : List α} {ys : List β} (h : Paired F xs ys) : xs.length = ys.length := h.length
theorem pget {α β : Type} {F : α → β → Prop} : ∀ {xs : List α} {ys : List β} {i : Nat} {y : β}, Paired F xs ys → ys[i]? = some y → ∃ x, xs[i]? = some x ∧ F x y
  | _, _, _, _, .nil, e => by simp at e
  | _, _, 0, _, .cons r _, e => ⟨_, rfl, by simp at e; subst e; exact r⟩
  | _, _, i + 1, _, .cons _ t, e => by
    obtain ⟨x, h1, h2⟩ := pget (i := i) t (by simpa using e)
    exact ⟨x, by simpa using h1, h2⟩
theorem pget' {α β : Type} {F : α → β → Prop} : ∀ {xs : List α} {ys : List β} {i : Nat} {x : α}, Paired F xs ys → xs[i]? = some x → ∃ y, ys[i]? = some y ∧ F x y
  | _, _, _, _, .nil, e => by simp at e
  | _, _, 0, _, .cons r _, e => ⟨_, rfl, by simp at e; subst e; exact r⟩
  | _, _, i + 1, _, .cons _ t, e => by
    obtain ⟨x, h1, h2⟩ := pget' (i := i) t (by simpa using e)
    exact ⟨x, by simpa using h1, h2⟩

/-! ### rules with the written part K by name (a comprehension's own context has it, but not by that name) -/
section
variable {X : Cx} (K : PySem.W.Frag)
theorem kIxL (h : X.K = K) : IxR X (rIxL K) := h ▸ ix_list
theorem kIxT (h : X.K = K) : IxR X (rIxT K) := h ▸ ix_tup
theorem kSlL (h : X.K = K) : SlR X (rSlL K) := h ▸ sl_list
theorem kIn (h : X.K = K) : OpR X (compareOp .In) (rIn K false) := h ▸ op_in_seq
theorem kNotIn (h : X.K = K) : OpR X (compareOp .NotIn) (rIn K true) := h ▸ op_notIn_seq
theorem kEqD (h : X.K = K) (hu : X.A.units + 64 < cLine) : OpR X (compareOp .Eq) (rEqD K) := h ▸ op_eqD hu
theorem kNeD (h : X.K = K) (hu : X.A.units + 64 < cLine) : OpR X (compareOp .NotEq) (rNeD K) := h ▸ op_neD hu
def rLen (K : PySem.W.Frag) : List V → Hp → VK → Prop := fun xs H Q => ∃ p ys, xs = [.ref p] ∧ (SqL K H p ys ∨ SqT K H p ys) ∧ Q (.int ys.length) H
theorem kLen (h : X.K = K) : CallR X (.builtin "len") (rLen K) := h ▸ call_len_seq
def rListOf (K : PySem.W.Frag) : List V → Hp → VK → Prop := fun xs H Q => ∃ p ys, xs = [.ref p] ∧ (SqL K H p ys ∨ SqT K H p ys) ∧ ∀ l, H l = none → Q (.ref l) (upd H l (.lst ys))
theorem kList (h : X.K = K) : CallR X (.type "list") (rListOf K) := h ▸ call_list_of
def rTupleOf (K : PySem.W.Frag) : List V → Hp → VK → Prop := fun xs H Q => ∃ p ys, xs = [.ref p] ∧ ((SqL K H p ys ∧ ∀ l, H l = none → Q (.ref l) (upd H l (.tup ys))) ∨ (SqT K H p ys ∧ Q (.ref p) H))
theorem kTuple (h : X.K = K) : CallR X (.type "tuple") (rTupleOf K) := h ▸ call_tuple_of
theorem kIsi (h : X.K = K) : CallR X (.builtin "isinstance") (rIsi K) := h ▸ call_isi
theorem kIsiT (h : X.K = K) : CallR X (.builtin "isinstance") (rIsiT K) := h ▸ call_isiT
theorem kIndex (h : X.K = K) : MtR X "list.index" (rIndex K) := h ▸ mt_index
theorem kBM {e : Expr} {T : String} {r : V → List V → Hp → VK → Prop} {to : TE} {t : TA} (h : X.K = K) (x : PE X e (tBM X.K T r to t)) : PE X e (tBM K T r to t) := h ▸ x
theorem kBM0 {e : Expr} {T : String} {r : V → List V → Hp → VK → Prop} {to : TE} (h : X.K = K) (x : PE X e (tBM0 X.K T r to)) : PE X e (tBM0 K T r to) := h ▸ x
theorem kPiL {tg l : Expr} {tl : TE} (h : X.K = K) (x : PI X tg l (iList X.K tl)) : PI X tg l (iList K tl) := h ▸ x
theorem kPiT {tg l : Expr} {tl : TE} (h : X.K = K) (x : PI X tg l (iTup X.K tl)) : PI X tg l (iTup K tl) := h ▸ x
theorem kPgT {tg : Expr} {n : Nat} {t : TGs} (h : X.K = K) (x : PG X tg (gTup X.K n t)) : PG X tg (gTup K n t) := h ▸ x
def rJoin (K : PySem.W.Frag) : V → List V → Hp → VK → Prop := fun x xs H Q => ∃ a p, ∃ ys : List Str, x = .str a ∧ xs = [.ref p] ∧ (SqL K H p (ys.map V.str) ∨ SqT K H p (ys.map V.str)) ∧ (ys.map (·.length)).sum + ys.length * a.length ≤ 16777216 ∧ Q (.str (Txt.join a ys)) H
theorem kJoin {e : Expr} {to te : TE} (h : X.K = K) (x : PE X e (tM1 (rJoin X.K) to te)) : PE X e (tM1 (rJoin K) to te) := h ▸ x
theorem kAll (h : X.K = K) (hc : X.calm = true) : CallR X (.builtin "all") (rAll K) := h ▸ cr_all hc
/-- (a, b, ..), told as the object that it is -/
def tTupF (t : TA) : TE := fun σ H Q => t σ H fun xs H1 => xs.length ≤ sizeLine ∧ ∀ p o, H1 p = none → o.dict = none → Q (.ref p) (upd H1 p (.frz o (.tup xs)))
theorem pe_tupF {es : List Expr} {t : TA} {pos : Pos} {x1} (h : PA X es t) : PE X (.Tuple es x1 pos) (tTupF t) := by
  refine ⟨fun pins s σ H Q I hw => wpAny_Tuple_spliced (thn (h.run pos pins s σ H _ I hw) fun us s1 hv => ?_)⟩
  obtain ⟨xs, H1, J, r, z, q⟩ := hv
  refine ⟨by rw [← r.length]; exact z, .ref s1.heap.objs.size, upd H1 s1.heap.objs.size (.frz { cls := .type "tuple", data := .seq us.toArray } (.tup xs)), ?_, rfl, q _ _ (J.hok.fresh (Nat.le_refl _)) rfl⟩
  have g : (s1.heap.push { cls := .type "tuple", data := .seq us.toArray }).get? s1.heap.objs.size = some { cls := .type "tuple", data := .seq us.toArray } := Heap.get?_push_size _ rfl
  exact J.laid (t' := s1.toks) (fun _ _ e => Heap.get?_push_of_some _ e) (Nat.le_refl _) ⟨g, z, us, r, ⟨_, g, rfl, _, rfl⟩⟩
/-- tuple(x), likewise -/
def rTupleF (K : PySem.W.Frag) : List V → Hp → VK → Prop := fun xs H Q => ∃ p ys, xs = [.ref p] ∧ ((SqL K H p ys ∧ ∀ l o, H l = none → o.dict = none → Q (.ref l) (upd H l (.frz o (.tup ys)))) ∨ (SqT K H p ys ∧ Q (.ref p) H))
theorem kTupleF (h : X.K = K) : CallR X (.type "tuple") (rTupleF K) := by
  subst h
  rintro pins s σ H _ us Q I r ⟨p, ys, rfl, hw⟩
  obtain ⟨u, rfl, rx⟩ := vals1 r
  cases rx
  rcases hw with ⟨hq, q⟩ | ⟨hq, q⟩
  · obtain ⟨its, rv, pl, hz⟩ := I.list hq
    have hlen := rv.length
    refine call_tuple_list pl.isList (fun h' kp => ?_) (by simp only [List.size_toArray] <;> omega)
    have J : Inv X pins σ H { s with heap := h' } := I.kept (t' := s.toks) kp
    have g : (h'.push { cls := .type "tuple", data := .seq its.toArray }).get? h'.objs.size = some { cls := .type "tuple", data := .seq its.toArray } := Heap.get?_push_size _ rfl
    exact ⟨.ref h'.objs.size, _, J.laid (t' := s.toks) (fun _ _ e => Heap.get?_push_of_some _ e) (Nat.le_refl _) (show ObjOk X.prog X.w _ _ _ (.frz _ (.tup ys)) from ⟨g, hz, its, rv, ⟨_, g, rfl, _, rfl⟩⟩), rfl, q _ _ (J.hok.fresh (Nat.le_refl _)) rfl⟩
  · obtain ⟨its, _, pl, _⟩ := I.tuple hq
    exact call_tuple_same pl ⟨.ref p, H, I, rfl, q⟩
/-- t.m(e, ..), t such a tuple -/
def tBMF (r : V → List V → Hp → VK → Prop) (to : TE) (t : TA) : TE := fun σ H Q => to σ H fun x H1 => (∃ p xs, x = .ref p ∧ FT H1 p xs) ∧ t σ H1 fun vs H2 => r x vs H2 Q
theorem pe_bmF {o e : Expr} {es : List Expr} {to : TE} {t : TA} {name : Str} {apos cpos : Pos} {id : String} {r : V → List V → Hp → VK → Prop} (pa : PlainAttrs "tuple") (slot : Slot "tuple" name id) (hty : typeOf (.builtin id) = pure (.type "method_descriptor")) (hm : MtR X id r)
    (ho : PE X o to) (ha : PA X (e :: es) t) (h1 : attributeBase o name X.env (eval o X.env) = eval o X.env := by rfl)
    (h2 : ((backTo cpos (starEach (e :: es) X.env)).all (fun x => !x.1) && (backToKw cpos (keywordEach [] X.env)).all (fun x => x.1.isSome) && decide ((e :: es).length + ([] : List Keyword).length + (if ([] : List Keyword).isEmpty then 0 else 1) < 30)) = true := by rfl)
    (h3 : (apos.endLine == cpos.line) = true := by rfl) (h4 : starEach (e :: es) X.env = (false, eval e X.env) :: starEach es X.env := by rfl) (h5 : (backTo cpos (starEach es X.env)).any (·.1) = false := by rfl) :
    PE X (.Call (.Attribute o name apos) (e :: es) [] cpos) (tBMF r to t) := by
  refine ⟨fun pins s σ H Q I hw => wpAny_Call_method_late h1 h2 h3 rfl (thn (ho.run pins s σ H _ I hw) fun v s1 hv => ?_)⟩
  obtain ⟨x, H1, J, rx, ⟨p, xs, rfl, ob, dn, hp⟩, q⟩ := hv
  cases rx
  obtain ⟨g, _, its, _, ob', g', hc, _⟩ := J.hok p _ hp
  have eo : ob = ob' := Option.some.inj (g.symm.trans g')
  subst eo
  refine ⟨"tuple", id, pa, slot, hty, ⟨ob, g, hc⟩, fun a ea => ?_, ?_⟩
  · cases ea
    exact ⟨ob, g, dn⟩
  have hA := ha.run cpos pins s1 σ H1 _ J q
  rw [h4] at hA ⊢
  refine Calls.callWith_builtin (by show (false || (backTo cpos (starEach es X.env)).any (·.1)) = false; rw [h5] <;> rfl) (Calls.evalArgs_plain (thn hA fun us s2 hv => ?_))
  obtain ⟨vs, H2, J2, r2, q2⟩ := hv
  exact hm pins s2 σ H2 (.ref p) vs _ us Q J2 rfl r2 q2
/-- a walk over the list or the tuple at a, and what it leans on -/
inductive SeqIt (K : PySem.W.Frag) (a : Addr) : It → (Hp → List V → Prop) → Prop
  | l : SeqIt K a (Itl K a) fun H xs => SqL K H a xs
  | t : SeqIt K a (Itt K a) fun H xs => SqT K H a xs
theorem SeqIt.mono {a : Addr} {J : It} {C : Hp → List V → Prop} (h : SeqIt K a J C) {H H' : Hp} {xs : List V} (m : ∀ o, H a = some o → H' a = some o) (c : C H xs) : C H' xs := by
  cases h with
  | l =>
    rcases c with (c | ⟨o, c⟩) | c
    · exact .inl (.inl (m _ c))
    · exact .inl (.inr ⟨o, m _ c⟩)
    · exact .inr c
  | t =>
    rcases c with (c | ⟨o, c⟩) | c
    · exact .inl (.inl (m _ c))
    · exact .inl (.inr ⟨o, m _ c⟩)
    · exact .inr c
/-- a list or a tuple is walked -/
def iSeq (K : PySem.W.Frag) (tl : TE) : TI := fun σ H R => tl σ H fun x H1 => ∃ a xs, x = .ref a ∧ (SqL K H1 a xs ∨ SqT K H1 a xs) ∧ ∀ J C, SeqIt K a J C → C H1 xs → R J H1
theorem kPiS {tg l : Expr} {tl : TE} (h : X.K = K) (hl : PE X l tl) : PI X tg l (iSeq K tl) := by
  subst h
  refine ⟨fun pins s σ H R I hw => thn (hl.run pins s σ H _ I hw) fun v s1 hv => ?_⟩
  obtain ⟨x, H1, J, rx, a, xs, rfl, hq, q⟩ := hv
  cases rx
  have new : ∀ b ∈ [s1.heap.objs.size], FpOk X pins H1 b := fun b hb => by
    rw [List.mem_singleton.mp hb]
    exact J.fpOk (Nat.le_refl _) (J.hok.fresh (Nat.le_refl _))
  rcases hq with hq | hq
  · obtain ⟨its, _, pl, _⟩ := J.list hq
    exact wpAny_pyIter_list pl.isList ⟨_, _, _, _, H1, rfl, J.kept (t' := s1.toks) fun _ _ z => Heap.get?_push_of_some _ z, turn_list a _, ⟨_, Heap.get?_push_size _ rfl, rfl, rfl⟩, new, q _ _ .l hq⟩
  · obtain ⟨its, _, pt, _⟩ := J.tuple hq
    exact wpAny_pyIter_tuple (show s1.heap.IsTuple a its.toArray from pt) ⟨_, _, _, _, H1, rfl, J.kept (t' := s1.toks) fun _ _ z => Heap.get?_push_of_some _ z, turn_tuple a _, ⟨_, Heap.get?_push_size _ rfl, rfl, rfl⟩, new, q _ _ .t hq⟩
variable {K}
/-- what a comprehension's walk asks, and a loop's -/
def LcEnd (J : It) (g : TG) (tt : TT) (te : TE) (vs : List Nat) (σ : L2.St) (H1 : Hp) (D : Addr) (Qd : Hp → Prop) : Prop :=
  ∃ W : Nat → Nat → Hp → Prop, (∃ m, W 0 m (upd H1 D (.lst []))) ∧
    ∀ i m H, W i m H →
      (J.stop i H ∧ Qd H) ∨
      (J.go i H ∧ ∃ Nx : Hp → Prop, (∀ H', Nx H' → ∃ m', m' < m ∧ W (i + 1) m' H') ∧
        ∀ x H', J.yld i H x H' →
          g x (wipe σ vs) H' fun σ2 H2 => wipe σ2 vs = wipe σ vs ∧
            tt σ2 H2 fun b H3 => if b = true then te σ2 H3 fun y H4 =>
              ∃ acc, H4 D = some (.lst acc) ∧ acc.length < sizeLine ∧ Nx (upd H4 D (.lst (acc ++ [y])))
            else Nx H3)
theorem lc_seq {a : Addr} {J : It} {C : Hp → List V → Prop} {xs : List V} {g : TG} {tt : TT} {te : TE} {vs : List Nat} {σ : L2.St} {H1 : Hp} {D : Addr} {Qd : Hp → Prop} (hJ : SeqIt K a J C) (Pv : Nat → Hp → Prop) (h0 : Pv 0 (upd H1 D (.lst [])))
    (hl : ∀ i H, Pv i H → C H xs)
    (hs : ∀ i x H, xs[i]? = some x → Pv i H → g x (wipe σ vs) H fun σ2 H2 => wipe σ2 vs = wipe σ vs ∧ tt σ2 H2 fun b H3 =>
      if b = true then te σ2 H3 fun y H4 => ∃ acc, H4 D = some (.lst acc) ∧ acc.length < sizeLine ∧ Pv (i + 1) (upd H4 D (.lst (acc ++ [y]))) else Pv (i + 1) H3)
    (hd : ∀ H, Pv xs.length H → Qd H) : LcEnd J g tt te vs σ H1 D Qd := by
  cases hJ with
  | l => exact lc_list (xs := xs) Pv h0 (fun i H _ p => hl i H p) hs hd
  | t => exact lc_tup (xs := xs) Pv h0 (fun i H _ p => hl i H p) hs hd
def ForEnd (J : It) (g : TG) (tb : TS) (D : Ends) (σ : L2.St) (H1 : Hp) : Prop :=
  ∃ W : Nat → Nat → L2.St → Hp → Prop, (∃ m, W 0 m σ H1) ∧
    ∀ i m σ H, W i m σ H →
      (J.stop i H ∧ D.nx σ H) ∨
      (J.go i H ∧ ∃ N : L2.St → Hp → Prop, (∀ σ' H', N σ' H' → ∃ m', m' < m ∧ W (i + 1) m' σ' H') ∧
        ∀ x H', J.yld i H x H' → g x σ H' fun σ2 H2 => tb { D with nx := N, ct := N, bk := D.nx } σ2 H2)
/-- a loop over such a walk -/
theorem for_seq {a : Addr} {J : It} {C : Hp → List V → Prop} {xs : List V} {g : TG} {tb : TS} {D : Ends} {σ : L2.St} {H1 : Hp} (hJ : SeqIt K a J C) (Pv : Nat → L2.St → Hp → Prop) (h0 : Pv 0 σ H1)
    (hl : ∀ i σ H, Pv i σ H → C H xs)
    (hs : ∀ i x σ H, xs[i]? = some x → Pv i σ H → g x σ H fun σ2 H2 => tb { D with nx := Pv (i + 1), ct := Pv (i + 1), bk := D.nx } σ2 H2)
    (hd : ∀ σ H, Pv xs.length σ H → D.nx σ H) : ForEnd J g tb D σ H1 := by
  cases hJ with
  | l => exact for_list (xs := xs) Pv h0 (fun i σ H _ p => hl i σ H p) hs hd
  | t => exact for_tup (xs := xs) Pv h0 (fun i σ H _ p => hl i σ H p) hs hd
variable (K)
/-- (a, b, ..) = a list or a tuple of that length -/
def gSeq (K : PySem.W.Frag) (n : Nat) (t : TGs) : TG := fun v σ H Q => ∃ a xs, v = .ref a ∧ (SqL K H a xs ∨ SqT K H a xs) ∧ xs.length = n ∧ t xs σ H Q
theorem kPgS {tg : Expr} {n : Nat} {t : TGs} (h : X.K = K) (x : PG X tg (gTup X.K n t)) (y : PG X tg (gUnl X.K n t)) : PG X tg (gSeq K n t) := by
  subst h
  refine ⟨fun pins s σ H v u Q I r hw => ?_⟩
  obtain ⟨a, xs, e, hq | hq, hl, hw⟩ := hw
  · exact y.run pins s σ H v u Q I r ⟨a, xs, e, hq, hl, hw⟩
  · exact x.run pins s σ H v u Q I r ⟨a, xs, e, hq, hl, hw⟩
theorem kTupIx (h : X.K = K) : MtR X "tuple.index" (fun x xs H Q => ∃ p, ∃ ns : List Int, ∃ k : Int, x = .ref p ∧ xs = [.int k] ∧ SqT K H p (ns.map V.int) ∧ k ∈ ns ∧ Q (.int (ns.idxOf k : Nat)) H) := by
  subst h
  rintro pins s σ H x xs v us Q I rx rs ⟨p, ns, k, rfl, rfl, hq, hk, q⟩
  cases rx
  obtain ⟨u, rfl, ru⟩ := rs.one
  obtain ⟨t, rfl⟩ := ru
  obtain ⟨its, r, pl, _⟩ := I.tuple hq
  exact SeqAt.tuple_index_ints pl (intsAre_of r) hk ⟨.int _, H, I.tok _, ⟨_, rfl⟩, q⟩
end

/-! ### spaces -/
abbrev Jn := Option (Nat × Trn)
abbrev Blk := List Jn
abbrev Spc := List Blk
def free4 : Blk := [none, none, none, none]
/-- what stands at a face: none where there is no such face -/
def getJ (s : Spc) (b f : Nat) : Option Jn := s[b]?.bind fun l => l[f]?
def setJ (s : Spc) (b f : Nat) (j : Jn) : Spc := s.modify b fun l => l.set f j
def tf (t : Trn) (f : Nat) : Nat := t[f]?.getD 0
def joinJ (s : Spc) (b f n : Nat) (t : Trn) : Spc := setJ (setJ s b f (some (n, t))) n (tf t f) (some (b, back t))
theorem setJ_len (s : Spc) (b f : Nat) (j : Jn) : (setJ s b f j).length = s.length := List.length_modify ..
theorem joinJ_len (s : Spc) (b f n : Nat) (t : Trn) : (joinJ s b f n t).length = s.length := by
  unfold joinJ
  rw [setJ_len, setJ_len]
theorem getJ_set (s : Spc) (b f b' f' : Nat) (j : Jn) : getJ (setJ s b f j) b' f' = if b' = b ∧ f' = f then (getJ s b' f').map fun _ => j else getJ s b' f' := by
  unfold getJ setJ
  rw [List.getElem?_modify]
  cases h : s[b']? with
  | none => simp
  | some l =>
    show ((fun a => if b = b' then List.set a f j else a) l)[f']? = _
    by_cases hb : b = b'
    · subst hb
      show (if b = b then List.set l f j else l)[f']? = if b = b ∧ f' = f then (l[f']?).map fun _ => j else l[f']?
      rw [if_pos rfl, List.getElem?_set]
      by_cases hf : f = f'
      · subst hf
        rw [if_pos (show f = f from rfl), if_pos (show b = b ∧ f = f from ⟨rfl, rfl⟩)]
        by_cases hl : f < l.length
        · rw [if_pos hl, List.getElem?_eq_getElem hl]
          rfl
        · rw [if_neg hl, List.getElem?_eq_none (Nat.le_of_not_lt hl)]
          rfl
      · rw [if_neg hf, if_neg (fun z => hf z.2.symm)]
    · show (if b = b' then List.set l f j else l)[f']? = _
      rw [if_neg hb, if_neg (fun z => hb z.1.symm)]
      rfl
def L4 (s : Spc) : Prop := ∀ b ∈ s, b.length = 4
theorem L4.get {s : Spc} (h : L4 s) {b : Nat} (hb : b < s.length) {f : Nat} (hf : f < 4) : ∃ j, getJ s b f = some j := by
  unfold getJ
  rw [List.getElem?_eq_getElem hb]
  have := h _ (List.getElem_mem hb)
  exact ⟨_, List.getElem?_eq_getElem (by omega)⟩
theorem L4.of {s : Spc} (h : L4 s) {b f : Nat} {j : Jn} (e : getJ s b f = some j) : b < s.length ∧ f < 4 := by
  unfold getJ at e
  cases hs : s[b]? with
  | none =>
    rw [hs] at e
    cases e
  | some l =>
    rw [hs] at e
    have h1 := (List.getElem?_eq_some_iff.mp hs).1
    have h2 := (List.getElem?_eq_some_iff.mp (show l[f]? = some j from e)).1
    exact ⟨h1, by rw [h l (List.mem_of_getElem? hs)] at h2; exact h2⟩
theorem L4.set {s : Spc} (h : L4 s) (b f : Nat) (j : Jn) : L4 (setJ s b f j) := fun l hl => by
  obtain ⟨i, hi⟩ := List.mem_iff_getElem?.mp hl
  unfold setJ at hi
  rw [List.getElem?_modify] at hi
  cases hs : s[i]? with
  | none =>
    rw [hs] at hi
    simp at hi
  | some m =>
    rw [hs] at hi
    have hm := h m (List.mem_of_getElem? hs)
    simp at hi
    rw [← hi]
    split
    · rw [List.length_set]
      exact hm
    · exact hm
theorem L4.join {s : Spc} (h : L4 s) (b f n : Nat) (t : Trn) : L4 (joinJ s b f n t) := (h.set _ _ _).set _ _ _
/-- joinings go both ways -/
def Both (s : Spc) : Prop := ∀ b f n t, getJ s b f = some (some (n, t)) → t ∈ allTurns ∧ (n, tf t f) ≠ (b, f) ∧ getJ s n (tf t f) = some (some (b, back t))
structure Good (s : Spc) : Prop where
  l4 : L4 s
  both : Both s
theorem back_back : ∀ t ∈ allTurns, back (back t) = t := by decide +kernel
theorem tf_back : ∀ t ∈ allTurns, ∀ f < 4, tf (back t) (tf t f) = f := by decide +kernel
theorem tf_lt : ∀ t ∈ allTurns, ∀ f < 4, tf t f < 4 ∧ t[f]? = some (tf t f) := by decide +kernel
theorem back_mem {t : Trn} (h : t ∈ allTurns) : back t ∈ allTurns := (turns4 t h).2.2.1
theorem Good.lt {s : Spc} (h : Good s) {b f n : Nat} {t : Trn} (e : getJ s b f = some (some (n, t))) : n < s.length := (h.l4.of (h.both b f n t e).2.2).1
theorem Good.join {s : Spc} (h : Good s) {b f n : Nat} {t : Trn} (ht : t ∈ allTurns) (h1 : getJ s b f = some none) (h2 : getJ s n (tf t f) = some none) (hne : (n, tf t f) ≠ (b, f)) : Good (joinJ s b f n t) := by
  refine ⟨L4.join h.l4 b f n t, fun b' f' n' t' e => ?_⟩
  have hf := (h.l4.of h1).2
  have G : ∀ x y, getJ (joinJ s b f n t) x y = if x = n ∧ y = tf t f then some (some (b, back t)) else if x = b ∧ y = f then some (some (n, t)) else getJ s x y := fun x y => by
    unfold joinJ
    rw [getJ_set, getJ_set]
    by_cases c1 : x = n ∧ y = tf t f
    · rw [if_pos c1, if_pos c1, c1.1, c1.2]
      rw [if_neg (fun z => hne (Prod.ext z.1 z.2)), h2]
      rfl
    · rw [if_neg c1, if_neg c1]
      by_cases c2 : x = b ∧ y = f
      · rw [if_pos c2, if_pos c2, c2.1, c2.2, h1]
        rfl
      · rw [if_neg c2, if_neg c2]
  rw [G] at e ⊢
  by_cases c1 : b' = n ∧ f' = tf t f
  · rw [if_pos c1] at e
    obtain ⟨rfl, rfl⟩ := c1
    cases e
    refine ⟨back_mem ht, ?_, ?_⟩
    · rw [tf_back t ht f hf]
      exact fun z => hne z.symm
    · rw [tf_back t ht f hf, if_neg (fun z => hne (Prod.ext z.1.symm z.2.symm)), if_pos ⟨rfl, rfl⟩, back_back t ht]
  · rw [if_neg c1] at e
    by_cases c2 : b' = b ∧ f' = f
    · rw [if_pos c2] at e
      obtain ⟨rfl, rfl⟩ := c2
      cases e
      refine ⟨ht, hne, ?_⟩
      rw [if_pos ⟨rfl, rfl⟩]
    · rw [if_neg c2] at e
      obtain ⟨q1, q2, q3⟩ := h.both _ _ _ _ e
      refine ⟨q1, q2, ?_⟩
      rw [if_neg, if_neg]
      · exact q3
      · rintro ⟨rfl, hz⟩
        rw [hz, h1] at q3
        cases q3
      · rintro ⟨rfl, hz⟩
        rw [hz, h2] at q3
        cases q3
theorem getJ_join {s : Spc} {b f n : Nat} {t : Trn} {x y : Nat} (n1 : ¬ (x = b ∧ y = f)) (n2 : ¬ (x = n ∧ y = tf t f)) : getJ (joinJ s b f n t) x y = getJ s x y := by
  unfold joinJ
  rw [getJ_set, if_neg n2, getJ_set, if_neg n1]

/-! ### spaces as they stand -/
def JAt (H : Hp) (v : V) : Jn → Prop
  | none => v = .non
  | some (n, t) => ∃ p q, v = .ref p ∧ FT H p [intV n, .ref q] ∧ FT H q (trnV t)
theorem JAt.mono {H H' : Hp} {v : V} {j : Jn} (h : JAt H v j) (m : Tups H H') : JAt H' v j := by
  cases j with
  | none => exact h
  | some k =>
    obtain ⟨p, q, e, h1, h2⟩ := h
    exact ⟨p, q, e, h1.mono m, h2.mono m⟩
theorem JAt.kind {H : Hp} {v : V} {j : Jn} (h : JAt H v j) : v = .non ∨ ∃ p xs, v = .ref p ∧ FT H p xs := by
  cases j with
  | none => exact .inl h
  | some k =>
    obtain ⟨p, q, e, h1, h2⟩ := h
    exact .inr ⟨p, _, e, h1⟩
def BAt (H : Hp) (v : V) (b : Blk) : Prop := ∃ p vs, v = .ref p ∧ H p = some (.lst vs) ∧ Paired (JAt H) vs b
theorem BAt.mono {H H' : Hp} {v : V} {b : Blk} (h : BAt H v b) (m : Tups H H') (k : ∀ p xs, v = .ref p → H p = some (.lst xs) → H' p = some (.lst xs)) : BAt H' v b := by
  obtain ⟨p, vs, e, h1, h2⟩ := h
  exact ⟨p, vs, e, k p vs e h1, pmono h2 fun _ _ x => x.mono m⟩
structure SpAt (H : Hp) (l : Addr) (rs : List V) (s : Spc) : Prop where
  l : H l = some (.lst rs)
  b : Paired (BAt H) rs s
  nd : rs.Nodup
theorem notReel_blk {H : Hp} {vs : List V} {b : Blk} (h : Paired (JAt H) vs b) (hb : b ≠ []) : NotReel vs := by
  have hv : ∀ v ∈ vs, ∀ i : Int, v ≠ .int i := fun v hv i e => by
    obtain ⟨k, hk⟩ := List.mem_iff_getElem?.mp hv
    obtain ⟨j, _, hj⟩ := pget' h hk
    rcases hj.kind with z | ⟨p, xs, z, _⟩
    · rw [e] at z
      cases z
    · rw [e] at z
      cases z
  cases h with
  | nil => exact absurd rfl hb
  | cons a t => exact ⟨_, _, rfl, hv _ List.mem_cons_self, hv⟩
theorem notReel_refs {ps : List V} (hne : ps ≠ []) (h : ∀ v ∈ ps, ∃ p, v = .ref p) : NotReel ps := by
  have hv : ∀ v ∈ ps, ∀ i : Int, v ≠ .int i := fun v hv i e => by
    obtain ⟨p, z⟩ := h v hv
    rw [e] at z
    cases z
  cases ps with
  | nil => exact absurd rfl hne
  | cons a t => exact ⟨_, _, rfl, hv _ List.mem_cons_self, hv⟩
theorem bat_ref {H : Hp} {rs : List V} {s : Spc} (h : Paired (BAt H) rs s) : ∀ v ∈ rs, ∃ p, v = .ref p := fun v hv => by
  obtain ⟨k, hk⟩ := List.mem_iff_getElem?.mp hv
  obtain ⟨b, _, p, vs, e, _⟩ := pget' h hk
  exact ⟨p, e⟩
/-- what changes are inner lists of rs alone -/
def KeepB (rs : List V) (H H' : Hp) : Prop := ∀ b o, H b = some o → V.ref b ∉ rs → H' b = some o
theorem KeepB.trans {rs : List V} {H H1 H2 : Hp} (a : KeepB rs H H1) (b : KeepB rs H1 H2) : KeepB rs H H2 := fun c o h n => b c o (a c o h n) n
theorem KeepB.of {rs : List V} {H H' : Hp} (a : Same H H') : KeepB rs H H' := fun c o h _ => a c o h
theorem KeepB.tups {rs : List V} {H H' : Hp} {s : Spc} (k : KeepB rs H H') (h : Paired (BAt H) rs s) : Tups H H' := fun b o xs e => k b _ e fun z => by
  obtain ⟨i, hi⟩ := List.mem_iff_getElem?.mp z
  obtain ⟨y, _, p, vs, e1, e2, _⟩ := pget' h hi
  injection e1 with e1
  rw [e1, e2] at e
  cases e
/-- the outer list is none of its inner ones -/
theorem SpAt.out {H : Hp} {l : Addr} {rs : List V} {s : Spc} (h : SpAt H l rs s) : V.ref l ∉ rs := fun z => by
  obtain ⟨i, hi⟩ := List.mem_iff_getElem?.mp z
  obtain ⟨y, _, p, vs, e1, e2, e3⟩ := pget' h.b hi
  injection e1 with e1
  subst e1
  have q := lst_inj e2 h.l
  subst q
  obtain ⟨j, _, hj⟩ := pget' e3 hi
  rcases hj.kind with z | ⟨p, xs, z, hp⟩
  · cases z
  · injection z with z
    subst z
    exact hp.ne e2 rfl
theorem ReelOk.keepB {R : Addr} {rs : List V} {H H' : Hp} {s : Spc} (h : ReelOk R H) (k : KeepB rs H H') (hb : Paired (BAt H) rs s) (h4 : L4 s) : ReelOk R H' ∧ V.ref R ∉ rs := by
  obtain ⟨g, c, gs, cs, m, st, r⟩ := h
  have no : ∀ {a : Addr} {xs : List V}, H a = some (.lst xs) → (∀ x l, xs = x :: l → ∃ v ∈ xs, ∃ i : Int, v = .int i) → V.ref a ∉ rs := fun {a xs} ha hx z => by
    obtain ⟨i, hi⟩ := List.mem_iff_getElem?.mp z
    obtain ⟨y, hy, p, vs, e1, e2, e3⟩ := pget' hb hi
    injection e1 with e1
    subst e1
    have q := lst_inj ha e2
    subst q
    obtain ⟨x, l, e, _, hv⟩ := notReel_blk e3 (by
      intro z
      have := h4 y (List.mem_of_getElem? hy)
      rw [z] at this
      cases this)
    obtain ⟨v, hv1, j, hj⟩ := hx x l e
    exact hv v hv1 j hj
  have nI : ∀ {a : Addr} {ns : List Int}, H a = some (.lst (ns.map V.int)) → V.ref a ∉ rs := fun {a ns} ha => no ha fun x l e => by
    cases ns with
    | nil => cases e
    | cons n t => exact ⟨_, List.mem_cons_self, n, rfl⟩
  have nR := no r.r fun _ _ _ => ⟨.int m, by simp, m, rfl⟩
  exact ⟨⟨g, c, gs, cs, m, st, ⟨k _ _ r.r nR, k _ _ r.g (nI r.g), k _ _ r.c (nI r.c), r.gl, r.cl, r.g0, r.c0, r.ne, r.s0, r.s1⟩⟩, nR⟩

/-- the inner lists have come since H -/
def Fresh (H : Hp) (rs : List V) : Prop := ∀ p, V.ref p ∈ rs → H p = none
theorem Keep.inner {R : Addr} {rs : List V} {H H1 H2 : Hp} (k : Keep R H H1) (b : KeepB rs H1 H2) (f : Fresh H rs) : Keep R H H2 := fun c o h n => b c o (k c o h n) fun z => by
  rw [f c z] at h
  cases h
theorem _root_.L2.Same.inner {rs : List V} {H H1 H2 : Hp} (k : Same H H1) (b : KeepB rs H1 H2) (f : Fresh H rs) : Same H H2 := fun c o h => b c o (k c o h) fun z => by
  rw [f c z] at h
  cases h
def FcAt (H : Hp) (v : V) (x : Nat × Nat) : Prop := ∃ p, v = .ref p ∧ FT H p [intV x.1, intV x.2]
theorem FcAt.mono {H H' : Hp} {v : V} {x : Nat × Nat} (h : FcAt H v x) (m : Tups H H') : FcAt H' v x := by
  obtain ⟨p, e, h⟩ := h
  exact ⟨p, e, h.mono m⟩
def facesTo (n : Nat) : List (Nat × Nat) := (List.range n).map fun k => (k / 4, k % 4)
theorem facesTo_succ (n : Nat) : facesTo (n + 1) = facesTo n ++ [(n / 4, n % 4)] := by
  unfold facesTo
  rw [List.range_succ, List.map_append]
  rfl
theorem facesTo_nd (n : Nat) : (facesTo n).Nodup := by
  unfold facesTo
  refine List.Pairwise.map _ (fun a b h => ?_) (List.nodup_range (n := n))
  intro e
  injection e with e1 e2
  exact h (by omega)
theorem facesTo_mem {n : Nat} {x : Nat × Nat} (h : x ∈ facesTo (4 * n)) : x.1 < n ∧ x.2 < 4 := by
  unfold facesTo at h
  rw [List.mem_map] at h
  obtain ⟨k, hk, rfl⟩ := h
  rw [List.mem_range] at hk
  show k / 4 < n ∧ k % 4 < 4
  omega
theorem pperm_erase {α : Type} {l : List α} {i : Nat} {x : α} (h : l[i]? = some x) : (x :: l.eraseIdx i).Perm l := by
  induction l generalizing i with
  | nil => simp at h
  | cons y r ih =>
    cases i with
    | zero =>
      have e : y = x := by simpa using h
      subst e
      exact .refl _
    | succ i => exact (List.Perm.swap y x _).trans ((ih (by simpa using h)).cons y)
theorem perase {α β : Type} {F : α → β → Prop} : ∀ {xs : List α} {ys : List β} (i : Nat), Paired F xs ys → Paired F (xs.eraseIdx i) (ys.eraseIdx i)
  | _, _, _, .nil => .nil
  | _, _, 0, .cons _ t => t
  | _, _, i + 1, .cons r t => .cons r (perase i t)
def freeS (n : Nat) : Spc := List.replicate n free4
theorem freeS_get {n b f : Nat} {j : Jn} (h : getJ (freeS n) b f = some j) : j = none := by
  unfold getJ freeS at h
  cases e : (List.replicate n free4)[b]? with
  | none =>
    rw [e] at h
    cases h
  | some l =>
    rw [e] at h
    have el := List.eq_of_mem_replicate (List.mem_of_getElem? e)
    subst el
    have hm := List.mem_of_getElem? (show free4[f]? = some j from h)
    simpa [free4] using hm
theorem freeS_good (n : Nat) : Good (freeS n) := ⟨fun b hb => by rw [List.eq_of_mem_replicate hb]; rfl, fun b f m t e => by
  have := freeS_get e
  cases this⟩
theorem pmonoM {α β : Type} {F G : α → β → Prop} : ∀ {xs : List α} {ys : List β}, Paired F xs ys → (∀ a ∈ xs, ∀ b, F a b → G a b) → Paired G xs ys
  | _, _, .nil, _ => .nil
  | _, _, .cons r t, m => .cons (m _ List.mem_cons_self _ r) (pmonoM t fun a ha => m a (List.mem_cons_of_mem _ ha))
theorem SpAt.fresh {H : Hp} {l p : Addr} {rs : List V} {s : Spc} (h : SpAt H l rs s) (n : H p = none) : V.ref p ∉ rs := fun z => by
  obtain ⟨i, hi⟩ := List.mem_iff_getElem?.mp z
  obtain ⟨y, _, p', vs, e1, e2, _⟩ := pget' h.b hi
  injection e1 with e1
  rw [← e1, n] at e2
  cases e2
theorem SpAt.push {H1 H2 : Hp} {D p : Addr} {rs : List V} {S : Spc} {b : Blk} (h : SpAt H1 D rs S) (s : Same H1 H2) (n : H1 p = none) (hb : BAt H2 (.ref p) b) :
    SpAt (upd H2 D (.lst (rs ++ [.ref p]))) D (rs ++ [.ref p]) (S ++ [b]) := by
  have hD := s _ _ h.l
  have out := h.out
  refine ⟨upd_same, papp (pmonoM h.b fun v hv b z => z.mono (s.tups.trans (tups_set hD)) fun q xs e1 e2 => ?_) (.cons (hb.mono (tups_set hD) fun q xs e1 e2 => ?_) .nil), ?_⟩
  · rw [upd_ne (show q ≠ D from fun z => out (by rw [← z, ← e1]; exact hv))]
    exact s _ _ e2
  · injection e1 with e1
    subst e1
    rw [upd_ne (show p ≠ D from fun z => by rw [z, h.l] at n; cases n)]
    exact e2
  · rw [List.nodup_append]
    refine ⟨h.nd, by simp, fun a ha c hc e => ?_⟩
    rw [List.mem_singleton.mp hc] at e
    rw [e] at ha
    exact h.fresh n ha
theorem Fresh.push {H H1 : Hp} {rs : List V} {p : Addr} (h : Fresh H rs) (s : ∀ o, H p = some o → H1 p = some o) (n : H1 p = none) : Fresh H (rs ++ [.ref p]) := fun q z => by
  rcases List.mem_append.mp z with z | z
  · exact h q z
  · have e := List.mem_singleton.mp z
    injection e with e
    subst e
    cases hq : H q with
    | none => rfl
    | some o =>
      rw [s o hq] at n
      cases n
theorem fdiv_nat (a b : Nat) : (a : Int).fdiv (b : Int) = ((a / b : Nat) : Int) := by
  rw [Int.fdiv_eq_ediv_of_nonneg _ (by omega)]
  rfl
theorem fmod_nat (a b : Nat) : (a : Int).fmod (b : Int) = ((a % b : Nat) : Int) := by
  rw [Int.fmod_eq_emod_of_nonneg _ (by omega)]
  rfl
theorem seqIx_nat {n k : Nat} (h : k < n) : seqIndex? (k : Int) n = some k := by
  show (if (decide ((0 : Int) ≤ if (k : Int) < 0 then (k : Int) + n else k) && decide ((if (k : Int) < 0 then (k : Int) + n else k) < n)) = true then some (if (k : Int) < 0 then (k : Int) + n else k).toNat else none) = some k
  rw [if_neg (show ¬ (k : Int) < 0 by omega), decide_eq_true (show (0 : Int) ≤ k by omega), decide_eq_true (show (k : Int) < n by omega)]
  rfl
/-- a store into another list -/
theorem SpAt.other {H : Hp} {l p : Addr} {rs : List V} {s : Spc} {xs : List V} {o : HO} (h : SpAt H l rs s) (hp : H p = some (.lst xs)) (n1 : p ≠ l) (n2 : V.ref p ∉ rs) : SpAt (upd H p o) l rs s :=
  ⟨by rw [upd_ne n1.symm]; exact h.l, pmonoM h.b fun v hv b z => z.mono (tups_set hp) fun q xs e1 e2 => by
    rw [upd_ne (show q ≠ p from fun z => n2 (by rw [← z, ← e1]; exact hv))]
    exact e2, h.nd⟩
theorem refs_no_int {F : Hp → V → (Nat × Nat) → Prop} {H : Hp} {xs : List V} {fs : List (Nat × Nat)} (h : Paired (F H) xs fs) (hF : ∀ v x, F H v x → ∃ p, v = .ref p) : ∀ v ∈ xs, ∃ p, v = .ref p := fun v hv => by
  obtain ⟨k, hk⟩ := List.mem_iff_getElem?.mp hv
  obtain ⟨y, _, hy⟩ := pget' h hk
  exact hF v y hy
theorem fc_refs {H : Hp} {xs : List V} {fs : List (Nat × Nat)} (h : Paired (FcAt H) xs fs) : ∀ v ∈ xs, ∃ p, v = .ref p := refs_no_int (F := FcAt) h fun v x z => by
  obtain ⟨p, e, _⟩ := z
  exact ⟨p, e⟩
theorem no_int {xs : List V} (h : ∀ v ∈ xs, ∃ p, v = .ref p) : ∀ v ∈ xs, ∀ i : Int, v ≠ .int i := fun v hv i e => by
  obtain ⟨p, z⟩ := h v hv
  rw [e] at z
  cases z
theorem turns_face6 : ∀ f < 4, ∀ a < 4, (allTurns.filter fun t => tf t f == a).length = 6 := by decide +kernel
theorem filter_take_succ {α : Type} {l : List α} {i : Nat} {x : α} {p : α → Bool} (h : l[i]? = some x) : (l.take (i + 1)).filter p = (l.take i).filter p ++ (if p x then [x] else []) := by
  rw [List.take_add_one, h, List.filter_append]
  by_cases hp : p x
  · rw [if_pos hp]
    simp [hp]
  · rw [if_neg hp]
    simp [hp]
theorem tat_refs {H : Hp} {xs : List V} {ts : List Trn} (h : Paired (TAt H) xs ts) : ∀ v ∈ xs, ∃ p, v = .ref p := fun v hv => by
  obtain ⟨k, hk⟩ := List.mem_iff_getElem?.mp hv
  obtain ⟨y, _, p, e, _⟩ := pget' h hk
  exact ⟨p, e⟩
theorem dec_nat (a b : Nat) : decide ((intV a) = (intV b)) = (a == b) := by
  by_cases h : a = b
  · subst h
    simp
  · rw [beq_eq_false_iff_ne.mpr h]
    exact decide_eq_false (fun z => h (by injection z with z; omega))
theorem nodup_ne {α : Type} {l : List α} (h : l.Nodup) {i j : Nat} {x y : α} (hi : l[i]? = some x) (hj : l[j]? = some y) (n : i ≠ j) : x ≠ y := fun e => by
  subst e
  exact n (nd_ix h hi hj)
theorem ReelOk.isNot {R p : Addr} {H H' : Hp} {o : HO} (_ : ReelOk R H) (_ : H p = some o) (n : H' p = none) (h' : ReelOk R H') : p ≠ R := fun z => by
  obtain ⟨g, c, gs, cs, m, st, r⟩ := h'
  rw [z, r.r] at n
  cases n
/-- what was none of the reel's lists is none -/
def Aw (R : Addr) (H H' : Hp) : Prop := ∀ D, H D ≠ none → Away R D H → Away R D H'
theorem _root_.L2.Same.aw {R : Addr} {H H' : Hp} (s : Same H H') : Aw R H H' := fun _ _ z => z.same s
theorem Aw.trans {R : Addr} {H H1 H2 : Hp} (a : Aw R H H1) (k : Keep R H H1) (b : Aw R H1 H2) : Aw R H H2 := fun D n z => b D (fun y => n (k.free y z.ne)) (a D n z)
theorem Aw.set {R p : Addr} {H : Hp} {xs : List V} {o : HO} (hp : H p = some (.lst xs)) (n : NotReel xs) : Aw R H (upd H p o) := fun _ _ z => (z.set hp n).1
theorem Aw.fill {R L : Addr} {H : Hp} {o : HO} (a : Away R L H) : Aw R H (upd H L o) := fun _ _ z => z.fill' a
theorem Aw.keepB {R : Addr} {rs : List V} {H H' : Hp} {s : Spc} (k : KeepB rs H H') (hb : Paired (BAt H) rs s) (h4 : L4 s) : Aw R H H' := fun D _ z => by
  obtain ⟨g, c, gs, cs, m, st, r, q⟩ := z
  have no : ∀ {a : Addr} {xs : List V}, H a = some (.lst xs) → (∀ x l, xs = x :: l → ∃ v ∈ xs, ∃ i : Int, v = .int i) → V.ref a ∉ rs := fun {a xs} ha hx z => by
    obtain ⟨i, hi⟩ := List.mem_iff_getElem?.mp z
    obtain ⟨y, hy, p, vs, e1, e2, e3⟩ := pget' hb hi
    injection e1 with e1
    subst e1
    have q := lst_inj ha e2
    subst q
    obtain ⟨x, l, e, _, hv⟩ := notReel_blk e3 (by
      intro z
      have := h4 y (List.mem_of_getElem? hy)
      rw [z] at this
      cases this)
    obtain ⟨v, hv1, j, hj⟩ := hx x l e
    exact hv v hv1 j hj
  have nI : ∀ {a : Addr} {ns : List Int}, H a = some (.lst (ns.map V.int)) → V.ref a ∉ rs := fun {a ns} ha => no ha fun x l e => by
    cases ns with
    | nil => cases e
    | cons n t => exact ⟨_, List.mem_cons_self, n, rfl⟩
  have nR := no r.r fun _ _ _ => ⟨.int m, by simp, m, rfl⟩
  exact ⟨g, c, gs, cs, m, st, ⟨k _ _ r.r nR, k _ _ r.g (nI r.g), k _ _ r.c (nI r.c), r.gl, r.cl, r.g0, r.c0, r.ne, r.s0, r.s1⟩, q⟩
end Bk

namespace Bk
open PySem PySem.Spec PyProof.Rows L2
theorem cpow {i j : Int} (a : 0 ≤ j := by decide) (b : j ≤ 1000000 := by decide) (c : i.natAbs < 2 ^ 64 := by decide) : CPow i j := ⟨a, b, c⟩
theorem wideM : CMulW ((2 : Int) ^ (64 : Int).toNat) ((2 : Int) ^ (63 : Int).toNat) := wide_mul (a := 65) (b := 64) (by decide +kernel) (by decide +kernel) (by decide) (by decide) (by decide)
theorem M0 : (0 : Int) < 2 ^ (64 : Int).toNat * 2 ^ (63 : Int).toNat - 1 := by decide +kernel
local macro_rules | `(tactic| walk_at "g") => `(tactic| (repeat first | refine ⟨_, rfl, ?_⟩ | refine ⟨cpow, ?_⟩ | refine ⟨wideM, ?_⟩ | refine ⟨_, _, rfl, rfl, ?_⟩ | refine ⟨rfl, ?_⟩))
def topS (i : Nat) : Stmt := PySem.Challenge.pw_blockrooms_k12_lines_refused.main.body.getD i (.Pass ⟨0, 0, 0, 0⟩)
section
variable {P : Program} {w : World} {K : PySem.W.Frag} {mg : Str → Option Value} {base : Heap}
/-! ### _law_reel -/
abbrev s_law_reel : Stmt := topS 33
abbrev N_law_reel : List Str := ["script", "stir", "cell", "great"]
theorem sc_law_reel : FnScope N_law_reel ["script"] (defScope s_law_reel) := ⟨rfl, rfl, rfl, by decide +kernel, rfl, by decide +kernel, by decide +kernel⟩
theorem natAbs_M {x : Int} (h0 : 0 ≤ x) (h1 : x < 2 ^ (64 : Int).toNat * 2 ^ (63 : Int).toNat - 1) : x.natAbs < 2 ^ 127 := by
  have e : (2 : Int) ^ (64 : Int).toNat * 2 ^ (63 : Int).toNat - 1 = 170141183460469231731687303715884105727 := by decide +kernel
  have e2 : (2 : Nat) ^ 127 = 170141183460469231731687303715884105728 := by decide +kernel
  rw [e] at h1
  rw [e2]
  omega
def spReel (K : PySem.W.Frag) : Sp := fun vs H Q _ => ∃ (a : Addr) (ns : List Int), vs = [.ref a] ∧ SqL K H a (ns.map V.int) ∧ ns.length ≤ 63 ∧
  ∀ H' R, Same H H' → H R = none → ReelOk R H' → Q (.ref R) H'
theorem ok_law_reel {f : Addr} {fd : FuncData} (F : Fun K "_law_reel" "_law_reel" s_law_reel f fd) : FnOk P w K mg base CX0 1 f fd ["script"] (spReel K) := by
  refine F.ok sc_law_reel (fun vs H Q E h => ?_) (fun cdv A outer s H vs Q E hr h => ?_)
  · obtain ⟨a, ns, rfl, _⟩ := h
    rfl
  · obtain ⟨a, ns, rfl, hS, hlen, q⟩ := h
    have nd := sc_law_reel.nd
    refine ⟨_, (pss_cons (ps_set (i := 1) nd rfl (.inl rfl) (pe_op op_pow pe_int pe_int))
      (pss_cons (ps_for PassesOwn.never rfl (kPiL K rfl (pi_list (pe_slice (kSlL K rfl) (pv 0) po_none (po_some pe_int)))) (pg_name (i := 2) nd rfl (.inl rfl)) (pss_one (ps_set (i := 1) nd rfl (.inl rfl) (pe_op op_modN (pe_op op_add (pe_op op_add (pe_op op_mulW (pv 1) (pv 1)) (pe_op op_modN (pv 2) pe_int)) pe_int) (pe_op op_sub (pe_op op_mulW (pe_op op_pow pe_int pe_int) (pe_op op_pow pe_int pe_int)) pe_int)))))
      (pss_cons (ps_setLc (i := 3) (own := [("cell", 2)]) (g := gName 2) rfl nd rfl rfl (sw_true rfl rfl rfl (by decide +kernel)) (kPiL K rfl (pi_list (pe_slice (kSlL K rfl) (pv 0) po_none (po_some pe_int)))) (blkOk_by (own := [("cell", 2)]) (N := N_law_reel) (sc := defScope s_law_reel) (by decide +kernel)) (fun _ _ _ _ _ => (pg_name (i := 2) nd rfl (Or.inl rfl))) (fun _ _ _ _ _ => (pts_one (pt_cmpR op_ge (pv 2) (pe_op op_pow pe_int pe_int) (nomark _)))) (fun _ _ _ _ _ => (pe_op op_sub (pv 2) (pe_op op_pow pe_int pe_int))))
      (pss_one (ps_ret (pe_lst (pa_cons (pv 3) (pa_cons (pe_op op_cat (pe_lc (own := [("cell", 2)]) (g := gName 2) (tt := tYes) rfl nd (kPiL K rfl (pi_list (pe_slice (kSlL K rfl) (pv 0) po_none (po_some pe_int)))) (blkOk_by (own := [("cell", 2)]) (N := N_law_reel) (sc := defScope s_law_reel) (by decide +kernel)) (fun _ _ _ _ _ => (pg_name (i := 2) nd rfl (Or.inl rfl))) (fun _ _ _ _ _ => pts_nil) (fun _ _ _ _ _ => (pe_op op_modN (pv 2) pe_int))) (pe_lst (pa_cons pe_int pa_nil))) (pa_cons pe_int (pa_cons (pv 1) pa_nil)))))))))), ?_⟩
    refine ⟨3, 60, rfl, rfl, ⟨by decide, by decide, by decide⟩, ?_⟩
    refine ⟨.ref a, rfl, 63, rfl, a, ns.map V.int, rfl, hS, fun c nc => ?_⟩
    refine ⟨c, rfl, ⟨_, .inl (.inl upd_same)⟩, ?_⟩
    have s1 : Same H (upd H c (.lst (cutV (ns.map V.int) none (some 63)))) := same_new nc
    have e63 : cutV (ns.map V.int) none (some 63) = ns.map V.int := by
      rw [show (63 : Int) = ((63 : Nat) : Int) from rfl, cut_to]
      exact List.take_of_length_le (by rw [List.length_map]; exact hlen)
    rw [e63] at s1 ⊢
    refine for_list (xs := ns.map V.int) (fun i σ H3 => ∃ st y, σ = [some (.ref a), some (.int st), y, none] ∧ 0 ≤ st ∧ st.natAbs < 2 ^ 127 ∧ H3 = upd H c (.lst (ns.map V.int))) ⟨3 ^ 60, none, rfl, by decide +kernel, by decide +kernel, rfl⟩ ?_ ?_ ?_
    · rintro i σ H3 _ ⟨st, y, rfl, _, _, rfl⟩
      exact .inl (.inl upd_same)
    · rintro i x σ H3 hx ⟨st, y, rfl, h0, h1, rfl⟩
      obtain ⟨k, rfl, hk⟩ := get_map_int hx
      walk_at "g"
      refine ⟨wide_mul h1 h1 (by decide) (by decide) (by decide), ?_⟩
      walk_at "g"
      refine ⟨(show (1000000000000000003 : Int) ≠ 0 by decide), ?_⟩
      walk_at "g"
      refine ⟨Int.ne_of_gt M0, ?_⟩
      exact ⟨_, _, rfl, (fmod_pos M0).1, natAbs_M (fmod_pos M0).1 (fmod_pos M0).2, rfl⟩
    · rintro σ H3 ⟨st, y, rfl, h0, h1, rfl⟩
      walk_at "g"
      -- great
      refine ⟨a, ns.map V.int, rfl, s1.seq hS, fun c2 nc2 => ?_⟩
      rw [e63]
      have s2 : Same H (upd (upd H c (.lst (ns.map V.int))) c2 (.lst (ns.map V.int))) := s1.trans (same_new nc2)
      have h2 : (upd (upd H c (.lst (ns.map V.int))) c2 (.lst (ns.map V.int))) c2 = some (.lst (ns.map V.int)) := upd_same
      generalize upd (upd H c (.lst (ns.map V.int))) c2 (.lst (ns.map V.int)) = H2 at s2 h2 ⊢
      refine ⟨c2, rfl, ⟨_, .inl (.inl h2)⟩, fun D nD => ?_⟩
      have nc2D : c2 ≠ D := ne_of_none h2 nD
      refine lc_list (xs := ns.map V.int) (fun i H3 => ∃ gs : List Int, (∀ x ∈ gs, 0 ≤ x) ∧ gs.length ≤ i ∧ H3 = upd H2 D (.lst (gs.map V.int))) ⟨[], by simp, Nat.le_refl _, rfl⟩ ?_ ?_ ?_
      · rintro i H3 _ ⟨gs, _, _, rfl⟩
        exact .inl (.inl (by rw [upd_ne nc2D]; exact h2))
      · rintro i x H3 hx ⟨gs, g0, gl, rfl⟩
        obtain ⟨k, rfl, hk⟩ := get_map_int hx
        have hi : i < ns.length := (List.getElem?_eq_some_iff.mp hk).1
        refine ⟨rfl, ?_⟩
        walk_at "g"
        refine ite2 (fun e => ?_) (fun e => ?_)
        · have hk0 : (10 : Int) ^ (18 : Int).toNat ≤ k := of_decide_eq_true e
          walk_at "g"
          refine ⟨_, upd_same, small1000 (by rw [List.length_map]; omega), gs ++ [k - 10 ^ (18 : Int).toNat], ?_, ?_, ?_⟩
          · intro x hx
            rcases List.mem_append.mp hx with h | h
            · exact g0 x h
            · rw [List.mem_singleton.mp h]
              exact Int.sub_nonneg_of_le hk0
          · rw [List.length_append]
            exact Nat.add_le_add_right gl 1
          · rw [upd_upd, List.map_append]
            rfl
        · exact ⟨gs, g0, Nat.le_succ_of_le gl, rfl⟩
      · rintro H3 ⟨gs, g0, gl, rfl⟩
        have s3 : Same H (upd H2 D (.lst (gs.map V.int))) := s2.trans (same_new nD)
        have h3 : (upd H2 D (.lst (gs.map V.int))) D = some (.lst (gs.map V.int)) := upd_same
        generalize upd H2 D (.lst (gs.map V.int)) = H3 at s3 h3 ⊢
        walk_at "g"
        -- cells
        refine ⟨a, ns.map V.int, rfl, s3.seq hS, fun c3 nc3 => ?_⟩
        rw [e63]
        have s4 : Same H3 (upd H3 c3 (.lst (ns.map V.int))) := same_new nc3
        have h4 : (upd H3 c3 (.lst (ns.map V.int))) c3 = some (.lst (ns.map V.int)) := upd_same
        generalize upd H3 c3 (.lst (ns.map V.int)) = H4 at s4 h4 ⊢
        refine ⟨c3, rfl, ⟨_, .inl (.inl h4)⟩, fun D2 nD2 => ?_⟩
        have nc3D : c3 ≠ D2 := ne_of_none h4 nD2
        refine lc_list (xs := ns.map V.int) (fun i H5 => ∃ cs : List Int, (∀ x ∈ cs, 0 ≤ x ∧ x < 1000003) ∧ cs.length = i ∧ H5 = upd H4 D2 (.lst (cs.map V.int))) ⟨[], by simp, rfl, rfl⟩ ?_ ?_ ?_
        · rintro i H5 _ ⟨cs, _, _, rfl⟩
          exact .inl (.inl (by rw [upd_ne nc3D]; exact h4))
        · rintro i x H5 hx ⟨cs, g0, rfl, rfl⟩
          obtain ⟨k, rfl, hk⟩ := get_map_int hx
          have hi : cs.length < ns.length := (List.getElem?_eq_some_iff.mp hk).1
          refine ⟨rfl, ?_⟩
          walk_at "g"
          refine ⟨(show (1000003 : Int) ≠ 0 by decide), ?_⟩
          refine ⟨_, upd_same, small1000 (by rw [List.length_map]; omega), cs ++ [k.fmod 1000003], ?_, by rw [List.length_append]; rfl, ?_⟩
          · intro x hx
            rcases List.mem_append.mp hx with h | h
            · exact g0 x h
            · rw [List.mem_singleton.mp h]
              exact fmod_pos (by decide)
          · rw [upd_upd, List.map_append]
            rfl
        · rintro H5 ⟨cs, c0, cl, rfl⟩
          rw [List.length_map] at cl
          have s5 : Same H3 (upd H4 D2 (.lst (cs.map V.int))) := s4.trans (same_new nD2)
          have h5 : (upd H4 D2 (.lst (cs.map V.int))) D2 = some (.lst (cs.map V.int)) := upd_same
          generalize upd H4 D2 (.lst (cs.map V.int)) = H5 at s5 h5 ⊢
          refine ⟨Nat.le_of_lt (small1000 (by show 1 ≤ 1000; decide)), fun p np => ?_⟩
          have nDp : D2 ≠ p := ne_of_none h5 np
          refine ⟨D2, p, _, _, rfl, rfl, by rw [upd_ne nDp]; exact h5, upd_same, by rw [List.length_map]; exact Nat.le_of_lt (small1000 (by show cs.length + 1 ≤ 1000; omega)), fun p2 np2 => ?_⟩
          have s6 : Same H3 (upd (upd H5 p (.lst [.int 41])) p2 (.lst (cs.map V.int ++ [.int 41]))) := (s5.trans (same_new np)).trans (same_new np2)
          have h6 : (upd (upd H5 p (.lst [.int 41])) p2 (.lst (cs.map V.int ++ [.int 41]))) p2 = some (.lst ((cs ++ [41]).map V.int)) := by
            rw [upd_same, List.map_append]
            rfl
          generalize upd (upd H5 p (.lst [.int 41])) p2 (.lst (cs.map V.int ++ [.int 41])) = H6 at s6 h6 ⊢
          walk_at "g"
          refine ⟨Nat.le_of_lt (small1000 (by show 4 ≤ 1000; decide)), fun R nR => ?_⟩
          refine q _ R ((s3.trans s6).trans (same_new nR)) (s3.trans s6 |>.free nR) ⟨D, p2, gs, cs ++ [41], 0, st, upd_same, (same_new nR) _ _ (s6 _ _ h3), (same_new nR) _ _ h6, ?_, ?_, g0, ?_, by simp, h0, h1⟩
          · rw [List.length_map] at gl
            omega
          · rw [List.length_append]
            show cs.length + 1 ≤ 64
            omega
          · intro x hx
            rcases List.mem_append.mp hx with h | h
            · exact c0 x h
            · rw [List.mem_singleton.mp h]
              decide
/-! ### _law_draw -/
theorem dp_ints {H : Hp} : ∀ ns : List Int, DpAll K H (ns.map V.int) (ns.map PyData.int)
  | [] => .nil
  | n :: ns => .cons (.int n) (dp_ints ns)
theorem ints_lay : ∀ ns : List Int, PyData.canLayAll0 (ns.map PyData.int) = true ∧ PyData.depthAll (ns.map PyData.int) ≤ 1
  | [] => by simp [PyData.canLayAll0, PyData.depthAll]
  | n :: ns => by
    have h := ints_lay ns
    simp only [List.map_cons, PyData.canLayAll0, PyData.depthAll, PyData.canLay0, PyData.depth, Bool.true_and]
    exact ⟨h.1, by omega⟩
theorem ints_shaped (ns : List Int) : SeqAt.shaped (.list (ns.map PyData.int)) = true := by
  have h := ints_lay ns
  have h2 : PyData.depth (.list (ns.map PyData.int)) ≤ 64 := by
    simp only [PyData.depth]
    omega
  show (PyData.canLay0 (.list (ns.map PyData.int)) && decide (PyData.depth (.list (ns.map PyData.int)) ≤ 64)) = true
  rw [Bool.and_eq_true]
  exact ⟨by simp only [PyData.canLay0]; exact h.1, decide_eq_true h2⟩
abbrev s_law_draw : Stmt := topS 34
abbrev N_law_draw : List Str := ["reel", "many", "rest", "told", "stir"]
theorem sc_law_draw : FnScope N_law_draw ["reel", "many"] (defScope s_law_draw) := ⟨rfl, rfl, rfl, by decide +kernel, rfl, by decide +kernel, by decide +kernel⟩
def spDraw : Sp := fun vs H Q _ => ∃ (R : Addr) (m : Int), vs = [.ref R, .int m] ∧ 0 < m ∧ m ≤ 1000 ∧ ReelOk R H ∧
  ∀ H' r, Keep R H H' → ReelOk R H' → (∀ D, H D ≠ none → Away R D H → Away R D H') → 0 ≤ r → r < m → Q (.int r) H'
theorem ok_law_draw {f : Addr} {fd : FuncData} (F : Fun K "_law_draw" "_law_draw" s_law_draw f fd) (m_len : mg "len" = none) (m_int : mg "int" = none) : FnOk P w K mg base CX0 1 f fd ["reel", "many"] spDraw := by
  refine F.ok sc_law_draw (fun vs H Q E h => ?_) (fun cdv A outer s H vs Q E hr h => ?_)
  · obtain ⟨R, m, rfl, _⟩ := h
    rfl
  · obtain ⟨R, m, rfl, hm0, hm1, ⟨g, c, gs, cs, n, st, r⟩, q⟩ := h
    have nd := sc_law_draw.nd
    refine ⟨_, (pss_cons (ps_if (pt_cmpR (kNeD K rfl hr.units) (pe_ix (kIxL K rfl) (pv 0) pe_int (fun _ _ => rfl)) (pe_lst pa_nil) (nomark _)) (pss_cons (ps_set (i := 2) nd rfl (.inl rfl) (pe_ix (kIxL K rfl) (pe_ix (kIxL K rfl) (pv 0) pe_int (fun _ _ => rfl)) pe_int (fun _ _ => rfl)))
      (pss_cons (ps_asg (pe_op op_cat (pe_op op_rep (pe_lst (pa_cons (pe_op op_fdivN (pv 2) (pv 1)) pa_nil)) (pe_callTy call_int1 (by rfl) m_int (by decide +kernel) (pa_cons (pe_cmpR op_ge (pv 2) (pv 1) (nomark _)) pa_nil))) (pe_slice (kSlL K rfl) (pe_ix (kIxL K rfl) (pv 0) pe_int (fun _ _ => rfl)) (po_some pe_int) po_none)) (pg_sub (pv 0) pe_int set_list))
      (pss_one (ps_ret (pe_op op_modN (pv 2) (pv 1)))))) pss_nil)
      (pss_cons (ps_asg (pe_op op_add (pe_ix (kIxL K rfl) (pv 0) pe_int (fun _ _ => rfl)) pe_int) (pg_sub (pv 0) pe_int set_list))
      (pss_cons (ps_set (i := 3) nd rfl (.inl rfl) (pe_ix (kIxL K rfl) (pe_ix (kIxL K rfl) (pv 0) pe_int (fun _ _ => rfl)) (pe_op op_modN (pe_ix (kIxL K rfl) (pv 0) pe_int (fun _ _ => rfl)) (pe_callB (kLen K rfl) (by rfl) m_len (by decide +kernel) (pa_cons (pe_ix (kIxL K rfl) (pv 0) pe_int (fun _ _ => rfl)) pa_nil))) (fun _ _ => rfl)))
      (pss_cons (ps_set (i := 4) nd rfl (.inl rfl) (pe_op op_add (pe_op op_add (pe_op op_mulW (pe_ix (kIxL K rfl) (pv 0) pe_int (fun _ _ => rfl)) (pe_ix (kIxL K rfl) (pv 0) pe_int (fun _ _ => rfl))) (pe_op op_mul (pe_op op_add (pv 3) pe_int) pe_int)) (pe_op op_mul (pe_ix (kIxL K rfl) (pv 0) pe_int (fun _ _ => rfl)) pe_int)))
      (pss_cons (ps_asg (pe_op op_modN (pv 4) (pe_op op_sub (pe_op op_mulW (pe_op op_pow pe_int pe_int) (pe_op op_pow pe_int pe_int)) pe_int)) (pg_sub (pv 0) pe_int set_list))
      (pss_one (ps_ret (pe_op op_modN (pe_op op_fdivW (pe_ix (kIxL K rfl) (pv 0) pe_int (fun _ _ => rfl)) (pe_op op_pow pe_int pe_int)) (pv 1))))))))), ?_⟩
    refine ⟨.ref R, rfl, R, _, 0, .ref g, rfl, rfl, .inl (.inl r.r), rfl, Nat.zero_le _, fun p np => ?_⟩
    have s1 : Same H (upd H p (.lst [])) := same_new np
    refine ⟨.list (gs.map PyData.int), .list [], .lst (.inl (.inl (s1 _ _ r.g))) (dp_ints gs), .lst (.inl (.inl upd_same)) .nil, ints_shaped gs, by decide, ?_⟩
    generalize upd H p (.lst []) = H1 at s1 ⊢
    walk_at "g"
    cases gs with
    | cons x gs' =>
      refine iteT ?_
      walk_at "g"
      refine ⟨R, _, 0, .ref g, rfl, rfl, .inl (.inl (s1 _ _ r.r)), rfl, ?_⟩
      walk_at "g"
      refine ⟨g, _, 0, .int x, rfl, rfl, .inl (.inl (s1 _ _ r.g)), atI_nat (j := 0) rfl, ?_⟩
      walk_at "g"
      have mb : CDivN x m := ⟨by omega, by omega⟩
      refine ⟨mb, Nat.le_of_lt (small1000 (by show 1 ≤ 1000; decide)), fun p1 np1 => ?_⟩
      have s2 : Same H (upd H1 p1 (.lst [.int (x.fdiv m)])) := s1.trans (same_new np1)
      have h2 : (upd H1 p1 (.lst [.int (x.fdiv m)])) p1 = some (.lst [.int (x.fdiv m)]) := upd_same
      generalize upd H1 p1 (.lst [.int (x.fdiv m)]) = H2 at s2 h2 ⊢
      walk_at "g"
      refine .inr ⟨_, rfl, ?_⟩
      have hk : ∃ kk : Nat, kk ≤ 1 ∧ (if decide (m ≤ x) = true then (1 : Int) else 0) = (kk : Int) := by
        by_cases h : m ≤ x
        · exact ⟨1, Nat.le_refl _, by rw [if_pos (decide_eq_true h)]; rfl⟩
        · exact ⟨0, Nat.zero_le _, by rw [if_neg (by rw [decide_eq_true_eq]; exact h)]; rfl⟩
      obtain ⟨kk, hk1, hk⟩ := hk
      rw [hk]
      have hx0 : 0 ≤ x := r.g0 x List.mem_cons_self
      have hq0 : 0 ≤ x.fdiv m := Int.fdiv_nonneg hx0 (by omega)
      refine ⟨p1, _, _, rfl, rfl, h2, by omega, by omega, ?_, fun p2 np2 => ?_⟩
      · show 1 * (kk : Int).toNat ≤ sizeLine
        exact Nat.le_of_lt (small1000 (by omega))
      have el : (List.replicate (kk : Int).toNat [V.int (x.fdiv m)]).flatten = (List.replicate kk (x.fdiv m)).map V.int := by
        rw [Int.toNat_natCast]
        match kk, hk1 with
        | 0, _ => rfl
        | 1, _ => rfl
      rw [el]
      have s3 : Same H (upd H2 p2 (.lst ((List.replicate kk (x.fdiv m)).map V.int))) := s2.trans (same_new np2)
      have h3 : (upd H2 p2 (.lst ((List.replicate kk (x.fdiv m)).map V.int))) p2 = some (.lst ((List.replicate kk (x.fdiv m)).map V.int)) := upd_same
      generalize upd H2 p2 (.lst ((List.replicate kk (x.fdiv m)).map V.int)) = H3 at s3 h3 ⊢
      refine ⟨.ref R, rfl, R, _, 0, .ref g, rfl, rfl, .inl (.inl (s3 _ _ r.r)), rfl, ?_⟩
      walk_at "g"
      refine ⟨g, _, rfl, .inl (.inl (s3 _ _ r.g)), fun p3 np3 => ?_⟩
      rw [cut_from1]
      have s4 : Same H (upd H3 p3 (.lst (((x :: gs').map V.int).drop 1))) := s3.trans (same_new np3)
      have h4 : (upd H3 p3 (.lst (((x :: gs').map V.int).drop 1))) p3 = some (.lst (gs'.map V.int)) := upd_same
      have h4' := same_new (o := .lst (((x :: gs').map V.int).drop 1)) np3 _ _ h3
      generalize upd H3 p3 (.lst (((x :: gs').map V.int).drop 1)) = H4 at s4 h4 h4' ⊢
      have gl := r.gl
      rw [List.length_cons] at gl
      refine ⟨p2, p3, _, _, rfl, rfl, h4', h4, ?_, fun p4 np4 => ?_⟩
      · rw [List.length_map, List.length_map, List.length_replicate]
        exact Nat.le_of_lt (small1000 (by omega))
      rw [← List.map_append]
      have s5 : Same H (upd H4 p4 (.lst ((List.replicate kk (x.fdiv m) ++ gs').map V.int))) := s4.trans (same_new np4)
      have h5 : (upd H4 p4 (.lst ((List.replicate kk (x.fdiv m) ++ gs').map V.int))) p4 = some (.lst ((List.replicate kk (x.fdiv m) ++ gs').map V.int)) := upd_same
      have n4 : p4 ≠ R := fun z => by
        rw [z, s4 _ _ r.r] at np4
        cases np4
      generalize upd H4 p4 (.lst ((List.replicate kk (x.fdiv m) ++ gs').map V.int)) = H5 at s5 h5 ⊢
      walk_at "g"
      refine ⟨R, _, 0, 0, rfl, rfl, s5 _ _ r.r, rfl, ?_⟩
      walk_at "g"
      have nc : c ≠ R := ne_of r.c r.r (by
        intro z
        have q := List.map_eq_cons_iff.mp (HO.lst.inj z)
        obtain ⟨a, l, _, e, _⟩ := q
        cases e)
      have new : Reel R p4 c (List.replicate kk (x.fdiv m) ++ gs') cs n st (upd H5 R (.lst [.ref p4, .ref c, .int n, .int st])) := ?new
      refine ⟨by omega, q _ _ ((Keep.of s5).trans keep_set) ⟨p4, c, _, cs, n, st, new⟩ (fun D hD hA => ?_) (fmod_pos hm0).1 (fmod_pos hm0).2⟩
      · obtain ⟨g2, c2, _, _, _, _, r2, z1, z2, z3⟩ := hA
        have e := lst_inj r.r r2.r
        injection e with _ e
        injection e with e _
        injection e with e
        subst e
        refine ⟨p4, c, _, _, _, _, new, z1, fun z => hD ?_, z3⟩
        rw [z]
        exact s4.free np4
      refine ⟨upd_same, by rw [upd_ne n4]; exact h5, by rw [upd_ne nc]; exact s5 _ _ r.c, ?_, r.cl, ?_, r.c0, r.ne, r.s0, r.s1⟩
      · rw [List.length_append, List.length_replicate]
        omega
      · intro y hy
        rcases List.mem_append.mp hy with h | h
        · rw [List.eq_of_mem_replicate h]
          exact hq0
        · exact r.g0 y (List.mem_cons_of_mem _ h)
    | nil =>
      refine iteF ?_
      walk_at "g"
      refine ⟨R, _, 2, .int n, rfl, rfl, .inl (.inl (s1 _ _ r.r)), rfl, ?_⟩
      walk_at "g"
      refine ⟨R, _, 2, 2, rfl, rfl, s1 _ _ r.r, rfl, ?_⟩
      have h2 : (upd H1 R (.lst [.ref g, .ref c, .int (n + 1), .int st])) R = some (.lst [.ref g, .ref c, .int (n + 1), .int st]) := upd_same
      have ng : g ≠ R := ne_of r.g r.r (by intro z; cases z)
      have nc : c ≠ R := ne_of r.c r.r (by
        intro z
        have q := List.map_eq_cons_iff.mp (HO.lst.inj z)
        obtain ⟨a, l, _, e, _⟩ := q
        cases e)
      have k2 : Keep R H (upd H1 R (.lst [.ref g, .ref c, .int (n + 1), .int st])) := (Keep.of s1).trans keep_set
      show tSeq _ _ _ _ (upd H1 R (.lst [.ref g, .ref c, .int (n + 1), .int st]))
      generalize upd H1 R (.lst [.ref g, .ref c, .int (n + 1), .int st]) = H2 at k2 h2 ⊢
      have hc2 : H2 c = some (.lst (cs.map V.int)) := k2 _ _ r.c nc
      have hg2 : H2 g = some (.lst []) := k2 _ _ r.g ng
      have cpos : (0 : Int) < (cs.length : Int) := by
        have := List.length_pos_iff.mpr r.ne
        omega
      walk_at "g"
      refine ⟨R, _, 1, .ref c, rfl, rfl, .inl (.inl h2), rfl, ?_⟩
      walk_at "g"
      refine ⟨R, _, 2, .int (n + 1), rfl, rfl, .inl (.inl h2), rfl, ?_⟩
      walk_at "g"
      refine ⟨R, _, 1, .ref c, rfl, rfl, .inl (.inl h2), rfl, ?_⟩
      refine ⟨c, _, rfl, .inl (.inl (.inl hc2)), ?_⟩
      walk_at "g"
      rw [List.length_map]
      refine ⟨Int.ne_of_gt cpos, ?_⟩
      have fm := fmod_pos (a := n + 1) cpos
      obtain ⟨told, htold⟩ : ∃ t, cs[((n + 1).fmod (cs.length : Int)).toNat]? = some t := ⟨_, List.getElem?_eq_getElem (by omega)⟩
      have ct := r.c0 told (List.mem_of_getElem? htold)
      refine ⟨c, _, _, .int told, rfl, rfl, .inl (.inl hc2), at_of (j := ((n + 1).fmod (cs.length : Int)).toNat) (by omega) (by rw [List.getElem?_map, htold]; rfl), ?_⟩
      walk_at "g"
      refine ⟨R, _, 3, .int st, rfl, rfl, .inl (.inl h2), rfl, ?_⟩
      walk_at "g"
      refine ⟨R, _, 3, .int st, rfl, rfl, .inl (.inl h2), rfl, ?_⟩
      walk_at "g"
      refine ⟨wide_mul r.s1 r.s1 (by decide) (by decide) (by decide), ?_⟩
      walk_at "g"
      refine ⟨.inr (by decide), ?_⟩
      walk_at "g"
      refine ⟨R, _, 2, .int (n + 1), rfl, rfl, .inl (.inl h2), rfl, ?_⟩
      walk_at "g"
      refine ⟨.inr (by decide), ?_⟩
      walk_at "g"
      refine ⟨Int.ne_of_gt M0, ?_⟩
      have fs := fmod_pos (a := st * st + (told + 7) * 69621 + (n + 1) * 1000003) M0
      walk_at "g"
      refine ⟨R, _, 3, 3, rfl, rfl, h2, rfl, ?_⟩
      walk_at "g"
      refine ⟨R, _, 3, _, rfl, rfl, .inl (.inl upd_same), rfl, ?_⟩
      walk_at "g"
      refine ⟨wide_div (b := 41) (by decide +kernel) (by decide +kernel) (by decide) (by decide), ?_⟩
      walk_at "g"
      have k3 := k2.trans (keep_set (o := .lst [.ref g, .ref c, .int (n + 1), .int ((st * st + (told + 7) * 69621 + (n + 1) * 1000003).fmod (2 ^ (64 : Int).toNat * 2 ^ (63 : Int).toNat - 1))]))
      have new : Reel R g c [] cs (n + 1) _ (upd H2 R (.lst [.ref g, .ref c, .int (n + 1), .int ((st * st + (told + 7) * 69621 + (n + 1) * 1000003).fmod (2 ^ (64 : Int).toNat * 2 ^ (63 : Int).toNat - 1))])) := ⟨upd_same, k3 _ _ r.g ng, k3 _ _ r.c nc, r.gl, r.cl, r.g0, r.c0, r.ne, fs.1, natAbs_M fs.1 fs.2⟩
      refine ⟨by omega, q _ _ k3 ⟨g, c, [], cs, n + 1, _, new⟩ (fun D hD hA => ?_) (fmod_pos hm0).1 (fmod_pos hm0).2⟩
      obtain ⟨g2, c2, _, _, _, _, r2, z1, z2, z3⟩ := hA
      have e := lst_inj r.r r2.r
      injection e with e1 e
      injection e with e _
      injection e with e
      injection e1 with e1
      subst e e1
      exact ⟨g, c, _, _, _, _, new, z1, z2, z3⟩
end
end Bk

namespace Bk
open PySem PySem.Spec PyProof.Rows L2
local macro_rules | `(tactic| walk_at "g") => `(tactic| (repeat first | refine ⟨_, rfl, ?_⟩ | refine ⟨cpow, ?_⟩ | refine ⟨wideM, ?_⟩ | refine ⟨_, _, rfl, rfl, ?_⟩ | refine ⟨rfl, ?_⟩))
section
variable {P : Program} {w : World} {K : PySem.W.Frag} {mg : Str → Option Value} {base : Heap}
/-! ### _law_turns -/
abbrev s_law_turns : Stmt := topS 36
abbrev N_law_turns : List Str := ["found", "a", "b", "c"]
theorem sc_law_turns : FnScope N_law_turns [] (defScope s_law_turns) := ⟨rfl, rfl, rfl, by decide +kernel, rfl, by decide +kernel, by decide +kernel⟩
def TsAt (H : Hp) (p : Addr) (ts : List Trn) : Prop := ∃ rs, H p = some (.lst rs) ∧ Paired (TAt H) rs ts
def spTurns : Sp := fun vs H Q _ => vs = [] ∧ ∀ H' p, Same H H' → H p = none → TsAt H' p allTurns → Q (.ref p) H'
theorem intV_eq (a b : Nat) : eqV (intV a) (intV b) = (a == b) := by
  show ((a : Int) == (b : Int)) = (a == b)
  by_cases h : a = b
  · subst h
    simp
  · rw [beq_eq_false_iff_ne.mpr h]
    exact beq_eq_false_iff_ne.mpr (by omega)
theorem ne_int (a b : Nat) : (!decide ((V.int (a : Int)) = V.int (b : Int))) = !(a == b) := by
  by_cases h : a = b
  · subst h
    simp
  · rw [beq_eq_false_iff_ne.mpr h]
    rw [decide_eq_false (fun z => h (by injection z with z; omega))]
theorem six_sub {a b c : Nat} (h : (c < 4) ∧ a < 4 ∧ b < 4) (hb : (b == a) = false) (hc : (a == c || b == c) = false) : (6 : Int) - a - b - c = ((6 - a - b - c : Nat) : Int) := by
  simp at hb hc
  omega
theorem bs_lt {a b : Nat} (h : b ∈ bsOf a) : b < 4 ∧ (b == a) = false := by
  unfold bsOf at h
  rw [List.mem_filter, List.mem_range] at h
  exact ⟨h.1, by simpa using h.2⟩
theorem turns_few : ∀ a < 4, ∀ j < 5, (turnsTo a ++ ((bsOf a).take j).flatMap (turnsAB a)).length ≤ 24 := by decide +kernel
theorem bs_len (a : Nat) : (bsOf a).length ≤ 4 := by
  have := List.length_filter_le (fun b => !(b == a)) (List.range 4)
  rw [List.length_range] at this
  exact this
theorem ok_law_turns {f : Addr} {fd : FuncData} (F : Fun K "_law_turns" "_law_turns" s_law_turns f fd) (m_range : mg "range" = none) : FnOk P w K mg base CX0 1 f fd [] spTurns := by
  refine F.ok sc_law_turns (fun vs H Q E h => ?_) (fun cdv A outer s H vs Q E hr h => ?_)
  · obtain ⟨rfl, _⟩ := h
    rfl
  · obtain ⟨rfl, q⟩ := h
    have nd := sc_law_turns.nd
    refine ⟨_, (pss_cons (ps_set (i := 0) nd rfl (.inl rfl) (pe_lst pa_nil))
      (pss_cons (ps_for PassesOwn.never rfl (pi_range1 (by rfl) m_range (pa_cons pe_int pa_nil)) (pg_name (i := 1) nd rfl (.inr rfl)) (pss_one (ps_for PassesOwn.never rfl (kPiL K rfl (pi_list (pe_lc (own := [("b", 2)]) (g := gName 2) rfl nd (pi_range1 (by rfl) m_range (pa_cons pe_int pa_nil)) (blkOk_by (own := [("b", 2)]) (N := N_law_turns) (sc := defScope s_law_turns) (by decide +kernel)) (fun _ _ _ _ _ => (pg_name (i := 2) nd rfl (Or.inl rfl))) (fun _ _ _ _ _ => (pts_one (pt_cmpR op_ne (pv 2) (pv 1) (nomark _)))) (fun _ _ _ _ _ => (pv 2))))) (pg_name (i := 2) nd rfl (.inr rfl)) (pss_one (ps_expr (kBM K rfl (pe_bm PySem.F.plainAttrs_list PySem.F.slot_list_extend PySem.F.type_list_extend mt_extend (pv 0) (pa_cons (pe_lc (own := [("c", 3)]) (g := gName 3) rfl nd (pi_range1 (by rfl) m_range (pa_cons pe_int pa_nil)) (blkOk_by (own := [("c", 3)]) (N := N_law_turns) (sc := defScope s_law_turns) (by decide +kernel)) (fun _ _ _ _ _ => (pg_name (i := 3) nd rfl (Or.inl rfl))) (fun _ _ _ _ _ => (pts_one (pt_cmpR (kNotIn K rfl) (pv 3) (pe_tupF (pa_cons (pv 1) (pa_cons (pv 2) pa_nil))) (by rfl)))) (fun _ _ _ _ _ => (pe_tupF (pa_cons (pv 1) (pa_cons (pv 2) (pa_cons (pv 3) (pa_cons (pe_op op_sub (pe_op op_sub (pe_op op_sub pe_int (pv 1)) (pv 2)) (pv 3)) pa_nil))))))) pa_nil))))))))
      (pss_one (ps_ret (pv 0))))), ?_⟩
    refine ⟨Nat.zero_le _, fun p np => ⟨4, rfl, by decide, by decide, ?_⟩⟩
    refine for_range (lo := 0) (n := 4) (fun i σ H' => ∃ y1 y2 rs, σ = [some (.ref p), y1, y2, none] ∧ H' p = some (.lst rs) ∧ Paired (TAt H') rs (turnsTo i) ∧ Same H H') ⟨none, none, [], rfl, upd_same, .nil, same_new np⟩ ?_ ?_
    · rintro a σ H1 ha ⟨y1, y2, rs, rfl, h1, t1, s1⟩
      rw [Int.zero_add]
      refine ⟨4, rfl, by decide, by decide, fun D nD => ?_⟩
      refine lc_range (lo := 0) (n := 4) (fun i H2 => H2 = upd H1 D (.lst (((List.range i).filter fun b => !(b == a)).map intV))) rfl ?_ ?_
      · rintro b H2 hb rfl
        rw [Int.zero_add]
        refine ⟨rfl, ?_⟩
        walk_at "g"
        rw [ne_int]
        refine ite2 (fun e => ?_) (fun e => ?_)
        · walk_at "g"
          refine ⟨_, upd_same, small1000 (Nat.le_trans (by rw [List.length_map]; exact Nat.le_trans (List.length_filter_le _ _) (by rw [List.length_range]; exact Nat.le_of_lt hb)) (by decide : 4 ≤ 1000)), ?_⟩
          rw [upd_upd, range_filter_succ, if_pos e, List.map_append]
          rfl
        · rw [range_filter_succ, if_neg e, List.append_nil]
      · rintro H2 rfl
        have nDp : D ≠ p := fun z => by
          rw [z, h1] at nD
          cases nD
        refine ⟨D, rfl, ⟨_, .inl (.inl upd_same)⟩, ?_⟩
        refine for_list (xs := (bsOf a).map intV) (fun j σ H2 => ∃ y2 rs, σ = [some (.ref p), some (intV a), y2, none] ∧ H2 p = some (.lst rs) ∧ Paired (TAt H2) rs (turnsTo a ++ ((bsOf a).take j).flatMap (turnsAB a)) ∧ H2 D = some (.lst ((bsOf a).map intV)) ∧ Same H H2) ⟨y2, rs, rfl, by rw [upd_ne nDp.symm]; exact h1, by
            rw [List.take_zero, List.flatMap_nil, List.append_nil]
            exact pmono t1 fun _ _ h => h.mono (same_new nD).tups, upd_same, s1.trans (same_new nD)⟩ ?_ ?_ ?_
        · rintro j σ H2 _ ⟨y2, rs, rfl, h2, t2, hD, s2⟩
          exact .inl (.inl hD)
        · rintro j x σ H2 hx ⟨y2, rs, rfl, h2, t2, hD, s2⟩
          rw [List.getElem?_map] at hx
          cases hb : (bsOf a)[j]? with
          | none =>
            rw [hb] at hx
            cases hx
          | some b =>
            rw [hb] at hx
            injection hx with hx
            subst hx
            obtain ⟨hb4, hba⟩ := bs_lt (List.mem_of_getElem? hb)
            walk_at "g"
            refine ⟨.inl ⟨rfl, _, .inl (.inl h2)⟩, ?_⟩
            refine ⟨4, rfl, by decide, by decide, fun D2 nD2 => ?_⟩
            refine lc_range (lo := 0) (n := 4) (fun i H3 => ∃ qs, H3 D2 = some (.lst qs) ∧ Paired (TAt H3) qs (((List.range i).filter fun c => !(a == c || b == c)).map fun c => [a, b, c, 6 - a - b - c]) ∧ Same H2 H3) ⟨[], upd_same, .nil, same_new nD2⟩ ?_ ?_
            · rintro c H3 hc ⟨qs, h3, t3, s3⟩
              rw [Int.zero_add]
              refine ⟨rfl, ?_⟩
              walk_at "g"
              refine ⟨Nat.le_of_lt (small1000 (by show 2 ≤ 1000; decide)), fun p2 o2 np2 d2 => ?_⟩
              refine ⟨p2, [intV a, intV b], rfl, .inr (FT.new d2).sqt, rfl, rfl, ?_⟩
              have e0 : inV (V.int (c : Int)) [intV a, intV b] = (a == c || b == c) := by
                show (eqV (intV a) (intV c) || (eqV (intV b) (intV c) || false)) = (a == c || b == c)
                rw [intV_eq, intV_eq, Bool.or_false]
              rw [if_pos rfl, e0]
              have s4 : Same H3 (upd H3 p2 (.frz o2 (.tup [intV a, intV b]))) := same_new np2
              generalize upd H3 p2 (.frz o2 (.tup [intV a, intV b])) = H4 at s4 ⊢
              refine ⟨_, rfl, ite2 (fun e => ?_) (fun e => ?_)⟩
              · walk_at "g"
                refine ⟨Nat.le_of_lt (small1000 (by show 4 ≤ 1000; decide)), fun p3 o3 np3 d3 => ?_⟩
                have e5 : ([intV a, intV b, intV c, V.int (6 - (a : Int) - b - c)] : List V) = trnV [a, b, c, 6 - a - b - c] := congrArg (fun z => [intV a, intV b, intV c, V.int z]) (six_sub ⟨hc, ha, hb4⟩ hba (by simpa using e))
                have s5 : Same H4 (upd H4 p3 (.frz o3 (.tup [intV a, intV b, intV c, V.int (6 - (a : Int) - b - c)]))) := same_new np3
                have h5 := s5 _ _ (s4 _ _ h3)
                have h6 : FT (upd H4 p3 (.frz o3 (.tup [intV a, intV b, intV c, V.int (6 - (a : Int) - b - c)]))) p3 (trnV [a, b, c, 6 - a - b - c]) := ⟨o3, d3, by rw [upd_same, e5]⟩
                have l5 := plen t3
                refine ⟨qs, h5, small1000 (by
                  rw [l5, List.length_map]
                  exact Nat.le_trans (List.length_filter_le _ _) (by rw [List.length_range]; omega)), qs ++ [.ref p3], upd_same, ?_, ?_⟩
                · rw [range_filter_succ, if_pos e, List.map_append]
                  refine papp (pmono t3 fun _ _ h => h.mono ((s4.trans s5).tups.trans (tups_set h5))) (.cons ⟨p3, rfl, ?_⟩ .nil)
                  exact h6.mono (tups_set h5)
                · exact same_fill (s3.trans (s4.trans s5)) nD2
              · rw [range_filter_succ, if_neg e, List.append_nil]
                exact ⟨qs, s4 _ _ h3, pmono t3 fun _ _ h => h.mono s4.tups, s3.trans s4⟩
            · rintro H3 ⟨qs, h3, t3, s3⟩
              have l3 := plen t3
              have l2 := plen t2
              refine ⟨p, D2, rs, qs, rfl, rfl, s3 _ _ h2, h3, ?_, ?_⟩
              · have hj : j < (bsOf a).length := (List.getElem?_eq_some_iff.mp hb).1
                have hj4 := bs_len a
                have hA := turns_few a ha j (by omega)
                have hB : (((List.range 4).filter fun c => !(a == c || b == c)).map fun c => [a, b, c, 6 - a - b - c]).length ≤ 4 := by
                  rw [List.length_map]
                  exact List.length_filter_le _ _
                exact Nat.le_of_lt (small1000 (by omega))
              · refine ⟨_, rs ++ qs, rfl, upd_same, ?_, ?_, ?_⟩
                · rw [List.take_add_one, hb, List.flatMap_append, ← List.append_assoc]
                  have hh := s3 _ _ h2
                  refine papp (pmono t2 fun _ _ h => h.mono (s3.tups.trans (tups_set hh))) ?_
                  show Paired _ qs (turnsAB a b ++ [])
                  rw [List.append_nil]
                  exact pmono t3 fun _ _ h => h.mono (tups_set hh)
                · rw [upd_ne nDp]
                  exact s3 _ _ hD
                · intro b o e
                  rw [upd_ne (ne_of_none e np)]
                  exact s3 _ _ (s2 _ _ e)
        · rintro σ H2 ⟨y2, rs, rfl, h2, t2, hD, s2⟩
          refine ⟨some (intV a), y2, rs, rfl, h2, ?_, s2⟩
          rw [turnsTo_succ]
          rw [List.length_map, List.take_length] at t2
          exact t2
    · rintro σ H1 ⟨y1, y2, rs, rfl, h1, t1, s1⟩
      walk_at "g"
      exact q H1 p s1 np ⟨rs, h1, t1⟩
end
end Bk

namespace Bk
open PySem PySem.Spec PyProof.Rows L2
local macro_rules | `(tactic| walk_at "g") => `(tactic| (repeat first | refine ⟨_, rfl, ?_⟩ | refine ⟨cpow, ?_⟩ | refine ⟨wideM, ?_⟩ | refine ⟨_, _, rfl, rfl, ?_⟩ | refine ⟨rfl, ?_⟩))
section
variable {P : Program} {w : World} {K : PySem.W.Frag} {mg : Str → Option Value} {base : Heap}
/-! ### _law_back -/
abbrev s_law_back : Stmt := topS 37
abbrev N_law_back : List Str := ["turn", "corner"]
theorem sc_law_back : FnScope N_law_back ["turn"] (defScope s_law_back) := ⟨rfl, rfl, rfl, by decide +kernel, rfl, by decide +kernel, by decide +kernel⟩
def spBack : Sp := fun vs H Q _ => ∃ v t, vs = [v] ∧ TAt H v t ∧ t ∈ allTurns ∧ ∀ H' p, Same H H' → H p = none → TAt H' (.ref p) (back t) → Q (.ref p) H'
theorem idx_int {t : Trn} {x : Nat} : (t.map fun c : Nat => (c : Int)).idxOf (x : Int) = t.idxOf x := by
  induction t with
  | nil => rfl
  | cons y r ih =>
    rw [List.map_cons, List.idxOf_cons, List.idxOf_cons, ih]
    by_cases h : y = x
    · subst h
      simp
    · rw [beq_eq_false_iff_ne.mpr h, beq_eq_false_iff_ne.mpr (show (y : Int) ≠ x by omega)]
theorem ok_law_back {f : Addr} {fd : FuncData} (F : Fun K "_law_back" "_law_back" s_law_back f fd) (m_range : mg "range" = none) (m_tuple : mg "tuple" = none) : FnOk P w K mg base CX0 1 f fd ["turn"] spBack := by
  refine F.ok sc_law_back (fun vs H Q E h => ?_) (fun cdv A outer s H vs Q E hr h => ?_)
  · obtain ⟨v, t, rfl, _⟩ := h
    rfl
  · obtain ⟨v, t, rfl, ⟨p, rfl, hp⟩, ht, q⟩ := h
    have nd := sc_law_back.nd
    refine ⟨_, (pss_one (ps_ret (pe_callTy (kTupleF K rfl) (by rfl) m_tuple (by decide +kernel) (pa_cons (pe_lc (own := [("corner", 1)]) (g := gName 1) (tt := tYes) rfl nd (pi_range1 (by rfl) m_range (pa_cons pe_int pa_nil)) (blkOk_by (own := [("corner", 1)]) (N := N_law_back) (sc := defScope s_law_back) (by decide +kernel)) (fun _ _ _ _ _ => (pg_name (i := 1) nd rfl (Or.inl rfl))) (fun _ _ _ _ _ => pts_nil) (fun _ _ _ _ _ => (pe_bmF PySem.F.plainAttrs_tuple PySem.F.slot_tuple_index PySem.F.type_tuple_index (kTupIx K rfl) (pv 0) (pa_cons (pv 1) pa_nil)))) pa_nil)))), ?_⟩
    refine ⟨4, rfl, by decide, by decide, fun D nD => ?_⟩
    have hpD : FT (upd H D (.lst [])) p (trnV t) := hp.mono (same_new nD).tups
    refine lc_range (lo := 0) (n := 4) (fun i H2 => H2 = upd H D (.lst (((List.range i).map fun c => t.idxOf c).map intV))) rfl ?_ ?_
    · rintro c H2 hc rfl
      rw [Int.zero_add]
      refine ⟨rfl, ?_⟩
      refine ⟨.ref p, rfl, ⟨p, _, rfl, hp.mono (same_new nD).tups⟩, ?_⟩
      walk_at "g"
      have t4 := turns4 t ht
      have e1 : trnV t = (t.map fun c : Nat => (c : Int)).map V.int := by
        rw [List.map_map]
        rfl
      have hm : (c : Int) ∈ t.map fun c : Nat => (c : Int) := List.mem_map_of_mem (List.mem_of_getElem? (t4.2.2.2.1 c hc))
      refine ⟨p, t.map fun c : Nat => (c : Int), c, rfl, rfl, ?_, hm, ?_⟩
      · rw [← e1]
        exact (hp.mono (same_new nD).tups).sqt
      rw [idx_int]
      refine ⟨_, upd_same, small1000 (by rw [List.length_map, List.length_map, List.length_range]; omega), ?_⟩
      rw [upd_upd, List.range_succ, List.map_append, List.map_append]
      rfl
    · rintro H2 rfl
      refine ⟨D, _, rfl, .inl ⟨.inl (.inl upd_same), fun p2 o2 np2 d2 => ?_⟩⟩
      exact q _ p2 ((same_new nD).trans (same_new np2)) ((same_new nD).free np2) ⟨p2, rfl, FT.new d2⟩
/-! ### _law_set -/
abbrev s_law_set : Stmt := topS 38
abbrev N_law_set : List Str := ["blocks", "block", "face", "other", "turn"]
theorem sc_law_set : FnScope N_law_set ["blocks", "block", "face", "other", "turn"] (defScope s_law_set) := ⟨rfl, rfl, rfl, by decide +kernel, rfl, by decide +kernel, by decide +kernel⟩
def spSet : Sp := fun vs H Q _ => ∃ (l : Addr) (rs : List V) (s : Spc) (b f n : Nat) (v : V) (t : Trn), vs = [.ref l, intV b, intV f, intV n, v] ∧ SpAt H l rs s ∧ L4 s ∧ TAt H v t ∧ t ∈ allTurns ∧ b < s.length ∧ f < 4 ∧ n < s.length ∧ s.length ≤ 1000 ∧
  ∀ H', KeepB rs H H' → SpAt H' l rs (joinJ s b f n t) → Q .non H'
theorem plen' {α β : Type} {F : α → β → Prop} {xs : List α} {ys : List β} (h : Paired F xs ys) {i : Nat} (hi : i < ys.length) : ∃ x y, xs[i]? = some x ∧ ys[i]? = some y ∧ F x y := by
  obtain ⟨x, h1, h2⟩ := pget h (List.getElem?_eq_getElem hi)
  exact ⟨x, _, h1, List.getElem?_eq_getElem hi, h2⟩
theorem pset {α β : Type} {F : α → β → Prop} {a : α} {b : β} (r : F a b) : ∀ {xs : List α} {ys : List β} (i : Nat), Paired F xs ys → Paired F (xs.set i a) (ys.set i b)
  | _, _, _, .nil => .nil
  | _, _, 0, .cons _ t => .cons r t
  | _, _, i + 1, .cons q t => .cons q (pset r i t)
/-- a store into one block: the others stand -/
theorem SpAt.set {H : Hp} {l : Addr} {rs : List V} {s : Spc} (h : SpAt H l rs s) {b f : Nat} {p : Addr} {vs : List V} {v : V} {j : Jn} (hb : rs[b]? = some (.ref p)) (hp : H p = some (.lst vs)) (hj : JAt H v j) :
    SpAt (upd H p (.lst (vs.set f v))) l rs (setJ s b f j) ∧ KeepB rs H (upd H p (.lst (vs.set f v))) := by
  have hm := List.mem_of_getElem? hb
  have hpl : l ≠ p := fun z => h.out (by rw [z]; exact hm)
  have tp := tups_set (o := .lst (vs.set f v)) hp
  refine ⟨⟨by rw [upd_ne hpl]; exact h.l, ?_, h.nd⟩, fun c o e n => ?_⟩
  · have hB := h.b
    have hN := h.nd
    have key : ∀ (xs : List V) (ys : Spc) (i : Nat), Paired (BAt H) xs ys → xs.Nodup → (xs[i]? = some (.ref p)) → Paired (BAt (upd H p (.lst (vs.set f v)))) xs (ys.modify i fun l => l.set f j) := by
      intro xs ys i hP
      induction hP generalizing i with
      | nil => intro _ hi; simp at hi
      | @cons a y xs ys r t ih =>
        intro nd hi
        rw [List.nodup_cons] at nd
        cases i with
        | zero =>
          have ea : a = .ref p := by simpa using hi
          subst ea
          rw [List.modify_zero_cons]
          refine .cons ?_ ?_
          · obtain ⟨p', vs', e1, e2, e3⟩ := r
            injection e1 with e1
            subst e1
            have := lst_inj hp e2
            subst this
            exact ⟨p, _, rfl, upd_same, pset (hj.mono tp) f (pmono e3 fun _ _ z => z.mono tp)⟩
          · clear ih
            have nm := nd.1
            have go : ∀ (xs : List V) (ys : Spc), Paired (BAt H) xs ys → V.ref p ∉ xs → Paired (BAt (upd H p (.lst (vs.set f v)))) xs ys := by
              intro xs ys hQ
              induction hQ with
              | nil => intro _; exact .nil
              | cons r t ih =>
                intro hn
                refine .cons (r.mono tp fun q xs e1 e2 => ?_) (ih fun z => hn (List.mem_cons_of_mem _ z))
                rw [upd_ne (fun z => hn (by rw [e1, z]; exact List.mem_cons_self))]
                exact e2
            exact go _ _ t nm
        | succ i =>
          rw [List.modify_succ_cons]
          refine .cons (r.mono tp fun q xs e1 e2 => ?_) (ih i nd.2 (by simpa using hi))
          rw [upd_ne (fun z => nd.1 (by rw [e1, z]; exact List.mem_of_getElem? (show _ = some (V.ref p) by simpa using hi)))]
          exact e2
    exact key rs s b hB hN hb
  · rw [upd_ne (fun z => n (by rw [z]; exact hm))]
    exact e
theorem SpAt.same {H H' : Hp} {l : Addr} {rs : List V} {s : Spc} (h : SpAt H l rs s) (m : Same H H') : SpAt H' l rs s :=
  ⟨m _ _ h.l, pmono h.b fun _ _ z => z.mono m.tups fun _ _ _ e => m _ _ e, h.nd⟩
theorem SpAt.keep {R : Addr} {H H' : Hp} {l : Addr} {rs : List V} {s : Spc} (h : SpAt H l rs s) (m : Keep R H H') (r : ReelOk R H) (h4 : L4 s) (hl : l ≠ R) : SpAt H' l rs s := by
  have nR := (r.keepB (KeepB.of (Same.refl H)) h.b h4).2
  have tp := m.tups r
  refine ⟨m _ _ h.l hl, ?_, h.nd⟩
  have hb := h.b
  have go : ∀ (xs : List V) (ys : Spc), Paired (BAt H) xs ys → V.ref R ∉ xs → Paired (BAt H') xs ys := by
    intro xs ys hQ
    induction hQ with
    | nil => intro _; exact .nil
    | cons r t ih =>
      intro hn
      refine .cons (r.mono tp fun q xs e1 e2 => m _ _ e2 fun z => hn (by rw [e1, z]; exact List.mem_cons_self)) (ih fun z => hn (List.mem_cons_of_mem _ z))
  exact go _ _ hb nR
theorem SpAt.at {H : Hp} {l : Addr} {rs : List V} {s : Spc} (h : SpAt H l rs s) {b : Nat} (hb : b < s.length) : ∃ p vs, rs[b]? = some (.ref p) ∧ H p = some (.lst vs) ∧ Paired (JAt H) vs (s[b]?.getD []) := by
  obtain ⟨x, y, h1, h2, p, vs, rfl, h3, h4⟩ := plen' h.b hb
  exact ⟨p, vs, h1, h3, by rw [h2]; exact h4⟩
theorem blk_len {s : Spc} (h : L4 s) {b : Nat} (hb : b < s.length) : (s[b]?.getD []).length = 4 := by
  rw [List.getElem?_eq_getElem hb]
  exact h _ (List.getElem_mem hb)
theorem ixN_lt {n k : Nat} (h : k < n) : ixN n (k : Int) = some k := by
  unfold ixN
  rw [if_pos (by omega), if_pos (by omega)]
  rfl
theorem ok_law_set {f fB : Addr} {fd fdB : FuncData} (F : Fun K "_law_set" "_law_set" s_law_set f fd) (F_law_back : Fun K "_law_back" "_law_back" s_law_back fB fdB) (g_law_back : mg "_law_back" = some (.ref fB)) (b_law_back : Binds K fdB ["turn"] [])
    (m_range : mg "range" = none) (m_tuple : mg "tuple" = none) : FnOk P w K mg base CX0 2 f fd ["blocks", "block", "face", "other", "turn"] spSet := by
  have G_law_back : FnOk P w K mg base CX0 1 fB fdB ["turn"] spBack := ok_law_back F_law_back m_range m_tuple
  refine F.ok sc_law_set (fun vs H Q E h => ?_) (fun cdv A outer s H vs Q E hr h => ?_)
  · obtain ⟨l, rs, s, b, f, n, v, t, rfl, _⟩ := h
    rfl
  · obtain ⟨l, rs, S, b, f, n, v, t, rfl, hS, h4, hT, ht, hb, hf, hn, hz, q⟩ := h
    have nd := sc_law_set.nd
    refine ⟨_, (pss_cons (ps_asg (pe_tupF (pa_cons (pv 3) (pa_cons (pv 4) pa_nil))) (pg_sub (pe_ix (kIxL K rfl) (pv 0) (pv 1) (fun _ _ => rfl)) (pv 2) set_list))
      (pss_one (ps_asg (pe_tupF (pa_cons (pv 1) (pa_cons (pe_call G_law_back (hr.mono (by first | decide | omega)) (by rfl) g_law_back F_law_back.kp b_law_back .nil pass0 (pa_cons (pv 4) pa_nil)) pa_nil))) (pg_sub (pe_ix (kIxL K rfl) (pv 0) (pv 3) (fun _ _ => rfl)) (pe_ix (kIxT K rfl) (pv 4) (pv 2) (fun _ _ => rfl)) set_list)))), ?_⟩
    walk_at "g"
    refine ⟨Nat.le_of_lt (small1000 (by show 2 ≤ 1000; decide)), fun p1 o1 np1 d1 => ?_⟩
    obtain ⟨pt, rfl, hpt⟩ := hT
    have s1 : Same H (upd H p1 (.frz o1 (.tup [intV n, .ref pt]))) := same_new np1
    have j1 : JAt (upd H p1 (.frz o1 (.tup [intV n, .ref pt]))) (.ref p1) (some (n, t)) := ⟨p1, pt, rfl, FT.new d1, hpt.mono s1.tups⟩
    generalize upd H p1 (.frz o1 (.tup [intV n, .ref pt])) = H1 at s1 j1 ⊢
    have hS1 := hS.same s1
    obtain ⟨pb, vb, eb, hvb, _⟩ := hS1.at hb
    have lvb : vb.length = 4 := by
      obtain ⟨x, y, h1, h2, p', vs', e1, e2, e3⟩ := plen' hS1.b hb
      rw [eb] at h1
      cases h1
      cases e1
      rw [lst_inj hvb e2, plen e3]
      exact h4 _ (List.mem_of_getElem? h2)
    have lrs : rs.length = S.length := plen hS1.b
    refine ⟨.ref l, rfl, intV b, rfl, l, rs, b, .ref pb, rfl, rfl, .inl (.inl hS1.l), atI_nat eb, intV f, rfl, pb, vb, f, f, rfl, rfl, hvb, ixN_lt (by omega), ?_⟩
    obtain ⟨hS2, k2⟩ := hS1.set (f := f) eb hvb j1
    have tp2 := k2.tups hS1.b
    have hpt2 := (hpt.mono s1.tups).mono tp2
    generalize upd H1 pb (.lst (vb.set f (.ref p1))) = H2 at hS2 k2 tp2 hpt2 ⊢
    refine ⟨intV b, rfl, .ref pt, rfl, .ref pt, t, rfl, ⟨pt, rfl, hpt2⟩, ht, fun H3 p3 s3 n3 T3 => ⟨Nat.le_of_lt (small1000 (by show 2 ≤ 1000; decide)), fun p4 o4 np4 d4 => ?_⟩⟩
    obtain ⟨p3', e3, T3⟩ := T3
    cases e3
    have s4 : Same H3 (upd H3 p4 (.frz o4 (.tup [intV b, .ref p3]))) := same_new np4
    have j4 : JAt (upd H3 p4 (.frz o4 (.tup [intV b, .ref p3]))) (.ref p4) (some (b, back t)) := ⟨p4, p3, rfl, FT.new d4, T3.mono s4.tups⟩
    have hpt4 := hpt2.mono (s3.trans s4).tups
    have hS4 := hS2.same (s3.trans s4)
    have k4 : KeepB rs H (upd H3 p4 (.frz o4 (.tup [intV b, .ref p3]))) := ((KeepB.of s1).trans k2).trans (KeepB.of (s3.trans s4))
    generalize upd H3 p4 (.frz o4 (.tup [intV b, .ref p3])) = H4 at s4 j4 hpt4 hS4 k4 ⊢
    have hn4 : n < (setJ S b f (some (n, t))).length := by rw [setJ_len]; exact hn
    obtain ⟨pn, vn, en, hvn, hvn2⟩ := hS4.at hn4
    have lvn : vn.length = 4 := by rw [plen hvn2]; exact blk_len (h4.set _ _ _) hn4
    have htf := tf_lt t ht f hf
    refine ⟨.ref l, rfl, intV n, rfl, l, rs, n, .ref pn, rfl, rfl, .inl (.inl hS4.l), atI_nat en, .ref pt, rfl, intV f, rfl, pt, trnV t, f, intV (tf t f), rfl, rfl, hpt4.sqt, atI_nat ?_, pn, vn, (tf t f : Nat), tf t f, rfl, rfl, hvn, ixN_lt (by omega), ?_⟩
    · unfold trnV
      rw [List.getElem?_map, htf.2]
      rfl
    · obtain ⟨hS5, k5⟩ := hS4.set (f := tf t f) en hvn j4
      exact q _ (k4.trans k5) hS5
end
end Bk

namespace Bk
open PySem PySem.Spec PyProof.Rows L2
local macro_rules | `(tactic| walk_at "g") => `(tactic| (repeat first | refine ⟨_, rfl, ?_⟩ | refine ⟨cpow, ?_⟩ | refine ⟨wideM, ?_⟩ | refine ⟨_, _, rfl, rfl, ?_⟩ | refine ⟨rfl, ?_⟩))
section
variable {P : Program} {w : World} {K : PySem.W.Frag} {mg : Str → Option Value} {base : Heap}
/-! ### _law_any -/
abbrev s_law_any : Stmt := topS 39
abbrev N_law_any : List Str := ["reel", "many", "blocks", "left", "k", "block", "face", "other", "at", "some", "turn"]
theorem sc_law_any : FnScope N_law_any ["reel", "many"] (defScope s_law_any) := ⟨rfl, rfl, rfl, by decide +kernel, rfl, by decide +kernel, by decide +kernel⟩
/-- what a maker of spaces tells: a new one -/
def MadeS (R : Addr) (H : Hp) (many : Nat) (Q : VK) : Prop := ∀ H' l rs S, Keep R H H' → ReelOk R H' → Aw R H H' → H l = none → SpAt H' l rs S → Fresh H rs → Good S → S.length = many → Q (.ref l) H'
def spAny : Sp := fun vs H Q _ => ∃ (R : Addr) (many : Nat), vs = [.ref R, intV many] ∧ 1 ≤ many ∧ many ≤ 20 ∧ ReelOk R H ∧ MadeS R H many Q
theorem flat4 : (List.replicate (4 : Int).toNat [V.non]).flatten = [V.non, .non, .non, .non] := rfl
theorem ok_law_any {f fD fT fB fS : Addr} {fd fdD fdT fdB fdS : FuncData} (F : Fun K "_law_any" "_law_any" s_law_any f fd)
    (F_law_draw : Fun K "_law_draw" "_law_draw" s_law_draw fD fdD) (g_law_draw : mg "_law_draw" = some (.ref fD)) (b_law_draw : Binds K fdD ["reel", "many"] [])
    (F_law_turns : Fun K "_law_turns" "_law_turns" s_law_turns fT fdT) (g_law_turns : mg "_law_turns" = some (.ref fT)) (b_law_turns : Binds K fdT [] [])
    (F_law_back : Fun K "_law_back" "_law_back" s_law_back fB fdB) (g_law_back : mg "_law_back" = some (.ref fB)) (b_law_back : Binds K fdB ["turn"] [])
    (F_law_set : Fun K "_law_set" "_law_set" s_law_set fS fdS) (g_law_set : mg "_law_set" = some (.ref fS)) (b_law_set : Binds K fdS ["blocks", "block", "face", "other", "turn"] [])
    (m_range : mg "range" = none) (m_tuple : mg "tuple" = none) (m_len : mg "len" = none) (m_int : mg "int" = none) : FnOk P w K mg base CX0 3 f fd ["reel", "many"] spAny := by
  have G_law_draw : FnOk P w K mg base CX0 1 fD fdD ["reel", "many"] spDraw := ok_law_draw F_law_draw m_len m_int
  have G_law_turns : FnOk P w K mg base CX0 1 fT fdT [] spTurns := ok_law_turns F_law_turns m_range
  have G_law_set : FnOk P w K mg base CX0 2 fS fdS ["blocks", "block", "face", "other", "turn"] spSet := ok_law_set F_law_set F_law_back g_law_back b_law_back m_range m_tuple
  refine F.ok sc_law_any (fun vs H Q E h => ?_) (fun cdv A outer s H vs Q E hr h => ?_)
  · obtain ⟨R, many, rfl, _⟩ := h
    rfl
  · obtain ⟨R, many, rfl, hm1, hm2, hR, q⟩ := h
    have nd := sc_law_any.nd
    refine ⟨_, (pss_cons (ps_setLc (i := 2) (own := [("block", 5)]) (g := gName 5) (tt := tYes) rfl nd rfl rfl (sw_true rfl rfl rfl (by decide +kernel)) (pi_range1 (by rfl) m_range (pa_cons (pv 1) pa_nil)) (blkOk_by (own := [("block", 5)]) (N := N_law_any) (sc := defScope s_law_any) (by decide +kernel)) (fun _ _ _ _ _ => (pg_name (i := 5) nd rfl (Or.inl rfl))) (fun _ _ _ _ _ => pts_nil) (fun _ _ _ _ _ => (pe_op op_rep (pe_lst (pa_cons pe_non pa_nil)) pe_int)))
      (pss_cons (ps_set (i := 3) nd rfl (.inr rfl) (pe_lc (own := [("k", 4)]) (g := gName 4) (tt := tYes) rfl nd (pi_range1 (by rfl) m_range (pa_cons (pe_op op_mul pe_int (pv 1)) pa_nil)) (blkOk_by (own := [("k", 4)]) (N := N_law_any) (sc := defScope s_law_any) (by decide +kernel)) (fun _ _ _ _ _ => (pg_name (i := 4) nd rfl (Or.inl rfl))) (fun _ _ _ _ _ => pts_nil) (fun _ _ _ _ _ => (pe_tupF (pa_cons (pe_op op_fdivN (pv 4) pe_int) (pa_cons (pe_op op_modN (pv 4) pe_int) pa_nil))))))
      (pss_cons (ps_set (i := 3) nd rfl (.inr rfl) (pe_lc (own := [("k", 4)]) (g := gName 4) (tt := tYes) rfl nd (pi_range1 (by rfl) m_range (pa_cons (pe_op op_mul pe_int (pv 1)) pa_nil)) (blkOk_by (own := [("k", 4)]) (N := N_law_any) (sc := defScope s_law_any) (by decide +kernel)) (fun _ _ _ _ _ => (pg_name (i := 4) nd rfl (Or.inl rfl))) (fun _ _ _ _ _ => pts_nil) (fun _ _ _ _ _ => (kBM K rfl (pe_bm PySem.F.plainAttrs_list PySem.F.slot_list_pop PySem.F.type_list_pop mt_popAt (pv 3) (pa_cons (pe_call G_law_draw (hr.mono (by first | decide | omega)) (by rfl) g_law_draw F_law_draw.kp b_law_draw .nil pass0 (pa_cons (pv 0) (pa_cons (pe_callB (kLen K rfl) (by rfl) m_len (by decide +kernel) (pa_cons (pv 3) pa_nil)) pa_nil))) pa_nil))))))
      (pss_cons (ps_for PassesOwn.never rfl (pi_range1 (by rfl) m_range (pa_cons (pe_ix (kIxL K rfl) (pe_lst (pa_cons (pe_call G_law_draw (hr.mono (by first | decide | omega)) (by rfl) g_law_draw F_law_draw.kp b_law_draw .nil pass0 (pa_cons (pv 0) (pa_cons (pe_op op_add (pe_op op_mul pe_int (pv 1)) pe_int) pa_nil))) (pa_cons (pe_op op_mul pe_int (pv 1)) pa_nil))) (pe_call G_law_draw (hr.mono (by first | decide | omega)) (by rfl) g_law_draw F_law_draw.kp b_law_draw .nil pass0 (pa_cons (pv 0) (pa_cons pe_int pa_nil))) (fun _ _ => rfl)) pa_nil)) (pg_name (i := 4) nd rfl (.inl rfl)) (pss_cons (ps_asg (pe_ix (kIxL K rfl) (pv 3) (pe_op op_mul pe_int (pv 4)) (fun _ _ => rfl)) (kPgT K rfl (pg_tup (n := 2) rfl (pgs_cons (pg_name (i := 5) nd rfl (.inl rfl)) (pgs_cons (pg_name (i := 6) nd rfl (.inr rfl)) pgs_nil)))))
      (pss_cons (ps_asg (pe_ix (kIxL K rfl) (pv 3) (pe_op op_add (pe_op op_mul pe_int (pv 4)) pe_int) (fun _ _ => rfl)) (kPgT K rfl (pg_tup (n := 2) rfl (pgs_cons (pg_name (i := 7) nd rfl (.inl rfl)) (pgs_cons (pg_name (i := 8) nd rfl (.inr rfl)) pgs_nil)))))
      (pss_cons (ps_setLc (i := 9) (own := [("turn", 10)]) (g := gName 10) rfl nd rfl rfl (sw_true rfl rfl rfl (by decide +kernel)) (kPiL K rfl (pi_list (pe_call0 G_law_turns (hr.mono (by first | decide | omega)) (by rfl) g_law_turns F_law_turns.kp b_law_turns .nil pass0))) (blkOk_by (own := [("turn", 10)]) (N := N_law_any) (sc := defScope s_law_any) (by decide +kernel)) (fun _ _ _ _ _ => (pg_name (i := 10) nd rfl (Or.inl rfl))) (fun _ _ _ _ _ => (pts_one (pt_cmpR op_eq (pe_ix (kIxT K rfl) (pv 10) (pv 6) (fun _ _ => rfl)) (pv 8) (nomark _)))) (fun _ _ _ _ _ => (pv 10)))
      (pss_one (ps_expr (pe_call G_law_set (hr.mono (by first | decide | omega)) (by rfl) g_law_set F_law_set.kp b_law_set .nil pass0 (pa_cons (pv 2) (pa_cons (pv 5) (pa_cons (pv 6) (pa_cons (pv 7) (pa_cons (pe_ix (kIxL K rfl) (pv 9) (pe_call G_law_draw (hr.mono (by first | decide | omega)) (by rfl) g_law_draw F_law_draw.kp b_law_draw .nil pass0 (pa_cons (pv 0) (pa_cons pe_int pa_nil))) (fun _ _ => rfl)) pa_nil))))))))))))
      (pss_one (ps_ret (pv 2))))))), ?_⟩
    -- blocks
    refine ⟨intV many, rfl, many, rfl, by omega, by omega, fun D nD => ?_⟩
    rw [Int.toNat_natCast]
    refine lc_range (lo := 0) (n := many) (fun i H1 => ∃ rs, SpAt H1 D rs (freeS i) ∧ Fresh H rs ∧ Same H H1) ⟨[], ⟨upd_same, .nil, .nil⟩, fun _ z => (by cases z), same_new nD⟩ ?_ ?_
    · rintro i H1 hi ⟨rs, hS, hF, s1⟩
      rw [Int.zero_add]
      refine ⟨rfl, ?_⟩
      refine ⟨Nat.le_of_lt (small1000 (by show 1 ≤ 1000; decide)), fun p np => ?_⟩
      refine ⟨p, 4, _, rfl, rfl, upd_same, by decide, by decide, Nat.le_of_lt (small1000 (by show 4 ≤ 1000; decide)), fun p2 np2 => ?_⟩
      rw [flat4]
      have s2 : Same H1 (upd (upd H1 p (.lst [.non])) p2 (.lst [.non, .non, .non, .non])) := (same_new np).trans (same_new np2)
      have h2 : (upd (upd H1 p (.lst [.non])) p2 (.lst [.non, .non, .non, .non])) p2 = some (.lst [.non, .non, .non, .non]) := upd_same
      have n2 : H1 p2 = none := (same_new np).free np2
      generalize upd (upd H1 p (.lst [.non])) p2 (.lst [.non, .non, .non, .non]) = H2 at s2 h2 ⊢
      have hD := s2 _ _ hS.l
      have l1 : rs.length = i := by rw [plen hS.b]; exact List.length_replicate
      refine ⟨rs, hD, small1000 (by omega), rs ++ [.ref p2], ?_, hF.push (fun o e => s1 _ _ e) n2, same_fill (s1.trans s2) nD⟩
      unfold freeS
      rw [List.replicate_succ']
      exact hS.push s2 n2 ⟨p2, _, rfl, h2, .cons rfl (.cons rfl (.cons rfl (.cons rfl .nil)))⟩
    · rintro H1 ⟨rs, hS, hF, s1⟩
      -- left
      walk_at "g"
      refine ⟨.inl (by decide), 4 * many, rfl, by omega, by omega, fun L nL => ?_⟩
      have hR1 := hR.same s1
      rw [show (4 * (many : Int)).toNat = 4 * many by omega]
      refine lc_range (lo := 0) (n := 4 * many) (fun i H2 => ∃ ys, H2 L = some (.lst ys) ∧ Paired (FcAt H2) ys (facesTo i) ∧ Same H1 H2) ⟨[], upd_same, .nil, same_new nL⟩ ?_ ?_
      · rintro i H2 hi ⟨ys, h2, t2, s2⟩
        rw [Int.zero_add]
        refine ⟨rfl, ?_⟩
        walk_at "g"
        refine ⟨⟨by decide, by decide⟩, ?_⟩
        walk_at "g"
        refine ⟨(show (4 : Int) ≠ 0 by decide), Nat.le_of_lt (small1000 (by show 2 ≤ 1000; decide)), fun p o np d => ?_⟩
        have ef : ([V.int ((i : Int).fdiv 4), V.int ((i : Int).fmod 4)] : List V) = [intV (i / 4), intV (i % 4)] := by
          rw [show (4 : Int) = ((4 : Nat) : Int) from rfl, fdiv_nat, fmod_nat]
          rfl
        have s3 : Same H2 (upd H2 p (.frz o (.tup [V.int ((i : Int).fdiv 4), V.int ((i : Int).fmod 4)]))) := same_new np
        have f3 : FcAt (upd H2 p (.frz o (.tup [V.int ((i : Int).fdiv 4), V.int ((i : Int).fmod 4)]))) (.ref p) (i / 4, i % 4) := ⟨p, rfl, o, d, by rw [ef]; exact upd_same⟩
        have h3 := s3 _ _ h2
        refine ⟨ys, h3, small1000 (by
          rw [plen t2]
          unfold facesTo
          rw [List.length_map, List.length_range]
          omega), ys ++ [.ref p], upd_same, ?_, same_fill (s2.trans s3) nL⟩
        rw [facesTo_succ]
        exact papp (pmono t2 fun _ _ z => z.mono (s3.tups.trans (tups_set h3))) (.cons (f3.mono (tups_set h3)) .nil)
      · rintro H2 ⟨ys, h2, t2, s2⟩
        -- the pops
        have hS2 := hS.same s2
        have hR2 := hR1.same s2
        have hm4 : (facesTo (4 * many)).length = 4 * many := by
          unfold facesTo
          rw [List.length_map, List.length_range]
        walk_at "g"
        refine ⟨.inl (by decide), 4 * many, rfl, by omega, by omega, fun L2 nL2 => ?_⟩
        rw [show (4 * (many : Int)).toNat = 4 * many by omega]
        have nLL : L ≠ L2 := ne_of_none h2 nL2
        have nDL : D ≠ L2 := ne_of_none hS2.l nL2
        refine lc_range (lo := 0) (n := 4 * many) (fun i H3 => ∃ xs ys fs gs, H3 L = some (.lst xs) ∧ H3 L2 = some (.lst ys) ∧ Paired (FcAt H3) xs fs ∧ Paired (FcAt H3) ys gs ∧ (gs ++ fs).Perm (facesTo (4 * many)) ∧ gs.length = i ∧ SpAt H3 D rs (freeS many) ∧ Away R L2 H3 ∧ Keep R H H3 ∧ Aw R H H3)
          ⟨ys, [], facesTo (4 * many), [], by rw [upd_ne nLL]; exact h2, upd_same, pmono t2 fun _ _ z => z.mono (same_new nL2).tups, .nil, .refl _, rfl, hS2.same (same_new nL2), hR2.away nL2, Keep.of ((s1.trans s2).trans (same_new nL2)), ((s1.trans s2).trans (same_new nL2)).aw⟩ ?_ ?_
        · rintro i H3 hi ⟨xs, ys, fs, gs, h3, h3', t3, t3', pm, rfl, hS3, hA3, k3, w3⟩
          have hl : fs.length = 4 * many - gs.length := by
            have := pm.length_eq
            rw [List.length_append, hm4] at this
            omega
          refine ⟨rfl, ?_⟩
          refine ⟨.ref L, rfl, .inl ⟨rfl, _, .inl (.inl h3)⟩, .ref R, rfl, .ref L, rfl, L, xs, rfl, .inl (.inl (.inl h3)), R, (xs.length : Int), rfl, by rw [plen t3]; omega, by rw [plen t3]; omega, hA3.ok, fun H4 r k4 hR4 hA4 r0 r1 => ?_⟩
          rw [plen t3] at r1
          have nLR : L ≠ R := hA3.ok.isR h3 (no_int (fc_refs t3))
          have nDR : D ≠ R := hA3.ok.isR hS3.l (no_int (bat_ref hS3.b))
          have tp4 := k4.tups hA3.ok
          have h4 := k4 _ _ h3 nLR
          have h4' := k4 _ _ h3' hA3.ne
          have hS4 := hS3.keep k4 hA3.ok (freeS_good many).l4 nDR
          have hA5 := hA4 L2 (by rw [h3']; exact fun z => nomatch z) hA3
          obtain ⟨y, x, hy, hx, hyx⟩ := plen' t3 (i := r.toNat) (by omega)
          refine ⟨L, xs, r, r.toNat, y, rfl, rfl, h4, by omega, by omega, ?_, hy, ?_⟩
          · have := seqIx_nat (n := xs.length) (k := r.toNat) (by rw [plen t3]; omega)
            rw [Int.toNat_of_nonneg r0] at this
            exact this
          have hA6 := (hA5.set (o := .lst (xs.eraseIdx r.toNat)) h4 (notReel_refs (fun z => by rw [z] at hy; cases hy) (fc_refs t3))).1
          have tp5 := tp4.trans (tups_set (o := .lst (xs.eraseIdx r.toNat)) h4)
          have hS5 := hS4.other (o := .lst (xs.eraseIdx r.toNat)) h4 (ne_of_none hS.l nL).symm (hS.fresh nL)
          have h5' : (upd H4 L (.lst (xs.eraseIdx r.toNat))) L2 = some (.lst ys) := by rw [upd_ne nLL.symm]; exact h4'
          have k5 : Keep R H (upd H4 L (.lst (xs.eraseIdx r.toNat))) := keep_fill (k3.trans k4) (s1.free nL)
          have h5 : (upd H4 L (.lst (xs.eraseIdx r.toNat))) L = some (.lst (xs.eraseIdx r.toNat)) := upd_same
          have w5 : Aw R H (upd H4 L (.lst (xs.eraseIdx r.toNat))) := (w3.trans k3 hA4).trans (k3.trans k4) (Aw.set h4 (notReel_refs (fun z => by rw [z] at hy; cases hy) (fc_refs t3)))
          generalize upd H4 L (.lst (xs.eraseIdx r.toNat)) = H5 at hA6 tp5 hS5 h5' k5 h5 w5 ⊢
          refine ⟨ys, h5', small1000 (by rw [plen t3']; omega), xs.eraseIdx r.toNat, ys ++ [y], fs.eraseIdx r.toNat, gs ++ [x], by rw [upd_ne nLL]; exact h5, upd_same, ?_, ?_, ?_, ?_, ?_, hA6.fill, ?_, w5.trans k5 (Aw.fill hA6)⟩
          · exact pmono (perase _ t3) fun _ _ z => z.mono (tp5.trans (tups_set h5'))
          · exact papp (pmono t3' fun _ _ z => z.mono (tp5.trans (tups_set h5'))) (.cons (hyx.mono (tp5.trans (tups_set h5'))) .nil)
          · rw [List.append_assoc]
            exact ((pperm_erase hx).append_left gs).trans pm
          · rw [List.length_append]
            rfl
          · exact hS5.other h5' nDL.symm (hS2.fresh nL2)
          · exact keep_fill k5 ((s1.trans s2).free nL2)
        · rintro H3 ⟨xs, ys, fs, gs, h3, h3', t3, t3', pm, hg, hS3, hA3, k3, w3⟩
          have el : fs = [] := by
            have := pm.length_eq
            rw [List.length_append, hm4] at this
            exact List.length_eq_zero_iff.mp (by omega)
          subst el
          rw [List.append_nil] at pm
          have gN : gs.Nodup := pm.symm.nodup (facesTo_nd _)
          have gm : ∀ {m : Nat} {x : Nat × Nat}, gs[m]? = some x → x.1 < many ∧ x.2 < 4 := fun h => facesTo_mem (pm.mem_iff.mp (List.mem_of_getElem? h))
          have nDR : D ≠ R := hA3.ok.isR hS3.l (no_int (bat_ref hS3.b))
          have nL2R : L2 ≠ R := hA3.ne
          have nL2D : L2 ≠ D := nDL.symm
          have nL2r : V.ref L2 ∉ rs := hS2.fresh nL2
          have hR3 := hA3.ok
          -- how many
          walk_at "g"
          refine ⟨.inl (by decide), ?_⟩
          walk_at "g"
          refine ⟨R, 2 * (many : Int) + 1, rfl, by omega, by omega, hR3, fun H4 r1 k4 hR4 aw4 r10 r11 => ?_⟩
          refine ⟨intV many, rfl, 2, many, rfl, rfl, .inl (by decide), Nat.le_of_lt (small1000 (by show 2 ≤ 1000; decide)), fun p np => ?_⟩
          have s5 : Same H4 (upd H4 p (.lst [.int r1, .int (2 * (many : Int))])) := same_new np
          have h5 : (upd H4 p (.lst [.int r1, .int (2 * (many : Int))])) p = some (.lst [.int r1, .int (2 * (many : Int))]) := upd_same
          have hA5 := hR4.away (o := .lst [.int r1, .int (2 * (many : Int))]) np
          generalize upd H4 p (.lst [.int r1, .int (2 * (many : Int))]) = H5 at s5 h5 hA5 ⊢
          refine ⟨.ref R, rfl, R, 2, rfl, by decide, by decide, hA5.ok, fun H6 r2 k6 hR6 aw6 r20 r21 => ?_⟩
          have k36 : Keep R H3 H6 := (k4.same s5).trans k6
          have w36 : Aw R H3 H6 := (Aw.trans aw4 k4 s5.aw).trans (k4.same s5) aw6
          obtain ⟨j, hj, j0, j1⟩ : ∃ j : Int, atI [V.int r1, .int (2 * (many : Int))] r2 = some (.int j) ∧ 0 ≤ j ∧ j ≤ 2 * (many : Int) := by
            by_cases h : r2 = 0
            · subst h
              exact ⟨r1, rfl, r10, by omega⟩
            · have h : r2 = 1 := by omega
              subst h
              exact ⟨_, rfl, by omega, by omega⟩
          refine ⟨p, _, r2, _, rfl, rfl, .inl (.inl (k6 _ _ h5 hA5.ne)), hj, j, rfl, by omega, by omega, ?_⟩
          refine for_range (lo := 0) (n := j.toNat) (fun k σ H7 => ∃ y4 y5 y6 y7 y8 y9 S, σ = [some (.ref R), some (intV many), some (.ref D), some (.ref L2), y4, y5, y6, y7, y8, y9, none] ∧ SpAt H7 D rs S ∧ Good S ∧ S.length = many ∧ ReelOk R H7 ∧
              H7 L2 = some (.lst ys) ∧ Paired (FcAt H7) ys gs ∧ Keep R H H7 ∧ Aw R H H7 ∧ ∀ m x, 2 * k ≤ m → gs[m]? = some x → getJ S x.1 x.2 = some none)
            ⟨none, none, none, none, none, none, freeS many, rfl, hS3.keep k36 hR3 (freeS_good many).l4 nDR, freeS_good many, List.length_replicate, hR6, k36 _ _ h3' nL2R, pmono t3' fun _ _ z => z.mono (k36.tups hR3), k3.trans k36, w3.trans k3 w36, fun m x _ hx => by
              obtain ⟨g1, g2⟩ := gm hx
              obtain ⟨z, hz⟩ := (freeS_good many).l4.get (b := x.1) (f := x.2) (by unfold freeS; rw [List.length_replicate]; exact g1) g2
              rw [hz, freeS_get hz]⟩ ?_ ?_
          · rintro k σ H7 hk ⟨y4, y5, y6, y7, y8, y9, S, rfl, hS7, hG, hlS, hR7, h7, t7, k7, w7, hfree⟩
            rw [Int.zero_add]
            obtain ⟨v0, x0, hv0, hx0, p0, e0, f0⟩ := plen' t7 (i := 2 * k) (by omega)
            obtain ⟨v1, x1, hv1, hx1, p1, e1, f1⟩ := plen' t7 (i := 2 * k + 1) (by omega)
            subst e0 e1
            obtain ⟨b0, f0'⟩ := x0
            obtain ⟨b1, f1'⟩ := x1
            obtain ⟨hb0, hf0⟩ := gm hx0
            obtain ⟨hb1, hf1⟩ := gm hx1
            have ne01 : ((b0, f0') : Nat × Nat) ≠ (b1, f1') := nodup_ne gN hx0 hx1 (by omega)
            walk_at "g"
            refine ⟨.inl (by decide), L2, ys, _, .ref p0, rfl, rfl, .inl (.inl h7), at_of (j := 2 * k) (by omega) hv0, p0, [intV b0, intV f0'], rfl, f0.sqt, rfl, _, _, rfl, _, _, rfl, rfl, ?_⟩
            walk_at "g"
            refine ⟨.inl (by decide), ?_⟩
            walk_at "g"
            refine ⟨L2, ys, _, .ref p1, rfl, rfl, .inl (.inl h7), at_of (j := 2 * k + 1) (by omega) hv1, p1, [intV b1, intV f1'], rfl, f1.sqt, rfl, _, _, rfl, _, _, rfl, rfl, ?_⟩
            -- some
            refine ⟨rfl, fun H8 pT s8 nT T8 => ⟨pT, rfl, ?_⟩⟩
            obtain ⟨ws, hw, tw⟩ := T8
            refine ⟨⟨_, .inl (.inl hw)⟩, fun D3 nD3 => ?_⟩
            have lw := plen tw
            rw [turns_len] at lw
            have nTD : pT ≠ D3 := ne_of_none hw nD3
            refine lc_list (xs := ws) (fun i H9 => ∃ zs, H9 D3 = some (.lst zs) ∧ Paired (TAt H9) zs ((allTurns.take i).filter fun t => tf t f0' == f1') ∧ H9 = upd H8 D3 (.lst zs)) ⟨[], upd_same, .nil, rfl⟩ ?_ ?_ ?_
            · rintro i H9 _ ⟨zs, h9, t9, rfl⟩
              exact .inl (.inl (by rw [upd_ne nTD]; exact hw))
            · rintro i v H9 hv ⟨zs, h9, t9, rfl⟩
              obtain ⟨t, ht, pt, rfl, ft⟩ := pget' tw hv
              have hmem := List.mem_of_getElem? ht
              have htf := tf_lt t hmem f0' hf0
              refine ⟨rfl, ?_⟩
              refine ⟨.ref pt, rfl, intV f0', rfl, pt, trnV t, f0', intV (tf t f0'), rfl, rfl, (ft.mono (same_new nD3).tups).sqt, atI_nat (by unfold trnV; rw [List.getElem?_map, htf.2]; rfl), intV f1', rfl, rfl, ?_⟩
              rw [dec_nat]
              refine ⟨_, rfl, ite2 (fun e => ?_) (fun e => ?_)⟩
              · refine ⟨.ref pt, rfl, zs, upd_same, small1000 (by
                  rw [plen t9]
                  refine Nat.le_trans (List.length_filter_le _ _) ?_
                  rw [List.length_take, turns_len]
                  omega), zs ++ [.ref pt], upd_same, ?_, by rw [upd_upd]⟩
                rw [filter_take_succ ht, if_pos e]
                have tp := tups_set (o := .lst (zs ++ [.ref pt])) h9
                exact papp (pmono t9 fun _ _ z => z.mono tp) (.cons ⟨pt, rfl, (ft.mono (same_new nD3).tups).mono tp⟩ .nil)
              · rw [filter_take_succ ht, if_neg e, List.append_nil]
                exact ⟨zs, h9, t9, rfl⟩
            · rintro H9 ⟨zs, h9, t9, e9⟩
              have s9 : Same H7 H9 := by
                rw [e9]
                exact s8.trans (same_new nD3)
              have hA9 : Away R D3 H9 := by
                rw [e9]
                exact (hR7.same s8).away nD3
              clear e9
              rw [lw, ← turns_len, List.take_length] at t9
              have l6 : zs.length = 6 := by rw [plen t9, turns_face6 f0' hf0 f1' hf1]
              have hS9 := hS7.same s9
              have h9l := s9 _ _ h7
              -- _law_set(..)
              refine ⟨.ref D, rfl, intV b0, rfl, intV f0', rfl, intV b1, rfl, .ref D3, rfl, .ref R, rfl, R, 6, rfl, by decide, by decide, hA9.ok, fun H10 r k10 hR10 aw10 r0 r1 => ?_⟩
              obtain ⟨v, t, hv, ht, hvt⟩ := plen' t9 (i := r.toNat) (by rw [← plen t9]; omega)
              have htm := List.mem_of_getElem? ht
              rw [List.mem_filter] at htm
              have etf : tf t f0' = f1' := by simpa using htm.2
              have tp10 := k10.tups hA9.ok
              have hS10 := hS9.keep k10 hA9.ok hG.l4 nDR
              refine ⟨D3, zs, r, v, rfl, rfl, .inl (.inl (k10 _ _ h9 hA9.ne)), at_of (j := r.toNat) (by omega) hv, ?_⟩
              refine ⟨D, rs, S, b0, f0', b1, v, t, rfl, hS10, hG.l4, hvt.mono tp10, htm.1, by omega, hf0, by omega, by omega, fun H11 kB hS11 => ?_⟩
              have q0 : getJ S b0 f0' = some none := hfree (2 * k) _ (Nat.le_refl _) hx0
              have q1 : getJ S b1 (tf t f0') = some none := by
                rw [etf]
                exact hfree (2 * k + 1) _ (by omega) hx1
              have k10' : Keep R H7 H10 := Same.keep s9 k10
              refine ⟨_, _, _, _, _, _, joinJ S b0 f0' b1 t, rfl, hS11, hG.join htm.1 q0 q1 (by rw [etf]; exact fun z => ne01 z.symm), by rw [joinJ_len]; exact hlS, (hR10.keepB kB hS10.b hG.l4).1,
                kB _ _ (k10 _ _ h9l nL2R) nL2r, pmono t7 fun _ _ z => (z.mono s9.tups).mono (tp10.trans (kB.tups hS10.b)), (k7.trans k10').inner kB hF, ((w7.trans k7 s9.aw).trans (k7.same s9) aw10).trans (k7.trans k10') (Aw.keepB kB hS10.b hG.l4), fun m x hm hx => ?_⟩
              rw [getJ_join]
              · exact hfree m x (by omega) hx
              · rintro ⟨z1, z2⟩
                exact nodup_ne gN hx0 hx (by omega) (Prod.ext z1.symm z2.symm)
              · rintro ⟨z1, z2⟩
                rw [etf] at z2
                exact nodup_ne gN hx1 hx (by omega) (Prod.ext z1.symm z2.symm)
          · rintro σ H7 ⟨y4, y5, y6, y7, y8, y9, S, rfl, hS7, hG, hlS, hR7, h7, t7, k7, w7, hfree⟩
            refine ⟨.ref D, rfl, ?_⟩
            exact q H7 D rs S k7 hR7 w7 nD hS7 hF hG hlS
end
end Bk

namespace Bk
open PySem PySem.Spec PyProof.Rows L2
local macro_rules | `(tactic| walk_at "g") => `(tactic| (repeat first | refine ⟨_, rfl, ?_⟩ | refine ⟨cpow, ?_⟩ | refine ⟨wideM, ?_⟩ | refine ⟨_, _, rfl, rfl, ?_⟩ | refine ⟨rfl, ?_⟩))
section
variable {P : Program} {w : World} {K : PySem.W.Frag} {mg : Str → Option Value} {base : Heap}
/-! ### _law_ball -/
abbrev s_law_ball : Stmt := topS 40
abbrev N_law_ball : List Str := ["reel", "many", "blocks", "k", "left", "block", "face", "at"]
theorem sc_law_ball : FnScope N_law_ball ["reel", "many"] (defScope s_law_ball) := ⟨rfl, rfl, rfl, by decide +kernel, rfl, by decide +kernel, by decide +kernel⟩
theorem JAt.isN {H : Hp} {v : V} {j : Jn} (h : JAt H v j) : decide (v = .non) = j.isNone := by
  cases j with
  | none =>
    rw [show v = .non from h]
    rfl
  | some k =>
    obtain ⟨p, q, e, _⟩ := h
    rw [e]
    exact decide_eq_false (fun z => by cases z)
/-- what stands at a face, as it stands -/
theorem SpAt.face {H : Hp} {l : Addr} {rs : List V} {s : Spc} (h : SpAt H l rs s) {b f : Nat} {j : Jn} (e : getJ s b f = some j) : ∃ p vs v, rs[b]? = some (.ref p) ∧ H p = some (.lst vs) ∧ vs[f]? = some v ∧ JAt H v j := by
  unfold getJ at e
  cases hs : s[b]? with
  | none =>
    rw [hs] at e
    cases e
  | some y =>
    rw [hs] at e
    obtain ⟨x, h1, p, vs, rfl, h3, h4⟩ := pget h.b hs
    obtain ⟨v, h5, h6⟩ := pget h4 (show y[f]? = some j from e)
    exact ⟨p, vs, v, h1, h3, h5, h6⟩
def isFr (s : Spc) (k : Nat) : Bool := (getJ s (k / 4) (k % 4)) == some none
theorem getJ_push {s : Spc} {b : Blk} {x f : Nat} (h : x < s.length) : getJ (s ++ [b]) x f = getJ s x f := by
  unfold getJ
  rw [List.getElem?_append_left h]
theorem getJ_last {s : Spc} {b : Blk} {f : Nat} : getJ (s ++ [b]) s.length f = b[f]? := by
  unfold getJ
  rw [List.getElem?_append_right (Nat.le_refl _), Nat.sub_self]
  rfl
theorem Good.push {s : Spc} (h : Good s) : Good (s ++ [free4]) := by
  have l4 : L4 (s ++ [free4]) := fun b hb => by
    rcases List.mem_append.mp hb with z | z
    · exact h.l4 b z
    · rw [List.mem_singleton.mp z]
      rfl
  refine ⟨l4, fun b f n t e => ?_⟩
  by_cases hb : b < s.length
  · rw [getJ_push hb] at e
    obtain ⟨q1, q2, q3⟩ := h.both b f n t e
    exact ⟨q1, q2, by rw [getJ_push (h.lt e)]; exact q3⟩
  · have hl := (l4.of e).1
    rw [List.length_append] at hl
    have eb : b = s.length := by
      have : b < s.length + 1 := hl
      omega
    rw [eb, getJ_last] at e
    have hm := List.mem_of_getElem? e
    simp [free4] at hm
theorem free4_get {f : Nat} (h : f < 4) : free4[f]? = some none := by
  match f, h with
  | 0, _ => rfl
  | 1, _ => rfl
  | 2, _ => rfl
  | 3, _ => rfl
theorem ok_law_ball {f fD fT fB fS : Addr} {fd fdD fdT fdB fdS : FuncData} (F : Fun K "_law_ball" "_law_ball" s_law_ball f fd)
    (F_law_draw : Fun K "_law_draw" "_law_draw" s_law_draw fD fdD) (g_law_draw : mg "_law_draw" = some (.ref fD)) (b_law_draw : Binds K fdD ["reel", "many"] [])
    (F_law_turns : Fun K "_law_turns" "_law_turns" s_law_turns fT fdT) (g_law_turns : mg "_law_turns" = some (.ref fT)) (b_law_turns : Binds K fdT [] [])
    (F_law_back : Fun K "_law_back" "_law_back" s_law_back fB fdB) (g_law_back : mg "_law_back" = some (.ref fB)) (b_law_back : Binds K fdB ["turn"] [])
    (F_law_set : Fun K "_law_set" "_law_set" s_law_set fS fdS) (g_law_set : mg "_law_set" = some (.ref fS)) (b_law_set : Binds K fdS ["blocks", "block", "face", "other", "turn"] [])
    (m_range : mg "range" = none) (m_tuple : mg "tuple" = none) (m_len : mg "len" = none) (m_int : mg "int" = none) : FnOk P w K mg base CX0 3 f fd ["reel", "many"] spAny := by
  have G_law_draw : FnOk P w K mg base CX0 1 fD fdD ["reel", "many"] spDraw := ok_law_draw F_law_draw m_len m_int
  have G_law_turns : FnOk P w K mg base CX0 1 fT fdT [] spTurns := ok_law_turns F_law_turns m_range
  have G_law_set : FnOk P w K mg base CX0 2 fS fdS ["blocks", "block", "face", "other", "turn"] spSet := ok_law_set F_law_set F_law_back g_law_back b_law_back m_range m_tuple
  refine F.ok sc_law_ball (fun vs H Q E h => ?_) (fun cdv A outer s H vs Q E hr h => ?_)
  · obtain ⟨R, many, rfl, _⟩ := h
    rfl
  · obtain ⟨R, many, rfl, hm1, hm2, hR, q⟩ := h
    have nd := sc_law_ball.nd
    refine ⟨_, (pss_cons (ps_set (i := 2) nd rfl (.inr rfl) (pe_lst (pa_cons (pe_op op_rep (pe_lst (pa_cons pe_non pa_nil)) pe_int) pa_nil)))
      (pss_cons (ps_for PassesOwn.never rfl (pi_range2 (by rfl) m_range (pa_cons pe_int (pa_cons (pv 1) pa_nil))) (pg_name (i := 3) nd rfl (.inl rfl)) (pss_cons (ps_setLc (i := 4) (own := [("at", 7)]) (g := gName 7) rfl nd rfl rfl (sw_true rfl rfl rfl (by decide +kernel)) (pi_range1 (by rfl) m_range (pa_cons (pe_op op_mul pe_int (pv 3)) pa_nil)) (blkOk_by (own := [("at", 7)]) (N := N_law_ball) (sc := defScope s_law_ball) (by decide +kernel)) (fun _ _ _ _ _ => (pg_name (i := 7) nd rfl (Or.inl rfl))) (fun _ _ _ _ _ => (pts_one (pt_cmpR op_isN (pe_ix (kIxL K rfl) (pe_ix (kIxL K rfl) (pv 2) (pe_op op_fdivN (pv 7) pe_int) (fun _ _ => rfl)) (pe_op op_modN (pv 7) pe_int) (fun _ _ => rfl)) pe_non (nomark _)))) (fun _ _ _ _ _ => (pe_tupF (pa_cons (pe_op op_fdivN (pv 7) pe_int) (pa_cons (pe_op op_modN (pv 7) pe_int) pa_nil)))))
      (pss_cons (ps_asg (pe_ix (kIxL K rfl) (pv 4) (pe_call G_law_draw (hr.mono (by first | decide | omega)) (by rfl) g_law_draw F_law_draw.kp b_law_draw .nil pass0 (pa_cons (pv 0) (pa_cons (pe_callB (kLen K rfl) (by rfl) m_len (by decide +kernel) (pa_cons (pv 4) pa_nil)) pa_nil))) (fun _ _ => rfl)) (kPgT K rfl (pg_tup (n := 2) rfl (pgs_cons (pg_name (i := 5) nd rfl (.inl rfl)) (pgs_cons (pg_name (i := 6) nd rfl (.inl rfl)) pgs_nil)))))
      (pss_cons (ps_expr (kBM K rfl (pe_bm PySem.F.plainAttrs_list PySem.F.slot_list_append PySem.F.type_list_append mt_append (pv 2) (pa_cons (pe_op op_rep (pe_lst (pa_cons pe_non pa_nil)) pe_int) pa_nil))))
      (pss_one (ps_expr (pe_call G_law_set (hr.mono (by first | decide | omega)) (by rfl) g_law_set F_law_set.kp b_law_set .nil pass0 (pa_cons (pv 2) (pa_cons (pv 5) (pa_cons (pv 6) (pa_cons (pv 3) (pa_cons (pe_ix (kIxL K rfl) (pe_call0 G_law_turns (hr.mono (by first | decide | omega)) (by rfl) g_law_turns F_law_turns.kp b_law_turns .nil pass0) (pe_call G_law_draw (hr.mono (by first | decide | omega)) (by rfl) g_law_draw F_law_draw.kp b_law_draw .nil pass0 (pa_cons (pv 0) (pa_cons pe_int pa_nil))) (fun _ _ => rfl)) pa_nil))))))))))))
      (pss_one (ps_ret (pv 2))))), ?_⟩
    refine ⟨Nat.le_of_lt (small1000 (by show 1 ≤ 1000; decide)), fun p np => ?_⟩
    refine ⟨p, 4, _, rfl, rfl, upd_same, by decide, by decide, Nat.le_of_lt (small1000 (by show 4 ≤ 1000; decide)), fun p2 np2 => ?_⟩
    rw [flat4]
    have s2 : Same H (upd (upd H p (.lst [.non])) p2 (.lst [.non, .non, .non, .non])) := (same_new np).trans (same_new np2)
    have h2 : (upd (upd H p (.lst [.non])) p2 (.lst [.non, .non, .non, .non])) p2 = some (.lst [.non, .non, .non, .non]) := upd_same
    have n2 : H p2 = none := (same_new np).free np2
    generalize upd (upd H p (.lst [.non])) p2 (.lst [.non, .non, .non, .non]) = H2 at s2 h2 ⊢
    refine ⟨Nat.le_of_lt (small1000 (by show 1 ≤ 1000; decide)), fun D nD => ?_⟩
    have n2D : p2 ≠ D := ne_of_none h2 nD
    have s3 : Same H (upd H2 D (.lst [.ref p2])) := s2.trans (same_new nD)
    have hS3 : SpAt (upd H2 D (.lst [.ref p2])) D [.ref p2] (freeS 1) := ⟨upd_same, .cons ⟨p2, _, rfl, by rw [upd_ne n2D]; exact h2, .cons rfl (.cons rfl (.cons rfl (.cons rfl .nil)))⟩ .nil, by simp⟩
    have hF3 : Fresh H [V.ref p2] := fun x z => by
      have e := List.mem_singleton.mp z
      injection e with e
      subst e
      exact n2
    generalize upd H2 D (.lst [.ref p2]) = H3 at s3 hS3 ⊢
    have hnD : H D = none := s2.free nD
    refine ⟨intV many, rfl, 1, many, rfl, ⟨by decide, by decide, by omega, by omega⟩, ?_⟩
    refine for_range (lo := 1) (n := ((many : Int) - 1).toNat) (fun i σ H4 => ∃ y3 y4 y5 y6 rs S, σ = [some (.ref R), some (intV many), some (.ref D), y3, y4, y5, y6, none] ∧ SpAt H4 D rs S ∧ Fresh H rs ∧ Good S ∧ S.length = i + 1 ∧ ReelOk R H4 ∧ Keep R H H4 ∧ Aw R H H4 ∧ ∃ f, f < 4 ∧ getJ S i f = some none)
      ⟨none, none, none, none, [.ref p2], freeS 1, rfl, hS3, hF3, freeS_good 1, rfl, hR.same s3, Keep.of s3, s3.aw, 0, by decide, rfl⟩ ?_ ?_
    · rintro i σ H4 hi ⟨y3, y4, y5, y6, rs, S, rfl, hS4, hF4, hG, hl, hR4, k4, w4, ff, hff, hfree⟩
      rw [show (1 : Int) + (i : Int) = ((i + 1 : Nat) : Int) by omega]
      have nDR : D ≠ R := hR4.isR hS4.l (no_int (bat_ref hS4.b))
      have lrs : rs.length = i + 1 := by rw [plen hS4.b, hl]
      -- left
      walk_at "g"
      refine ⟨.inl (by decide), 4 * ((i + 1 : Nat) : Int), rfl, by omega, by omega, fun L nL => ?_⟩
      rw [show (4 * ((i + 1 : Nat) : Int)).toNat = 4 * (i + 1) by omega]
      have nLD : L ≠ D := fun z => by
        rw [z, hS4.l] at nL
        cases nL
      have nLr := hS4.fresh nL
      refine lc_range (lo := 0) (n := 4 * (i + 1)) (fun m H5 => ∃ ys, H5 L = some (.lst ys) ∧ Paired (FcAt H5) ys (((List.range m).filter (isFr S)).map fun k => (k / 4, k % 4)) ∧ Same H4 H5 ∧ SpAt H5 D rs S ∧ Away R L H5)
        ⟨[], upd_same, .nil, same_new nL, hS4.same (same_new nL), hR4.away nL⟩ ?_ ?_
      · rintro m H5 hm ⟨ys, h5, t5, s5, hS5, hA5⟩
        rw [Int.zero_add]
        refine ⟨rfl, ?_⟩
        obtain ⟨j, hj⟩ := hG.l4.get (b := m / 4) (f := m % 4) (by omega) (by omega)
        obtain ⟨pb, vb, v, hb1, hb2, hb3, hb4⟩ := hS5.face hj
        walk_at "g"
        refine ⟨⟨by decide, by decide⟩, D, rs, _, .ref pb, rfl, rfl, .inl (.inl hS5.l), at_of (j := m / 4) (fdiv_nat m 4) hb1, ?_⟩
        walk_at "g"
        refine ⟨(show (4 : Int) ≠ 0 by decide), pb, vb, _, v, rfl, rfl, .inl (.inl hb2), at_of (j := m % 4) (fmod_nat m 4) hb3, ?_⟩
        walk_at "g"
        rw [hb4.isN]
        have eF : isFr S m = j.isNone := by
          unfold isFr
          rw [hj]
          cases j <;> rfl
        rw [← eF]
        refine ite2 (fun e => ?_) (fun e => ?_)
        · walk_at "g"
          refine ⟨⟨by decide, by decide⟩, ?_⟩
          walk_at "g"
          refine ⟨(show (4 : Int) ≠ 0 by decide), Nat.le_of_lt (small1000 (by show 2 ≤ 1000; decide)), fun p o np d => ?_⟩
          have ef : ([V.int ((m : Int).fdiv 4), V.int ((m : Int).fmod 4)] : List V) = [intV (m / 4), intV (m % 4)] := by
            rw [show (4 : Int) = ((4 : Nat) : Int) from rfl, fdiv_nat, fmod_nat]
            rfl
          have s6 : Same H5 (upd H5 p (.frz o (.tup [V.int ((m : Int).fdiv 4), V.int ((m : Int).fmod 4)]))) := same_new np
          have f6 : FcAt (upd H5 p (.frz o (.tup [V.int ((m : Int).fdiv 4), V.int ((m : Int).fmod 4)]))) (.ref p) (m / 4, m % 4) := ⟨p, rfl, o, d, by rw [ef]; exact upd_same⟩
          have h6 := s6 _ _ h5
          have hS6 := hS5.same s6
          refine ⟨ys, h6, small1000 (by
            rw [plen t5, List.length_map]
            refine Nat.le_trans (List.length_filter_le _ _) ?_
            rw [List.length_range]
            omega), ys ++ [.ref p], upd_same, ?_, same_fill (s5.trans s6) nL, hS6.other h6 nLD nLr, (hA5.same s6).fill⟩
          rw [range_filter_succ, if_pos e, List.map_append]
          exact papp (pmono t5 fun _ _ z => z.mono (s6.tups.trans (tups_set h6))) (.cons (f6.mono (tups_set h6)) .nil)
        · rw [range_filter_succ, if_neg e, List.append_nil]
          exact ⟨ys, h5, t5, s5, hS5, hA5⟩
      · rintro H5 ⟨ys, h5, t5, s5, hS5, hA5⟩
        have lpos : 0 < ys.length := by
          rw [plen t5, List.length_map]
          refine List.length_pos_of_mem (a := 4 * i + ff) ?_
          rw [List.mem_filter, List.mem_range]
          refine ⟨by omega, ?_⟩
          unfold isFr
          rw [show (4 * i + ff) / 4 = i by omega, show (4 * i + ff) % 4 = ff by omega, hfree]
          rfl
        have lmax : ys.length ≤ 80 := by
          rw [plen t5, List.length_map]
          refine Nat.le_trans (List.length_filter_le _ _) ?_
          rw [List.length_range]
          omega
        -- block, face = left[..]
        refine ⟨.ref L, rfl, .ref R, rfl, .ref L, rfl, L, ys, rfl, .inl (.inl (.inl h5)), R, ys.length, rfl, by omega, by omega, hA5.ok, fun H6 r k6 hR6 aw6 r0 r1 => ?_⟩
        have tp6 := k6.tups hA5.ok
        have hS6 := hS5.keep k6 hA5.ok hG.l4 nDR
        obtain ⟨v, x, hv, hx, px, rfl, fx⟩ := plen' t5 (i := r.toNat) (by rw [← plen t5]; omega)
        have hxm := List.mem_of_getElem? hx
        rw [List.mem_map] at hxm
        obtain ⟨kx, hkx, ex⟩ := hxm
        rw [List.mem_filter, List.mem_range] at hkx
        obtain ⟨b0, f0⟩ := x
        injection ex with ex1 ex2
        have hb0 : b0 < i + 1 := by omega
        have hf0 : f0 < 4 := by omega
        have q0 : getJ S b0 f0 = some none := by
          have := hkx.2
          unfold isFr at this
          rw [ex1, ex2] at this
          simpa using this
        refine ⟨L, ys, r, .ref px, rfl, rfl, .inl (.inl (k6 _ _ h5 hA5.ne)), at_of (j := r.toNat) (by omega) hv, px, [intV b0, intV f0], rfl, (fx.mono tp6).sqt, rfl, _, _, rfl, _, _, rfl, rfl, ?_⟩
        -- blocks.append([None] * 4)
        refine ⟨.ref D, rfl, .inl ⟨rfl, _, .inl (.inl hS6.l)⟩, Nat.le_of_lt (small1000 (by show 1 ≤ 1000; decide)), fun p3 np3 => ?_⟩
        refine ⟨p3, 4, _, rfl, rfl, upd_same, by decide, by decide, Nat.le_of_lt (small1000 (by show 4 ≤ 1000; decide)), fun p4 np4 => ?_⟩
        rw [flat4]
        have s7 : Same H6 (upd (upd H6 p3 (.lst [.non])) p4 (.lst [.non, .non, .non, .non])) := (same_new np3).trans (same_new np4)
        have h7 : (upd (upd H6 p3 (.lst [.non])) p4 (.lst [.non, .non, .non, .non])) p4 = some (.lst [.non, .non, .non, .non]) := upd_same
        have n7 : H6 p4 = none := (same_new np3).free np4
        generalize upd (upd H6 p3 (.lst [.non])) p4 (.lst [.non, .non, .non, .non]) = H7 at s7 h7 ⊢
        have hS7 := hS6.push s7 n7 ⟨p4, _, rfl, h7, .cons rfl (.cons rfl (.cons rfl (.cons rfl .nil)))⟩ (b := free4)
        have hD7 := s7 _ _ hS6.l
        have hR7 := ((hR6.same s7).set (o := .lst (rs ++ [.ref p4])) hD7 (notReel_refs (fun z => by rw [z] at lrs; cases lrs) (bat_ref hS6.b))).1
        have k7 : Keep R H (upd H7 D (.lst (rs ++ [.ref p4]))) := keep_fill (((k4.same s5).trans k6).same s7) hnD
        have hF7 : Fresh H (rs ++ [.ref p4]) := hF4.push (fun o e => ((k4.same s5).trans k6) _ _ e (hR.isNot e n7 hR6)) n7
        have kk := (k4.same s5).trans k6
        have w7 : Aw R H (upd H7 D (.lst (rs ++ [.ref p4]))) := (((w4.trans k4 s5.aw).trans (k4.same s5) aw6).trans kk s7.aw).trans (kk.same s7) (Aw.set hD7 (notReel_refs (fun z => by rw [z] at lrs; cases lrs) (bat_ref hS6.b)))
        refine ⟨D, rs, .ref p4, rfl, rfl, hD7, small1000 (by omega), ?_⟩
        generalize upd H7 D (.lst (rs ++ [.ref p4])) = H8 at hS7 hR7 k7 w7 ⊢
        -- _law_set
        refine ⟨.ref D, rfl, intV b0, rfl, intV f0, rfl, intV (i + 1), rfl, rfl, fun H9 pT s9 nT T9 => ?_⟩
        obtain ⟨ws, hw, tw⟩ := T9
        have hR9 := hR7.same s9
        have nTR : pT ≠ R := hR9.isR hw (no_int (tat_refs tw))
        refine ⟨.ref R, rfl, R, 24, rfl, by decide, by decide, hR9, fun H10 r2 k10 hR10 aw10 r20 r21 => ?_⟩
        have lw := plen tw
        rw [turns_len] at lw
        obtain ⟨v2, t, hv2, ht, hvt⟩ := plen' tw (i := r2.toNat) (by rw [turns_len]; omega)
        have htm := List.mem_of_getElem? ht
        have hS9 := hS7.same s9
        have hG7 := hG.push
        have nDR7 : D ≠ R := nDR
        have hS10 := hS9.keep k10 hR9 hG7.l4 nDR
        have htf := tf_lt t htm f0 hf0
        refine ⟨pT, ws, r2, v2, rfl, rfl, .inl (.inl (k10 _ _ hw nTR)), at_of (j := r2.toNat) (by omega) hv2, ?_⟩
        refine ⟨D, rs ++ [.ref p4], S ++ [free4], b0, f0, i + 1, v2, t, rfl, hS10, hG7.l4, hvt.mono (k10.tups hR9), htm, by rw [List.length_append]; omega, hf0, by rw [List.length_append]; show i + 1 < S.length + 1; omega, by rw [List.length_append]; show S.length + 1 ≤ 1000; omega, fun H11 kB hS11 => ?_⟩
        have q0' : getJ (S ++ [free4]) b0 f0 = some none := by
          rw [getJ_push (by omega)]
          exact q0
        have q1 : ∀ f, f < 4 → getJ (S ++ [free4]) (i + 1) f = some none := fun f hf => by
          rw [← hl, getJ_last]
          exact free4_get hf
        refine ⟨_, _, _, _, rs ++ [.ref p4], joinJ (S ++ [free4]) b0 f0 (i + 1) t, rfl, hS11, hF7, hG7.join htm q0' (q1 _ htf.1) (fun z => by injection z with z _; omega), by rw [joinJ_len, List.length_append, hl]; rfl, (hR10.keepB kB hS10.b hG7.l4).1, ((k7.same s9).trans k10).inner kB hF7, ((w7.trans k7 s9.aw).trans (k7.same s9) aw10).trans ((k7.same s9).trans k10) (Aw.keepB kB hS10.b hG7.l4), ?_⟩
        obtain ⟨f2, hf2, hne⟩ : ∃ f2, f2 < 4 ∧ f2 ≠ tf t f0 := by
          by_cases h : tf t f0 = 0
          · exact ⟨1, by decide, by omega⟩
          · exact ⟨0, by decide, by omega⟩
        refine ⟨f2, hf2, ?_⟩
        rw [getJ_join (fun z => by omega) (fun z => hne z.2)]
        exact q1 f2 hf2
    · rintro σ H4 ⟨y3, y4, y5, y6, rs, S, rfl, hS4, hF4, hG, hl, hR4, k4, w4, _⟩
      refine ⟨.ref D, rfl, ?_⟩
      exact q H4 D rs S k4 hR4 w4 hnD hS4 hF4 hG (by omega)
end
end Bk

namespace Bk
open PySem PySem.Spec PyProof.Rows L2
local macro_rules | `(tactic| walk_at "g") => `(tactic| (repeat first | refine ⟨_, rfl, ?_⟩ | refine ⟨cpow, ?_⟩ | refine ⟨wideM, ?_⟩ | refine ⟨_, _, rfl, rfl, ?_⟩ | refine ⟨rfl, ?_⟩))
section
variable {P : Program} {w : World} {K : PySem.W.Frag} {mg : Str → Option Value} {base : Heap}
/-! ### _law_doubled -/
abbrev s_law_doubled : Stmt := topS 41
abbrev N_law_doubled : List Str := ["blocks", "many", "found", "block", "face", "one"]
theorem sc_law_doubled : FnScope N_law_doubled ["blocks"] (defScope s_law_doubled) := ⟨rfl, rfl, rfl, by decide +kernel, rfl, by decide +kernel, by decide +kernel⟩
def shJ (m : Nat) : Jn → Jn
  | none => none
  | some (n, t) => some (n + m, t)
def shB (m : Nat) (b : Blk) : Blk := b.map (shJ m)
def shS (m : Nat) (s : Spc) : Spc := s.map (shB m)
theorem getJ_sh {m : Nat} {s : Spc} {b f : Nat} : getJ (shS m s) b f = (getJ s b f).map (shJ m) := by
  unfold getJ shS
  rw [List.getElem?_map]
  cases s[b]? with
  | none => rfl
  | some l =>
    show (shB m l)[f]? = (l[f]?).map (shJ m)
    exact List.getElem?_map
theorem getJ_left {s u : Spc} {b f : Nat} (h : b < s.length) : getJ (s ++ u) b f = getJ s b f := by
  unfold getJ
  rw [List.getElem?_append_left h]
theorem getJ_right {s u : Spc} {b f : Nat} : getJ (s ++ u) (s.length + b) f = getJ u b f := by
  unfold getJ
  rw [List.getElem?_append_right (Nat.le_add_right _ _), Nat.add_sub_cancel_left]
theorem Good.twice {s : Spc} (h : Good s) {u : Spc} (hu : Good u) : Good (s ++ shS s.length u) := by
  have l4 : L4 (s ++ shS s.length u) := fun b hb => by
    rcases List.mem_append.mp hb with z | z
    · exact h.l4 b z
    · obtain ⟨c, hc, rfl⟩ := List.mem_map.mp z
      unfold shB
      rw [List.length_map]
      exact hu.l4 c hc
  refine ⟨l4, fun b f n t e => ?_⟩
  by_cases hb : b < s.length
  · rw [getJ_left hb] at e
    obtain ⟨q1, q2, q3⟩ := h.both b f n t e
    exact ⟨q1, q2, by rw [getJ_left (h.lt e)]; exact q3⟩
  · obtain ⟨c, rfl⟩ : ∃ c, b = s.length + c := ⟨b - s.length, by omega⟩
    rw [getJ_right, getJ_sh] at e
    cases hj : getJ u c f with
    | none =>
      rw [hj] at e
      cases e
    | some j =>
      rw [hj] at e
      cases j with
      | none => cases e
      | some k =>
        obtain ⟨n', t'⟩ := k
        have e1 : (n' + s.length, t') = (n, t) := Option.some.inj (Option.some.inj e)
        injection e1 with e1 e2
        subst e2
        obtain ⟨q1, q2, q3⟩ := hu.both c f n' t' hj
        refine ⟨q1, fun z => ?_, ?_⟩
        · injection z with z1 z2
          exact q2 (Prod.ext (by show n' = c; omega) z2)
        · rw [← e1, Nat.add_comm n', getJ_right, getJ_sh, q3]
          show some (some (c + s.length, back t')) = _
          rw [Nat.add_comm c]
theorem JAt.sh {H : Hp} {m : Nat} {n : Nat} {t : Trn} {p q : Addr} (h1 : FT H p [intV (n + m), .ref q]) (h2 : FT H q (trnV t)) : JAt H (.ref p) (shJ m (some (n, t))) := ⟨p, q, rfl, h1, h2⟩
abbrev id4 : Trn := [0, 1, 2, 3]
theorem id4_mem : id4 ∈ allTurns := by decide +kernel
theorem tf_id4 {f : Nat} (h : f < 4) : tf id4 f = f := by
  match f, h with
  | 0, _ => rfl
  | 1, _ => rfl
  | 2, _ => rfl
  | 3, _ => rfl
def spDoubled : Sp := fun vs H Q _ => ∃ (l : Addr) (rs : List V) (S : Spc), vs = [.ref l] ∧ SpAt H l rs S ∧ Good S ∧ S.length ≤ 20 ∧
  ∀ H' l' rs' S', Same H H' → H l' = none → SpAt H' l' rs' S' → Fresh H rs' → Good S' → S'.length = 2 * S.length → Q (.ref l') H'
theorem ok_law_doubled {f fB fS : Addr} {fd fdB fdS : FuncData} (F : Fun K "_law_doubled" "_law_doubled" s_law_doubled f fd)
    (F_law_back : Fun K "_law_back" "_law_back" s_law_back fB fdB) (g_law_back : mg "_law_back" = some (.ref fB)) (b_law_back : Binds K fdB ["turn"] [])
    (F_law_set : Fun K "_law_set" "_law_set" s_law_set fS fdS) (g_law_set : mg "_law_set" = some (.ref fS)) (b_law_set : Binds K fdS ["blocks", "block", "face", "other", "turn"] [])
    (m_range : mg "range" = none) (m_tuple : mg "tuple" = none) (m_len : mg "len" = none) (m_list : mg "list" = none) : FnOk P w K mg base CX0 3 f fd ["blocks"] spDoubled := by
  have G_law_set : FnOk P w K mg base CX0 2 fS fdS ["blocks", "block", "face", "other", "turn"] spSet := ok_law_set F_law_set F_law_back g_law_back b_law_back m_range m_tuple
  refine F.ok sc_law_doubled (fun vs H Q E h => ?_) (fun cdv A outer s H vs Q E hr h => ?_)
  · obtain ⟨l, rs, S, rfl, _⟩ := h
    rfl
  · obtain ⟨l, rs, S, rfl, hS, hG, hl, q⟩ := h
    have nd := sc_law_doubled.nd
    refine ⟨_, (pss_cons (ps_set (i := 1) nd rfl (.inr rfl) (pe_callB (kLen K rfl) (by rfl) m_len (by decide +kernel) (pa_cons (pv 0) pa_nil)))
      (pss_cons (ps_setLc (i := 2) (own := [("block", 3)]) (g := gName 3) (tt := tYes) rfl nd rfl rfl (sw_true rfl rfl rfl (by decide +kernel)) (kPiL K rfl (pi_list (pv 0))) (blkOk_by (own := [("block", 3)]) (N := N_law_doubled) (sc := defScope s_law_doubled) (by decide +kernel)) (fun _ _ _ _ _ => (pg_name (i := 3) nd rfl (Or.inl rfl))) (fun _ _ _ _ _ => pts_nil) (fun _ _ _ _ _ => (pe_callTy (kList K rfl) (by rfl) m_list (by decide +kernel) (pa_cons (pv 3) pa_nil))))
      (pss_cons (ps_for PassesOwn.never rfl (kPiL K rfl (pi_list (pv 0))) (pg_name (i := 3) nd rfl (.inl rfl)) (pss_one (ps_expr (kBM K rfl (pe_bm PySem.F.plainAttrs_list PySem.F.slot_list_append PySem.F.type_list_append mt_append (pv 2) (pa_cons (pe_lc (own := [("one", 5)]) (g := gName 5) (tt := tYes) rfl nd (kPiL K rfl (pi_list (pv 3))) (blkOk_by (own := [("one", 5)]) (N := N_law_doubled) (sc := defScope s_law_doubled) (by decide +kernel)) (fun _ _ _ _ _ => (pg_name (i := 5) nd rfl (Or.inl rfl))) (fun _ _ _ _ _ => pts_nil) (fun _ _ _ _ _ => (pe_ifExp (pt_cmpR op_isN (pv 5) pe_non (nomark _)) pe_non (pe_tupF (pa_cons (pe_op op_add (pe_ix (kIxT K rfl) (pv 5) pe_int (fun _ _ => rfl)) (pv 1)) (pa_cons (pe_ix (kIxT K rfl) (pv 5) pe_int (fun _ _ => rfl)) pa_nil)))))) pa_nil))))))
      (pss_cons (ps_for PassesOwn.never rfl (pi_range1 (by rfl) m_range (pa_cons (pv 1) pa_nil)) (pg_name (i := 3) nd rfl (.inl rfl)) (pss_one (ps_for PassesOwn.never rfl (pi_range1 (by rfl) m_range (pa_cons pe_int pa_nil)) (pg_name (i := 4) nd rfl (.inl rfl)) (pss_one (ps_if (pt_cmpR op_isN (pe_ix (kIxL K rfl) (pe_ix (kIxL K rfl) (pv 0) (pv 3) (fun _ _ => rfl)) (pv 4) (fun _ _ => rfl)) pe_non (nomark _)) (pss_one (ps_expr (pe_call G_law_set (hr.mono (by first | decide | omega)) (by rfl) g_law_set F_law_set.kp b_law_set .nil pass0 (pa_cons (pv 2) (pa_cons (pv 3) (pa_cons (pv 4) (pa_cons (pe_op op_add (pv 1) (pv 3)) (pa_cons (pe_tupF (pa_cons pe_int (pa_cons pe_int (pa_cons pe_int (pa_cons pe_int pa_nil))))) pa_nil)))))))) pss_nil)))))
      (pss_one (ps_ret (pv 2))))))), ?_⟩
    have lrs : rs.length = S.length := plen hS.b
    refine ⟨.ref l, rfl, l, rs, rfl, .inl (.inl (.inl hS.l)), ?_⟩
    rw [lrs]
    -- found
    refine ⟨.ref l, rfl, l, rfl, ⟨_, .inl (.inl hS.l)⟩, fun D nD => ?_⟩
    refine lc_list (xs := rs) (fun i H1 => ∃ rf, SpAt H1 D rf (S.take i) ∧ Fresh H rf ∧ Same H H1) ⟨[], ⟨upd_same, .nil, .nil⟩, fun _ z => (by cases z), same_new nD⟩ ?_ ?_ ?_
    · rintro i H1 _ ⟨rf, hf, hF, s1⟩
      exact .inl (.inl (s1 _ _ hS.l))
    · rintro i x H1 hx ⟨rf, hf, hF, s1⟩
      obtain ⟨b, hb, p, vs, rfl, h1, h2⟩ := pget' hS.b hx
      have hi : i < S.length := (List.getElem?_eq_some_iff.mp hb).1
      refine ⟨rfl, .ref p, rfl, p, vs, rfl, .inl (.inl (.inl (s1 _ _ h1))), fun p2 np2 => ?_⟩
      have s2 : Same H1 (upd H1 p2 (.lst vs)) := same_new np2
      refine ⟨rf, s2 _ _ hf.l, small1000 (by rw [plen hf.b, List.length_take]; omega), rf ++ [.ref p2], ?_, hF.push (fun o e => s1 _ _ e) np2, same_fill (s1.trans s2) nD⟩
      rw [List.take_add_one, hb]
      exact hf.push s2 np2 ⟨p2, vs, rfl, upd_same, pmono h2 fun _ _ z => z.mono (s1.trans s2).tups⟩
    · rintro H1 ⟨rf, hf, hF, s1⟩
      rw [lrs, List.take_length] at hf
      -- the others
      refine ⟨.ref l, rfl, l, rfl, ⟨_, .inl (.inl (s1 _ _ hS.l))⟩, ?_⟩
      refine for_list (xs := rs) (fun i σ H2 => ∃ y3 y4 rf, σ = [some (.ref l), some (intV S.length), some (.ref D), y3, y4, none] ∧ SpAt H2 D rf (S ++ (shS S.length S).take i) ∧ Fresh H rf ∧ Same H H2) ⟨none, none, rf, rfl, by rw [List.take_zero, List.append_nil]; exact hf, hF, s1⟩ ?_ ?_ ?_
      · rintro i σ H2 _ ⟨y3, y4, rf, rfl, hf, hF, s2⟩
        exact .inl (.inl (s2 _ _ hS.l))
      · rintro i x σ H2 hx ⟨y3, y4, rf, rfl, hf, hF, s2⟩
        obtain ⟨b, hb, p, vs, rfl, h1, h2⟩ := pget' hS.b hx
        have hi : i < S.length := (List.getElem?_eq_some_iff.mp hb).1
        have lb : b.length = 4 := hG.l4 _ (List.mem_of_getElem? hb)
        refine ⟨.ref D, rfl, .inl ⟨rfl, _, .inl (.inl hf.l)⟩, ?_⟩
        refine ⟨.ref p, rfl, p, rfl, ⟨_, .inl (.inl (s2 _ _ h1))⟩, fun L nL => ?_⟩
        have npL : p ≠ L := ne_of_none (s2 _ _ h1) nL
        refine lc_list (xs := vs) (fun k H3 => ∃ ws, H3 L = some (.lst ws) ∧ Paired (JAt H3) ws ((shB S.length b).take k) ∧ Same H2 H3) ⟨[], upd_same, .nil, same_new nL⟩ ?_ ?_ ?_
        · rintro k H3 _ ⟨ws, h3, t3, s3⟩
          exact .inl (.inl (s3 _ _ (s2 _ _ h1)))
        · rintro k v H3 hv ⟨ws, h3, t3, s3⟩
          obtain ⟨j, hj, jv⟩ := pget' h2 hv
          have jv3 := jv.mono (s2.trans s3).tups
          have hk : k < 4 := by
            rw [← lb]
            exact (List.getElem?_eq_some_iff.mp hj).1
          have lw : ws.length < sizeLine := small1000 (by
            rw [plen t3, List.length_take]
            omega)
          have ej : (shB S.length b)[k]? = some (shJ S.length j) := by
            unfold shB
            rw [List.getElem?_map, hj]
            rfl
          refine ⟨rfl, v, rfl, rfl, ?_⟩
          rw [jv3.isN]
          refine ⟨_, rfl, ?_⟩
          cases j with
          | none =>
            refine iteT ⟨ws, h3, lw, ws ++ [.non], upd_same, ?_, same_fill s3 nL⟩
            rw [List.take_add_one, ej]
            exact papp (pmono t3 fun _ _ z => z.mono (tups_set h3)) (.cons rfl .nil)
          | some nt =>
            obtain ⟨n, t⟩ := nt
            obtain ⟨pj, pq, rfl, f1, f2⟩ := jv3
            refine iteF ?_
            refine ⟨.ref pj, rfl, pj, _, 0, intV n, rfl, rfl, f1.sqt, rfl, intV S.length, rfl, n, S.length, rfl, rfl, .ref pj, rfl, pj, _, 1, .ref pq, rfl, rfl, f1.sqt, rfl, Nat.le_of_lt (small1000 (by show 2 ≤ 1000; decide)), fun p4 o4 np4 d4 => ?_⟩
            have s4 : Same H3 (upd H3 p4 (.frz o4 (.tup [.int ((n : Int) + (S.length : Int)), .ref pq]))) := same_new np4
            have j4 : JAt (upd H3 p4 (.frz o4 (.tup [.int ((n : Int) + (S.length : Int)), .ref pq]))) (.ref p4) (shJ S.length (some (n, t))) := JAt.sh (q := pq) ⟨o4, d4, by
              rw [show (intV (n + S.length) : V) = .int ((n : Int) + (S.length : Int)) from congrArg V.int (by omega)]
              exact upd_same⟩ (f2.mono s4.tups)
            have h4 := s4 _ _ h3
            refine ⟨ws, h4, lw, ws ++ [.ref p4], upd_same, ?_, same_fill (s3.trans s4) nL⟩
            rw [List.take_add_one, ej]
            exact papp (pmono t3 fun _ _ z => z.mono (s4.tups.trans (tups_set h4))) (.cons (j4.mono (tups_set h4)) .nil)
        · rintro H3 ⟨ws, h3, t3, s3⟩
          have lvs : vs.length = (shB S.length b).length := by
            unfold shB
            rw [List.length_map]
            exact plen h2
          rw [lvs, List.take_length] at t3
          refine ⟨D, rf, .ref L, rfl, rfl, s3 _ _ hf.l, small1000 (by
            rw [plen hf.b, List.length_append, List.length_take]
            unfold shS
            rw [List.length_map]
            omega), _, _, rf ++ [.ref L], rfl, ?_, hF.push (fun o e => s2 _ _ e) nL, same_fill (s2.trans s3) nD⟩
          have eb : (shS S.length S)[i]? = some (shB S.length b) := by
            unfold shS
            rw [List.getElem?_map, hb]
            rfl
          rw [List.take_add_one, eb, ← List.append_assoc]
          exact hf.push s3 nL ⟨L, ws, rfl, h3, t3⟩
      · rintro σ H2 ⟨y3, y4, rf, rfl, hf, hF, s2⟩
        have e1 : rs.length = (shS S.length S).length := by
          unfold shS
          rw [List.length_map]
          exact lrs
        rw [e1, List.take_length] at hf
        have hG2 := hG.twice hG
        -- the ties
        refine ⟨intV S.length, rfl, S.length, rfl, by omega, by omega, ?_⟩
        rw [Int.toNat_natCast]
        refine for_range (lo := 0) (n := S.length) (fun b σ H3 => ∃ y3 y4 Sc, σ = [some (.ref l), some (intV S.length), some (.ref D), y3, y4, none] ∧ SpAt H3 D rf Sc ∧ Good Sc ∧ Sc.length = 2 * S.length ∧ Same H H3 ∧
            ∀ x y, b ≤ x → y < 4 → getJ S x y = some none → getJ Sc x y = some none ∧ getJ Sc (S.length + x) y = some none)
          ⟨y3, y4, _, rfl, hf, hG2, by rw [List.length_append, ← e1, lrs]; omega, s2, fun x y _ _ hxy => ⟨by rw [getJ_left (hG.l4.of hxy).1]; exact hxy, by rw [getJ_right, getJ_sh, hxy]; rfl⟩⟩ ?_ ?_
        · rintro b σ H3 hb ⟨y3, y4, Sc, rfl, hf3, hG3, hl3, s3, hfr⟩
          rw [Int.zero_add]
          refine ⟨4, rfl, by decide, by decide, ?_⟩
          refine for_range (lo := 0) (n := 4) (fun g σ H4 => ∃ y4 Sc, σ = [some (.ref l), some (intV S.length), some (.ref D), some (intV b), y4, none] ∧ SpAt H4 D rf Sc ∧ Good Sc ∧ Sc.length = 2 * S.length ∧ Same H H4 ∧
              ∀ x y, (b < x ∨ (x = b ∧ g ≤ y)) → y < 4 → getJ S x y = some none → getJ Sc x y = some none ∧ getJ Sc (S.length + x) y = some none)
            ⟨y4, Sc, rfl, hf3, hG3, hl3, s3, fun x y h1 h2 h3 => hfr x y (by omega) h2 h3⟩ ?_ ?_
          · rintro g σ H4 hg ⟨y4, Sc, rfl, hf4, hG4, hl4, s4, hfr⟩
            rw [Int.zero_add]
            have hS4 := hS.same s4
            obtain ⟨j, hj⟩ := hG.l4.get hb hg
            obtain ⟨pb, vb, v, hb1, hb2, hb3, hb4⟩ := hS4.face hj
            refine ⟨.ref l, rfl, intV b, rfl, l, rs, b, .ref pb, rfl, rfl, .inl (.inl hS4.l), atI_nat hb1, intV g, rfl, pb, vb, g, v, rfl, rfl, .inl (.inl hb2), atI_nat hb3, rfl, ?_⟩
            rw [hb4.isN]
            refine ⟨_, rfl, ?_⟩
            cases j with
            | some nt =>
              refine iteF ?_
              refine ⟨_, Sc, rfl, hf4, hG4, hl4, s4, fun x y h1 h2 h3 => hfr x y ?_ h2 h3⟩
              omega
            | none =>
              refine iteT ?_
              obtain ⟨q0, q1⟩ := hfr b g (.inr ⟨rfl, Nat.le_refl _⟩) hg hj
              refine ⟨.ref D, rfl, intV b, rfl, intV g, rfl, intV S.length, rfl, intV b, rfl, _, _, rfl, rfl, Nat.le_of_lt (small1000 (by show 4 ≤ 1000; decide)), fun p5 o5 np5 d5 => ?_⟩
              have s5 : Same H4 (upd H4 p5 (.frz o5 (.tup [intV 0, intV 1, intV 2, intV 3]))) := same_new np5
              have t5 : TAt (upd H4 p5 (.frz o5 (.tup [intV 0, intV 1, intV 2, intV 3]))) (.ref p5) id4 := ⟨p5, rfl, o5, d5, upd_same⟩
              have hf5 := hf4.same s5
              refine ⟨D, rf, Sc, b, g, S.length + b, .ref p5, id4, ?_, hf5, hG4.l4, t5, id4_mem, by omega, hg, by omega, by omega, fun H6 kB hf6 => ?_⟩
              · show [V.ref D, intV b, intV g, .int ((S.length : Int) + (b : Int)), .ref p5] = _
                rw [show (intV (S.length + b) : V) = .int ((S.length : Int) + (b : Int)) from congrArg V.int (by omega)]
              · have etf := tf_id4 hg
                refine ⟨_, joinJ Sc b g (S.length + b) id4, rfl, hf6, hG4.join id4_mem q0 (by rw [etf]; exact q1) (fun z => by injection z with z _; omega), by rw [joinJ_len]; exact hl4, (s4.trans s5).inner kB hF, fun x y h1 h2 h3 => ?_⟩
                have hx := (hG.l4.of h3).1
                obtain ⟨r0, r1⟩ := hfr x y (by omega) h2 h3
                rw [getJ_join (by omega) (by rw [etf]; omega), getJ_join (by omega) (by rw [etf]; omega)]
                exact ⟨r0, r1⟩
          · rintro σ H4 ⟨y4, Sc, rfl, hf4, hG4, hl4, s4, hfr⟩
            exact ⟨_, y4, Sc, rfl, hf4, hG4, hl4, s4, fun x y h1 h2 h3 => hfr x y (.inl (by omega)) h2 h3⟩
        · rintro σ H3 ⟨y3, y4, Sc, rfl, hf3, hG3, hl3, s3, hfr⟩
          exact ⟨.ref D, rfl, q H3 D rf Sc s3 nD hf3 hF hG3 hl3⟩
end
end Bk

namespace Bk
open PySem PySem.Spec PyProof.Rows L2
/-! ### data: lists and tuples as they stand, apart from the reel -/
mutual
inductive Dq (N : Addr → Prop) (H : Hp) : V → PyData → Prop
  | non : Dq N H .non .none
  | bl (b : Bool) : Dq N H (.bl b) (.bool b)
  | int (i : Int) : Dq N H (.int i) (.int i)
  | str (x : Str) : Dq N H (.str x) (.str x)
  | lst {a : Addr} {xs : List V} {ds : List PyData} : H a = some (.lst xs) → ¬ N a → Dqs N H xs ds → Dq N H (.ref a) (.list ds)
  | tup {a : Addr} {xs : List V} {ds : List PyData} : FT H a xs → Dqs N H xs ds → Dq N H (.ref a) (.tuple ds)
inductive Dqs (N : Addr → Prop) (H : Hp) : List V → List PyData → Prop
  | nil : Dqs N H [] []
  | cons {v : V} {vs : List V} {d : PyData} {ds : List PyData} : Dq N H v d → Dqs N H vs ds → Dqs N H (v :: vs) (d :: ds)
end
mutual
theorem Dq.mono {N N' : Addr → Prop} {H H' : Hp} (m : Tups H H') (n : ∀ a, N' a → N a) (k : ∀ a xs, H a = some (.lst xs) → ¬ N a → H' a = some (.lst xs)) : ∀ {d : PyData} {v : V}, Dq N H v d → Dq N' H' v d
  | .none, _, h => by
    cases h
    exact .non
  | .bool b, _, h => by
    cases h
    exact .bl b
  | .int i, _, h => by
    cases h
    exact .int i
  | .str x, _, h => by
    cases h
    exact .str x
  | .list ds, _, h => by
    cases h with
    | lst h1 h2 h3 => exact .lst (k _ _ h1 h2) (fun z => h2 (n _ z)) (Dqs.mono m n k h3)
  | .tuple ds, _, h => by
    cases h with
    | tup h1 h2 => exact .tup (h1.mono m) (Dqs.mono m n k h2)
  | .dict _, _, h => by cases h
theorem Dqs.mono {N N' : Addr → Prop} {H H' : Hp} (m : Tups H H') (n : ∀ a, N' a → N a) (k : ∀ a xs, H a = some (.lst xs) → ¬ N a → H' a = some (.lst xs)) : ∀ {ds : List PyData} {vs : List V}, Dqs N H vs ds → Dqs N' H' vs ds
  | [], _, h => by
    cases h
    exact .nil
  | d :: ds, _, h => by
    cases h with
    | cons h1 h2 => exact .cons (Dq.mono m n k h1) (Dqs.mono m n k h2)
end
theorem Dq.weak {N N' : Addr → Prop} {H : Hp} {v : V} {d : PyData} (h : Dq N H v d) (n : ∀ a, N' a → N a) : Dq N' H v d := h.mono (Tups.refl _) n fun _ _ e _ => e
theorem Dqs.weak {N N' : Addr → Prop} {H : Hp} {v : List V} {d : List PyData} (h : Dqs N H v d) (n : ∀ a, N' a → N a) : Dqs N' H v d := h.mono (Tups.refl _) n fun _ _ e _ => e
theorem Dq.same {N : Addr → Prop} {H H' : Hp} {v : V} {d : PyData} (h : Dq N H v d) (s : Same H H') : Dq N H' v d := h.mono s.tups (fun _ z => z) fun a xs e _ => s a _ e
theorem Dqs.same {N : Addr → Prop} {H H' : Hp} {v : List V} {d : List PyData} (h : Dqs N H v d) (s : Same H H') : Dqs N H' v d := h.mono s.tups (fun _ z => z) fun a xs e _ => s a _ e
theorem Dq.keep {N : Addr → Prop} {R : Addr} {H H' : Hp} {v : V} {d : PyData} (h : Dq N H v d) (k : Keep R H H') (r : ReelOk R H) (n : N R) : Dq N H' v d := h.mono (k.tups r) (fun _ z => z) fun a xs e m => k a _ e fun z => m (by rw [z]; exact n)
theorem Dqs.keep {N : Addr → Prop} {R : Addr} {H H' : Hp} {v : List V} {d : List PyData} (h : Dqs N H v d) (k : Keep R H H') (r : ReelOk R H) (n : N R) : Dqs N H' v d := h.mono (k.tups r) (fun _ z => z) fun a xs e m => k a _ e fun z => m (by rw [z]; exact n)
/-- a list that they avoid is filled -/
theorem Dqs.fill {N : Addr → Prop} {H : Hp} {D : Addr} {xs : List V} {o : HO} {v : List V} {d : List PyData} (h : Dqs N H v d) (hD : H D = some (.lst xs)) (n : N D) : Dqs N (upd H D o) v d := h.mono (tups_set hD) (fun _ z => z) fun a ys e m => by
  rw [upd_ne (show a ≠ D from fun z => m (by rw [z]; exact n))]
  exact e
theorem Dq.fill {N : Addr → Prop} {H : Hp} {D : Addr} {xs : List V} {o : HO} {v : V} {d : PyData} (h : Dq N H v d) (hD : H D = some (.lst xs)) (n : N D) : Dq N (upd H D o) v d := h.mono (tups_set hD) (fun _ z => z) fun a ys e m => by
  rw [upd_ne (show a ≠ D from fun z => m (by rw [z]; exact n))]
  exact e
mutual
theorem Dq.dp {K : PySem.W.Frag} {N : Addr → Prop} {H : Hp} : ∀ {d : PyData} {v : V}, Dq N H v d → Dp K H v d
  | .none, _, h => by
    cases h
    exact .non
  | .bool b, _, h => by
    cases h
    exact .bl b
  | .int i, _, h => by
    cases h
    exact .int i
  | .str x, _, h => by
    cases h
    exact .str x
  | .list ds, _, h => by
    cases h with
    | lst h1 h2 h3 => exact .lst (.inl (.inl h1)) (Dqs.dp h3)
  | .tuple ds, _, h => by
    cases h with
    | tup h1 h2 => exact .tup h1.sqt (Dqs.dp h2)
  | .dict _, _, h => by cases h
theorem Dqs.dp {K : PySem.W.Frag} {N : Addr → Prop} {H : Hp} : ∀ {ds : List PyData} {vs : List V}, Dqs N H vs ds → DpAll K H vs ds
  | [], _, h => by
    cases h
    exact .nil
  | d :: ds, _, h => by
    cases h with
    | cons h1 h2 => exact .cons (Dq.dp h1) (Dqs.dp h2)
end
theorem Dqs.len {N : Addr → Prop} {H : Hp} : ∀ {ds : List PyData} {vs : List V}, Dqs N H vs ds → vs.length = ds.length
  | [], _, h => by
    cases h
    rfl
  | d :: ds, _, h => by
    cases h with
    | cons h1 h2 =>
      rw [List.length_cons, List.length_cons, h2.len]
theorem Dqs.get {N : Addr → Prop} {H : Hp} : ∀ {ds : List PyData} {vs : List V} {i : Nat} {v : V}, Dqs N H vs ds → vs[i]? = some v → ∃ d, ds[i]? = some d ∧ Dq N H v d
  | [], _, i, v, h, e => by
    cases h
    simp at e
  | d :: ds, _, i, v, h, e => by
    cases h with
    | cons h1 h2 =>
      cases i with
      | zero =>
        have e' := Option.some.inj (show some _ = some v from e)
        subst e'
        exact ⟨d, rfl, h1⟩
      | succ i =>
        have q := Dqs.get (i := i) h2 (show _ = some v from e)
        exact q
theorem Dqs.get' {N : Addr → Prop} {H : Hp} : ∀ {ds : List PyData} {vs : List V} {i : Nat} {d : PyData}, Dqs N H vs ds → ds[i]? = some d → ∃ v, vs[i]? = some v ∧ Dq N H v d
  | [], _, i, v, h, e => by simp at e
  | d :: ds, _, i, v, h, e => by
    cases h with
    | cons h1 h2 =>
      cases i with
      | zero =>
        have e' := Option.some.inj (show some d = some v from e)
        subst e'
        exact ⟨_, rfl, h1⟩
      | succ i =>
        have q := Dqs.get' (i := i) h2 (show _ = some v from e)
        exact q
theorem Dqs.snoc {N : Addr → Prop} {H : Hp} {v : V} {d : PyData} (h : Dq N H v d) : ∀ {ds : List PyData} {vs : List V}, Dqs N H vs ds → Dqs N H (vs ++ [v]) (ds ++ [d])
  | [], _, k => by
    cases k
    exact .cons h .nil
  | d :: ds, _, k => by
    cases k with
    | cons h1 h2 => exact .cons h1 (h2.snoc h)

/-! ### lists for tuples: what a mixture keeps -/
mutual
def norm : PyData → PyData
  | .list ds => .list (norms ds)
  | .tuple ds => .list (norms ds)
  | .none => .none
  | .bool b => .bool b
  | .int i => .int i
  | .str x => .str x
  | .dict k => .dict k
def norms : List PyData → List PyData
  | [] => []
  | d :: ds => norm d :: norms ds
end
theorem norms_map : ∀ ds : List PyData, norms ds = ds.map norm
  | [] => by simp only [norms, List.map_nil]
  | d :: ds => by simp only [norms, List.map_cons, norms_map ds]
mutual
theorem norm_same (B : Nat) : ∀ d : PyData, (norm d).bulk = d.bulk ∧ (norm d).depth = d.depth ∧ (norm d).leavesShort B = d.leavesShort B ∧ (norm d).showable = d.showable ∧ (norm d).hasDict = d.hasDict
  | .list ds => by
    have h := norms_same B ds
    simp only [norm, PyData.bulk, PyData.depth, PyData.leavesShort, PyData.showable, PyData.hasDict]
    exact ⟨h.1, by rw [h.2.1], h.2.2.1, h.2.2.2.1, h.2.2.2.2⟩
  | .tuple ds => by
    have h := norms_same B ds
    simp only [norm, PyData.bulk, PyData.depth, PyData.leavesShort, PyData.showable, PyData.hasDict]
    exact ⟨h.1, by rw [h.2.1], h.2.2.1, h.2.2.2.1, h.2.2.2.2⟩
  | .none => by simp only [norm, and_self]
  | .bool b => by simp only [norm, and_self]
  | .int i => by simp only [norm, and_self]
  | .str x => by simp only [norm, and_self]
  | .dict k => by simp only [norm, and_self]
theorem norms_same (B : Nat) : ∀ ds : List PyData, PyData.bulkAll (norms ds) = PyData.bulkAll ds ∧ PyData.depthAll (norms ds) = PyData.depthAll ds ∧ PyData.leavesShortAll B (norms ds) = PyData.leavesShortAll B ds ∧ PyData.showableAll (norms ds) = PyData.showableAll ds ∧ PyData.hasDictAll (norms ds) = PyData.hasDictAll ds
  | [] => by simp only [norms, and_self]
  | d :: ds => by
    have h1 := norm_same B d
    have h2 := norms_same B ds
    simp only [norms, PyData.bulkAll, PyData.depthAll, PyData.leavesShortAll, PyData.showableAll, PyData.hasDictAll]
    exact ⟨by rw [h1.1, h2.1], by rw [h1.2.1, h2.2.1], by rw [h1.2.2.1, h2.2.2.1], by rw [h1.2.2.2.1, h2.2.2.2.1], by rw [h1.2.2.2.2, h2.2.2.2.2]⟩
end
def isSeqD : PyData → Bool
  | .list _ => true
  | .tuple _ => true
  | _ => false
def tyD : PyData → String
  | .list _ => "list"
  | .tuple _ => "tuple"
  | .none => "NoneType"
  | .bool _ => "bool"
  | .int _ => "int"
  | .str _ => "str"
  | .dict _ => "dict"
theorem Dq.ty {K : PySem.W.Frag} {N : Addr → Prop} {H : Hp} {v : V} {d : PyData} (h : Dq N H v d) : TyX K H v (.type (tyD d)) := by
  cases d with
  | none =>
    cases h
    exact .base .non
  | bool b =>
    cases h
    exact .base (.bl b)
  | int i =>
    cases h
    exact .base (.int i)
  | str x =>
    cases h
    exact .base (.str x)
  | list ds =>
    cases h with
    | lst h1 _ _ => exact .base (.lst h1)
  | tuple ds =>
    cases h with
    | tup h1 _ =>
      obtain ⟨o, _, h1⟩ := h1
      exact .fTuple h1
  | dict k => cases h
/-! data of tuples alone leans on tuples alone -/
mutual
def tupled : PyData → Bool
  | .list _ => false
  | .tuple ds => tupleds ds
  | .dict _ => false
  | .none => true
  | .bool _ => true
  | .int _ => true
  | .str _ => true
def tupleds : List PyData → Bool
  | [] => true
  | d :: ds => tupled d && tupleds ds
end
mutual
theorem Dq.monoT {N N' : Addr → Prop} {H H' : Hp} (m : Tups H H') : ∀ {d : PyData} {v : V}, tupled d = true → Dq N H v d → Dq N' H' v d
  | .none, _, _, h => by
    cases h
    exact .non
  | .bool b, _, _, h => by
    cases h
    exact .bl b
  | .int i, _, _, h => by
    cases h
    exact .int i
  | .str x, _, _, h => by
    cases h
    exact .str x
  | .list ds, _, e, _ => by simp only [tupled] at e; cases e
  | .tuple ds, _, e, h => by
    cases h with
    | tup h1 h2 => exact .tup (h1.mono m) (Dqs.monoT m (by simpa only [tupled] using e) h2)
  | .dict _, _, _, h => by cases h
theorem Dqs.monoT {N N' : Addr → Prop} {H H' : Hp} (m : Tups H H') : ∀ {ds : List PyData} {vs : List V}, tupleds ds = true → Dqs N H vs ds → Dqs N' H' vs ds
  | [], _, _, h => by
    cases h
    exact .nil
  | d :: ds, _, e, h => by
    simp only [tupleds, Bool.and_eq_true] at e
    cases h with
    | cons h1 h2 => exact .cons (Dq.monoT m e.1 h1) (Dqs.monoT m e.2 h2)
end
end Bk

namespace Bk
open PySem PySem.Spec PyProof.Rows L2
local macro_rules | `(tactic| walk_at "g") => `(tactic| (repeat first | refine ⟨_, rfl, ?_⟩ | refine ⟨cpow, ?_⟩ | refine ⟨wideM, ?_⟩ | refine ⟨_, _, rfl, rfl, ?_⟩ | refine ⟨rfl, ?_⟩))
section
variable {P : Program} {w : World} {K : PySem.W.Frag} {mg : Str → Option Value} {base : Heap}
/-! ### _law_blocks -/
abbrev s_law_blocks : Stmt := topS 42
abbrev N_law_blocks : List Str := ["reel", "most", "kind", "many"]
theorem sc_law_blocks : FnScope N_law_blocks ["reel", "most"] (defScope s_law_blocks) := ⟨rfl, rfl, rfl, by decide +kernel, rfl, by decide +kernel, by decide +kernel⟩
theorem Fresh.keep {R : Addr} {H H1 : Hp} {rs : List V} (f : Fresh H1 rs) (k : Keep R H H1) (r : ReelOk R H1) : Fresh H rs := fun p z => by
  have n := f p z
  exact k.free n (fun e => by
    obtain ⟨g, c, gs, cs, m, st, q⟩ := r
    rw [e, q.r] at n
    cases n)
theorem Keep.free' {R : Addr} {H H1 : Hp} (k : Keep R H H1) (r : ReelOk R H1) {p : Addr} (n : H1 p = none) : H p = none := k.free n (fun e => by
  obtain ⟨g, c, gs, cs, m, st, q⟩ := r
  rw [e, q.r] at n
  cases n)
theorem and_way {c d : Bool} {A B X : Prop} (hx : (if d = true then A else B) → X) (h1 : c = true → d = true → A) (h2 : ¬ (c = true ∧ d = true) → B) : if c = true then X else B := by
  by_cases hc : c = true
  · rw [if_pos hc]
    refine hx ?_
    by_cases hd : d = true
    · rw [if_pos hd]
      exact h1 hc hd
    · rw [if_neg hd]
      exact h2 fun z => hd z.2
  · rw [if_neg hc]
    exact h2 fun z => hc z.1
def spBlocks : Sp := fun vs H Q _ => ∃ (R : Addr) (most : Nat), vs = [.ref R, intV most] ∧ 1 ≤ most ∧ most ≤ 20 ∧ ReelOk R H ∧
  ∀ H' l rs S, Keep R H H' → ReelOk R H' → Aw R H H' → H l = none → SpAt H' l rs S → Fresh H rs → Good S → 1 ≤ S.length → S.length ≤ most → Q (.ref l) H'
theorem ok_law_blocks {f fD fA fL fO : Addr} {fd fdD fdA fdL fdO : FuncData} (F : Fun K "_law_blocks" "_law_blocks" s_law_blocks f fd)
    (F_law_draw : Fun K "_law_draw" "_law_draw" s_law_draw fD fdD) (g_law_draw : mg "_law_draw" = some (.ref fD)) (b_law_draw : Binds K fdD ["reel", "many"] [])
    (F_law_any : Fun K "_law_any" "_law_any" s_law_any fA fdA) (g_law_any : mg "_law_any" = some (.ref fA)) (b_law_any : Binds K fdA ["reel", "many"] [])
    (F_law_ball : Fun K "_law_ball" "_law_ball" s_law_ball fL fdL) (g_law_ball : mg "_law_ball" = some (.ref fL)) (b_law_ball : Binds K fdL ["reel", "many"] [])
    (F_law_doubled : Fun K "_law_doubled" "_law_doubled" s_law_doubled fO fdO) (g_law_doubled : mg "_law_doubled" = some (.ref fO)) (b_law_doubled : Binds K fdO ["blocks"] [])
    (G_law_draw : FnOk P w K mg base CX0 1 fD fdD ["reel", "many"] spDraw) (G_law_any : FnOk P w K mg base CX0 3 fA fdA ["reel", "many"] spAny) (G_law_ball : FnOk P w K mg base CX0 3 fL fdL ["reel", "many"] spAny) (G_law_doubled : FnOk P w K mg base CX0 3 fO fdO ["blocks"] spDoubled)
    (m_min : mg "min" = none) : FnOk P w K mg base CX0 4 f fd ["reel", "most"] spBlocks := by
  refine F.ok sc_law_blocks (fun vs H Q E h => ?_) (fun cdv A outer s H vs Q E hr h => ?_)
  · obtain ⟨R, most, rfl, _⟩ := h
    rfl
  · obtain ⟨R, most, rfl, hm1, hm2, hR, q⟩ := h
    have nd := sc_law_blocks.nd
    refine ⟨_, (pss_cons (ps_set (i := 2) nd rfl (.inl rfl) (pe_call G_law_draw (hr.mono (by first | decide | omega)) (by rfl) g_law_draw F_law_draw.kp b_law_draw .nil pass0 (pa_cons (pv 0) (pa_cons pe_int pa_nil))))
      (pss_cons (ps_if (pw_and (pt_cmpR op_eq (pv 2) pe_int (nomark _)) (pw_and1 (pt_cmpR op_gt (pv 1) pe_int (nomark _)))).pt (pss_one (ps_ret (pe_call G_law_doubled (hr.mono (by first | decide | omega)) (by rfl) g_law_doubled F_law_doubled.kp b_law_doubled .nil pass0 (pa_cons (pe_call G_law_ball (hr.mono (by first | decide | omega)) (by rfl) g_law_ball F_law_ball.kp b_law_ball .nil pass0 (pa_cons (pv 0) (pa_cons (pe_op op_add pe_int (pe_call G_law_draw (hr.mono (by first | decide | omega)) (by rfl) g_law_draw F_law_draw.kp b_law_draw .nil pass0 (pa_cons (pv 0) (pa_cons (pe_op op_fdivN (pv 1) pe_int) pa_nil)))) pa_nil))) pa_nil)))) pss_nil)
      (pss_cons (ps_set (i := 3) nd rfl (.inl rfl) (pe_op op_add pe_int (pe_call G_law_draw (hr.mono (by first | decide | omega)) (by rfl) g_law_draw F_law_draw.kp b_law_draw .nil pass0 (pa_cons (pv 0) (pa_cons (pe_ix (kIxL K rfl) (pe_lst (pa_cons (pv 1) (pa_cons (pe_callB (call_min2 rfl) (by rfl) m_min (by decide +kernel) (pa_cons (pv 1) (pa_cons pe_int pa_nil))) pa_nil))) (pe_call G_law_draw (hr.mono (by first | decide | omega)) (by rfl) g_law_draw F_law_draw.kp b_law_draw .nil pass0 (pa_cons (pv 0) (pa_cons pe_int pa_nil))) (fun _ _ => rfl)) pa_nil)))))
      (pss_one (ps_ret (pe_ifExp (pt_cmpR op_eq (pv 2) pe_int (nomark _)) (pe_call G_law_ball (hr.mono (by first | decide | omega)) (by rfl) g_law_ball F_law_ball.kp b_law_ball .nil pass0 (pa_cons (pv 0) (pa_cons (pv 3) pa_nil))) (pe_call G_law_any (hr.mono (by first | decide | omega)) (by rfl) g_law_any F_law_any.kp b_law_any .nil pass0 (pa_cons (pv 0) (pa_cons (pv 3) pa_nil))))))))), ?_⟩
    refine ⟨.ref R, rfl, R, 5, rfl, by decide, by decide, hR, fun H1 kd k1 hR1 aw1 d0 d1 => ?_⟩
    refine ⟨_, rfl, rfl, _, rfl, ?_⟩
    refine and_way (d := decide ((1 : Int) < (most : Int))) (fun z => ⟨intV most, rfl, _, _, rfl, rfl, _, rfl, z⟩) (fun e1 e2 => ?_) (fun e => ?_)
    · have hm : 1 < most := by
        have := of_decide_eq_true e2
        omega
      have efd : (most : Int).fdiv 2 = ((most / 2 : Nat) : Int) := fdiv_nat most 2
      refine ⟨.ref R, rfl, .ref R, rfl, intV most, rfl, _, _, rfl, rfl, ⟨by decide, by decide⟩, ?_⟩
      refine ⟨R, (most : Int).fdiv 2, rfl, by omega, by omega, hR1, fun H2 r k2 hR2 aw2 r0 r1 => ?_⟩
      rw [efd] at r1
      refine ⟨_, _, rfl, rfl, R, r.toNat + 1, ?_, by omega, by omega, hR2, fun H3 l rs S k3 hR3 aw3 nl hS hF hG hlen => ?_⟩
      · show [V.ref R, .int (1 + r)] = _
        rw [show (intV (r.toNat + 1) : V) = .int (1 + r) from congrArg V.int (by omega)]
      refine ⟨l, rs, S, rfl, hS, hG, by omega, fun H4 l' rs' S' s4 nl' hS' hF' hG' hlen' => ?_⟩
      have k13 : Keep R H H3 := (k1.trans k2).trans k3
      have w13 : Aw R H H3 := (Aw.trans aw1 k1 aw2).trans (k1.trans k2) aw3
      exact q H4 l' rs' S' (k13.same s4) (hR3.same s4) (w13.trans k13 s4.aw) (k13.free' hR3 nl') hS' (hF'.keep k13 hR3) hG' (by omega) (by omega)
    · -- many
      refine ⟨.ref R, rfl, intV most, rfl, intV most, rfl, most, 3, rfl, ?_⟩
      obtain ⟨mn, hmn⟩ : ∃ mn : Nat, (if (3 : Int) < (most : Int) then (3 : Int) else (most : Int)) = (mn : Int) ∧ 1 ≤ mn ∧ mn ≤ most := by
        by_cases h : (3 : Int) < (most : Int)
        · exact ⟨3, by rw [if_pos h]; rfl, by omega, by omega⟩
        · exact ⟨most, by rw [if_neg h], hm1, Nat.le_refl _⟩
      rw [hmn.1]
      refine ⟨Nat.le_of_lt (small1000 (by show 2 ≤ 1000; decide)), fun p np => ?_⟩
      have s2 : Same H1 (upd H1 p (.lst [intV most, intV mn])) := same_new np
      have h2 : (upd H1 p (.lst [intV most, intV mn])) p = some (.lst [intV most, intV mn]) := upd_same
      have hA2 := hR1.away (o := .lst [intV most, intV mn]) np
      show tCall _ _ _ _ _ (upd H1 p (.lst [intV most, intV mn])) _
      generalize upd H1 p (.lst [intV most, intV mn]) = H2 at s2 h2 hA2 ⊢
      refine ⟨.ref R, rfl, R, 2, rfl, by decide, by decide, hA2.ok, fun H3 r k3 hR3 aw3 r0 r1 => ?_⟩
      have h3 := k3 _ _ h2 hA2.ne
      obtain ⟨bd, hbd, b0, b1⟩ : ∃ bd : Nat, atI [intV most, intV mn] r = some (intV bd) ∧ 1 ≤ bd ∧ bd ≤ most := by
        by_cases h : r = 0
        · subst h
          exact ⟨most, rfl, hm1, Nat.le_refl _⟩
        · have h : r = 1 := by omega
          subst h
          exact ⟨mn, rfl, hmn.2.1, hmn.2.2⟩
      refine ⟨p, _, r, _, rfl, rfl, .inl (.inl h3), hbd, R, bd, rfl, by omega, by omega, hR3, fun H4 r2 k4 hR4 aw4 r20 r21 => ?_⟩
      have k14 : Keep R H H4 := ((k1.same s2).trans k3).trans k4
      have w14 : Aw R H H4 := ((Aw.trans aw1 k1 s2.aw).trans (k1.same s2) aw3).trans ((k1.same s2).trans k3) aw4
      refine ⟨_, _, rfl, rfl, ?_⟩
      have em : [V.ref R, .int (1 + r2)] = [V.ref R, intV (r2.toNat + 1)] := by
        rw [show (intV (r2.toNat + 1) : V) = .int (1 + r2) from congrArg V.int (by omega)]
      have fin : MadeS R H4 (r2.toNat + 1) Q := fun H5 l rs S k5 hR5 aw5 nl hS hF hG hlen =>
        q H5 l rs S (k14.trans k5) hR5 (w14.trans k14 aw5) (k14.free' hR4 nl) hS (hF.keep k14 hR4) hG (by omega) (by omega)
      refine ⟨_, rfl, rfl, _, rfl, ite2 (fun _ => ?_) (fun _ => ?_)⟩
      · exact ⟨_, rfl, _, rfl, R, r2.toNat + 1, em, by omega, by omega, hR4, fin⟩
      · exact ⟨_, rfl, _, rfl, R, r2.toNat + 1, em, by omega, by omega, hR4, fin⟩
end
end Bk

namespace Bk
open PySem PySem.Spec PyProof.Rows L2
local macro_rules | `(tactic| walk_at "g") => `(tactic| (repeat first | refine ⟨_, rfl, ?_⟩ | refine ⟨cpow, ?_⟩ | refine ⟨wideM, ?_⟩ | refine ⟨_, _, rfl, rfl, ?_⟩ | refine ⟨rfl, ?_⟩))
section
variable {P : Program} {w : World} {K : PySem.W.Frag} {mg : Str → Option Value} {base : Heap}
/-! ### _law_shut -/
abbrev s_law_shut : Stmt := topS 43
abbrev N_law_shut : List Str := ["blocks", "block"]
theorem sc_law_shut : FnScope N_law_shut ["blocks"] (defScope s_law_shut) := ⟨rfl, rfl, rfl, by decide +kernel, rfl, by decide +kernel, by decide +kernel⟩
def intD (n : Nat) : PyData := .int (n : Int)
def jD : Jn → PyData
  | none => .none
  | some (n, t) => .tuple [intD n, .tuple (t.map intD)]
def shutD (S : Spc) : PyData := .tuple (S.map fun b => .tuple (b.map jD))
theorem dqs_ints {N : Addr → Prop} {H : Hp} : ∀ t : Trn, Dqs N H (trnV t) (t.map intD)
  | [] => .nil
  | n :: t => .cons (.int (n : Int)) (dqs_ints t)
theorem JAt.dq {N : Addr → Prop} {H : Hp} {v : V} {j : Jn} (h : JAt H v j) : Dq N H v (jD j) := by
  cases j with
  | none =>
    rw [show v = .non from h]
    exact .non
  | some k =>
    obtain ⟨n, t⟩ := k
    obtain ⟨p, q, rfl, h1, h2⟩ := h
    exact .tup h1 (.cons (.int (n : Int)) (.cons (.tup h2 (dqs_ints t)) .nil))
theorem jats_dqs {N : Addr → Prop} {H : Hp} : ∀ {vs : List V} {b : Blk}, Paired (JAt H) vs b → Dqs N H vs (b.map jD)
  | _, _, .nil => .nil
  | _, _, .cons r t => .cons r.dq (jats_dqs t)
theorem j_tupled (j : Jn) : tupled (jD j) = true := by
  cases j with
  | none => simp only [jD, tupled]
  | some k =>
    obtain ⟨n, t⟩ := k
    have h : tupleds (t.map intD) = true := by
      induction t with
      | nil => simp only [List.map_nil, tupleds]
      | cons x r ih => simp only [List.map_cons, tupleds, intD, tupled, Bool.true_and, ih]
    simp only [jD, tupled, tupleds, intD, h, Bool.and_self]
theorem js_tupled : ∀ b : Blk, tupleds (b.map jD) = true
  | [] => by simp only [List.map_nil, tupleds]
  | j :: b => by simp only [List.map_cons, tupleds, j_tupled j, js_tupled b, Bool.and_self]
theorem blks_tupled : ∀ S : Spc, tupleds (S.map fun b => .tuple (b.map jD)) = true
  | [] => by simp only [List.map_nil, tupleds]
  | b :: S => by simp only [List.map_cons, tupleds, tupled, js_tupled b, blks_tupled S, Bool.and_self]
def spShut : Sp := fun vs H Q _ => ∃ (l : Addr) (rs : List V) (S : Spc), vs = [.ref l] ∧ SpAt H l rs S ∧ S.length ≤ 40 ∧ ∀ H' v, Same H H' → (∀ N, Dq N H' v (shutD S)) → Q v H'
theorem ok_law_shut {f : Addr} {fd : FuncData} (F : Fun K "_law_shut" "_law_shut" s_law_shut f fd) (m_tuple : mg "tuple" = none) : FnOk P w K mg base CX0 1 f fd ["blocks"] spShut := by
  refine F.ok sc_law_shut (fun vs H Q E h => ?_) (fun cdv A outer s H vs Q E hr h => ?_)
  · obtain ⟨l, rs, S, rfl, _⟩ := h
    rfl
  · obtain ⟨l, rs, S, rfl, hS, hl, q⟩ := h
    have nd := sc_law_shut.nd
    refine ⟨_, (pss_one (ps_ret (pe_callTy (kTupleF K rfl) (by rfl) m_tuple (by decide +kernel) (pa_cons (pe_lc (own := [("block", 1)]) (g := gName 1) (tt := tYes) rfl nd (kPiL K rfl (pi_list (pv 0))) (blkOk_by (own := [("block", 1)]) (N := N_law_shut) (sc := defScope s_law_shut) (by decide +kernel)) (fun _ _ _ _ _ => (pg_name (i := 1) nd rfl (Or.inl rfl))) (fun _ _ _ _ _ => pts_nil) (fun _ _ _ _ _ => (pe_callTy (kTupleF K rfl) (by rfl) m_tuple (by decide +kernel) (pa_cons (pv 1) pa_nil)))) pa_nil)))), ?_⟩
    have lrs : rs.length = S.length := plen hS.b
    refine ⟨.ref l, rfl, l, rfl, ⟨_, .inl (.inl hS.l)⟩, fun D nD => ?_⟩
    refine lc_list (xs := rs) (fun i H1 => ∃ ws, H1 D = some (.lst ws) ∧ (∀ N, Dqs N H1 ws ((S.take i).map fun b => .tuple (b.map jD))) ∧ ws.length = i ∧ Same H H1) ⟨[], upd_same, fun _ => .nil, rfl, same_new nD⟩ ?_ ?_ ?_
    · rintro i H1 _ ⟨ws, h1, t1, l1, s1⟩
      exact .inl (.inl (s1 _ _ hS.l))
    · rintro i x H1 hx ⟨ws, h1, t1, l1, s1⟩
      obtain ⟨b, hb, p, vs, rfl, hp, hv⟩ := pget' hS.b hx
      have hi : i < S.length := (List.getElem?_eq_some_iff.mp hb).1
      refine ⟨rfl, .ref p, rfl, p, vs, rfl, .inl ⟨.inl (.inl (s1 _ _ hp)), fun p2 o2 np2 d2 => ?_⟩⟩
      have s2 : Same H1 (upd H1 p2 (.frz o2 (.tup vs))) := same_new np2
      have f2 : FT (upd H1 p2 (.frz o2 (.tup vs))) p2 vs := FT.new d2
      generalize upd H1 p2 (.frz o2 (.tup vs)) = H2 at s2 f2 ⊢
      have h2 := s2 _ _ h1
      have st : Same H2 H2 := Same.refl _
      refine ⟨ws, h2, small1000 (by omega), ws ++ [.ref p2], upd_same, fun N => ?_, by rw [List.length_append, l1]; rfl, same_fill (s1.trans s2) nD⟩
      rw [List.take_add_one, hb, List.map_append]
      -- frozen tuples alone stand in these
      have tp := s2.tups.trans (tups_set (o := .lst (ws ++ [.ref p2])) h2)
      have jv : Dqs N (upd H2 D (.lst (ws ++ [.ref p2]))) vs (b.map jD) := jats_dqs (pmono hv fun _ _ z => z.mono (s1.tups.trans tp))
      refine Dqs.snoc (.tup (f2.mono (tups_set h2)) jv) ?_
      exact (t1 N).monoT tp (blks_tupled _)
    · rintro H1 ⟨ws, h1, t1, l1, s1⟩
      rw [lrs, List.take_length] at t1
      refine ⟨D, ws, rfl, .inl ⟨.inl (.inl h1), fun p2 o2 np2 d2 => ?_⟩⟩
      refine q _ _ (s1.trans (same_new np2)) fun N => ?_
      exact .tup (FT.new d2) ((t1 N).same (same_new np2))
theorem item_le : ∀ {ds : List PyData} {i : Nat} {d : PyData}, ds[i]? = some d → d.bulk ≤ PyData.bulkAll ds ∧ d.depth ≤ PyData.depthAll ds ∧ i < PyData.bulkAll ds
  | [], i, d, e => by simp at e
  | x :: xs, 0, d, e => by
    have e' := Option.some.inj (show some x = some d from e)
    subst e'
    simp only [PyData.bulkAll, PyData.depthAll]
    omega
  | x :: xs, i + 1, d, e => by
    have h := item_le (ds := xs) (i := i) (d := d) e
    simp only [PyData.bulkAll, PyData.depthAll]
    omega
theorem kit_seq {K : PySem.W.Frag} (d : PyData) : PySem.W.kitAny K (.type (tyD d)) [.type "list", .type "tuple"] = some (isSeqD d) := by
  have go : ∀ (a : String) (b1 b2 r : Bool), kitB a "list" = some b1 → kitB a "tuple" = some b2 → (b1 = false → b2 = r) → (b1 = true → r = true) → PySem.W.kitAny K (.type a) [.type "list", .type "tuple"] = some r := fun a b1 b2 r h1 h2 h3 h4 =>
    kitAny_cons (kit_ty h1) (fun e => by
      have e2 := h3 e
      subst e2
      exact kitAny_cons (kit_ty h2) (fun z => by rw [z]; rfl) fun z => z) h4
  cases d with
  | none => exact go "NoneType" false false _ (by decide +kernel) (by decide +kernel) (fun _ => rfl) (fun z => by cases z)
  | bool b => exact go "bool" false false _ (by decide +kernel) (by decide +kernel) (fun _ => rfl) (fun z => by cases z)
  | int i => exact go "int" false false _ (by decide +kernel) (by decide +kernel) (fun _ => rfl) (fun z => by cases z)
  | str x => exact go "str" false false _ (by decide +kernel) (by decide +kernel) (fun _ => rfl) (fun z => by cases z)
  | list ds => exact go "list" true false _ (by decide +kernel) (by decide +kernel) (fun z => by cases z) (fun _ => rfl)
  | tuple ds => exact go "tuple" false true _ (by decide +kernel) (by decide +kernel) (fun _ => rfl) (fun z => by cases z)
  | dict k => exact go "dict" false false _ (by decide +kernel) (by decide +kernel) (fun _ => rfl) (fun z => by cases z)
theorem norms_len : ∀ ds : List PyData, (norms ds).length = ds.length := fun ds => by rw [norms_map, List.length_map]
end
end Bk

/-! An error that a try keeps as a value: try: .. except X as e: caught = e; and isinstance of it behind the try. -/
namespace Bk
open PySem PySem.Spec PyProof.Rows L2
/-- an error that was caught, held as a value: its class and its own dict -/
def CaO (cls : Value) (d : Option Addr) (a : Addr) : HO := .ext fun h => ∃ (ob : Obj) (fs : Array Value), h.get? a = some ob ∧ Zc cls d ob ∧ ob.data = .fields fs
theorem caO_ok {P : Program} {w : World} {H : Hp} {h : Heap} {a : Addr} {cls : Value} {d : Option Addr} {ob : Obj} {fs : Array Value} (e : h.get? a = some ob) (z : Zc cls d ob) (q : ob.data = .fields fs) : ObjOk P w H h a (CaO cls d a) :=
  ⟨⟨ob, fs, e, z, q⟩, ⟨ob, e⟩, fun _ _ ⟨u, v, k, r⟩ m => ⟨u, v, m u k, r⟩⟩
section
variable {X : Cx} {pins : List (Addr × Obj)} {σ : L2.St} {H : Hp} {s0 s : Shared} {B : Heap}
theorem landedX (I : Inv X pins σ H s0) (nb : ∀ b o, s0.heap.get? b = some o → b ∉ frs X.stack → B.get? b = some o) (stays : B.StaysIn s.heap) (slots : s0.heap.UpToSlots s.heap) (eo : s.os = s0.os) (bare : AllBare s.gens)
    {a : Addr} {cls : Value} {d : Option Addr} {ob : Obj} {fs : Array Value} (ha : s.heap.get? a = some ob) (hz : Zc cls d ob) (hd : ob.data = .fields fs) (fresh : s0.heap.get? a = none) (na : H a = none) : Inv X pins σ (upd H a (CaO cls d a)) s := by
  have other : ∀ b o, s0.heap.get? b = some o → b ≠ a := fun b o e z => by
    rw [z, fresh] at e
    cases e
  have frm : ∀ b o, b ∈ frs X.stack → s0.heap.get? b = some o → ∃ sl, s.heap.get? b = some { o with slots := sl } := fun b o hb e => by
    obtain ⟨_, o2, e2, nofields⟩ := I.stack.mem hb
    obtain rfl : o = o2 := Option.some.inj (e.symm.trans e2)
    exact slots b o e nofields
  have still : ∀ b o, b ∉ frs X.stack → s0.heap.get? b = some o → s.heap.get? b = some o := fun b o hb e => stays b o (nb b o e hb)
  have old : HOk X.prog X.w H s.heap := (I.inGround nb).kept stays
  have up : ∀ {b : Addr} {u : HO}, H b = some u → (upd H a (CaO cls d a)) b = some u := fun {b u} e => by
    rw [upd_ne (ne_of_none e na)]
    exact e
  refine I.call' (ch := []) eo ⟨fun b o e _ hb _ => still b o hb e, fun b o e _ hb _ => frm b o hb e, fun b o e n _ => ?_, fun b o e _ => ?_, fun b xs e => up e, fun b o u e => up e, fun b ps e => ⟨#[], by rw [up e]; simp⟩⟩ (fun b u e => ?_) bare (fun _ z => nomatch z)
  · rw [upd_ne (other b o e)]
    exact n
  · by_cases hb : b ∈ frs X.stack
    · obtain ⟨sl, e2⟩ := frm b o hb e
      exact ⟨_, e2⟩
    · exact ⟨o, still b o hb e⟩
  · by_cases hb : b = a
    · subst hb
      rw [upd_same] at e
      cases e
      exact caO_ok ha hz hd
    · rw [upd_ne hb] at e
      exact (old b u e).stay (fun _ _ _ q => q) (fun _ q => up q) fun _ _ q => up q
theorem suiteX (I : Inv X pins σ H s) (a : Addr) : Inv (X.suite a (X.pn ++ pins)) [] σ H s :=
  ⟨I.ok.suite _ _, I.os, I.bare, I.base, I.loc, I.cell, I.free, I.freeC, fun p hp => I.pin p ((List.append_nil _).subst (motive := fun l => p ∈ l) hp), I.hok, I.len⟩
theorem unsuiteX {a : Addr} {pn : List (Addr × Obj)} (I : Inv (X.suite a (X.pn ++ pins)) pn σ H s) (ok : X.Ok) : Inv X pins σ H s :=
  ⟨ok, I.os, I.bare, I.base, I.loc, I.cell, I.free, I.freeC, fun p hp => I.pin p (List.mem_append.mpr (.inl hp)), I.hok, I.len⟩
end
/-- what the clause «except x as n: m = n» wishes of an error of the body: it is of x, and goes on with it in m's slot -/
def wKeep (K : PySem.W.Frag) (c : Value) (i j : Nat) (D : Ends) : WX := fun cls d σ H =>
  PySem.W.exmOne K cls c = some true ∧ ∀ a, H a = none → D.nx (((σ.set i (some (.ref a))).set j (some (.ref a))).set i none) (upd H a (CaO cls d a))
section
variable {X : Cx} {x n m : Str} {c : Value} {i j : Nat} {body : List Stmt} {np p1 p2 p3 pos pos' : Pos} {tb : WX → TS}
theorem ps_try_keep (hs : X.stack = X.env :: X.outer) (hf : X.env.frame = some X.env.locals) (hN : X.N.Nodup) (hi : X.N[i]? = some n) (hj : X.N[j]? = some m) (hij : i ≠ j) (hln : X.env.kindOf n = some .local) (hlm : X.env.scope.names.lookup m = some .local)
    (hvn : Vis X.env.scope n) (hsw : swapsWith (.Name n p2) (some (.Name m p1)) p3.line X.env = pure false) (hc : Names X x c) (hlen : ∀ {pins : List (Addr × Obj)} {σ : L2.St} {H : Hp} {s : Shared}, Inv X pins σ H s → i < σ.length) (hd1 : (n == ("__debug__" : Str)) = false) (hd2 : (n == ("__classdict__" : Str)) = false)
    (hb : ∀ (W : WX) (pn : List (Addr × Obj)) (xe : Value → Shared → Prop), Takes (X.tr pn xe) W → PassesOwn (model X.prog X.w) X.A X.env xe → PSs (X.tr pn xe) body (tb W)) :
    PS X (.Try body [.ExceptHandler (some (.Name x np)) (some n) [.Assign [.Name m p1] (.Name n p2) p3] pos'] [] [] pos) (fun D σ H => tb (wKeep X.K c i j D) D σ H) := by
  refine ⟨fun pins s σ H D I h => ?_⟩
  have ok := I.ok
  have frames : X.A.frames = some (X.env :: X.outer) := ok.frames.trans (congrArg some hs)
  let caught := [ExceptHandler.ExceptHandler (some (.Name x np)) (some n) [.Assign [.Name m p1] (.Name n p2) p3] pos']
  refine wpAny_Try_except ?_
  refine wpAny_mono ((hb (wKeep X.K c i j D) (X.pn ++ pins) (fun e s1 => wpAny (model X.prog X.w) X.A (noteFrame e X.env) (fun _ s2 => wpAny (model X.prog X.w) X.A (setFlight e none) (fun _ s3 =>
    wpAny (model X.prog X.w) X.A (handleBy e X.env caught) (SP X pins D) X.xe s3) X.xe s2) X.xe s1) (fun u s' thrown => ?_) PassesOwn.looking).run [] s σ H D (I.toTry _) h) (fun f s1 done => ?_) (fun _ _ z => z)
  · obtain ⟨a, B, s0, pn0, σ0, H0, cls, d, rfl, J0, nb, slots, sky, na, eo, bare, hx, goes⟩ := thrown
    have J : Inv X pins σ0 H0 s0 := J0.ofTry ok
    show wpAny (model X.prog X.w) X.A (noteFrame (.ref a) X.env) _ _ _
    refine Sky.land Zc.steady frames hf (hs ▸ (show Sky B X.stack a (Zc cls d) X.env.locals s'.heap from sky)) fun h3 fly3 slots3 => ?_
    obtain ⟨o3, v3, e3, z3, d3⟩ := fly3.there
    have notStack : a ∉ frs (X.env :: X.outer) := fun hm => by
      obtain ⟨_, o, e, nofields⟩ := fly3.2.2.1.mem hm
      obtain rfl : o3 = o := Option.some.inj (e3.symm.trans e)
      exact nofields v3 d3
    have fresh : s0.heap.get? a = none := by
      cases e : s0.heap.get? a with
      | none => rfl
      | some o =>
        have := nb a o e (by rw [hs]; exact notStack)
        rw [fly3.2.1] at this
        cases this
    have J3 : Inv X pins σ0 (upd H0 a (CaO cls d a)) { s' with heap := h3 } := landedX (s := { s' with heap := h3 }) J nb fly3.1 (slots.trans slots3) eo bare e3 z3 d3 fresh na
    refine wpAny_handleBy_cons (codeAny_handlers_test ?_) nofun
    have isOf : PySem.W.Looks (model X.prog X.w) h3 (typeOf (.ref a)) cls := fun A Q E s k q => wpAny_typeOf_ref (k _ _ e3) (z3.1 ▸ q)
    have meets := PySem.W.exm_one (M := model X.prog X.w) J3.kIn isOf hx
    have named : ∀ {Q : Value → Shared → Prop} {E : Value → Shared → Prop}, Q c { s' with heap := h3 } → wpAny (model X.prog X.w) (X.A.mark (some (.ref a))) (eval (.Name x np) X.env) Q E { s' with heap := h3 } := fun {Q E} q => by
      obtain ⟨glob, nodebug, known | ⟨none, boot, notName⟩⟩ := hc
      · exact ld_glob (X := X.suite a (X.pn ++ pins)) (suiteX J3 a) glob known q nodebug
      · exact ld_blt (X := X.suite a (X.pn ++ pins)) (suiteX J3 a) glob none boot q notName nodebug
    refine named (meets.here ?_)
    refine codeAny_handlers_suite_as ?_
    refine HandSPX.lands_againZ fly3 fun h4 fly4 slots4 => ?_
    obtain ⟨o4, v4, e4, z4, d4⟩ := fly4.there
    have J4 : Inv X pins σ0 (upd H0 a (CaO cls d a)) { s' with heap := h4 } := landedX (s := { s' with heap := h4 }) J nb fly4.1 ((slots.trans slots3).trans slots4) eo bare e4 z4 d4 fresh na
    have long := hlen J4
    refine store_ok (X := X.suite a (X.pn ++ pins)) (v := .ref a) (suiteX J4 a) hN hi (.inl hln) rfl (fun s5 S5 => ?_) (.inr hln)
    have run := (pss_one (ps_set (X := X.suite a (X.pn ++ pins)) (i := j) (pos := p3) hN hj (.inl hlm) (pe_var (X := X.suite a (X.pn ++ pins)) (i := i) (pos := p2) hi hvn (hd := hd1) (hcd := hd2)) hsw (.inr hlm))).run [] s5 _ _
      { nx := fun σ1 H1 => σ1 = ((σ0.set i (some (.ref a))).set j (some (.ref a))) ∧ H1 = upd H0 a (CaO cls d a), rt := fun _ _ => False, bk := fun _ _ => False, ct := fun _ _ => False } S5 ⟨.ref a, List.getElem?_set_self long, rfl, rfl⟩
    refine wpAny_mono run (fun f s6 done => ?_) (fun _ _ z => False.elim z)
    cases f with
    | next =>
      obtain ⟨σ6, H6, S6, rfl, rfl⟩ := done
      exact gone_ok (unsuiteX S6 ok) hN hi hln fun s7 J7 => ⟨_, _, J7, goes a na⟩
    | brk =>
      obtain ⟨_, _, _, z⟩ := done
      exact z.elim
    | cont =>
      obtain ⟨_, _, _, z⟩ := done
      exact z.elim
    | ret u =>
      obtain ⟨_, _, _, _, _, z⟩ := done
      exact z.elim
  · cases f with
    | next =>
      obtain ⟨σ1, H1, J1, q⟩ := done
      exact wpAny_execs_nil ⟨σ1, H1, Inv.ofTry J1 ok, q⟩
    | brk =>
      obtain ⟨σ1, H1, J1, q⟩ := done
      exact ⟨σ1, H1, Inv.ofTry J1 ok, q⟩
    | cont =>
      obtain ⟨σ1, H1, J1, q⟩ := done
      exact ⟨σ1, H1, Inv.ofTry J1 ok, q⟩
    | ret u =>
      obtain ⟨v1, σ1, H1, J1, r, q⟩ := done
      exact ⟨v1, σ1, H1, Inv.ofTry J1 ok, r, q⟩
end
end Bk

/-! A caught error that has a dict of its own: isinstance of it, its fields. -/
namespace Bk
open PySem PySem.Spec PyProof.Rows L2
/-- at a: a caught error of the class at D, with these fields -/
def CaL (H : Hp) (D a : Addr) (fs : List (Str × V)) : Prop := ∃ dx, H a = some (CaO (.ref D) (some dx) a) ∧ H dx = some (.xd fs)
theorem CaL.same {H H' : Hp} {D a : Addr} {fs : List (Str × V)} (h : CaL H D a fs) (s : Same H H') : CaL H' D a fs := by
  obtain ⟨dx, h1, h2⟩ := h
  exact ⟨dx, s _ _ h1, s _ _ h2⟩
section
variable {X : Cx}
theorem caL_at {pins : List (Addr × Obj)} {σ : L2.St} {H : Hp} {s : Shared} {a D : Addr} {fs : List (Str × V)} (I : Inv X pins σ H s) (h : CaL H D a fs) : ∃ (ob od : Obj) (mA : Str → Option Value), PySem.W.InstAt s.heap a ob D (some od) ∧ (∀ name, PySem.W.lookIn name od = some (mA name)) ∧ ∀ f, RelO (fs.lookup f) (mA f) := by
  obtain ⟨dx, h1, h2⟩ := h
  obtain ⟨⟨⟨oc, od, oda, osl⟩, vs, e, ⟨z1, z2⟩, q⟩, _⟩ := (show ObjOk X.prog X.w H s.heap a (CaO (.ref D) (some dx) a) from I.hok a _ h1)
  dsimp only at z1 z2 q
  subst z1 z2 q
  obtain ⟨mA, hn, r⟩ := (show ObjOk X.prog X.w H s.heap dx (.xd fs) from I.hok dx _ h2)
  obtain ⟨o2, e2, hl⟩ := lookIn_ns hn
  exact ⟨_, o2, mA, ⟨e, rfl, rfl, e2⟩, hl, r⟩
theorem _root_.L2.ExcC.sm {K : PySem.W.Frag} {D : Addr} (C : ExcC K D) : (PySem.W.clsIn K D).isSome = true := by
  obtain ⟨cd, hc, _⟩ := PySem.W.any_some C.hd
  rw [hc]
  rfl
variable (K : PySem.W.Frag)
/-- isinstance(e, c), e a caught error of the program's class D -/
def rIsC : List V → Hp → VK → Prop := fun xs H Q => ∃ (a D : Addr) (fs : List (Str × V)) (c : V) (u : Value) (b : Bool), xs = [.ref a, c] ∧ CaL H D a fs ∧ ExcC K D ∧ ClsV c u ∧ PySem.W.kitOne K (.ref D) u = some b ∧ Q (.bl b) H
theorem kIsC (h : X.K = K) : CallR X (.builtin "isinstance") (rIsC K) := by
  subst h
  rintro pins s σ H xs us Q I r ⟨a, D, fs, c, u, b, rfl, ha, C, k, e, q⟩
  obtain ⟨u1, u2, rfl, r1, r2⟩ := vals2 r
  obtain rfl := k.eq r2
  obtain rfl : u1 = Value.ref a := r1
  obtain ⟨ob, od, mA, J, _⟩ := caL_at I ha
  exact PySem.W.kia_one (PySem.W.kitx_exc C.sm C.hg C.hk C.hs C.ha C.hn C.ht C.hm) I.kIn J e nofun fun tk => ⟨.bl b, H, I.tok tk, rfl, q⟩
/-- isinstance(e, (c1, c2, ..)) -/
def rIsCT : List V → Hp → VK → Prop := fun xs H Q => ∃ (a D tp : Addr) (fs : List (Str × V)) (cs : List V) (us : List Value) (b : Bool), xs = [.ref a, .ref tp] ∧ CaL H D a fs ∧ ExcC K D ∧ H tp = some (.tup cs) ∧ Paired ClsV cs us ∧ PySem.W.kitAny K (.ref D) us = some b ∧ Q (.bl b) H
theorem kIsCT (h : X.K = K) : CallR X (.builtin "isinstance") (rIsCT K) := by
  subst h
  rintro pins s σ H xs us Q I r ⟨a, D, tp, fs, cs, ws, b, rfl, ha, C, hT, k, e, q⟩
  obtain ⟨u1, u2, rfl, r1, r2⟩ := vals2 r
  obtain rfl : u1 = Value.ref a := r1
  obtain rfl : u2 = Value.ref tp := r2
  obtain ⟨ob, odx, mA, J, _⟩ := caL_at I ha
  obtain ⟨_, its, rv, ⟨oc, od, dt, sl⟩, h1, h2, n, h3⟩ := (show ObjOk X.prog X.w H s.heap tp (.tup cs) from I.hok tp _ hT)
  obtain rfl := ClsV.all k rv
  dsimp only at h2 h3
  subst h2 h3
  exact PySem.W.kia_tup (PySem.W.kitx_exc C.sm C.hg C.hk C.hs C.ha C.hn C.ht C.hm) I.kIn J h1 e nofun fun tk => ⟨.bl b, H, I.tok tk, rfl, q⟩
/-- e.f, a field of the caught error -/
def tEFld (te : TE) (f : Str) : TE := fun σ H Q => te σ H fun x H1 => ∃ (a D : Addr) (fs : List (Str × V)) (v : V), x = .ref a ∧ CaL H1 D a fs ∧ ExcC K D ∧ PySem.W.findIn K (.ref D) f = some none ∧ fs.lookup f = some v ∧ Q v H1
theorem pe_efld {e : Expr} {f : Str} {pos : Pos} {te : TE} (h : X.K = K) (he : PE X e te) (hb : attributeBase e f X.env (eval e X.env) = eval e X.env) : PE X (.Attribute e f pos) (tEFld K te f) := by
  subst h
  refine ⟨fun pins s σ H Q I h => ?_⟩
  refine attr_of hb (thn (he.run pins s σ H _ I h) fun u s1 ⟨x, H1, I1, rx, a, D, fs, v, ex, ea, C, hno, l, q⟩ => ?_)
  subst ex
  obtain rfl : u = Value.ref a := rx
  obtain ⟨ob, od, mA, J, hl, r⟩ := caL_at I1 ea
  obtain ⟨u2, hu, ru⟩ := RelO.some_of (v := v) (o := mA f) (by rw [← l]; exact r f)
  exact PySem.HandSPX.exc_get I1.kIn J C.hg C.hk C.hs (PySem.W.findObj_own C.hd hno rfl (by rw [hl, hu])) (handed_of ru) ⟨v, H1, I1.tok _, ru, q⟩
end
end Bk

namespace Bk
open PySem PySem.Spec PyProof.Rows L2
/-! ### places in a text -/
def stAt (l : List Stmt) (i : Nat) : Stmt := l.getD i (.Pass ⟨0, 0, 0, 0⟩)
def forBody (s : Stmt) : List Stmt := match s with
  | .For _ _ b _ _ => b
  | _ => []
def lcScope (s : Stmt) : Scope := match s with
  | .Assign _ (.ListComp _ _ sc _) _ => sc
  | _ => { kind := .function, names := [], isGenerator := false, isCoroutine := false }
def numT (n : Nat) : Str := Str.ofString (toString (n : Int))
def Jb (j : Jn) : Prop := ∀ n t, j = some (n, t) → n < 64 ∧ t.length = 4 ∧ ∀ x ∈ t, x < 4
theorem num_len : ∀ n < 64, (numT n).length ≤ 2 := by decide +kernel
theorem num_log {n : Nat} (h : n < 64) : (n : Int).natAbs.log2 < 1920 := by
  have h1 : ∀ n : Nat, n < 64 → n.log2 < 1920 := by decide +kernel
  rw [Int.natAbs_natCast]
  exact h1 n h
def Sb (S : Spc) : Prop := S.length ≤ 40 ∧ ∀ b ∈ S, b.length = 4 ∧ ∀ j ∈ b, Jb j
theorem Good.sb {S : Spc} (h : Good S) (hl : S.length ≤ 40) : Sb S := by
  refine ⟨hl, fun b hb => ⟨h.l4 b hb, fun j hj n t e => ?_⟩⟩
  subst e
  obtain ⟨i, hi⟩ := List.mem_iff_getElem?.mp hb
  obtain ⟨f, hf⟩ := List.mem_iff_getElem?.mp hj
  have g : getJ S i f = some (some (n, t)) := by
    unfold getJ
    rw [hi]
    exact hf
  have ht := (h.both _ _ _ _ g).1
  have h4 := turns4 t ht
  have := h.lt g
  exact ⟨by omega, h4.1, h4.2.1⟩
/-! ### data by their norms -/
theorem Dq.seq {K : PySem.W.Frag} {N : Addr → Prop} {H : Hp} {v : V} {d : PyData} {es : List PyData} (h : Dq N H v d) (e : norm d = .list es) : ∃ a xs ds, v = .ref a ∧ (SqL K H a xs ∨ SqT K H a xs) ∧ (∀ o, H a = some o → True) ∧ Dqs N H xs ds ∧ norms ds = es := by
  cases d with
  | list ds =>
    cases h with
    | lst h1 h2 h3 => exact ⟨_, _, ds, rfl, .inl (.inl (.inl h1)), fun _ _ => trivial, h3, by simpa only [norm, PyData.list.injEq] using e⟩
  | tuple ds =>
    cases h with
    | tup h1 h2 => exact ⟨_, _, ds, rfl, .inr h1.sqt, fun _ _ => trivial, h2, by simpa only [norm, PyData.list.injEq] using e⟩
  | none => simp only [norm] at e; cases e
  | bool b => simp only [norm] at e; cases e
  | int i => simp only [norm] at e; cases e
  | str x => simp only [norm] at e; cases e
  | dict k => simp only [norm] at e; cases e
theorem Dq.isInt {N : Addr → Prop} {H : Hp} {v : V} {d : PyData} {i : Int} (h : Dq N H v d) (e : norm d = .int i) : v = .int i := by
  cases h with
  | int j => simp only [norm, PyData.int.injEq] at e; rw [e]
  | non => simp only [norm] at e; cases e
  | bl b => simp only [norm] at e; cases e
  | str x => simp only [norm] at e; cases e
  | lst _ _ _ => simp only [norm] at e; cases e
  | tup _ _ => simp only [norm] at e; cases e
theorem Dq.isNon {N : Addr → Prop} {H : Hp} {v : V} {d : PyData} (h : Dq N H v d) (e : norm d = .none) : v = .non := by
  cases h with
  | non => rfl
  | int j => simp only [norm] at e; cases e
  | bl b => simp only [norm] at e; cases e
  | str x => simp only [norm] at e; cases e
  | lst _ _ _ => simp only [norm] at e; cases e
  | tup _ _ => simp only [norm] at e; cases e
def nJ (j : Jn) : PyData := norm (jD j)
theorem nJ_some (n : Nat) (t : Trn) : nJ (some (n, t)) = .list [intD n, .list (t.map intD)] := by
  have h : norms (t.map intD) = t.map intD := by
    rw [norms_map, List.map_map]
    exact List.map_congr_left fun x _ => by simp only [Function.comp, intD, norm]
  simp only [nJ, jD, norm, norms, h, intD]
theorem nJ_none : nJ none = .none := by simp only [nJ, jD, norm]
theorem norms_inv : ∀ {ds : List PyData} {e : PyData} {es : List PyData}, norms ds = e :: es → ∃ d ds', ds = d :: ds' ∧ norm d = e ∧ norms ds' = es
  | [], _, _, h => by
    simp only [norms] at h
    cases h
  | d :: ds, e, es, h => by
    simp only [norms, List.cons.injEq] at h
    exact ⟨d, ds, rfl, h.1, h.2⟩
theorem norms_nil_inv : ∀ {ds : List PyData}, norms ds = [] → ds = []
  | [], _ => rfl
  | d :: ds, h => by
    simp only [norms] at h
    cases h
theorem Dqs.uncons {N : Addr → Prop} {H : Hp} {xs : List V} {d : PyData} {ds : List PyData} (h : Dqs N H xs (d :: ds)) : ∃ v vs, xs = v :: vs ∧ Dq N H v d ∧ Dqs N H vs ds := by
  cases h with
  | cons h1 h2 => exact ⟨_, _, rfl, h1, h2⟩
theorem Dqs.pair {N : Addr → Prop} {H : Hp} {xs : List V} {ds : List PyData} {e1 e2 : PyData} (h : Dqs N H xs ds) (e : norms ds = [e1, e2]) :
    ∃ v1 v2 d1 d2, xs = [v1, v2] ∧ Dq N H v1 d1 ∧ norm d1 = e1 ∧ Dq N H v2 d2 ∧ norm d2 = e2 := by
  obtain ⟨d1, r, rfl, n1, e⟩ := norms_inv e
  obtain ⟨d2, r2, rfl, n2, e⟩ := norms_inv e
  obtain rfl := norms_nil_inv e
  obtain ⟨v1, w1, rfl, h1, h⟩ := h.uncons
  obtain ⟨v2, w2, rfl, h2, h⟩ := h.uncons
  cases h
  exact ⟨v1, v2, d1, d2, rfl, h1, n1, h2, n2⟩
def nB (b : Blk) : PyData := .list (b.map nJ)
def nS (S : Spc) : PyData := .list (S.map nB)
theorem norm_at {ds : List PyData} {α : Type} {l : List α} {f : α → PyData} {i : Nat} {d : PyData} (e : norms ds = l.map f) (h : ds[i]? = some d) : ∃ x, l[i]? = some x ∧ norm d = f x := by
  have z : (norms ds)[i]? = some (norm d) := by rw [norms_map, List.getElem?_map, h]; rfl
  rw [e, List.getElem?_map] at z
  cases hx : l[i]? with
  | none =>
    rw [hx] at z
    cases z
  | some x =>
    rw [hx] at z
    exact ⟨x, rfl, (Option.some.inj z).symm⟩
theorem norm_len {ds : List PyData} {α : Type} {l : List α} {f : α → PyData} (e : norms ds = l.map f) : ds.length = l.length := by
  rw [← norms_len, e, List.length_map]
theorem norm_jD (j : Jn) : norm (jD j) = nJ j := rfl
theorem norm_blk (b : Blk) : norms (b.map jD) = b.map nJ := by
  rw [norms_map, List.map_map]
  rfl
theorem norm_shut (S : Spc) : norm (shutD S) = nS S := by
  have h : norms (S.map fun b => PyData.tuple (b.map jD)) = S.map nB := by
    rw [norms_map, List.map_map]
    refine List.map_congr_left fun b _ => ?_
    show norm (PyData.tuple (b.map jD)) = nB b
    simp only [norm, norm_blk, nB]
  simp only [shutD, norm, h, nS]
theorem norm_open (S : Spc) : norm (.list (S.map fun b => PyData.list (b.map jD))) = nS S := by
  have h : norms (S.map fun b => PyData.list (b.map jD)) = S.map nB := by
    rw [norms_map, List.map_map]
    refine List.map_congr_left fun b _ => ?_
    show norm (PyData.list (b.map jD)) = nB b
    simp only [norm, norm_blk, nB]
  simp only [norm, h, nS]
/-- what data of ints and nothing else is: small -/
structure Tiny (d : PyData) (b k : Nat) : Prop where
  b : d.bulk ≤ b
  k : d.depth ≤ k
  s : d.showable = true
  h : d.hasDict = false
  l : d.leavesShort 8 = true
theorem ints_tiny : ∀ {t : Trn}, (∀ x ∈ t, x < 64) → PyData.bulkAll (t.map intD) = t.length ∧ PyData.depthAll (t.map intD) = 0 ∧ PyData.showableAll (t.map intD) = true ∧ PyData.hasDictAll (t.map intD) = false ∧ PyData.leavesShortAll 8 (t.map intD) = true
  | [], _ => by simp [PyData.bulkAll, PyData.depthAll, PyData.showableAll, PyData.hasDictAll, PyData.leavesShortAll]
  | x :: t, h => by
    obtain ⟨h1, h2, h3, h4, h5⟩ := ints_tiny (t := t) fun y hy => h y (List.mem_cons_of_mem _ hy)
    have hx := h x List.mem_cons_self
    have e1 : (intD x).showable = true := by
      simp only [intD, PyData.showable, decide_eq_true_eq]
      exact num_log hx
    have e2 : (intD x).leavesShort 8 = true := by
      simp only [intD, PyData.leavesShort, decide_eq_true_eq]
      exact Nat.le_trans (num_len x hx) (by decide)
    simp only [List.map_cons, PyData.bulkAll, PyData.depthAll, PyData.showableAll, PyData.hasDictAll, PyData.leavesShortAll, h1, h2, h3, h4, h5, e1, e2, List.length_cons]
    refine ⟨?_, ?_, rfl, ?_, rfl⟩
    · simp only [intD, PyData.bulk]
      omega
    · simp only [intD, PyData.depth]
      rfl
    · simp only [intD, PyData.hasDict]
      rfl
theorem j_tiny {j : Jn} (h : Jb j) : Tiny (jD j) 7 2 := by
  cases j with
  | none => exact ⟨by simp only [jD, PyData.bulk]; omega, by simp only [jD, PyData.depth]; omega, by simp only [jD, PyData.showable], by simp only [jD, PyData.hasDict], by simp only [jD, PyData.leavesShort]⟩
  | some k =>
    obtain ⟨n, t⟩ := k
    obtain ⟨hn, ht, hx⟩ := h n t rfl
    obtain ⟨h1, h2, h3, h4, h5⟩ := ints_tiny (t := t) fun y hy => Nat.lt_of_lt_of_le (hx y hy) (by decide)
    obtain ⟨g1, g2, g3, g4, g5⟩ := ints_tiny (t := [n]) fun y hy => by rw [List.mem_singleton.mp hy]; exact hn
    simp only [List.map_cons, List.map_nil, PyData.bulkAll, PyData.depthAll, PyData.showableAll, PyData.hasDictAll, PyData.leavesShortAll, Bool.and_true, Bool.or_false] at g1 g2 g3 g4 g5
    refine ⟨?_, ?_, ?_, ?_, ?_⟩
    · simp only [jD, PyData.bulk, PyData.bulkAll, h1, ht]
      simp only [intD, PyData.bulk]
      omega
    · simp only [jD, PyData.depth, PyData.depthAll, h2]
      simp only [intD, PyData.depth]
      omega
    · simp only [jD, PyData.showable, PyData.showableAll, h3, g3]
      rfl
    · simp only [jD, PyData.hasDict, PyData.hasDictAll, h4, g4]
      rfl
    · simp only [jD, PyData.leavesShort, PyData.leavesShortAll, h5, g5]
      rfl
theorem js_tiny : ∀ {b : Blk}, (∀ j ∈ b, Jb j) → PyData.bulkAll (b.map jD) ≤ 8 * b.length ∧ PyData.depthAll (b.map jD) ≤ 2 ∧ PyData.showableAll (b.map jD) = true ∧ PyData.hasDictAll (b.map jD) = false ∧ PyData.leavesShortAll 8 (b.map jD) = true
  | [], _ => by simp [PyData.bulkAll, PyData.depthAll, PyData.showableAll, PyData.hasDictAll, PyData.leavesShortAll]
  | j :: b, h => by
    obtain ⟨h1, h2, h3, h4, h5⟩ := js_tiny (b := b) fun y hy => h y (List.mem_cons_of_mem _ hy)
    obtain ⟨g1, g2, g3, g4, g5⟩ := j_tiny (h j List.mem_cons_self)
    simp only [List.map_cons, PyData.bulkAll, PyData.depthAll, PyData.showableAll, PyData.hasDictAll, PyData.leavesShortAll, h3, h4, h5, g3, g4, g5, List.length_cons]
    exact ⟨by omega, by omega, rfl, rfl, rfl⟩
theorem bs_tiny : ∀ {S : Spc}, (∀ b ∈ S, b.length = 4 ∧ ∀ j ∈ b, Jb j) → PyData.bulkAll (S.map fun b => PyData.tuple (b.map jD)) ≤ 33 * S.length ∧ PyData.depthAll (S.map fun b => PyData.tuple (b.map jD)) ≤ 3 ∧ PyData.showableAll (S.map fun b => PyData.tuple (b.map jD)) = true ∧
    PyData.hasDictAll (S.map fun b => PyData.tuple (b.map jD)) = false ∧ PyData.leavesShortAll 8 (S.map fun b => PyData.tuple (b.map jD)) = true
  | [], _ => by simp [PyData.bulkAll, PyData.depthAll, PyData.showableAll, PyData.hasDictAll, PyData.leavesShortAll]
  | b :: S, h => by
    obtain ⟨h1, h2, h3, h4, h5⟩ := bs_tiny (S := S) fun y hy => h y (List.mem_cons_of_mem _ hy)
    obtain ⟨l4, hj⟩ := h b List.mem_cons_self
    obtain ⟨g1, g2, g3, g4, g5⟩ := js_tiny hj
    simp only [List.map_cons, PyData.bulkAll, PyData.depthAll, PyData.showableAll, PyData.hasDictAll, PyData.leavesShortAll, PyData.bulk, PyData.depth, PyData.showable, PyData.hasDict, PyData.leavesShort, h3, h4, h5, g3, g4, g5, List.length_cons]
    exact ⟨by omega, by omega, rfl, rfl, rfl⟩
theorem shut_tiny {S : Spc} (h : Sb S) : Tiny (shutD S) 1320 4 := by
  obtain ⟨h1, h2, h3, h4, h5⟩ := bs_tiny h.2
  have hl := h.1
  exact ⟨by simp only [shutD, PyData.bulk]; omega, by simp only [shutD, PyData.depth]; omega, by simpa only [shutD, PyData.showable] using h3, by simpa only [shutD, PyData.hasDict] using h4, by simpa only [shutD, PyData.leavesShort] using h5⟩
/-- a mixture is as tiny -/
theorem Tiny.mix {d d' : PyData} {b k : Nat} (h : Tiny d b k) (e : norm d' = norm d) : Tiny d' b k := by
  obtain ⟨a1, a2, a3, a4, a5⟩ := norm_same 8 d
  obtain ⟨b1, b2, b3, b4, b5⟩ := norm_same 8 d'
  rw [e] at b1 b2 b3 b4 b5
  exact ⟨by rw [← b1, a1]; exact h.b, by rw [← b2, a2]; exact h.k, by rw [← b4, a4]; exact h.s, by rw [← b5, a5]; exact h.h, by rw [← b3, a3]; exact h.l⟩
theorem Tiny.shown {d : PyData} {b k : Nat} (h : Tiny d b k) (hb : b ≤ 100000) : d.shown.length ≤ sizeLine := by
  have h1 := PyData.shown_le_bulk 8 (by decide) d h.l
  have h2 := h.b
  have h3 : sizeLine = 16777216 := by decide +kernel
  omega
/-- a space of lists, as data -/
theorem SpAt.dq {H : Hp} {l : Addr} {rs : List V} {S : Spc} (h : SpAt H l rs S) : Dq (fun _ => False) H (.ref l) (.list (S.map fun b => .list (b.map jD))) := by
  have go : ∀ {rs : List V} {S : Spc}, Paired (BAt H) rs S → Dqs (fun _ => False) H rs (S.map fun b => .list (b.map jD)) := by
    intro rs S hp
    induction hp with
    | nil => exact .nil
    | cons r t ih =>
      obtain ⟨p, vs, rfl, h1, h2⟩ := r
      exact .cons (.lst h1 (fun z => z) (jats_dqs h2)) ih
  exact .lst h.l (fun z => z) (go h.b)
theorem Sb.set {S : Spc} (h : Sb S) (b f : Nat) {j : Jn} (hj : Jb j) : Sb (setJ S b f j) := by
  refine ⟨by rw [setJ_len]; exact h.1, fun c hc => ?_⟩
  obtain ⟨i, hi⟩ := List.mem_iff_getElem?.mp hc
  unfold setJ at hi
  rw [List.getElem?_modify] at hi
  cases hs : S[i]? with
  | none =>
    rw [hs] at hi
    cases hi
  | some m =>
    rw [hs] at hi
    obtain ⟨m4, mj⟩ := h.2 m (List.mem_of_getElem? hs)
    have e : (if b = i then List.set m f j else m) = c := Option.some.inj hi
    by_cases hb : b = i
    · rw [if_pos hb] at e
      subst e
      refine ⟨by rw [List.length_set]; exact m4, fun x hx => ?_⟩
      rcases List.mem_or_eq_of_mem_set hx with z | z
      · exact mj x z
      · rw [z]
        exact hj
    · rw [if_neg hb] at e
      subst e
      exact ⟨m4, mj⟩
theorem jb_none : Jb none := fun _ _ e => by cases e
theorem eqv_nil (ns : List Int) : PyData.eqv (.list (ns.map PyData.int)) (.list []) = ns.isEmpty := by
  cases ns with
  | nil => rfl
  | cons x r => rfl
end Bk

namespace Bk
open PySem PySem.Spec PyProof.Rows L2
/-! ### sorted(t), t a tuple of ints -/
section
variable {prog : Program} {w : World} {A : Around} {E : Value → Shared → Prop} {s : Shared}
theorem gather_tuple {l : Addr} {vs : List Value} {Q : List Value → Shared → Prop} (ht : s.heap.IsTuple l vs.toArray)
    (h : Q vs { s with heap := (s.heap.push (seqObj "list" #[] 0)).update s.heap.objs.size (Obj.mapSeq (· ++ vs.toArray)) }) (hz : vs.length ≤ sizeLine) : wpAny (model prog w) A (collect (.ref l)) Q E s := by
  obtain ⟨o, ho, hc, n, hd⟩ := ht
  have ho' := Heap.get?_push_of_some (seqObj "list" #[] 0) ho
  have hn : (s.heap.push (seqObj "list" #[] 0)).get? s.heap.objs.size = some (seqObj "list" #[] 0) := Heap.get?_push_size _ rfl
  unfold collect
  refine wpAny_bind (wpAny_runValue (codeAny_builtin entry_proto_collect' ?_))
  show wpAny _ _ (do again (.builtin "list.__iadd__" ⟨[← newList [], .ref l], []⟩)) _ _ s
  refine wpAny_bind (wpAny_newList (wpAny_pure ⟨Code.quiet_builtin _ (by decide +kernel), codeAny_builtin entry_list_iadd' ?_⟩))
  show wpAny _ _ (Builtin.List.listExtendWith (.ref s.heap.objs.size) (.ref l) (.ref s.heap.objs.size)) _ _ { s with heap := s.heap.push (seqObj "list" #[] 0) }
  unfold Builtin.List.listExtendWith
  refine wpAny_bind (wpAny_typeOf (T := "tuple") ⟨o, ho', hc⟩ ?_)
  rw [if_pos (by simp)]
  refine wpAny_bind (listItems_at ho' hd (wpAny_bind (listItems_at hn rfl ?_)))
  rw [if_neg (by simp)]
  refine wpAny_bind (listUpdate_at hn rfl (wpAny_pure ?_) (Nat.zero_le _) (by
    show (#[] ++ vs.toArray).size ≤ sizeLine + 1
    simp only [Array.size_append, List.size_toArray, List.length_nil]
    omega))
  refine wpAny_bind (wpAny_load (get?_update_seq hn _) ?_)
  have e : ((#[] : Array Value) ++ vs.toArray).toList = vs := by simp
  show wpAny _ _ (pure ((#[] : Array Value) ++ vs.toArray).toList) Q E _
  rw [e]
  exact wpAny_pure h
theorem sort_tuple {l : Addr} {vs : List Value} {ns : List Int} {Q : Value → Shared → Prop} (ht : s.heap.IsTuple l vs.toArray) (hI : IntsAre vs ns) (h64 : vs.length < 64)
    (h : ∀ (out : Array Value) (ns' : List Int), IntsAre out.toList ns' → ns'.Perm ns → ns'.Pairwise (· ≤ ·) → Q (.ref (s.heap.objs.size + 1)) { s with heap := sortedAll s.heap vs out }) : wpAny (model prog w) A (call (.builtin "sorted") [.ref l]) Q E s := by
  refine Calls.call_function_entry kind_sorted plain_sorted entry_sorted (args_sorted1 _) ?_
  unfold Builtin.«sorted»
  have hz : vs.length ≤ sizeLine := small64 h64
  refine wpAny_bind (m := checkCount "sorted" 1 1 _) (wpAny_pure (wpAny_bind (gather_tuple ht (wpAny_bind (wpAny_newList ?_)) hz)))
  have size1 : ((s.heap.push (seqObj "list" #[] 0)).update s.heap.objs.size (Obj.mapSeq (· ++ vs.toArray))).objs.size = s.heap.objs.size + 1 := by rw [Heap.size_update, size_push']
  have at1 : (((s.heap.push (seqObj "list" #[] 0)).update s.heap.objs.size (Obj.mapSeq (· ++ vs.toArray))).push (seqObj "list" vs.toArray 0)).get? (s.heap.objs.size + 1) = some (seqObj "list" vs.toArray 0) := by
    rw [← size1]
    exact Heap.get?_push_size _ rfl
  show wpAny _ _ _ _ _ { s with heap := ((s.heap.push (seqObj "list" #[] 0)).update s.heap.objs.size (Obj.mapSeq (· ++ vs.toArray))).push (seqObj "list" vs.toArray 0) }
  rw [size1]
  exact wpAny_bind (wpAny_holding (wpAny_call_entry slot_list_sort ⟨_, at1, rfl⟩ entry_list_sort (list_sort_tree at1 hI h64 fun out ns' a1 a2 a3 => ⟨_, rfl, wpAny_pure ⟨_, rfl, h out ns' a1 a2 a3⟩⟩) (args_list_sort _)))
end
section
variable {X : Cx} (K : PySem.W.Frag)
def rSortX (K : PySem.W.Frag) : List V → Hp → VK → Prop := fun vs H Q => ∃ (a : Addr) (ns : List Int), vs = [V.ref a] ∧ (SqL K H a (ns.map V.int) ∨ SqT K H a (ns.map V.int)) ∧ ns.length < 64 ∧
  ∀ (ns' : List Int) (p : Addr), ns'.Perm ns → ns'.Pairwise (· ≤ ·) → H p = none → Q (.ref p) (upd H p (.lst (ns'.map V.int)))
theorem kSorted (h : X.K = K) : CallR X (.builtin "sorted") (rSortX K) := by
  subst h
  rintro pins s σ H vs us Q I r ⟨a, ns, rfl, hq, h64, q⟩
  rcases hq with hq | hq
  · exact cr_sorted pins s σ H _ us Q I r ⟨a, ns, rfl, hq, h64, q⟩
  obtain ⟨its, rv, pt, _⟩ := I.tuple hq
  obtain ⟨u, rfl, rx⟩ := vals1 r
  cases rx
  have hi := rv.ints
  refine sort_tuple pt hi (by rw [hi.length]; exact h64) fun out ns' h1 h2 h3 => ?_
  obtain ⟨ep, he⟩ := sortedAll_at s.heap its out
  have hlen : (ns'.map V.int).length ≤ sizeLine := by
    rw [List.length_map, h2.length_eq]
    exact small64 h64
  exact ⟨.ref (s.heap.objs.size + 1), upd H (s.heap.objs.size + 1) (.lst (ns'.map V.int)), I.laid (t' := s.toks) (fun _ _ => sortedAll_old) (Nat.le_succ _) ⟨hlen, out.toList, ep, vals_of_ints h1, he⟩, rfl, q ns' _ h2 h3 (I.hok.fresh (Nat.le_succ _))⟩
end
end Bk

namespace Bk
open PySem PySem.Spec PyProof.Rows L2
local macro_rules | `(tactic| walk_at "g") => `(tactic| (repeat first | refine ⟨_, rfl, ?_⟩ | refine ⟨cpow, ?_⟩ | refine ⟨wideM, ?_⟩ | refine ⟨_, _, rfl, rfl, ?_⟩ | refine ⟨rfl, ?_⟩))
def isIntD : PyData → Bool
  | .int _ => true
  | _ => false
theorem perm_same {a b : List Int} (hp : a.Perm b) (ha : a.Pairwise (· ≤ ·)) (hb : b.Pairwise (· ≤ ·)) : a = b := hp.eq_of_pairwise (fun x y _ _ h1 h2 => Int.le_antisymm h1 h2) ha hb
theorem range_up (m : Nat) : ((List.range m).map fun k : Nat => (k : Int)).Pairwise (· ≤ ·) := by
  rw [List.pairwise_map]
  exact List.pairwise_le_range.imp fun h => by omega
theorem turn_perm : ∀ t ∈ allTurns, t.Perm (List.range 4) := by decide +kernel
theorem intD_map (t : Trn) : t.map intD = (t.map fun c : Nat => (c : Int)).map PyData.int := by
  rw [List.map_map]
  rfl
theorem intV_map (t : Trn) : trnV t = (t.map fun c : Nat => (c : Int)).map V.int := by
  unfold trnV
  rw [List.map_map]
  rfl
/-- the values of data of ints -/
theorem Dqs.ints {N : Addr → Prop} {H : Hp} : ∀ {t : Trn} {vs : List V} {ds : List PyData}, Dqs N H vs ds → norms ds = t.map intD → vs = trnV t
  | [], vs, ds, h, e => by
    obtain rfl := norms_nil_inv e
    cases h
    rfl
  | n :: t, vs, ds, h, e => by
    obtain ⟨d, ds', rfl, e1, e2⟩ := norms_inv (show norms ds = intD n :: t.map intD from e)
    obtain ⟨v, vs', rfl, h1, h2⟩ := h.uncons
    have ev := h1.isInt (i := (n : Int)) e1
    have ih := h2.ints (t := t) e2
    rw [ev, ih]
    rfl
section
variable {P : Program} {w : World} {K : PySem.W.Frag} {mg : Str → Option Value} {base : Heap}
theorem kit_one {d : PyData} {s : String} {b : Bool} (h : ∀ a, a = tyD d → kitB a s = some b) : PySem.W.kitOne K (.type (tyD d)) (.type s) = some b := kit_ty (h _ rfl)
theorem kit_int (d : PyData) : PySem.W.kitOne K (.type (tyD d)) (.type "int") = some (isIntD d || tyD d == "bool") := by
  cases d with
  | none => exact kit_ty (a := "NoneType") (b := "int") (show kitB "NoneType" "int" = some false by decide +kernel)
  | bool b => exact kit_ty (a := "bool") (b := "int") (show kitB "bool" "int" = some true by decide +kernel)
  | int i => exact kit_ty (a := "int") (b := "int") (show kitB "int" "int" = some true by decide +kernel)
  | str x => exact kit_ty (a := "str") (b := "int") (show kitB "str" "int" = some false by decide +kernel)
  | list ds => exact kit_ty (a := "list") (b := "int") (show kitB "list" "int" = some false by decide +kernel)
  | tuple ds => exact kit_ty (a := "tuple") (b := "int") (show kitB "tuple" "int" = some false by decide +kernel)
  | dict k => exact kit_ty (a := "dict") (b := "int") (show kitB "dict" "int" = some false by decide +kernel)
theorem kit_bool (d : PyData) : PySem.W.kitOne K (.type (tyD d)) (.type "bool") = some (tyD d == "bool") := by
  cases d with
  | none => exact kit_ty (a := "NoneType") (b := "bool") (show kitB "NoneType" "bool" = some false by decide +kernel)
  | bool b => exact kit_ty (a := "bool") (b := "bool") (show kitB "bool" "bool" = some true by decide +kernel)
  | int i => exact kit_ty (a := "int") (b := "bool") (show kitB "int" "bool" = some false by decide +kernel)
  | str x => exact kit_ty (a := "str") (b := "bool") (show kitB "str" "bool" = some false by decide +kernel)
  | list ds => exact kit_ty (a := "list") (b := "bool") (show kitB "list" "bool" = some false by decide +kernel)
  | tuple ds => exact kit_ty (a := "tuple") (b := "bool") (show kitB "tuple" "bool" = some false by decide +kernel)
  | dict k => exact kit_ty (a := "dict") (b := "bool") (show kitB "dict" "bool" = some false by decide +kernel)
theorem whole_b (d : PyData) : ((isIntD d || tyD d == "bool") = true → (!(tyD d == "bool")) = isIntD d) ∧ ((isIntD d || tyD d == "bool") = false → isIntD d = false) := by
  cases d <;> simp [isIntD, tyD]
/-! ### is_whole, is_listed, is_below, is_order, is_turn -/
abbrev sis_whole : Stmt := topS 14
abbrev Nis_whole : List Str := ["thing"]
theorem scis_whole : FnScope Nis_whole ["thing"] (defScope sis_whole) := ⟨rfl, rfl, rfl, by decide +kernel, rfl, by decide +kernel, by decide +kernel⟩
def spWhole : Sp := fun vs H Q _ => ∃ (N : Addr → Prop) (v : V) (d : PyData), vs = [v] ∧ Dq N H v d ∧ Q (.bl (isIntD d)) H
theorem okis_whole {f : Addr} {fd : FuncData} (F : Fun K "is_whole" "is_whole" sis_whole f fd) (m_isinstance : mg "isinstance" = none) (m_int : mg "int" = none) (m_bool : mg "bool" = none) : FnOk P w K mg base CX0 1 f fd ["thing"] spWhole := by
  refine F.ok scis_whole (fun vs H Q E h => ?_) (fun cdv A outer s H vs Q E hr h => ?_)
  · obtain ⟨N, v, d, rfl, _⟩ := h
    rfl
  · obtain ⟨N, v, d, rfl, hd, q⟩ := h
    have nd := scis_whole.nd
    refine ⟨_, (pss_one (ps_ret (pe_and (pe_callB (kIsi K rfl) (by rfl) m_isinstance (by decide +kernel) (pa_cons (pv 0) (pa_cons (pe_bltn (v := .ty "int") (by rfl) m_int (by decide +kernel) rfl) pa_nil))) (pe_one (pe_not (pe_callB (kIsi K rfl) (by rfl) m_isinstance (by decide +kernel) (pa_cons (pv 0) (pa_cons (pe_bltn (v := .ty "bool") (by rfl) m_bool (by decide +kernel) rfl) pa_nil)))))))), ?_⟩
    refine ⟨v, rfl, v, .ty "int", _, .type "int", _, rfl, .ty _, hd.ty, kit_int d, _, rfl, ?_⟩
    obtain ⟨w1, w2⟩ := whole_b d
    refine ite2 (fun e => ?_) (fun e => ?_)
    · refine ⟨v, rfl, v, .ty "bool", _, .type "bool", _, rfl, .ty _, hd.ty, kit_bool d, _, rfl, ?_⟩
      rw [w1 e]
      exact q
    · rw [w2 (by simpa using e)] at q
      exact q
abbrev sis_listed : Stmt := topS 15
abbrev Nis_listed : List Str := ["thing"]
theorem scis_listed : FnScope Nis_listed ["thing"] (defScope sis_listed) := ⟨rfl, rfl, rfl, by decide +kernel, rfl, by decide +kernel, by decide +kernel⟩
def spListed : Sp := fun vs H Q _ => ∃ (N : Addr → Prop) (v : V) (d : PyData), vs = [v] ∧ Dq N H v d ∧ ∀ H', Same H H' → Q (.bl (isSeqD d)) H'
theorem okis_listed {f : Addr} {fd : FuncData} (F : Fun K "is_listed" "is_listed" sis_listed f fd) (m_isinstance : mg "isinstance" = none) (m_list : mg "list" = none) (m_tuple : mg "tuple" = none) : FnOk P w K mg base CX0 1 f fd ["thing"] spListed := by
  refine F.ok scis_listed (fun vs H Q E h => ?_) (fun cdv A outer s H vs Q E hr h => ?_)
  · obtain ⟨N, v, d, rfl, _⟩ := h
    rfl
  · obtain ⟨N, v, d, rfl, hd, q⟩ := h
    have nd := scis_listed.nd
    refine ⟨_, (pss_one (ps_ret (pe_callB (kIsiT K rfl) (by rfl) m_isinstance (by decide +kernel) (pa_cons (pv 0) (pa_cons (pe_tup (pa_cons (pe_bltn (v := .ty "list") (by rfl) m_list (by decide +kernel) rfl) (pa_cons (pe_bltn (v := .ty "tuple") (by rfl) m_tuple (by decide +kernel) rfl) pa_nil))) pa_nil))))), ?_⟩
    refine ⟨v, rfl, Nat.le_of_lt (small1000 (by show 2 ≤ 1000; decide)), fun tp ntp => ?_⟩
    have s1 : Same H (upd H tp (.tup [.ty "list", .ty "tuple"])) := same_new ntp
    exact ⟨v, tp, _, _, _, isSeqD d, rfl, upd_same, .cons (.ty _) (.cons (.ty _) .nil), (hd.same s1).ty, kit_seq d, q _ s1⟩
abbrev sis_below : Stmt := topS 16
abbrev Nis_below : List Str := ["thing", "many"]
theorem scis_below : FnScope Nis_below ["thing", "many"] (defScope sis_below) := ⟨rfl, rfl, rfl, by decide +kernel, rfl, by decide +kernel, by decide +kernel⟩
def spBelow : Sp := fun vs H Q _ => ∃ (i : Int) (m : Nat), vs = [.int i, intV m] ∧ Q (.bl (decide (0 ≤ i) && decide (i < m))) H
theorem okis_below {f fW : Addr} {fd fdW : FuncData} (F : Fun K "is_below" "is_below" sis_below f fd) (Fis_whole : Fun K "is_whole" "is_whole" sis_whole fW fdW) (gis_whole : mg "is_whole" = some (.ref fW)) (bis_whole : Binds K fdW ["thing"] [])
    (Gis_whole : FnOk P w K mg base CX0 1 fW fdW ["thing"] spWhole) : FnOk P w K mg base CX0 2 f fd ["thing", "many"] spBelow := by
  refine F.ok scis_below (fun vs H Q E h => ?_) (fun cdv A outer s H vs Q E hr h => ?_)
  · obtain ⟨i, m, rfl, _⟩ := h
    rfl
  · obtain ⟨i, m, rfl, q⟩ := h
    have nd := scis_below.nd
    refine ⟨_, (pss_one (ps_ret (pe_and (pe_call Gis_whole (hr.mono (by first | decide | omega)) (by rfl) gis_whole Fis_whole.kp bis_whole .nil pass0 (pa_cons (pv 0) pa_nil)) (pe_one (pe_chain op_le op_lt pe_int (pv 0) (pv 1)))))), ?_⟩
    refine ⟨.int i, rfl, fun _ => False, .int i, .int i, rfl, .int i, _, rfl, iteT ?_⟩
    refine ⟨.int i, rfl, _, _, rfl, rfl, _, rfl, ite2 (fun e => ?_) (fun e => ?_)⟩
    · refine ⟨intV m, rfl, _, _, rfl, rfl, ?_⟩
      rw [e, Bool.true_and] at q
      exact q
    · have e' : decide ((0 : Int) ≤ i) = false := by simpa using e
      rw [e', Bool.false_and] at q
      exact q
abbrev sis_order : Stmt := topS 17
abbrev Nis_order : List Str := ["thing", "many", "part"]
theorem scis_order : FnScope Nis_order ["thing", "many"] (defScope sis_order) := ⟨rfl, rfl, rfl, by decide +kernel, rfl, by decide +kernel, by decide +kernel⟩
def spOrder : Sp := fun vs H Q _ => ∃ (N : Addr → Prop) (v : V) (d : PyData) (t : Trn) (m : Nat), vs = [v, intV m] ∧ Dq N H v d ∧ norm d = .list (t.map intD) ∧ t.Perm (List.range m) ∧ m ≤ 60 ∧ ∀ H', Same H H' → Q (.bl true) H'
theorem okis_order {f fW fL : Addr} {fd fdW fdL : FuncData} (F : Fun K "is_order" "is_order" sis_order f fd) (Fis_whole : Fun K "is_whole" "is_whole" sis_whole fW fdW) (gis_whole : mg "is_whole" = some (.ref fW)) (bis_whole : Binds K fdW ["thing"] [])
    (Gis_whole : FnOk P w K mg base CX0 1 fW fdW ["thing"] spWhole) (Fis_listed : Fun K "is_listed" "is_listed" sis_listed fL fdL) (gis_listed : mg "is_listed" = some (.ref fL)) (bis_listed : Binds K fdL ["thing"] []) (Gis_listed : FnOk P w K mg base CX0 1 fL fdL ["thing"] spListed)
    (m_all : mg "all" = none) (m_sorted : mg "sorted" = none) (m_list : mg "list" = none) (m_range : mg "range" = none) : FnOk P w K mg base CX0 2 f fd ["thing", "many"] spOrder := by
  refine F.ok scis_order (fun vs H Q E h => ?_) (fun cdv A outer s H vs Q E hr h => ?_)
  · obtain ⟨N, v, d, t, m, rfl, _⟩ := h
    rfl
  · obtain ⟨N, v, d, t, m, rfl, hd, hn, hp, hm, q⟩ := h
    have nd := scis_order.nd
    refine ⟨_, (pss_one (ps_ret (pe_and (pe_call Gis_listed (hr.mono (by first | decide | omega)) (by rfl) gis_listed Fis_listed.kp bis_listed .nil pass0 (pa_cons (pv 0) pa_nil)) (pe_and (pe_callB (kAll K rfl rfl) (by rfl) m_all (by decide +kernel) (pa_cons (pe_lc (own := [("part", 2)]) (g := gName 2) (tt := tYes) rfl nd (kPiS K rfl (pv 0)) (blkOk_by (own := [("part", 2)]) (N := Nis_order) (sc := defScope sis_order) (by decide +kernel)) (fun _ _ _ _ _ => (pg_name (i := 2) nd rfl (Or.inl rfl))) (fun _ _ _ _ _ => pts_nil) (fun _ _ _ _ _ => (pe_call Gis_whole (hr.mono (by first | decide | omega)) (by rfl) gis_whole Fis_whole.kp bis_whole .nil pass0 (pa_cons (pv 2) pa_nil)))) pa_nil)) (pe_one (pe_cmpR (kEqD K rfl hr.units) (pe_callB (kSorted K rfl) (by rfl) m_sorted (by decide +kernel) (pa_cons (pv 0) pa_nil)) (pe_listRg rfl (by rfl) m_list (prg_1 (by rfl) m_range (pv 1))) (nomark _))))))), ?_⟩
    have sq : isSeqD d = true := by
      cases d <;> first | rfl | (simp only [norm] at hn; cases hn)
    have lt : t.length = m := by rw [hp.length_eq, List.length_range]
    refine ⟨v, rfl, N, v, d, rfl, hd, fun H1 s1 => ?_⟩
    rw [sq]
    refine ⟨_, rfl, iteT ?_⟩
    obtain ⟨a, xs, ds, rfl, hq, _, hds, en⟩ := (hd.same s1).seq (K := K) hn
    have ex := hds.ints en
    refine ⟨.ref a, rfl, a, xs, rfl, hq, fun J C hJ hC => ?_⟩
    intro D nD
    refine lc_seq (xs := xs) hJ (fun i H2 => H2 = upd H1 D (.lst ((List.replicate i true).map V.bl))) rfl ?_ ?_ ?_
    · rintro i H2 rfl
      exact SeqIt.mono K hJ (fun o e => same_new nD _ _ e) hC
    · rintro i x H2 hx rfl
      have hi : i < m := by
        have := (List.getElem?_eq_some_iff.mp hx).1
        rw [ex] at this
        unfold trnV at this
        rw [List.length_map] at this
        omega
      rw [ex] at hx
      unfold trnV at hx
      rw [List.getElem?_map] at hx
      cases hc : t[i]? with
      | none =>
        rw [hc] at hx
        cases hx
      | some c =>
        rw [hc] at hx
        have e2 : intV c = x := Option.some.inj hx
        subst e2
        refine ⟨rfl, intV c, rfl, fun _ => False, intV c, .int (c : Int), rfl, .int _, _, upd_same, small1000 (by rw [List.length_map, List.length_replicate]; omega), ?_⟩
        rw [upd_upd, List.replicate_succ', List.map_append]
        rfl
    · rintro H2 rfl
      refine ⟨D, _, rfl, .inl (.inl upd_same), _, rfl, ?_⟩
      have eall : (List.replicate xs.length true).all id = true := by
        rw [List.all_eq_true]
        intro y hy
        rw [List.eq_of_mem_replicate hy]
        rfl
      rw [eall]
      have s2 : Same H1 (upd H1 D (.lst ((List.replicate xs.length true).map V.bl))) := same_new nD
      generalize upd H1 D (.lst ((List.replicate xs.length true).map V.bl)) = H2 at s2 ⊢
      refine iteT ?_
      rw [ex, intV_map] at hq
      refine ⟨.ref a, rfl, a, _, rfl, hq.imp (fun z => s2.seq z) (fun z => s2.sqt z), by rw [List.length_map]; omega, fun ns p p1 p2 np => ?_⟩
      have s3 : Same H2 (upd H2 p (.lst (ns.map V.int))) := same_new np
      have h3 : (upd H2 p (.lst (ns.map V.int))) p = some (.lst (ns.map V.int)) := upd_same
      generalize upd H2 p (.lst (ns.map V.int)) = H3 at s3 h3 ⊢
      refine ⟨intV m, rfl, m, rfl, .of_le (by decide) (by omega) (by decide) (by omega), fun q2 nq2 => ?_⟩
      have er : rgV 0 (m : Int) = ((List.range m).map fun k : Nat => (k : Int)).map V.int := by
        unfold rgV
        rw [show ((m : Int) - 0).toNat = m by omega, List.map_map]
        exact List.map_congr_left fun x _ => by
          show V.int (0 + (x : Int)) = V.int (x : Int)
          rw [Int.zero_add]
      rw [er]
      have s4 : Same H3 (upd H3 q2 (.lst (((List.range m).map fun k : Nat => (k : Int)).map V.int))) := same_new nq2
      have en2 : ns = (List.range m).map fun k : Nat => (k : Int) := perm_same (p1.trans (hp.map _)) p2 (range_up m)
      refine ⟨.list (ns.map PyData.int), .list (((List.range m).map fun k : Nat => (k : Int)).map PyData.int), .lst (.inl (.inl (s4 _ _ h3))) (dp_ints _), .lst (.inl (.inl upd_same)) (dp_ints _), ints_shaped _, ints_shaped _, ?_⟩
      rw [en2, SeqAt.eqv_refl _ (by have := ints_lay ((List.range m).map fun k : Nat => (k : Int)); simp only [PyData.canLay0]; exact this.1)]
      exact q _ (((s1.trans s2).trans s3).trans s4)
abbrev sis_turn : Stmt := topS 18
abbrev Nis_turn : List Str := ["thing"]
theorem scis_turn : FnScope Nis_turn ["thing"] (defScope sis_turn) := ⟨rfl, rfl, rfl, by decide +kernel, rfl, by decide +kernel, by decide +kernel⟩
def spTurn : Sp := fun vs H Q _ => ∃ (N : Addr → Prop) (v : V) (d : PyData) (t : Trn), vs = [v] ∧ Dq N H v d ∧ norm d = .list (t.map intD) ∧ t ∈ allTurns ∧ ∀ H', Same H H' → Q (.bl true) H'
theorem okis_turn {f fO : Addr} {fd fdO : FuncData} (F : Fun K "is_turn" "is_turn" sis_turn f fd) (Fis_order : Fun K "is_order" "is_order" sis_order fO fdO) (gis_order : mg "is_order" = some (.ref fO)) (bis_order : Binds K fdO ["thing", "many"] [])
    (Gis_order : FnOk P w K mg base CX0 2 fO fdO ["thing", "many"] spOrder) : FnOk P w K mg base CX0 3 f fd ["thing"] spTurn := by
  refine F.ok scis_turn (fun vs H Q E h => ?_) (fun cdv A outer s H vs Q E hr h => ?_)
  · obtain ⟨N, v, d, t, rfl, _⟩ := h
    rfl
  · obtain ⟨N, v, d, t, rfl, hd, hn, ht, q⟩ := h
    have nd := scis_turn.nd
    refine ⟨_, (pss_one (ps_ret (pe_call Gis_order (hr.mono (by first | decide | omega)) (by rfl) gis_order Fis_order.kp bis_order .nil pass0 (pa_cons (pv 0) (pa_cons pe_int pa_nil))))), ?_⟩
    exact ⟨v, rfl, N, v, d, t, 4, rfl, hd, hn, turn_perm t ht, by decide, q⟩
/-! ### contrary -/
abbrev scontrary : Stmt := topS 19
abbrev Ncontrary : List Str := ["turn", "corner"]
theorem sccontrary : FnScope Ncontrary ["turn"] (defScope scontrary) := ⟨rfl, rfl, rfl, by decide +kernel, rfl, by decide +kernel, by decide +kernel⟩
theorem okcontrary {f : Addr} {fd : FuncData} (F : Fun K "contrary" "contrary" scontrary f fd) (m_range : mg "range" = none) (m_tuple : mg "tuple" = none) : FnOk P w K mg base CX0 1 f fd ["turn"] spBack := by
  refine F.ok sccontrary (fun vs H Q E h => ?_) (fun cdv A outer s H vs Q E hr h => ?_)
  · obtain ⟨v, t, rfl, _⟩ := h
    rfl
  · obtain ⟨v, t, rfl, ⟨p, rfl, hp⟩, ht, q⟩ := h
    have nd := sccontrary.nd
    refine ⟨_, (pss_one (ps_ret (pe_callTy (kTupleF K rfl) (by rfl) m_tuple (by decide +kernel) (pa_cons (pe_lc (own := [("corner", 1)]) (g := gName 1) (tt := tYes) rfl nd (pi_range1 (by rfl) m_range (pa_cons pe_int pa_nil)) (blkOk_by (own := [("corner", 1)]) (N := Ncontrary) (sc := defScope scontrary) (by decide +kernel)) (fun _ _ _ _ _ => (pg_name (i := 1) nd rfl (Or.inl rfl))) (fun _ _ _ _ _ => pts_nil) (fun _ _ _ _ _ => (pe_bmF PySem.F.plainAttrs_tuple PySem.F.slot_tuple_index PySem.F.type_tuple_index (kTupIx K rfl) (pv 0) (pa_cons (pv 1) pa_nil)))) pa_nil)))), ?_⟩
    refine ⟨4, rfl, by decide, by decide, fun D nD => ?_⟩
    refine lc_range (lo := 0) (n := 4) (fun i H2 => H2 = upd H D (.lst (((List.range i).map fun c => t.idxOf c).map intV))) rfl ?_ ?_
    · rintro c H2 hc rfl
      rw [Int.zero_add]
      refine ⟨rfl, ?_⟩
      refine ⟨.ref p, rfl, ⟨p, _, rfl, hp.mono (same_new nD).tups⟩, ?_⟩
      walk_at "g"
      have t4 := turns4 t ht
      have hm : (c : Int) ∈ t.map fun c : Nat => (c : Int) := List.mem_map_of_mem (List.mem_of_getElem? (t4.2.2.2.1 c hc))
      refine ⟨p, t.map fun c : Nat => (c : Int), c, rfl, rfl, ?_, hm, ?_⟩
      · rw [← intV_map]
        exact (hp.mono (same_new nD).tups).sqt
      rw [idx_int]
      refine ⟨_, upd_same, small1000 (by rw [List.length_map, List.length_map, List.length_range]; omega), ?_⟩
      rw [upd_upd, List.range_succ, List.map_append, List.map_append]
      rfl
    · rintro H2 rfl
      refine ⟨D, _, rfl, .inl ⟨.inl (.inl upd_same), fun p2 o2 np2 d2 => ?_⟩⟩
      exact q _ p2 ((same_new nD).trans (same_new np2)) ((same_new nD).free np2) ⟨p2, rfl, FT.new d2⟩
end
end Bk

namespace Bk
open PySem PySem.Spec PyProof.Rows L2
local macro_rules | `(tactic| walk_at "g") => `(tactic| (repeat first | refine ⟨_, rfl, ?_⟩ | refine ⟨cpow, ?_⟩ | refine ⟨wideM, ?_⟩ | refine ⟨_, _, rfl, rfl, ?_⟩ | refine ⟨rfl, ?_⟩))
def Jok (m : Nat) (j : Jn) : Prop := ∀ n t, j = some (n, t) → n < m ∧ t ∈ allTurns
/-- blocks and spaces of tuples, as they stand -/
def BT (H : Hp) (v : V) (b : Blk) : Prop := ∃ p vs, v = .ref p ∧ FT H p vs ∧ Paired (JAt H) vs b
def ST (H : Hp) (v : V) (S : Spc) : Prop := ∃ p rs, v = .ref p ∧ FT H p rs ∧ Paired (BT H) rs S
theorem BT.mono {H H' : Hp} {v : V} {b : Blk} (h : BT H v b) (m : Tups H H') : BT H' v b := by
  obtain ⟨p, vs, e, h1, h2⟩ := h
  exact ⟨p, vs, e, h1.mono m, pmono h2 fun _ _ z => z.mono m⟩
theorem ST.mono {H H' : Hp} {v : V} {S : Spc} (h : ST H v S) (m : Tups H H') : ST H' v S := by
  obtain ⟨p, vs, e, h1, h2⟩ := h
  exact ⟨p, vs, e, h1.mono m, pmono h2 fun _ _ z => z.mono m⟩
theorem BT.dq {N : Addr → Prop} {H : Hp} {v : V} {b : Blk} (h : BT H v b) : Dq N H v (.tuple (b.map jD)) := by
  obtain ⟨p, vs, rfl, h1, h2⟩ := h
  exact .tup h1 (jats_dqs h2)
theorem bts_dqs {N : Addr → Prop} {H : Hp} : ∀ {rs : List V} {S : Spc}, Paired (BT H) rs S → Dqs N H rs (S.map fun b => .tuple (b.map jD))
  | _, _, .nil => .nil
  | _, _, .cons r t => .cons r.dq (bts_dqs t)
theorem ST.dq {N : Addr → Prop} {H : Hp} {v : V} {S : Spc} (h : ST H v S) : Dq N H v (shutD S) := by
  obtain ⟨p, vs, rfl, h1, h2⟩ := h
  exact .tup h1 (bts_dqs h2)
theorem Good.jok {S : Spc} (h : Good S) {b : Blk} (hb : b ∈ S) : ∀ j ∈ b, Jok S.length j := fun j hj n t e => by
  subst e
  obtain ⟨i, hi⟩ := List.mem_iff_getElem?.mp hb
  obtain ⟨f, hf⟩ := List.mem_iff_getElem?.mp hj
  have g : getJ S i f = some (some (n, t)) := by
    unfold getJ
    rw [hi]
    exact hf
  exact ⟨h.lt g, (h.both _ _ _ _ g).1⟩
theorem ST.face {H : Hp} {v : V} {S : Spc} (h : ST H v S) {b f : Nat} {j : Jn} (e : getJ S b f = some j) : ∃ p rs q vs x, v = .ref p ∧ FT H p rs ∧ rs[b]? = some (.ref q) ∧ FT H q vs ∧ vs[f]? = some x ∧ JAt H x j := by
  obtain ⟨p, rs, rfl, h1, h2⟩ := h
  unfold getJ at e
  cases hs : S[b]? with
  | none =>
    rw [hs] at e
    cases e
  | some y =>
    rw [hs] at e
    obtain ⟨x, g1, q, vs, rfl, g3, g4⟩ := pget h2 hs
    obtain ⟨z, g5, g6⟩ := pget g4 (show y[f]? = some j from e)
    exact ⟨p, rs, q, vs, z, rfl, h1, g1, g3, g5, g6⟩
theorem jD_lay (j : Jn) : (jD j).canLay0 = true ∧ (jD j).depth ≤ 3 := by
  cases j with
  | none => simp [jD, PyData.canLay0, PyData.depth]
  | some k =>
    obtain ⟨n, t⟩ := k
    have h : PyData.canLayAll0 (t.map intD) = true ∧ PyData.depthAll (t.map intD) ≤ 1 := by
      rw [intD_map]
      exact ints_lay _
    have h2 := h.2
    have e : PyData.depth (intD n) = 0 := by simp only [intD, PyData.depth]
    have e2 : PyData.canLay0 (intD n) = true := by simp only [intD, PyData.canLay0]
    constructor
    · simp only [jD, PyData.canLay0, PyData.canLayAll0, e2, h.1, Bool.and_self]
    · have e3 : (jD (some (n, t))).depth = PyData.depth (.tuple [intD n, .tuple (t.map intD)]) := rfl
      rw [e3]
      simp only [PyData.depth, PyData.depthAll, e]
      generalize PyData.depthAll (t.map intD) = z at h2 ⊢
      omega
section
variable {P : Program} {w : World} {K : PySem.W.Frag} {mg : Str → Option Value} {base : Heap}
/-! ### _joining_of -/
abbrev s_joining_of : Stmt := topS 22
abbrev N_joining_of : List Str := ["joining", "many", "other", "turn"]
theorem sc_joining_of : FnScope N_joining_of ["joining", "many"] (defScope s_joining_of) := ⟨rfl, rfl, rfl, by decide +kernel, rfl, by decide +kernel, by decide +kernel⟩
def spJoining : Sp := fun vs H Q _ => ∃ (N : Addr → Prop) (v : V) (d : PyData) (j : Jn) (m : Nat), vs = [v, intV m] ∧ Dq N H v d ∧ norm d = nJ j ∧ Jok m j ∧ ∀ H' v', Same H H' → JAt H' v' j → Q v' H'
theorem ok_joining_of {f fL fB fT : Addr} {fd fdL fdB fdT : FuncData} (F : Fun K "_joining_of" "_joining_of" s_joining_of f fd) (Fis_listed : Fun K "is_listed" "is_listed" sis_listed fL fdL) (gis_listed : mg "is_listed" = some (.ref fL)) (bis_listed : Binds K fdL ["thing"] []) (Gis_listed : FnOk P w K mg base CX0 1 fL fdL ["thing"] spListed)
    (Fis_below : Fun K "is_below" "is_below" sis_below fB fdB) (gis_below : mg "is_below" = some (.ref fB)) (bis_below : Binds K fdB ["thing", "many"] []) (Gis_below : FnOk P w K mg base CX0 2 fB fdB ["thing", "many"] spBelow)
    (Fis_turn : Fun K "is_turn" "is_turn" sis_turn fT fdT) (gis_turn : mg "is_turn" = some (.ref fT)) (bis_turn : Binds K fdT ["thing"] []) (Gis_turn : FnOk P w K mg base CX0 3 fT fdT ["thing"] spTurn)
    (m_len : mg "len" = none) (m_tuple : mg "tuple" = none) : FnOk P w K mg base CX0 4 f fd ["joining", "many"] spJoining := by
  refine F.ok sc_joining_of (fun vs H Q E h => ?_) (fun cdv A outer s H vs Q E hr h => ?_)
  · obtain ⟨N, v, d, j, m, rfl, _⟩ := h
    rfl
  · obtain ⟨N, v, d, j, m, rfl, hd, hn, hj, q⟩ := h
    have nd := sc_joining_of.nd
    refine ⟨_, (pss_cons (ps_if (pt_cmpR op_isN (pv 0) pe_non (nomark _)) (pss_one (ps_ret pe_non)) pss_nil)
      (pss_cons (ps_if (pw_or (pt_not (pt_val (pe_call Gis_listed (hr.mono (by first | decide | omega)) (by rfl) gis_listed Fis_listed.kp bis_listed .nil pass0 (pa_cons (pv 0) pa_nil)))) (pw_or1 (pt_cmpR op_ne (pe_callB (kLen K rfl) (by rfl) m_len (by decide +kernel) (pa_cons (pv 0) pa_nil)) pe_int (nomark _)))).pt (pss_one ps_never) pss_nil)
      (pss_cons (ps_asg (pv 0) (kPgS K rfl (pg_tup (n := 2) rfl (pgs_cons (pg_name (i := 2) nd rfl (.inl rfl)) (pgs_cons (pg_name (i := 3) nd rfl (.inl rfl)) pgs_nil))) (pg_unl (n := 2) rfl (pgs_cons (pg_name (i := 2) nd rfl (.inl rfl)) (pgs_cons (pg_name (i := 3) nd rfl (.inl rfl)) pgs_nil)))))
      (pss_cons (ps_if (pw_or (pt_not (pt_val (pe_call Gis_below (hr.mono (by first | decide | omega)) (by rfl) gis_below Fis_below.kp bis_below .nil pass0 (pa_cons (pv 2) (pa_cons (pv 1) pa_nil))))) (pw_or1 (pt_not (pt_val (pe_call Gis_turn (hr.mono (by first | decide | omega)) (by rfl) gis_turn Fis_turn.kp bis_turn .nil pass0 (pa_cons (pv 3) pa_nil)))))).pt (pss_one ps_never) pss_nil)
      (pss_one (ps_ret (pe_tupF (pa_cons (pv 2) (pa_cons (pe_callTy (kTupleF K rfl) (by rfl) m_tuple (by decide +kernel) (pa_cons (pv 3) pa_nil)) pa_nil))))))))), ?_⟩
    refine ⟨v, rfl, rfl, _, rfl, ?_⟩
    cases j with
    | none =>
      rw [nJ_none] at hn
      have ev := hd.isNon hn
      subst ev
      exact iteT (q H .non (Same.refl H) rfl)
    | some k =>
      obtain ⟨n, t⟩ := k
      obtain ⟨hnm, ht⟩ := hj n t rfl
      rw [nJ_some] at hn
      have sq : isSeqD d = true := by
        cases d <;> first | rfl | (simp only [norm] at hn; cases hn)
      obtain ⟨a, xs, ds, rfl, hq, _, hds, en⟩ := hd.seq (K := K) hn
      obtain ⟨v1, v2, d1, d2, rfl, h1, en1, h2, en2⟩ := hds.pair en
      have e1 := h1.isInt (i := (n : Int)) en1
      subst e1
      refine iteF ?_
      refine ⟨.ref a, rfl, N, .ref a, d, rfl, hd, fun H1 s1 => ?_⟩
      rw [sq]
      have hq1 : SqL K H1 a [V.int (n : Int), v2] ∨ SqT K H1 a [V.int (n : Int), v2] := hq.imp (fun z => s1.seq z) (fun z => s1.sqt z)
      refine ⟨_, rfl, iteF ⟨.ref a, rfl, a, _, rfl, hq1, rfl, _, rfl, iteNS rfl ?_⟩⟩
      refine ⟨.ref a, rfl, a, _, rfl, hq1, rfl, _, _, rfl, _, _, rfl, rfl, ?_⟩
      refine ⟨.int (n : Int), rfl, intV m, rfl, (n : Int), m, rfl, ?_⟩
      rw [decide_eq_true (show (0 : Int) ≤ (n : Int) by omega), decide_eq_true (show (n : Int) < (m : Int) by omega)]
      refine ⟨_, rfl, iteF ⟨v2, rfl, N, v2, d2, t, rfl, h2.same s1, en2, ht, fun H2 s2 => ⟨_, rfl, iteF ?_⟩⟩⟩
      have h22 := h2.same (s1.trans s2)
      obtain ⟨a2, xs2, ds2, rfl, hq2, _, hds2, en3⟩ := h22.seq (K := K) en2
      have ex := hds2.ints en3
      subst ex
      have fin : ∀ H3 p2, Same H2 H3 → FT H3 p2 (trnV t) → [V.int (n : Int), V.ref p2].length ≤ sizeLine ∧ ∀ p o, H3 p = none → o.dict = none → Q (.ref p) (upd H3 p (.frz o (.tup [V.int (n : Int), V.ref p2]))) := fun H3 p2 s3 f3 => by
        refine ⟨Nat.le_of_lt (small1000 (by show 2 ≤ 1000; decide)), fun p o np dn => ?_⟩
        exact q _ _ (((s1.trans s2).trans s3).trans (same_new np)) ⟨p, p2, rfl, FT.new dn, f3.mono (same_new np).tups⟩
      refine ⟨.int (n : Int), rfl, .ref a2, rfl, a2, trnV t, rfl, ?_⟩
      cases h22 with
      | lst g1 g2 g3 =>
        have e := g3.ints (by simpa only [norm, PyData.list.injEq] using en2)
        subst e
        exact .inl ⟨.inl (.inl g1), fun p2 o2 np2 dn2 => fin _ p2 (same_new np2) (FT.new dn2)⟩
      | tup g1 g2 =>
        have e := g2.ints (by simpa only [norm, PyData.list.injEq] using en2)
        subst e
        exact .inr ⟨g1.sqt, fin _ a2 (Same.refl _) g1⟩
/-! ### _block_of -/
abbrev s_block_of : Stmt := topS 21
abbrev N_block_of : List Str := ["faces", "many", "joining"]
theorem sc_block_of : FnScope N_block_of ["faces", "many"] (defScope s_block_of) := ⟨rfl, rfl, rfl, by decide +kernel, rfl, by decide +kernel, by decide +kernel⟩
def spBlockOf : Sp := fun vs H Q _ => ∃ (N : Addr → Prop) (v : V) (d : PyData) (b : Blk) (m : Nat), vs = [v, intV m] ∧ Dq N H v d ∧ norm d = nB b ∧ b.length = 4 ∧ (∀ j ∈ b, Jok m j) ∧ ∀ H' v', Same H H' → BT H' v' b → Q v' H'
theorem ok_block_of {f fL fJ : Addr} {fd fdL fdJ : FuncData} (F : Fun K "_block_of" "_block_of" s_block_of f fd) (Fis_listed : Fun K "is_listed" "is_listed" sis_listed fL fdL) (gis_listed : mg "is_listed" = some (.ref fL)) (bis_listed : Binds K fdL ["thing"] []) (Gis_listed : FnOk P w K mg base CX0 1 fL fdL ["thing"] spListed)
    (F_joining_of : Fun K "_joining_of" "_joining_of" s_joining_of fJ fdJ) (g_joining_of : mg "_joining_of" = some (.ref fJ)) (b_joining_of : Binds K fdJ ["joining", "many"] []) (G_joining_of : FnOk P w K mg base CX0 4 fJ fdJ ["joining", "many"] spJoining)
    (m_len : mg "len" = none) (m_tuple : mg "tuple" = none) : FnOk P w K mg base CX0 5 f fd ["faces", "many"] spBlockOf := by
  refine F.ok sc_block_of (fun vs H Q E h => ?_) (fun cdv A outer s H vs Q E hr h => ?_)
  · obtain ⟨N, v, d, b, m, rfl, _⟩ := h
    rfl
  · obtain ⟨N, v, d, b, m, rfl, hd, hn, h4, hj, q⟩ := h
    have nd := sc_block_of.nd
    refine ⟨_, (pss_cons (ps_if (pw_or (pt_not (pt_val (pe_call Gis_listed (hr.mono (by first | decide | omega)) (by rfl) gis_listed Fis_listed.kp bis_listed .nil pass0 (pa_cons (pv 0) pa_nil)))) (pw_or1 (pt_cmpR op_ne (pe_callB (kLen K rfl) (by rfl) m_len (by decide +kernel) (pa_cons (pv 0) pa_nil)) pe_int (nomark _)))).pt (pss_one ps_never) pss_nil)
      (pss_one (ps_ret (pe_callTy (kTupleF K rfl) (by rfl) m_tuple (by decide +kernel) (pa_cons (pe_lc (own := [("joining", 2)]) (g := gName 2) (tt := tYes) rfl nd (kPiS K rfl (pv 0)) (blkOk_by (own := [("joining", 2)]) (N := N_block_of) (sc := defScope s_block_of) (by decide +kernel)) (fun _ _ _ _ _ => (pg_name (i := 2) nd rfl (Or.inl rfl))) (fun _ _ _ _ _ => pts_nil) (fun _ _ _ _ _ => (pe_call G_joining_of (hr.mono (by first | decide | omega)) (by rfl) g_joining_of F_joining_of.kp b_joining_of .nil pass0 (pa_cons (pv 2) (pa_cons (pv 1) pa_nil))))) pa_nil))))), ?_⟩
    have sq : isSeqD d = true := by
      cases d <;> first | rfl | (simp only [norm, nB] at hn; cases hn)
    obtain ⟨a, xs, ds, rfl, hq, _, hds, en⟩ := hd.seq (K := K) hn
    have lx : xs.length = 4 := by rw [hds.len, norm_len en, h4]
    refine ⟨.ref a, rfl, N, .ref a, d, rfl, hd, fun H1 s1 => ?_⟩
    rw [sq]
    have hq1 : SqL K H1 a xs ∨ SqT K H1 a xs := hq.imp (fun z => s1.seq z) (fun z => s1.sqt z)
    refine ⟨_, rfl, iteF ⟨.ref a, rfl, a, _, rfl, hq1, rfl, _, rfl, iteNS (by rw [lx]; rfl) ?_⟩⟩
    refine ⟨.ref a, rfl, a, xs, rfl, hq1, fun J C hJ hC => ?_⟩
    intro D nD
    refine lc_seq (xs := xs) hJ (fun i H2 => ∃ ws, H2 D = some (.lst ws) ∧ Paired (JAt H2) ws (b.take i) ∧ Same H1 H2) ⟨[], upd_same, .nil, same_new nD⟩ ?_ ?_ ?_
    · rintro i H2 ⟨ws, h2, t2, s2⟩
      exact SeqIt.mono K hJ (fun o e => s2 _ _ e) hC
    · rintro i x H2 hx ⟨ws, h2, t2, s2⟩
      obtain ⟨di, hdi, hxi⟩ := hds.get hx
      obtain ⟨j, hji, ej⟩ := norm_at en hdi
      refine ⟨rfl, x, rfl, intV m, rfl, N, x, di, j, m, rfl, hxi.same (s1.trans s2), ej, hj j (List.mem_of_getElem? hji), fun H3 v3 s3 j3 => ?_⟩
      have h3 := s3 _ _ h2
      refine ⟨ws, h3, small1000 (by rw [plen t2, List.length_take]; omega), ws ++ [v3], upd_same, ?_, same_fill (s2.trans s3) nD⟩
      rw [List.take_add_one, hji]
      exact papp (pmono t2 fun _ _ z => z.mono (s3.tups.trans (tups_set h3))) (.cons (j3.mono (tups_set h3)) .nil)
    · rintro H2 ⟨ws, h2, t2, s2⟩
      rw [lx, ← h4, List.take_length] at t2
      refine ⟨D, ws, rfl, .inl ⟨.inl (.inl h2), fun p o np dn => ?_⟩⟩
      exact q _ _ ((s1.trans s2).trans (same_new np)) ⟨p, ws, rfl, FT.new dn, pmono t2 fun _ _ z => z.mono (same_new np).tups⟩
end
end Bk

namespace Bk
open PySem PySem.Spec PyProof.Rows L2
local macro_rules | `(tactic| walk_at "g") => `(tactic| (repeat first | refine ⟨_, rfl, ?_⟩ | refine ⟨cpow, ?_⟩ | refine ⟨wideM, ?_⟩ | refine ⟨_, _, rfl, rfl, ?_⟩ | refine ⟨rfl, ?_⟩))
theorem jD_shaped (j : Jn) : SeqAt.shaped (jD j) = true := by
  obtain ⟨h1, h2⟩ := jD_lay j
  show ((jD j).canLay0 && decide ((jD j).depth ≤ 64)) = true
  rw [h1, decide_eq_true (by omega)]
  rfl
theorem tints_shaped (ns : List Int) : SeqAt.shaped (.tuple (ns.map PyData.int)) = true := by
  have h := ints_lay ns
  have h2 : PyData.depth (.tuple (ns.map PyData.int)) ≤ 64 := by
    simp only [PyData.depth]
    omega
  show (PyData.canLay0 (.tuple (ns.map PyData.int)) && decide (PyData.depth (.tuple (ns.map PyData.int)) ≤ 64)) = true
  rw [Bool.and_eq_true]
  exact ⟨by simp only [PyData.canLay0]; exact h.1, decide_eq_true h2⟩
theorem pair_eqv (a b c d : Nat) : PyData.eqv (.tuple [intD a, intD b]) (.tuple [intD c, intD d]) = decide ((a, b) = (c, d)) := by
  have e : PyData.eqv (.tuple [intD a, intD b]) (.tuple [intD c, intD d]) = (((a : Int) == (c : Int)) && (((b : Int) == (d : Int)) && true)) := by simp only [intD, PyData.eqv, PyData.eqvAll]
  rw [e]
  by_cases h : ((a, b) : Nat × Nat) = (c, d)
  · injection h with h1 h2
    subst h1 h2
    simp
  · rw [decide_eq_false h]
    by_cases h1 : a = c
    · have h2 : b ≠ d := fun z => h (by rw [h1, z])
      rw [show ((b : Int) == (d : Int)) = false from beq_eq_false_iff_ne.mpr (by omega)]
      simp
    · rw [show ((a : Int) == (c : Int)) = false from beq_eq_false_iff_ne.mpr (by omega)]
      simp
section
variable {P : Program} {w : World} {K : PySem.W.Frag} {mg : Str → Option Value} {base : Heap}
/-! ### _goes_both_ways -/
abbrev s_goes_both_ways : Stmt := topS 23
abbrev N_goes_both_ways : List Str := ["space", "block", "face", "joining", "other", "turn", "across"]
theorem sc_goes_both_ways : FnScope N_goes_both_ways ["space", "block", "face"] (defScope s_goes_both_ways) := ⟨rfl, rfl, rfl, by decide +kernel, rfl, by decide +kernel, by decide +kernel⟩
def spGoes : Sp := fun vs H Q _ => ∃ (v : V) (S : Spc) (b f : Nat), vs = [v, intV b, intV f] ∧ ST H v S ∧ Good S ∧ b < S.length ∧ f < 4 ∧ ∀ H', Same H H' → Q (.bl true) H'
theorem ok_goes_both_ways {f fC : Addr} {fd fdC : FuncData} (F : Fun K "_goes_both_ways" "_goes_both_ways" s_goes_both_ways f fd) (Fcontrary : Fun K "contrary" "contrary" scontrary fC fdC) (gcontrary : mg "contrary" = some (.ref fC)) (bcontrary : Binds K fdC ["turn"] [])
    (Gcontrary : FnOk P w K mg base CX0 1 fC fdC ["turn"] spBack) : FnOk P w K mg base CX0 2 f fd ["space", "block", "face"] spGoes := by
  refine F.ok sc_goes_both_ways (fun vs H Q E h => ?_) (fun cdv A outer s H vs Q E hr h => ?_)
  · obtain ⟨v, S, b, f, rfl, _⟩ := h
    rfl
  · obtain ⟨v, S, b, f, rfl, hv, hG, hb, hf, q⟩ := h
    have nd := sc_goes_both_ways.nd
    refine ⟨_, (pss_cons (ps_set (i := 3) nd rfl (.inl rfl) (pe_ix (kIxT K rfl) (pe_ix (kIxT K rfl) (pv 0) (pv 1) (fun _ _ => rfl)) (pv 2) (fun _ _ => rfl)))
      (pss_cons (ps_if (pt_cmpR op_isN (pv 3) pe_non (nomark _)) (pss_one (ps_ret pe_bl)) pss_nil)
      (pss_cons (ps_asg (pv 3) (kPgT K rfl (pg_tup (n := 2) rfl (pgs_cons (pg_name (i := 4) nd rfl (.inl rfl)) (pgs_cons (pg_name (i := 5) nd rfl (.inl rfl)) pgs_nil)))))
      (pss_cons (ps_set (i := 6) nd rfl (.inl rfl) (pe_ix (kIxT K rfl) (pv 5) (pv 2) (fun _ _ => rfl)))
      (pss_cons (ps_if (pt_cmpR (kEqD K rfl hr.units) (pe_tupF (pa_cons (pv 4) (pa_cons (pv 6) pa_nil))) (pe_tupF (pa_cons (pv 1) (pa_cons (pv 2) pa_nil))) (nomark _)) (pss_one (ps_ret pe_bl)) pss_nil)
      (pss_one (ps_ret (pe_cmpR (kEqD K rfl hr.units) (pe_ix (kIxT K rfl) (pe_ix (kIxT K rfl) (pv 0) (pv 4) (fun _ _ => rfl)) (pv 6) (fun _ _ => rfl)) (pe_tupF (pa_cons (pv 1) (pa_cons (pe_call Gcontrary (hr.mono (by first | decide | omega)) (by rfl) gcontrary Fcontrary.kp bcontrary .nil pass0 (pa_cons (pv 5) pa_nil)) pa_nil))) (nomark _))))))))), ?_⟩
    obtain ⟨j, hj⟩ := hG.l4.get hb hf
    obtain ⟨p, rs, pb, vb, x, rfl, f1, g1, f2, g2, jx⟩ := hv.face hj
    refine ⟨.ref p, rfl, intV b, rfl, p, rs, b, .ref pb, rfl, rfl, f1.sqt, atI_nat g1, intV f, rfl, pb, vb, f, x, rfl, rfl, f2.sqt, atI_nat g2, ?_⟩
    refine ⟨x, rfl, rfl, ?_⟩
    rw [jx.isN]
    refine ⟨_, rfl, ?_⟩
    cases j with
    | none => exact iteT (q H (Same.refl H))
    | some k =>
      obtain ⟨n, t⟩ := k
      obtain ⟨ht, hne, hbk⟩ := hG.both _ _ _ _ hj
      have htf := tf_lt t ht f hf
      obtain ⟨pj, pq, rfl, f3, f4⟩ := jx
      refine iteF ?_
      refine ⟨.ref pj, rfl, pj, _, rfl, f3.sqt, rfl, _, _, rfl, _, _, rfl, rfl, ?_⟩
      refine ⟨.ref pq, rfl, intV f, rfl, pq, trnV t, f, intV (tf t f), rfl, rfl, f4.sqt, atI_nat (by unfold trnV; rw [List.getElem?_map, htf.2]; rfl), ?_⟩
      refine ⟨intV n, rfl, intV (tf t f), rfl, Nat.le_of_lt (small1000 (by show 2 ≤ 1000; decide)), fun p1 o1 np1 dn1 => ?_⟩
      have s1 : Same H (upd H p1 (.frz o1 (.tup [intV n, intV (tf t f)]))) := same_new np1
      have ft1 : FT (upd H p1 (.frz o1 (.tup [intV n, intV (tf t f)]))) p1 [intV n, intV (tf t f)] := FT.new dn1
      generalize upd H p1 (.frz o1 (.tup [intV n, intV (tf t f)])) = H1 at s1 ft1 ⊢
      refine ⟨intV b, rfl, intV f, rfl, Nat.le_of_lt (small1000 (by show 2 ≤ 1000; decide)), fun p2 o2 np2 dn2 => ?_⟩
      have s2 : Same H1 (upd H1 p2 (.frz o2 (.tup [intV b, intV f]))) := same_new np2
      have ft2 : FT (upd H1 p2 (.frz o2 (.tup [intV b, intV f]))) p2 [intV b, intV f] := FT.new dn2
      generalize upd H1 p2 (.frz o2 (.tup [intV b, intV f])) = H2 at s2 ft2 ⊢
      refine ⟨.tuple [intD n, intD (tf t f)], .tuple [intD b, intD f], .tup (ft1.mono s2.tups).sqt (.cons (.int _) (.cons (.int _) .nil)), .tup ft2.sqt (.cons (.int _) (.cons (.int _) .nil)), tints_shaped [n, tf t f], tints_shaped [b, f], ?_⟩
      rw [pair_eqv, decide_eq_false hne]
      refine ⟨_, rfl, iteF ?_⟩
      have s12 := s1.trans s2
      have hv2 : ST H2 (.ref p) S := hv.mono s12.tups
      obtain ⟨p', rs', pn, vn, x2, ep, f5, g3, f6, g4, jx2⟩ := hv2.face hbk
      cases ep
      refine ⟨.ref p, rfl, intV n, rfl, p, rs', n, .ref pn, rfl, rfl, f5.sqt, atI_nat g3, intV (tf t f), rfl, pn, vn, (tf t f : Nat), x2, rfl, rfl, f6.sqt, atI_nat g4, ?_⟩
      refine ⟨intV b, rfl, .ref pq, rfl, .ref pq, t, rfl, ⟨pq, rfl, f4.mono s12.tups⟩, ht, fun H3 p3 s3 n3 T3 => ⟨Nat.le_of_lt (small1000 (by show 2 ≤ 1000; decide)), fun p4 o4 np4 dn4 => ?_⟩⟩
      obtain ⟨p3', e3, T3⟩ := T3
      cases e3
      have s4 : Same H3 (upd H3 p4 (.frz o4 (.tup [intV b, .ref p3]))) := same_new np4
      have j4 : JAt (upd H3 p4 (.frz o4 (.tup [intV b, .ref p3]))) (.ref p4) (some (b, back t)) := ⟨p4, p3, rfl, FT.new dn4, T3.mono s4.tups⟩
      have j5 := jx2.mono (s3.trans s4).tups
      refine ⟨jD (some (b, back t)), jD (some (b, back t)), (j5.dq (N := fun _ => False)).dp, (j4.dq (N := fun _ => False)).dp, jD_shaped _, jD_shaped _, ?_⟩
      rw [SeqAt.eqv_refl _ (jD_lay _).1]
      exact q _ ((s12.trans s3).trans s4)
/-! ### space_of -/
abbrev sspace_of : Stmt := topS 20
abbrev Nspace_of : List Str := ["blocks", "space", "block", "face", "faces"]
theorem scspace_of : FnScope Nspace_of ["blocks"] (defScope sspace_of) := ⟨rfl, rfl, rfl, by decide +kernel, rfl, by decide +kernel, by decide +kernel⟩
def spSpace : Sp := fun vs H Q _ => ∃ (N : Addr → Prop) (v : V) (d : PyData) (S : Spc), vs = [v] ∧ Dq N H v d ∧ norm d = nS S ∧ Good S ∧ 1 ≤ S.length ∧ S.length ≤ 100 ∧ ∀ H' v', Same H H' → ST H' v' S → Q v' H'
theorem okspace_of {f fL fB fG : Addr} {fd fdL fdB fdG : FuncData} (F : Fun K "space_of" "space_of" sspace_of f fd) (Fis_listed : Fun K "is_listed" "is_listed" sis_listed fL fdL) (gis_listed : mg "is_listed" = some (.ref fL)) (bis_listed : Binds K fdL ["thing"] []) (Gis_listed : FnOk P w K mg base CX0 1 fL fdL ["thing"] spListed)
    (F_block_of : Fun K "_block_of" "_block_of" s_block_of fB fdB) (g_block_of : mg "_block_of" = some (.ref fB)) (b_block_of : Binds K fdB ["faces", "many"] []) (G_block_of : FnOk P w K mg base CX0 5 fB fdB ["faces", "many"] spBlockOf)
    (F_goes_both_ways : Fun K "_goes_both_ways" "_goes_both_ways" s_goes_both_ways fG fdG) (g_goes_both_ways : mg "_goes_both_ways" = some (.ref fG)) (b_goes_both_ways : Binds K fdG ["space", "block", "face"] []) (G_goes_both_ways : FnOk P w K mg base CX0 2 fG fdG ["space", "block", "face"] spGoes)
    (m_len : mg "len" = none) (m_tuple : mg "tuple" = none) (m_range : mg "range" = none) : FnOk P w K mg base CX0 6 f fd ["blocks"] spSpace := by
  refine F.ok scspace_of (fun vs H Q E h => ?_) (fun cdv A outer s H vs Q E hr h => ?_)
  · obtain ⟨N, v, d, S, rfl, _⟩ := h
    rfl
  · obtain ⟨N, v, d, S, rfl, hd, hn, hG, hl1, hl2, q⟩ := h
    have nd := scspace_of.nd
    refine ⟨_, (pss_cons (ps_if (pw_or (pt_not (pt_val (pe_call Gis_listed (hr.mono (by first | decide | omega)) (by rfl) gis_listed Fis_listed.kp bis_listed .nil pass0 (pa_cons (pv 0) pa_nil)))) (pw_or1 (pt_not (pt_truth (pv 0) (by intro _; rfl))))).pt (pss_one ps_never) pss_nil)
      (pss_cons (ps_set (i := 1) nd rfl (.inl rfl) (pe_callTy (kTupleF K rfl) (by rfl) m_tuple (by decide +kernel) (pa_cons (pe_lc (own := [("faces", 4)]) (g := gName 4) (tt := tYes) rfl nd (kPiS K rfl (pv 0)) (blkOk_by (own := [("faces", 4)]) (N := Nspace_of) (sc := defScope sspace_of) (by decide +kernel)) (fun _ _ _ _ _ => (pg_name (i := 4) nd rfl (Or.inl rfl))) (fun _ _ _ _ _ => pts_nil) (fun _ _ _ _ _ => (pe_call G_block_of (hr.mono (by first | decide | omega)) (by rfl) g_block_of F_block_of.kp b_block_of .nil pass0 (pa_cons (pv 4) (pa_cons (pe_callB (kLen K rfl) (by rfl) m_len (by decide +kernel) (pa_cons (pv 0) pa_nil)) pa_nil))))) pa_nil)))
      (pss_cons (ps_for PassesOwn.never rfl (pi_range1 (by rfl) m_range (pa_cons (pe_callB (kLen K rfl) (by rfl) m_len (by decide +kernel) (pa_cons (pv 1) pa_nil)) pa_nil)) (pg_name (i := 2) nd rfl (.inl rfl)) (pss_one (ps_for PassesOwn.never rfl (pi_range1 (by rfl) m_range (pa_cons pe_int pa_nil)) (pg_name (i := 3) nd rfl (.inl rfl)) (pss_one (ps_if (pt_not (pt_val (pe_call G_goes_both_ways (hr.mono (by first | decide | omega)) (by rfl) g_goes_both_ways F_goes_both_ways.kp b_goes_both_ways .nil pass0 (pa_cons (pv 1) (pa_cons (pv 2) (pa_cons (pv 3) pa_nil)))))) (pss_one ps_never) pss_nil)))))
      (pss_one (ps_ret (pv 1)))))), ?_⟩
    have sq : isSeqD d = true := by
      cases d <;> first | rfl | (simp only [norm, nS] at hn; cases hn)
    obtain ⟨a, xs, ds, rfl, hq, _, hds, en⟩ := hd.seq (K := K) hn
    have lx : xs.length = S.length := by rw [hds.len, norm_len en]
    have xe : xs.isEmpty = false := by
      cases xs with
      | nil =>
        have : 0 = S.length := lx
        omega
      | cons x r => rfl
    refine ⟨.ref a, rfl, N, .ref a, d, rfl, hd, fun H1 s1 => ?_⟩
    rw [sq]
    have hq1 : SqL K H1 a xs ∨ SqT K H1 a xs := hq.imp (fun z => s1.seq z) (fun z => s1.sqt z)
    have tru : TruV K (.ref a) H1 true := by
      rcases hq1 with z | z
      · exact .inl ⟨xs, z, by rw [xe]; rfl⟩
      · exact .inr (.inl ⟨xs, z, by rw [xe]; rfl⟩)
    refine ⟨_, rfl, iteF ⟨.ref a, rfl, true, tru, iteF ?_⟩⟩
    refine ⟨.ref a, rfl, a, xs, rfl, hq1, fun J C hJ hC => ?_⟩
    intro D nD
    refine lc_seq (xs := xs) hJ (fun i H2 => ∃ ws, H2 D = some (.lst ws) ∧ Paired (BT H2) ws (S.take i) ∧ Same H1 H2) ⟨[], upd_same, .nil, same_new nD⟩ ?_ ?_ ?_
    · rintro i H2 ⟨ws, h2, t2, s2⟩
      exact SeqIt.mono K hJ (fun o e => s2 _ _ e) hC
    · rintro i x H2 hx ⟨ws, h2, t2, s2⟩
      obtain ⟨di, hdi, hxi⟩ := hds.get hx
      obtain ⟨b, hbi, eb⟩ := norm_at en hdi
      have hbm := List.mem_of_getElem? hbi
      have hi : i < S.length := (List.getElem?_eq_some_iff.mp hbi).1
      refine ⟨rfl, x, rfl, .ref a, rfl, a, xs, rfl, hq1.imp (fun z => s2.seq z) (fun z => s2.sqt z), ?_⟩
      refine ⟨N, x, di, b, S.length, (by rw [lx]; rfl), hxi.same (s1.trans s2), eb, hG.l4 b hbm, hG.jok hbm, fun H3 v3 s3 j3 => ?_⟩
      have h3 := s3 _ _ h2
      refine ⟨ws, h3, small1000 (by rw [plen t2, List.length_take]; omega), ws ++ [v3], upd_same, ?_, same_fill (s2.trans s3) nD⟩
      rw [List.take_add_one, hbi]
      exact papp (pmono t2 fun _ _ z => z.mono (s3.tups.trans (tups_set h3))) (.cons (j3.mono (tups_set h3)) .nil)
    · rintro H2 ⟨ws, h2, t2, s2⟩
      rw [lx, List.take_length] at t2
      refine ⟨D, ws, rfl, .inl ⟨.inl (.inl h2), fun p o np dn => ?_⟩⟩
      have s3 : Same H2 (upd H2 p (.frz o (.tup ws))) := same_new np
      have st : ST (upd H2 p (.frz o (.tup ws))) (.ref p) S := ⟨p, ws, rfl, FT.new dn, pmono t2 fun _ _ z => z.mono s3.tups⟩
      have ftp : FT (upd H2 p (.frz o (.tup ws))) p ws := FT.new dn
      generalize upd H2 p (.frz o (.tup ws)) = H3 at s3 st ftp ⊢
      have s13 := (s1.trans s2).trans s3
      have lw : ws.length = S.length := plen t2
      refine ⟨.ref p, rfl, p, ws, rfl, .inr ftp.sqt, _, rfl, by rw [lw]; omega, by rw [lw]; omega, ?_⟩
      rw [lw, Int.toNat_natCast]
      refine for_range (lo := 0) (n := S.length) (fun b σ H4 => ∃ y2 y3, σ = [some (.ref a), some (.ref p), y2, y3, none] ∧ Same H3 H4) ⟨none, none, rfl, Same.refl _⟩ ?_ ?_
      · rintro b σ H4 hb ⟨y2, y3, rfl, s4⟩
        rw [Int.zero_add]
        refine ⟨4, rfl, by decide, by decide, ?_⟩
        refine for_range (lo := 0) (n := 4) (fun f σ H5 => ∃ y3, σ = [some (.ref a), some (.ref p), some (intV b), y3, none] ∧ Same H3 H5) ⟨y3, rfl, s4⟩ ?_ ?_
        · rintro f σ H5 hf ⟨y3, rfl, s5⟩
          rw [Int.zero_add]
          refine ⟨.ref p, rfl, intV b, rfl, intV f, rfl, .ref p, S, b, f, rfl, st.mono s5.tups, hG, hb, hf, fun H6 s6 => ⟨_, rfl, iteF ?_⟩⟩
          exact ⟨_, rfl, s5.trans s6⟩
        · rintro σ H5 ⟨y3, rfl, s5⟩
          exact ⟨_, _, rfl, s5⟩
      · rintro σ H4 ⟨y2, y3, rfl, s4⟩
        exact ⟨.ref p, rfl, q H4 _ (s13.trans s4) (st.mono s4.tups)⟩
end
end Bk

namespace Bk
open PySem PySem.Spec PyProof.Rows L2 RZ
local macro_rules | `(tactic| walk_at "g") => `(tactic| (repeat first | refine ⟨_, rfl, ?_⟩ | refine ⟨cpow, ?_⟩ | refine ⟨wideM, ?_⟩ | refine ⟨_, _, rfl, rfl, ?_⟩ | refine ⟨rfl, ?_⟩))
/-! ### two walked at once -/
structure ZipIt (a b : Addr) (xs ys : List V) (J : It) (G : Hp → Prop) : Prop where
  walk : Walk J (min xs.length ys.length) G (YPair (fun i => xs[i]?) (fun i => ys[i]?))
  stay : ∀ H H' : Hp, (∀ o, H a = some o → H' a = some o) → (∀ o, H b = some o → H' b = some o) → G H → G H'
theorem sqL_at {K : PySem.W.Frag} {H H' : Hp} {a : Addr} {xs : List V} (m : ∀ o, H a = some o → H' a = some o) (c : SqL K H a xs) : SqL K H' a xs := by
  rcases c with (c | ⟨o, c⟩) | c
  · exact .inl (.inl (m _ c))
  · exact .inl (.inr ⟨o, m _ c⟩)
  · exact .inr c
theorem sqT_at {K : PySem.W.Frag} {H H' : Hp} {a : Addr} {xs : List V} (m : ∀ o, H a = some o → H' a = some o) (c : SqT K H a xs) : SqT K H' a xs := by
  rcases c with (c | ⟨o, c⟩) | c
  · exact .inl (.inl (m _ c))
  · exact .inl (.inr ⟨o, m _ c⟩)
  · exact .inr c
theorem walk_zipT {K : PySem.W.Frag} {a b : Addr} {xs ys : List V} : Walk (ItzT K a b) (min xs.length ys.length) (fun H => SqT K H a xs ∧ SqT K H b ys) (YPair (fun i => xs[i]?) (fun i => ys[i]?)) := by
  refine ⟨fun i _ hi q => ?_, fun _ q => ⟨xs, ys, q.1, q.2, by omega⟩, fun i H v H' _ q y => ?_⟩
  · exact ⟨xs, ys, _, _, q.1, q.2, List.getElem?_eq_getElem (show i < xs.length by omega), List.getElem?_eq_getElem (show i < ys.length by omega)⟩
  · obtain ⟨T, x, z, z1, z2, z3, z4, z5⟩ := y
    exact ⟨T, x, z, z1, z2, z3, z4 xs q.1, z5 ys q.2⟩
def iZipS (K : PySem.W.Frag) (ta : TA) : TI := fun σ H R => ta σ H fun vs H1 => ∃ a b xs ys, vs = [.ref a, .ref b] ∧ ((SqL K H1 a xs ∧ SqL K H1 b ys) ∨ (SqT K H1 a xs ∧ SqT K H1 b ys)) ∧ ∀ J G, ZipIt a b xs ys J G → G H1 → R J H1
/-- what an argument list's reading asks is monotone -/
theorem kPiZ {X : Cx} (K : PySem.W.Frag) {tg l : Expr} {ta : TA} (h : X.K = K) (x : PI X tg l (iZipA X.K ta)) (mono : ∀ σ H (Q Q' : List V → Hp → Prop), ta σ H Q → (∀ vs H', Q vs H' → Q' vs H') → ta σ H Q' := by
    intro σ H Q Q' hq m
    first
      | exact m _ _ hq
      | (obtain ⟨v1, e1, v2, e2, hq⟩ := hq; exact ⟨v1, e1, v2, e2, m _ _ hq⟩)) : PI X tg l (iZipS K ta) := by
  subst h
  refine ⟨fun pins s σ H R I hw => x.run pins s σ H R I (mono σ H _ _ hw fun vs H' hv => ?_)⟩
  obtain ⟨a, b, xs, ys, e, hq, q⟩ := hv
  rcases hq with ⟨q1, q2⟩ | ⟨q1, q2⟩
  · exact ⟨a, b, xs, ys, e, .inl ⟨q1, q2, q _ _ ⟨walk_zip rfl, fun _ _ m1 m2 z => ⟨sqL_at m1 z.1, sqL_at m2 z.2⟩⟩ ⟨q1, q2⟩⟩⟩
  · exact ⟨a, b, xs, ys, e, .inr ⟨q1, q2, q _ _ ⟨walk_zipT, fun _ _ m1 m2 z => ⟨sqT_at m1 z.1, sqT_at m2 z.2⟩⟩ ⟨q1, q2⟩⟩⟩
section
variable {P : Program} {w : World} {K : PySem.W.Frag} {mg : Str → Option Value} {base : Heap}
theorem kit_tuple (d : PyData) : PySem.W.kitOne K (.type (tyD d)) (.type "tuple") = some (tyD d == "tuple") := by
  cases d with
  | none => exact kit_ty (a := "NoneType") (b := "tuple") (show kitB "NoneType" "tuple" = some false by decide +kernel)
  | bool b => exact kit_ty (a := "bool") (b := "tuple") (show kitB "bool" "tuple" = some false by decide +kernel)
  | int i => exact kit_ty (a := "int") (b := "tuple") (show kitB "int" "tuple" = some false by decide +kernel)
  | str x => exact kit_ty (a := "str") (b := "tuple") (show kitB "str" "tuple" = some false by decide +kernel)
  | list ds => exact kit_ty (a := "list") (b := "tuple") (show kitB "list" "tuple" = some false by decide +kernel)
  | tuple ds => exact kit_ty (a := "tuple") (b := "tuple") (show kitB "tuple" "tuple" = some true by decide +kernel)
  | dict k => exact kit_ty (a := "dict") (b := "tuple") (show kitB "dict" "tuple" = some false by decide +kernel)
theorem kit_list (d : PyData) : PySem.W.kitOne K (.type (tyD d)) (.type "list") = some (tyD d == "list") := by
  cases d with
  | none => exact kit_ty (a := "NoneType") (b := "list") (show kitB "NoneType" "list" = some false by decide +kernel)
  | bool b => exact kit_ty (a := "bool") (b := "list") (show kitB "bool" "list" = some false by decide +kernel)
  | int i => exact kit_ty (a := "int") (b := "list") (show kitB "int" "list" = some false by decide +kernel)
  | str x => exact kit_ty (a := "str") (b := "list") (show kitB "str" "list" = some false by decide +kernel)
  | list ds => exact kit_ty (a := "list") (b := "list") (show kitB "list" "list" = some true by decide +kernel)
  | tuple ds => exact kit_ty (a := "tuple") (b := "list") (show kitB "tuple" "list" = some false by decide +kernel)
  | dict k => exact kit_ty (a := "dict") (b := "list") (show kitB "dict" "list" = some false by decide +kernel)
theorem kit_str (d : PyData) : PySem.W.kitOne K (.type (tyD d)) (.type "str") = some (tyD d == "str") := by
  cases d with
  | none => exact kit_ty (a := "NoneType") (b := "str") (show kitB "NoneType" "str" = some false by decide +kernel)
  | bool b => exact kit_ty (a := "bool") (b := "str") (show kitB "bool" "str" = some false by decide +kernel)
  | int i => exact kit_ty (a := "int") (b := "str") (show kitB "int" "str" = some false by decide +kernel)
  | str x => exact kit_ty (a := "str") (b := "str") (show kitB "str" "str" = some true by decide +kernel)
  | list ds => exact kit_ty (a := "list") (b := "str") (show kitB "list" "str" = some false by decide +kernel)
  | tuple ds => exact kit_ty (a := "tuple") (b := "str") (show kitB "tuple" "str" = some false by decide +kernel)
  | dict k => exact kit_ty (a := "dict") (b := "str") (show kitB "dict" "str" = some false by decide +kernel)
theorem or_way {c d : Bool} {A B X : Prop} (h1 : (c || d) = true → A) (hx : (if d = true then A else B) → X) (h2 : (c || d) = false → B) : if c = true then A else X := by
  cases c with
  | true => exact iteT (h1 rfl)
  | false =>
    refine iteF (hx ?_)
    cases d with
    | true => exact iteT (h1 rfl)
    | false => exact iteF (h2 rfl)
theorem seq_ty (d : PyData) : (tyD d == "tuple" || tyD d == "list") = isSeqD d := by
  cases d <;> simp [isSeqD, tyD]
theorem scal_ty (d : PyData) : (tyD d == "bool" || tyD d == "str") = true → (∃ b, d = .bool b) ∨ ∃ x, d = .str x := by
  cases d <;> simp [tyD]
end
end Bk

namespace Bk
open PySem PySem.Spec PyProof.Rows L2 RZ
local macro_rules | `(tactic| walk_at "g") => `(tactic| (repeat first | refine ⟨_, rfl, ?_⟩ | refine ⟨cpow, ?_⟩ | refine ⟨wideM, ?_⟩ | refine ⟨_, _, rfl, rfl, ?_⟩ | refine ⟨rfl, ?_⟩))
section
variable {P : Program} {w : World} {K : PySem.W.Frag} {mg : Str → Option Value} {base : Heap}
/-! ### _law_alike -/
abbrev s_law_alike : Stmt := topS 35
abbrev N_law_alike : List Str := ["found", "due", "mine", "other"]
theorem sc_law_alike : FnScope N_law_alike ["found", "due"] (defScope s_law_alike) := ⟨rfl, rfl, rfl, by decide +kernel, rfl, by decide +kernel, by decide +kernel⟩
def spAlike : Nat → Sp
  | 0 => fun _ _ _ _ => False
  | n + 1 => fun vs H Q _ => ∃ (N1 N2 : Addr → Prop) (v1 v2 : V) (d : PyData), vs = [v1, v2] ∧ Dq N1 H v1 d ∧ Dq N2 H v2 d ∧ d.depth ≤ n ∧ d.bulk ≤ 4000 ∧ ∀ H', Same H H' → Q (.bl true) H'
theorem ok_law_alike {f : Addr} {fd : FuncData} (F : Fun K "_law_alike" "_law_alike" s_law_alike f fd) (g_law_alike : mg "_law_alike" = some (.ref f)) (b_law_alike : Binds K fd ["found", "due"] [])
    (m_isinstance : mg "isinstance" = none) (m_tuple : mg "tuple" = none) (m_list : mg "list" = none) (m_len : mg "len" = none) (m_all : mg "all" = none) (m_zip : mg "zip" = none) (m_bool : mg "bool" = none) (m_str : mg "str" = none) (m_int : mg "int" = none) :
    ∀ n, FnOk P w K mg base CX0 (n + 1) f fd ["found", "due"] (spAlike n) := by
  intro n
  induction n with
  | zero => exact ⟨fun _ _ _ _ h => h.elim, fun _ _ _ _ _ _ _ _ _ _ _ _ _ h => h.elim⟩
  | succ n ih =>
  have F_law_alike := F
  have G_law_alike := ih
  refine F.ok sc_law_alike (fun vs H Q E h => ?_) (fun cdv A outer s H vs Q E hr h => ?_)
  · obtain ⟨N1, N2, v1, v2, d, rfl, _⟩ := h
    rfl
  · obtain ⟨N1, N2, v1, v2, d, rfl, hd1, hd2, hdep, hb, q⟩ := h
    have nd := sc_law_alike.nd
    refine ⟨_, (pss_cons (ps_if (pw_or (pt_val (pe_callB (kIsi K rfl) (by rfl) m_isinstance (by decide +kernel) (pa_cons (pv 1) (pa_cons (pe_bltn (v := .ty "tuple") (by rfl) m_tuple (by decide +kernel) rfl) pa_nil)))) (pw_or1 (pt_val (pe_callB (kIsi K rfl) (by rfl) m_isinstance (by decide +kernel) (pa_cons (pv 1) (pa_cons (pe_bltn (v := .ty "list") (by rfl) m_list (by decide +kernel) rfl) pa_nil)))))).pt (pss_cons (ps_if (pw_or (pt_cmpR op_ne (pe_callB (kIsi K rfl) (by rfl) m_isinstance (by decide +kernel) (pa_cons (pv 0) (pa_cons (pe_bltn (v := .ty "tuple") (by rfl) m_tuple (by decide +kernel) rfl) pa_nil))) (pe_callB (kIsi K rfl) (by rfl) m_isinstance (by decide +kernel) (pa_cons (pv 1) (pa_cons (pe_bltn (v := .ty "tuple") (by rfl) m_tuple (by decide +kernel) rfl) pa_nil))) (nomark _)) (pw_or1 (pt_cmpR op_ne (pe_callB (kIsi K rfl) (by rfl) m_isinstance (by decide +kernel) (pa_cons (pv 0) (pa_cons (pe_bltn (v := .ty "list") (by rfl) m_list (by decide +kernel) rfl) pa_nil))) (pe_callB (kIsi K rfl) (by rfl) m_isinstance (by decide +kernel) (pa_cons (pv 1) (pa_cons (pe_bltn (v := .ty "list") (by rfl) m_list (by decide +kernel) rfl) pa_nil))) (nomark _)))).pt (pss_one (ps_ret pe_bl)) pss_nil)
      (pss_cons (ps_if (pt_cmpR op_ne (pe_callB (kLen K rfl) (by rfl) m_len (by decide +kernel) (pa_cons (pv 0) pa_nil)) (pe_callB (kLen K rfl) (by rfl) m_len (by decide +kernel) (pa_cons (pv 1) pa_nil)) (nomark _)) (pss_one (ps_ret pe_bl)) pss_nil)
      (pss_one (ps_ret (pe_callB (kAll K rfl rfl) (by rfl) m_all (by decide +kernel) (pa_cons (pe_lc (own := [("mine", 2), ("other", 3)]) (tt := tYes) rfl nd (kPiZ K rfl (pi_zipA (by rfl) m_zip (pa_cons (pv 0) (pa_cons (pv 1) pa_nil)))) (blkOk_by (own := [("mine", 2), ("other", 3)]) (N := N_law_alike) (sc := defScope s_law_alike) (by decide +kernel)) (fun _ _ _ _ _ => (kPgT K rfl (pg_tup (n := 2) rfl (pgs_cons (pg_name (i := 2) nd rfl (Or.inl rfl)) (pgs_cons (pg_name (i := 3) nd rfl (Or.inl rfl)) pgs_nil))))) (fun _ _ _ _ _ => pts_nil) (fun _ _ _ _ _ => (pe_call G_law_alike (hr.mono (by first | decide | omega)) (by rfl) g_law_alike F_law_alike.kp b_law_alike .nil pass0 (pa_cons (pv 2) (pa_cons (pv 3) pa_nil))))) pa_nil)))))) pss_nil)
      (pss_cons (ps_if (pt_cmpR op_isN (pv 1) pe_non (nomark _)) (pss_one (ps_ret (pe_cmpR op_isN (pv 0) pe_non (nomark _)))) pss_nil)
      (pss_cons (ps_if (pw_or (pt_val (pe_callB (kIsi K rfl) (by rfl) m_isinstance (by decide +kernel) (pa_cons (pv 1) (pa_cons (pe_bltn (v := .ty "bool") (by rfl) m_bool (by decide +kernel) rfl) pa_nil)))) (pw_or1 (pt_val (pe_callB (kIsi K rfl) (by rfl) m_isinstance (by decide +kernel) (pa_cons (pv 1) (pa_cons (pe_bltn (v := .ty "str") (by rfl) m_str (by decide +kernel) rfl) pa_nil)))))).pt (pss_one (ps_ret (pe_and (pe_cmpR op_eq (pe_callB (kIsi K rfl) (by rfl) m_isinstance (by decide +kernel) (pa_cons (pv 0) (pa_cons (pe_bltn (v := .ty "bool") (by rfl) m_bool (by decide +kernel) rfl) pa_nil))) (pe_callB (kIsi K rfl) (by rfl) m_isinstance (by decide +kernel) (pa_cons (pv 1) (pa_cons (pe_bltn (v := .ty "bool") (by rfl) m_bool (by decide +kernel) rfl) pa_nil))) (nomark _)) (pe_one (pe_cmpR op_eq (pv 0) (pv 1) (nomark _)))))) pss_nil)
      (pss_one (ps_ret (pe_and (pe_callB (kIsi K rfl) (by rfl) m_isinstance (by decide +kernel) (pa_cons (pv 0) (pa_cons (pe_bltn (v := .ty "int") (by rfl) m_int (by decide +kernel) rfl) pa_nil))) (pe_and (pe_not (pe_callB (kIsi K rfl) (by rfl) m_isinstance (by decide +kernel) (pa_cons (pv 0) (pa_cons (pe_bltn (v := .ty "bool") (by rfl) m_bool (by decide +kernel) rfl) pa_nil)))) (pe_one (pe_cmpR op_eq (pv 0) (pv 1) (nomark _)))))))))), ?_⟩
    refine ⟨v2, rfl, v2, .ty "tuple", _, .type "tuple", _, rfl, .ty _, hd2.ty, kit_tuple d, _, rfl, ?_⟩
    refine or_way (d := tyD d == "list") (fun e => ?_) (fun z => ⟨v2, rfl, v2, .ty "list", _, .type "list", _, rfl, .ty _, hd2.ty, kit_list d, _, rfl, z⟩) (fun e => ?_)
    · rw [seq_ty] at e
      obtain ⟨a1, a2, xs1, xs2, ds, rfl, rfl, hq, h1s, h2s, hbk, hdp⟩ : ∃ a1 a2 xs1 xs2 ds, v1 = .ref a1 ∧ v2 = .ref a2 ∧ ((SqL K H a1 xs1 ∧ SqL K H a2 xs2) ∨ (SqT K H a1 xs1 ∧ SqT K H a2 xs2)) ∧ Dqs N1 H xs1 ds ∧ Dqs N2 H xs2 ds ∧ PyData.bulkAll ds = d.bulk ∧ PyData.depthAll ds + 1 ≤ d.depth := by
        cases d with
        | list ds =>
          cases hd1 with
          | lst g1 g2 g3 =>
            cases hd2 with
            | lst k1 k2 k3 => exact ⟨_, _, _, _, ds, rfl, rfl, .inl ⟨.inl (.inl g1), .inl (.inl k1)⟩, g3, k3, by simp only [PyData.bulk], by simp only [PyData.depth]; omega⟩
        | tuple ds =>
          cases hd1 with
          | tup g1 g2 =>
            cases hd2 with
            | tup k1 k2 => exact ⟨_, _, _, _, ds, rfl, rfl, .inr ⟨g1.sqt, k1.sqt⟩, g2, k2, by simp only [PyData.bulk], by simp only [PyData.depth]; omega⟩
        | none => cases e
        | bool b => cases e
        | int i => cases e
        | str x => cases e
        | dict k => cases e
      have l1 := h1s.len
      have l2 := h2s.len
      have hq1 : SqL K H a1 xs1 ∨ SqT K H a1 xs1 := hq.imp (·.1) (·.1)
      have hq2 : SqL K H a2 xs2 ∨ SqT K H a2 xs2 := hq.imp (·.2) (·.2)
      refine ⟨.ref a1, rfl, .ref a1, .ty "tuple", _, .type "tuple", _, rfl, .ty _, hd1.ty, kit_tuple d, .ref a2, rfl, .ref a2, .ty "tuple", _, .type "tuple", _, rfl, .ty _, hd2.ty, kit_tuple d, rfl, _, rfl, iteNS rfl ?_⟩
      refine ⟨.ref a1, rfl, .ref a1, .ty "list", _, .type "list", _, rfl, .ty _, hd1.ty, kit_list d, .ref a2, rfl, .ref a2, .ty "list", _, .type "list", _, rfl, .ty _, hd2.ty, kit_list d, rfl, _, rfl, iteNS rfl ?_⟩
      refine ⟨.ref a1, rfl, a1, xs1, rfl, hq1, .ref a2, rfl, a2, xs2, rfl, hq2, rfl, _, rfl, iteNS (by rw [l1, l2]) ?_⟩
      refine ⟨.ref a1, rfl, .ref a2, rfl, a1, a2, xs1, xs2, rfl, hq, fun J G hJ hG => ?_⟩
      intro D nD
      refine lc_it hJ.walk (fun i H2 => H2 D = some (.lst ((List.replicate i true).map V.bl)) ∧ Same H H2) ⟨upd_same, same_new nD⟩ ?_ ?_ ?_
      · rintro i H2 _ ⟨h2, s2⟩
        exact hJ.stay H H2 (fun o e => s2 _ _ e) (fun o e => s2 _ _ e) hG
      · rintro i v H2 H3 hi ⟨h2, s2⟩ ⟨T, x, y, rfl, nT, rfl, hx, hy⟩
        obtain ⟨di, hdi, hx1⟩ := h1s.get hx
        obtain ⟨di', hdi', hy1⟩ := h2s.get hy
        have ed : di' = di := Option.some.inj (hdi'.symm.trans hdi)
        subst ed
        obtain ⟨b1, b2, b3⟩ := item_le hdi
        have s3 : Same H2 (upd H2 T (.tup [x, y])) := same_new nT
        refine ⟨T, [x, y], rfl, .inl (.inl upd_same), rfl, x, [y], rfl, y, [], rfl, rfl, ?_⟩
        cases n with
        | zero => omega
        | succ n =>
        refine ⟨rfl, x, rfl, y, rfl, N1, N2, x, y, di', rfl, (hx1.same s2).same s3, (hy1.same s2).same s3, by omega, by omega, fun H4 s4 => ?_⟩
        refine ⟨_, s4 _ _ (s3 _ _ h2), small16 (by rw [List.length_map, List.length_replicate]; omega), ?_, same_fill ((s2.trans s3).trans s4) nD⟩
        rw [upd_same, List.replicate_succ', List.map_append]
        rfl
      · rintro H2 ⟨h2, s2⟩
        refine ⟨D, _, rfl, .inl (.inl h2), ?_⟩
        have eall : (List.replicate (min xs1.length xs2.length) true).all id = true := by
          rw [List.all_eq_true]
          intro y hy
          rw [List.eq_of_mem_replicate hy]
          rfl
        rw [eall]
        exact q H2 s2
    · rw [seq_ty] at e
      refine ⟨v2, rfl, rfl, _, rfl, ?_⟩
      cases d with
      | none =>
        cases hd1
        cases hd2
        refine iteT ?_
        exact ⟨.non, rfl, rfl, q H (Same.refl H)⟩
      | bool b =>
        cases hd1
        cases hd2
        refine iteF ?_
        refine ⟨.bl b, rfl, .bl b, .ty "bool", _, .type "bool", _, rfl, .ty _, .base (.bl b), kit_bool (.bool b), _, rfl, iteT ?_⟩
        refine iteT ?_
        refine ⟨.bl b, rfl, .bl b, .ty "bool", _, .type "bool", _, rfl, .ty _, .base (.bl b), kit_bool (.bool b), .bl b, rfl, .bl b, .ty "bool", _, .type "bool", _, rfl, .ty _, .base (.bl b), kit_bool (.bool b), rfl, _, rfl, ?_⟩
        rw [decide_eq_true (rfl : V.bl _ = V.bl _)]
        refine iteT ⟨.bl b, rfl, .bl b, rfl, rfl, ?_⟩
        rw [decide_eq_true (rfl : V.bl b = V.bl b)]
        exact q H (Same.refl H)
      | str x =>
        cases hd1
        cases hd2
        refine iteF ?_
        refine ⟨.str x, rfl, .str x, .ty "bool", _, .type "bool", _, rfl, .ty _, .base (.str x), kit_bool (.str x), _, rfl, iteF ?_⟩
        refine ⟨.str x, rfl, .str x, .ty "str", _, .type "str", _, rfl, .ty _, .base (.str x), kit_str (.str x), _, rfl, iteT ?_⟩
        refine ⟨.str x, rfl, .str x, .ty "bool", _, .type "bool", _, rfl, .ty _, .base (.str x), kit_bool (.str x), .str x, rfl, .str x, .ty "bool", _, .type "bool", _, rfl, .ty _, .base (.str x), kit_bool (.str x), rfl, _, rfl, ?_⟩
        rw [decide_eq_true (rfl : V.bl _ = V.bl _)]
        refine iteT ⟨.str x, rfl, .str x, rfl, rfl, ?_⟩
        rw [decide_eq_true (rfl : V.str x = V.str x)]
        exact q H (Same.refl H)
      | int i =>
        cases hd1
        cases hd2
        refine iteF ?_
        refine ⟨.int i, rfl, .int i, .ty "bool", _, .type "bool", _, rfl, .ty _, .base (.int i), kit_bool (.int i), _, rfl, iteF ?_⟩
        refine ⟨.int i, rfl, .int i, .ty "str", _, .type "str", _, rfl, .ty _, .base (.int i), kit_str (.int i), _, rfl, iteF ?_⟩
        refine ⟨.int i, rfl, .int i, .ty "int", _, .type "int", _, rfl, .ty _, .base (.int i), kit_int (.int i), _, rfl, iteT ?_⟩
        refine ⟨.int i, rfl, .int i, .ty "bool", _, .type "bool", _, rfl, .ty _, .base (.int i), kit_bool (.int i), _, rfl, _, rfl, iteT ⟨.int i, rfl, .int i, rfl, rfl, ?_⟩⟩
        rw [decide_eq_true (rfl : V.int i = V.int i)]
        exact q H (Same.refl H)
      | list ds => cases e
      | tuple ds => cases e
      | dict k => cases hd1
end
end Bk

namespace Bk
open PySem PySem.Spec PyProof.Rows L2
/-! ### defs that show things: no other showing is under way around them -/
section
variable {P : Program} {w : World} {K : PySem.W.Frag} {mg : Str → Option Value} {base : Heap}
structure FnG (P : Program) (w : World) (K : PySem.W.Frag) (mg : Str → Option Value) (base : Heap) (k : Nat) (f : Addr) (fd : FuncData) (ps : List Str) (sp : Sp) : Prop where
  len : ∀ vs H Q E, sp vs H Q E → vs.length = ps.length
  go : ∀ (A : Around) (outer : List Env) (s : Shared) (H : Hp) (args : Args) (us : List Value) (vs : List V) (Q : VK) (E : XK), A.guards = some [] → Room k A → Env0 P w K mg base A outer s H → BindsTo s fd args (ps.zip us) →
    Vals vs us → sp vs H Q E → codeAny (model P w) A (.call (.ref f) args) (CR CX0 outer P w H s Q E) s
theorem fnG_of {x qual : Str} {st : Stmt} {f : Addr} {fd : FuncData} {N ps : List Str} {k : Nat} {sp : Sp} (F : Fun K x qual st f fd) (S : FnScope N ps (defScope st)) (len : ∀ vs H Q E, sp vs H Q E → vs.length = ps.length)
    (body : ∀ (cdv : Value) (A : Around) (outer : List Env) (s : Shared) (H : Hp) (vs : List V) (Q : VK) (E : XK), A.guards = some [] → Room k (A.deeper (envOfC qual (defScope st) s.heap.objs.size f cdv)) → sp vs H Q E →
      ∃ t, PSs (cxOf CX0 P w K mg base N qual (defScope st) f cdv A outer s H E).nox (defBody st) t ∧ t { nx := fun _ H' => Q .non H', rt := Q } (start N vs) H) : FnG P w K mg base (k + 1) f fd ps sp := by
  obtain ⟨oc, od, kV, doc, pm, an, cdv, ct, osl, rfl, lk, hcd⟩ := F.ex
  refine ⟨len, fun A outer s H args us vs Q E hg hr e0 hb r hsp => ?_⟩
  obtain ⟨t, ht, hq⟩ := body cdv A outer s H vs Q E hg (hr.deeper _) hsp
  have up : ∀ b o, base.get? b = some o → s.heap.get? b = some o := fun b o e => (e0.bs b o e).1
  refine Att.call_fn (e0.mod.kin.keeps up) (e0.mod.nolimit.keeps up) lk hcd hr.depth hb ?_ (fun s1 x => ?_) S.co S.gen S.kind
  · rw [List.all_eq_true]
    rintro ⟨n, v⟩ hy
    rcases S.par n (List.of_mem_zip hy).1 with q | q
    · show ((defScope st).names.lookup n == some .local || (defScope st).names.lookup n == some .cell) = true
      rw [q]
      rfl
    · show ((defScope st).names.lookup n == some .local || (defScope st).names.lookup n == some .cell) = true
      rw [q]
      rfl
  · have I := inv_start (CX := CX0) (P := P) (E := E) S hr.hd e0 (len _ _ _ _ hsp) r x
    refine wpAny_mono (ht.nox.run [] s1 (start N vs) H _ I hq) (fun fl s' hs => ?_) fun _ _ z => z
    cases fl with
    | ret u =>
      obtain ⟨v, σ', H', J, rv, z⟩ := hs
      exact ⟨v, H', J.os, J.bare, J.base, J.hok, rv, z⟩
    | next =>
      obtain ⟨σ', H', J, z⟩ := hs
      exact ⟨V.non, H', J.os, J.bare, J.base, J.hok, rfl, z⟩
    | brk =>
      obtain ⟨_, _, _, z⟩ := hs
      exact z.elim
    | cont =>
      obtain ⟨_, _, _, z⟩ := hs
      exact z.elim
/-- the same called within another -/
theorem FnG.ok {k : Nat} {f : Addr} {fd : FuncData} {ps : List Str} {sp : Sp} (F : FnOk P w K mg base CX0 k f fd ps sp) : FnG P w K mg base k f fd ps sp := ⟨F.len, fun A outer s H args us vs Q E _ => F.run A outer s H args us vs Q E⟩
/-! ### repr of data -/
def rRepr : List V → Hp → VK → Prop := fun xs H Q => ∃ N v d es, xs = [v] ∧ Dq N H v d ∧ norm d = .list es ∧ d.showable = true ∧ d.hasDict = false ∧ d.depth ≤ 60 ∧ d.shown.length ≤ sizeLine ∧ Q (.str d.shown) H
theorem kRepr {X : Cx} {k : Nat} (hr : Room k X.A) (hg : X.A.guards = some []) : CallR X (.builtin "repr") rRepr := by
  rintro pins s σ H _ us Q I r ⟨N, v, d, es, rfl, hd, hn, h1, h2, h3, h4, q⟩
  obtain ⟨u, rfl, rx⟩ := vals1 r
  obtain ⟨as, rd⟩ := Dp.reads I d v u hd.dp rx
  obtain ⟨a, _, _, rfl, _⟩ := hd.seq (K := X.K) hn
  cases rx
  have hu := hr.units
  exact repr_of_reads' rd h1 (fun z => by rw [h2] at z; cases z) hg (by omega) (fun _ _ e => e) (fun h' t tk hk => ⟨.str d.shown, H, I.kept hk, ⟨t, rfl⟩, q⟩) h4
/-! ### the law called -/
/-- the heap ahead of the law's call: at most the script is told -/
theorem go_law {mb : Str → Option Value} {k : Nat} {fa a : Addr} {fd : FuncData} {x : Str} {sp : Sp} {s₁ : Shared} {vs : List Value} {ns : List Int}
    (KX : K.In s₁.heap) (h1 : s₁.heap.Ns mainGlobals mg) (h2 : s₁.heap.Ns builtinsNs mb) (h3 : ∀ x : Str, x ≠ "__name__" → mb x = bootBuiltins x) (h4 : s₁.heap.NoLimit) (h5 : s₁.gens = #[])
    (ha : s₁.heap.get? a = some { cls := .type "list", data := .seq vs.toArray }) (hi : IntsAre vs ns) (hl : ns.length ≤ sizeLine) (hr : Room k callerA)
    (F : ∀ base : Heap, K.In base → base.Ns mainGlobals mg → FnG P w K mg base k fa fd [x] sp) (hb : ∀ (s : Shared) (u : Value), BindsTo s fd ⟨[u], []⟩ [(x, u)])
    (hsp : ∀ H : Hp, Only H → SqL K H a (ns.map V.int) → sp [.ref a] H (fun v _ => v = .bl true) fun _ _ _ => False) :
    codeAny (model P w) callerA (.call (.ref fa) ⟨[.ref a], []⟩) (fun r s' => r = .ok (.ret (.bool true)) ∧ OldK s₁.heap s'.heap ∧ s'.os = s₁.os ∧ AllBare s'.gens) s₁ := by
  have rv := vals_ints hi
  have start : ∀ H : Hp, Only H → SqL K H a (ns.map V.int) → HOk P w H s₁.heap → (∀ b u, H b = some u → b = a ∧ K.lookup a = none) →
      codeAny (model P w) callerA (.call (.ref fa) ⟨[.ref a], []⟩) (fun r s' => r = .ok (.ret (.bool true)) ∧ OldK s₁.heap s'.heap ∧ s'.os = s₁.os ∧ AllBare s'.gens) s₁ := by
    intro H only hS ok told
    have none_at : ∀ {b : Addr} {o : Obj}, s₁.heap.get? b = some o → (b = a → K.lookup a = none → False) → (hidT s₁.heap H).get? b = some o := fun {b o} e n => hidT_get e (by
      cases z : H b with
      | none => rfl
      | some u => exact (n (told b u z).1 (told b u z).2).elim)
    have dicts : ∀ {b : Addr} {m : Str → Option Value}, s₁.heap.Ns b m → (hidT s₁.heap H).Ns b m := fun {b m} ⟨o, es, ep, e, d, r⟩ => ⟨o, es, ep, none_at e (fun z _ => by
      subst z
      rw [ha] at e
      cases e
      have d' : Data.seq vs.toArray _ = Data.dict es ep := d
      cases d'), d, r⟩
    have kb : K.In (hidT s₁.heap H) := fun b o e => none_at (KX b o e) fun z n => by
      subst z
      rw [n] at e
      cases e
    have md : Mod K mg (hidT s₁.heap H) := ⟨kb, dicts h1, ⟨mb, dicts h2, h3⟩, let ⟨mc, z1, z2⟩ := h4; ⟨mc, dicts z1, z2⟩⟩
    have e0 : Env0 P w K mg (hidT s₁.heap H) callerA [] s₁ H := ⟨rfl, md, fun b o e => of_hidT e, Nat.le_of_eq (hidT_size _ _), trivial, fun b z => (by cases z), ok, .of_eq h5⟩
    refine codeAny_mono ((F _ kb (dicts h1)).go callerA [] s₁ H ⟨[.ref a], []⟩ [.ref a] [.ref a] _ _ rfl hr e0 (hb s₁ (.ref a)) (.cons rfl .nil) (hsp H only hS)) fun r s' h => ?_
    match r, h with
    | .ok (.ret u), h =>
      obtain ⟨v, H', os, bare, un, ok', r', q⟩ := h
      obtain rfl : v = .bl true := q
      obtain rfl : u = Value.bool true := r'
      refine ⟨rfl, OldK.of_keep fun b o e => ?_, os, bare⟩
      cases z : H b with
      | none => exact un.keep b o e z (fun z => by cases z) (by simp)
      | some u =>
        obtain y | ⟨ob, xs, y⟩ := only b
        · rw [z] at y
          cases y
        · have c1 := (ok b _ y).1
          rw [e] at c1
          cases c1
          exact (ok' b _ (un.frzs b _ _ y)).1
  cases hk : K.lookup a with
  | some o =>
    have e := KX a o hk
    rw [ha] at e
    cases e
    have hn := hi.length
    exact start (fun _ => none) (fun _ => .inl rfl) (.inr ⟨_, vs.toArray, _, hk, rfl, rfl, rfl, by rw [List.size_toArray, hn]; exact hl, by simpa using rv⟩) (fun b u z => by cases z) fun b u z => by cases z
  | none =>
    let ob : Obj := { cls := .type "list", data := .seq vs.toArray }
    have at_ : ∀ b u, (fun b => if b = a then some (HO.frz ob (.lst (ns.map V.int))) else none) b = some u → b = a ∧ u = HO.frz ob (.lst (ns.map V.int)) := fun b u z => by
      by_cases c : b = a
      · exact ⟨c, (Option.some.inj ((if_pos c).symm.trans z)).symm⟩
      · cases (if_neg c).symm.trans z
    refine start (fun b => if b = a then some (HO.frz ob (.lst (ns.map V.int))) else none) (fun b => ?_) (.inl (.inr ⟨ob, if_pos rfl⟩)) (fun b u z => ?_) fun b u z => ⟨(at_ b u z).1, hk⟩
    · by_cases c : b = a
      · exact .inr ⟨_, _, if_pos c⟩
      · exact .inl (if_neg c)
    · obtain ⟨rfl, rfl⟩ := at_ b u z
      exact ⟨ha, by rw [List.length_map]; exact hl, vs, _, rv, ha⟩
end
theorem walk_G {l : PySem.W.OpenLaw} {n k : Nat} {q : Program} {loose : List Str} {XP : (Str → Option Value) → Heap → Prop} {YP : World → Heap → Prop} {d : DefRec} {K : Params → PySem.W.Frag} {sp : PySem.W.Frag → Sp} {x : Str}
    (hn : l.most = some n) (hn2 : n ≤ sizeLine) (hdf : d.params.defaults = []) (hr : Room k callerA) (hY : ∀ (w : World) (h : Heap), YP w h → (K w.params).In h)
    (F : ∀ (w : World) (mg : Str → Option Value) (fa : Addr) (h : Heap), (K w.params).In h → h.Ns mainGlobals mg → mg d.name = some (.ref fa) →
      ∃ fd : FuncData, (∀ (s : Shared) (u : Value), BindsTo s fd ⟨[u], []⟩ [(x, u)]) ∧ ∀ base : Heap, (K w.params).In base → base.Ns mainGlobals mg → FnG l.prog w (K w.params) mg base k fa fd [x] (sp (K w.params)))
    (hsp : ∀ (K : PySem.W.Frag) (H : Hp) (a : Addr) (ns : List Int), ns.length ≤ n → Only H → SqL K H a (ns.map V.int) → sp K [.ref a] H (fun v _ => v = .bl true) fun _ _ _ => False) :
    PySem.W.WalkO q loose XP YP l.row.toRowW d [] (fun f vs => PySem.call f vs) := by
  refine Att.attach_call hn hdf fun w s₀ s₁ mg mb fa o pm cd doc a vs ns G Y ho hd hcd hmg hobj hints hlen hg => ?_
  obtain ⟨fd, hb, hF⟩ := F w mg fa _ (hY w _ Y) G.T.g hmg
  exact go_law (hY w _ Y) G.T.g G.T.b G.T.builtins G.T.nolimit hg hobj hints (Nat.le_trans hlen hn2) hr hF hb fun H z1 z2 => hsp _ H a ns hlen z1 z2
end Bk

namespace Bk
open PySem PySem.Spec PyProof.Rows L2
/-! ### the call of a def that shows things -/
theorem pe_callG {X : Cx} {j : Nat} {a : Addr} {fn : FuncData} {names : List Str} {sq : Sp} {y : Str} {q q' : Pos} {e1 : Expr} {rest : List Expr} {tt : TA}
    (F : FnG X.prog X.w X.K X.mg X.base j a fn names sq) (hg : X.A.guards = some []) (room : Room j X.A) (gl : Gl X y) (at_ : X.mg y = some (.ref a))
    (kp : PySem.W.keepIn X.K (.ref a) = true) (bs : Binds X.K fn names []) (args : PA X (e1 :: rest) tt)
    (nd : (y == ("__debug__" : Str)) = false := by decide)
    (hs : starEach (e1 :: rest) X.env = (false, eval e1 X.env) :: starEach rest X.env := by rfl)
    (hp : (backTo q' (starEach rest X.env)).any (·.1) = false := by rfl) :
    PE X (.Call (.Name y q) (e1 :: rest) [] q') (tCall sq [] E0 tt) := by
  constructor
  intro pins s σ H Q I hq
  refine wpAny_Call_Name_kw (ld_glob I gl at_ ?_ nd)
  have ran := args.run q' pins s σ H _ I hq
  refine PySem.W.callWith_K (h₀ := X.base) I.ok.mod.kin kp (thn ran ?_) hs hp
  rintro us s1 ⟨vs, H1, I1, r, z⟩
  refine ⟨I1.kIn, wpAny_call ?_⟩
  have rr : Vals (vs ++ []) (us ++ []) := r.append Paired.nil
  have len : (us ++ []).length = names.length := (rr.length.symm).trans (F.len _ _ _ _ z)
  have run := F.go X.A X.stack s1 H1 ⟨us, []⟩ (us ++ []) (vs ++ []) Q E0 hg room I1.env0 (bs s1 us I1.kIn len) rr z
  refine codeAny_mono run ?_
  rintro (e | fl) s2 h2
  · exact h2.elim
  · match fl, h2 with
    | .ret u, h2 => exact I1.after h2
end Bk

namespace Bk
open PySem PySem.Spec PyProof.Rows L2 RZ
section
variable {X : Cx} (K : PySem.W.Frag)
def rIxE (K : PySem.W.Frag) : R2 := fun x y H Q => rIxL K x y H Q ∨ rIxT K x y H Q
theorem kIxE (h : X.K = K) : IxR X (rIxE K) := h ▸ ix_list.or ix_tup
def rIndexI (K : PySem.W.Frag) : V → List V → Hp → VK → Prop := fun x xs H Q => ∃ p, ∃ ns : List Int, ∃ k : Int, x = .ref p ∧ xs = [.int k] ∧ SqL K H p (ns.map V.int) ∧ k ∈ ns ∧ ns.length ≤ sizeLine ∧ Q (.int (ns.idxOf k : Nat)) H
theorem kIndexI (h : X.K = K) : MtR X "list.index" (rIndexI K) := by
  subst h
  rintro pins s σ H x xs v us Q I rx rs ⟨p, ns, k, rfl, rfl, hq, hk, hz, q⟩
  cases rx
  obtain ⟨u, rfl, ru⟩ := rs.one
  obtain ⟨t, rfl⟩ := ru
  obtain ⟨its, r, pl, _⟩ := I.list hq
  exact SeqAt.list_index_ints pl.isList (intsAre_of r) hz hk ⟨.int _, H, I.tok _, ⟨_, rfl⟩, q⟩
end
theorem fn_or {P : Program} {w : World} {K : PySem.W.Frag} {mg : Str → Option Value} {base : Heap} {CX : CXT} {k : Nat} {f : Addr} {fd : FuncData} {ps : List Str} {sp sp' : Sp} (F : FnOk P w K mg base CX k f fd ps sp) (G : FnOk P w K mg base CX k f fd ps sp') :
    FnOk P w K mg base CX k f fd ps (fun vs H Q E => sp vs H Q E ∨ sp' vs H Q E) :=
  ⟨fun vs H Q E q => q.elim (F.len vs H Q E) (G.len vs H Q E), fun A outer s H args us vs Q E hr he hb hv hs => hs.elim (F.run A outer s H args us vs Q E hr he hb hv) (G.run A outer s H args us vs Q E hr he hb hv)⟩
theorem turn_of {K : PySem.W.Frag} {N : Addr → Prop} {H : Hp} {v : V} {d : PyData} {t : Trn} (h : Dq N H v d) (e : norm d = .list (t.map intD)) : ∃ a, v = .ref a ∧ (H a = some (.lst (trnV t)) ∨ FT H a (trnV t)) := by
  cases d with
  | list ds =>
    cases h with
    | lst h1 h2 h3 =>
      have := h3.ints (t := t) (by simpa only [norm, PyData.list.injEq] using e)
      subst this
      exact ⟨_, rfl, .inl h1⟩
  | tuple ds =>
    cases h with
    | tup h1 h2 =>
      have := h2.ints (t := t) (by simpa only [norm, PyData.list.injEq] using e)
      subst this
      exact ⟨_, rfl, .inr h1⟩
  | none => simp only [norm] at e; cases e
  | bool b => simp only [norm] at e; cases e
  | int i => simp only [norm] at e; cases e
  | str x => simp only [norm] at e; cases e
  | dict k => simp only [norm] at e; cases e
theorem ixE {K : PySem.W.Frag} {a : Addr} {xs : List V} {i : Int} {v : V} {H : Hp} {Q : VK} (h : H a = some (.lst xs) ∨ FT H a xs) (e : atI xs i = some v) (q : Q v H) : rIxE K (.ref a) (.int i) H Q :=
  h.elim (fun h => .inl ⟨a, xs, i, v, rfl, rfl, .inl (.inl h), e, q⟩) fun h => .inr ⟨a, xs, i, v, rfl, rfl, h.sqt, e, q⟩
theorem tupE {K : PySem.W.Frag} {a : Addr} {xs : List V} {H : Hp} {Q : VK} (h : H a = some (.lst xs) ∨ FT H a xs) (q : ∀ H' b, Same H H' → FT H' b xs → Q (.ref b) H') : rTupleF K [.ref a] H Q :=
  h.elim (fun h => ⟨a, xs, rfl, .inl ⟨.inl (.inl h), fun l o n d => q _ _ (same_new n) (FT.new d)⟩⟩) fun h => ⟨a, xs, rfl, .inr ⟨h.sqt, q _ _ (Same.refl _) h⟩⟩
theorem seq_same {a : Addr} {xs : List V} {H H' : Hp} (h : H a = some (.lst xs) ∨ FT H a xs) (s : Same H H') : H' a = some (.lst xs) ∨ FT H' a xs := h.imp (fun z => s _ _ z) fun z => z.mono s.tups
theorem setJ_comm {S : Spc} {b f n g : Nat} {x y : Jn} (h : (n, g) ≠ (b, f)) : setJ (setJ S n g x) b f y = setJ (setJ S b f y) n g x := by
  unfold setJ
  by_cases e : n = b
  · subst e
    rw [List.modify_modify_eq, List.modify_modify_eq]
    congr 1
    funext l
    exact List.set_comm _ _ (fun z => h (by rw [z]))
  · exact List.modify_modify_ne _ _ _ e
theorem join_sym {S : Spc} {b f n : Nat} {t : Trn} (ht : t ∈ allTurns) (hf : f < 4) (h : (n, tf t f) ≠ (b, f)) : joinJ S n (tf t f) b (back t) = joinJ S b f n t := by
  unfold joinJ
  rw [tf_back t ht f hf, back_back t ht]
  exact setJ_comm h
theorem erase_map {l : List Nat} {i : Nat} : (l.map intV).eraseIdx i = (l.eraseIdx i).map intV := by
  induction l generalizing i with
  | nil => rfl
  | cons x r ih =>
    cases i with
    | zero => rfl
    | succ i =>
      show intV x :: (r.map intV).eraseIdx i = intV x :: (r.eraseIdx i).map intV
      rw [ih]
theorem pop_ix {l : List Nat} {r : Int} (e : (l.map intV).length = l.length) (r0 : 0 ≤ r) (r1 : r < l.length) : seqIndex? r (l.map intV).length = some r.toNat := by
  have := seqIx_nat (n := (l.map intV).length) (k := r.toNat) (by rw [e]; omega)
  rw [Int.toNat_of_nonneg r0] at this
  exact this
theorem turn_dq {H : Hp} {a : Addr} {t : Trn} (h : H a = some (.lst (trnV t)) ∨ FT H a (trnV t)) : ∃ dt, Dq (fun _ => False) H (.ref a) dt ∧ norm dt = .list (t.map intD) := by
  have hn : norms (t.map intD) = t.map intD := by
    rw [norms_map, List.map_map]
    exact List.map_congr_left fun x _ => by simp only [Function.comp, intD, norm]
  rcases h with h | h
  · exact ⟨.list (t.map intD), .lst h (fun z => z) (dqs_ints t), by simp only [norm, hn]⟩
  · exact ⟨.tuple (t.map intD), .tup h (dqs_ints t), by simp only [norm, hn]⟩
theorem norm_turn (t : Trn) : norm (.tuple (t.map intD)) = .list (t.map intD) := by
  have hn : norms (t.map intD) = t.map intD := by
    rw [norms_map, List.map_map]
    exact List.map_congr_left fun x _ => by simp only [Function.comp, intD, norm]
  simp only [norm, hn]
theorem ints_shapedD (t : Trn) : SeqAt.shaped (.list (t.map intD)) = true := by
  rw [intD_map]
  exact ints_shaped _
theorem ints_eqv (t : Trn) : PyData.eqv (.list (t.map intD)) (.list (t.map intD)) = true := by
  refine SeqAt.eqv_refl _ ?_
  simp only [PyData.canLay0]
  induction t with
  | nil => rfl
  | cons x r ih => simpa only [List.map_cons, PyData.canLayAll0, intD, PyData.canLay0, Bool.true_and] using ih
mutual
theorem Dq.strong {N N' : Addr → Prop} {H : Hp} (n : ∀ a, N' a → N a ∨ H a = none) : ∀ {d : PyData} {v : V}, Dq N H v d → Dq N' H v d
  | .none, _, h => by
    cases h
    exact .non
  | .bool b, _, h => by
    cases h
    exact .bl b
  | .int i, _, h => by
    cases h
    exact .int i
  | .str x, _, h => by
    cases h
    exact .str x
  | .list ds, _, h => by
    cases h with
    | lst h1 h2 h3 => exact .lst h1 (fun z => (n _ z).elim h2 fun y => by rw [h1] at y; cases y) (Dqs.strong n h3)
  | .tuple ds, _, h => by
    cases h with
    | tup h1 h2 => exact .tup h1 (Dqs.strong n h2)
  | .dict _, _, h => by cases h
theorem Dqs.strong {N N' : Addr → Prop} {H : Hp} (n : ∀ a, N' a → N a ∨ H a = none) : ∀ {ds : List PyData} {vs : List V}, Dqs N H vs ds → Dqs N' H vs ds
  | [], _, h => by
    cases h
    exact .nil
  | d :: ds, _, h => by
    cases h with
    | cons h1 h2 => exact .cons (Dq.strong n h1) (Dqs.strong n h2)
end
/-- tuples of a space, from its data -/
theorem Dq.st {N : Addr → Prop} {H : Hp} {v : V} {S : Spc} (h : Dq N H v (shutD S)) : ST H v S := by
  have jat : ∀ {v : V} {j : Jn}, Dq N H v (jD j) → JAt H v j := by
    intro v j h
    cases j with
    | none => exact h.isNon (by simp only [jD, norm])
    | some k =>
      obtain ⟨n, t⟩ := k
      cases h with
      | tup g1 g2 =>
        obtain ⟨v1, w1, rfl, g3, g4⟩ := g2.uncons
        obtain ⟨v2, w2, rfl, g5, g6⟩ := g4.uncons
        cases g6
        cases g5 with
        | tup k1 k2 =>
          have e1 := g3.isInt (i := (n : Int)) (by simp only [intD, norm])
          subst e1
          have e2 := k2.ints (t := t) (by
            rw [norms_map, List.map_map]
            exact List.map_congr_left fun x _ => by simp only [Function.comp, intD, norm])
          subst e2
          exact ⟨_, _, rfl, g1, k1⟩
  have jats : ∀ {b : Blk} {vs : List V}, Dqs N H vs (b.map jD) → Paired (JAt H) vs b := by
    intro b
    induction b with
    | nil =>
      intro vs h
      cases h
      exact .nil
    | cons j b ih =>
      intro vs h
      obtain ⟨v, w, rfl, g1, g2⟩ := h.uncons
      exact .cons (jat g1) (ih g2)
  have bts : ∀ {S : Spc} {vs : List V}, Dqs N H vs (S.map fun b => .tuple (b.map jD)) → Paired (BT H) vs S := by
    intro S
    induction S with
    | nil =>
      intro vs h
      cases h
      exact .nil
    | cons b S ih =>
      intro vs h
      obtain ⟨v, w, rfl, g1, g2⟩ := h.uncons
      cases g1 with
      | tup k1 k2 => exact .cons ⟨_, _, rfl, k1, jats k2⟩ (ih g2)
  cases h with
  | tup g1 g2 => exact ⟨_, _, rfl, g1, bts g2⟩

theorem seq_of {a rest : TS} {D : Ends} {σ : L2.St} {H : Hp} (I : L2.St → Hp → Prop) (key : ∀ σ' H', I σ' H' → rest D σ' H') (h : ∀ r : TS, (∀ σ' H', I σ' H' → r D σ' H') → tSeq a r D σ H) : tSeq a rest D σ H := h rest key
/-- either reading of an expression -/
theorem pe_or2 {X : Cx} {e : Expr} {t u : TE} (h : PE X e t) (k : PE X e u) : PE X e (fun σ H Q => t σ H Q ∨ u σ H Q) := ⟨fun pins s σ H Q I q => q.elim (h.run pins s σ H Q I) (k.run pins s σ H Q I)⟩
theorem ixS {K : PySem.W.Frag} {a : Addr} {xs : List V} {i : Int} {v : V} {H : Hp} {Q : VK} (h : SqL K H a xs ∨ SqT K H a xs) (e : atI xs i = some v) (q : Q v H) : rIxE K (.ref a) (.int i) H Q :=
  h.elim (fun h => .inl ⟨a, xs, i, v, rfl, rfl, h, e, q⟩) fun h => .inr ⟨a, xs, i, v, rfl, rfl, h, e, q⟩
def rTupI (K : PySem.W.Frag) : V → List V → Hp → VK → Prop := fun x xs H Q => ∃ p, ∃ ns : List Int, ∃ k : Int, x = .ref p ∧ xs = [.int k] ∧ SqT K H p (ns.map V.int) ∧ k ∈ ns ∧ Q (.int (ns.idxOf k : Nat)) H
theorem kTupIxN {X : Cx} (K : PySem.W.Frag) (h : X.K = K) : MtR X "tuple.index" (rTupI K) := kTupIx K h
/-- o.index(e), o a list or a tuple -/
def tIdxE (K : PySem.W.Frag) (to : TE) (t : TA) : TE := fun σ H Q => tBM K "list" (rIndexI K) to t σ H Q ∨ tBMF (rTupI K) to t σ H Q
theorem pe_idxE {X : Cx} {K : PySem.W.Frag} {e : Expr} {to : TE} {t : TA} (h : PE X e (tBM K "list" (rIndexI K) to t)) (k : PE X e (tBMF (rTupI K) to t)) : PE X e (tIdxE K to t) := pe_or2 h k
theorem intV_map' (t : List Nat) : trnV t = (t.map fun c : Nat => (c : Int)).map V.int := by
  rw [List.map_map]
  rfl
theorem idxE {K : PySem.W.Frag} {to : TE} {t : TA} {σ : L2.St} {H : Hp} {Q : VK} (a : Addr) (o : List Nat) (b : Nat) (h1 : ∀ R : VK, R (.ref a) H → to σ H R) (h2 : ∀ R : List V → Hp → Prop, R [intV b] H → t σ H R)
    (ha : H a = some (.lst (trnV o)) ∨ FT H a (trnV o)) (mb : b ∈ o) (lo : o.length ≤ 1000) (q : Q (intV (o.idxOf b)) H) : tIdxE K to t σ H Q := by
  have mi : (b : Int) ∈ o.map fun c : Nat => (c : Int) := List.mem_map_of_mem mb
  have q' : Q (V.int (((o.map fun c : Nat => (c : Int)).idxOf (b : Int) : Nat) : Int)) H := by
    rw [idx_int]
    exact q
  rcases ha with ha | ha
  · refine .inl (h1 _ ⟨.inl ⟨rfl, _, .inl (.inl ha)⟩, h2 _ ⟨a, o.map (fun c : Nat => (c : Int)), b, rfl, rfl, ?_, mi, Nat.le_of_lt (small1000 (by rw [List.length_map]; exact lo)), q'⟩⟩)
    rw [← intV_map']
    exact .inl (.inl ha)
  · refine .inr (h1 _ ⟨⟨a, _, rfl, ha⟩, h2 _ ⟨a, o.map (fun c : Nat => (c : Int)), b, rfl, rfl, ?_, mi, q'⟩⟩)
    rw [← intV_map']
    exact ha.sqt
/-! ### names: an order, and a turn for each block -/
def nT (t : Trn) : PyData := .list (t.map intD)
def trnsD (ts : List Trn) : PyData := .list (ts.map nT)
/-- one of the turns that stand -/
theorem turns_at {K : PySem.W.Frag} {N : Addr → Prop} {H : Hp} {v : V} {d : PyData} {ts : List Trn} (h : Dq N H v d) (e : norm d = trnsD ts) {k : Nat} {t : Trn} (hk : ts[k]? = some t) :
    ∃ a xs x dx, v = .ref a ∧ (SqL K H a xs ∨ SqT K H a xs) ∧ xs.length = ts.length ∧ xs[k]? = some x ∧ Dq N H x dx ∧ norm dx = nT t := by
  obtain ⟨a, xs, ds, rfl, hq, _, hds, en⟩ := h.seq (K := K) e
  have ld : ds.length = ts.length := norm_len en
  obtain ⟨dx, hd⟩ : ∃ dx, ds[k]? = some dx := ⟨_, List.getElem?_eq_getElem (by have := (List.getElem?_eq_some_iff.mp hk).1; omega)⟩
  obtain ⟨x, hx, hxd⟩ := hds.get' hd
  obtain ⟨t', ht', et⟩ := norm_at en hd
  rw [hk] at ht'
  cases ht'
  exact ⟨a, xs, x, dx, rfl, hq, by rw [hds.len, ld], hx, hxd, et⟩
theorem Good.jokAt {S : Spc} (h : Good S) {b f : Nat} {j : Jn} (e : getJ S b f = some j) : Jok S.length j := fun n t z => by
  subst z
  exact ⟨h.lt e, (h.both _ _ _ _ e).1⟩
def tsAt (ts : List Trn) (k : Nat) : Trn := ts[k]?.getD []
def renJ (o : List Nat) (ts : List Trn) (bk : Trn) : Jn → Jn
  | none => none
  | some (n, t) => some (o.idxOf n, bk.map fun c => tf (tsAt ts (o.idxOf n)) (tf t c))
def renB (S : Spc) (o : List Nat) (ts : List Trn) (k : Nat) : Blk := (back (tsAt ts k)).map fun f => renJ o ts (back (tsAt ts k)) ((getJ S (tf o k) f).getD none)
def renS (S : Spc) (o : List Nat) (ts : List Trn) : Spc := (List.range S.length).map (renB S o ts)
structure Names (n : Nat) (o : List Nat) (ts : List Trn) : Prop where
  o : o.Perm (List.range n)
  l : ts.length = n
  t : ∀ t ∈ ts, t ∈ allTurns
theorem Names.lo {n : Nat} {o : List Nat} {ts : List Trn} (h : Names n o ts) : o.length = n := by rw [h.o.length_eq, List.length_range]
theorem Names.at {n : Nat} {o : List Nat} {ts : List Trn} (h : Names n o ts) {k : Nat} (hk : k < n) : o[k]? = some (tf o k) ∧ tf o k < n ∧ ts[k]? = some (tsAt ts k) ∧ tsAt ts k ∈ allTurns := by
  have e1 : o[k]? = some (o[k]'(by rw [h.lo]; exact hk)) := List.getElem?_eq_getElem _
  have e2 : ts[k]? = some (ts[k]'(by rw [h.l]; exact hk)) := List.getElem?_eq_getElem _
  have m1 := h.o.mem_iff.mp (List.mem_of_getElem? e1)
  rw [List.mem_range] at m1
  refine ⟨?_, ?_, ?_, ?_⟩
  · unfold tf
    rw [e1]
    rfl
  · unfold tf
    rw [e1]
    exact m1
  · unfold tsAt
    rw [e2]
    rfl
  · unfold tsAt
    rw [e2]
    exact h.t _ (List.mem_of_getElem? e2)
theorem Names.idx {n : Nat} {o : List Nat} {ts : List Trn} (h : Names n o ts) {b : Nat} (hb : b < n) : b ∈ o ∧ o.idxOf b < n := by
  have m : b ∈ o := h.o.mem_iff.mpr (List.mem_range.mpr hb)
  exact ⟨m, by rw [← h.lo]; exact List.idxOf_lt_length_iff.mpr m⟩
theorem back4 {t : Trn} (ht : t ∈ allTurns) : (back t).length = 4 ∧ (∀ c < 4, (back t)[c]? = some (tf (back t) c) ∧ tf (back t) c < 4) ∧ ∀ c ∈ back t, c < 4 := by
  have hb := back_mem ht
  have h4 := turns4 _ hb
  exact ⟨h4.1, fun c hc => ⟨(tf_lt _ hb c hc).2, (tf_lt _ hb c hc).1⟩, h4.2.1⟩
theorem renB_len {S : Spc} {o : List Nat} {ts : List Trn} {k : Nat} (h : tsAt ts k ∈ allTurns) : (renB S o ts k).length = 4 := by
  unfold renB
  rw [List.length_map, (back4 h).1]
theorem renS_len (S : Spc) (o : List Nat) (ts : List Trn) : (renS S o ts).length = S.length := by
  unfold renS
  rw [List.length_map, List.length_range]
theorem len3 {α : Type} {l : List α} (h : l.length = 3) : ∃ a b c, l = [a, b, c] := by
  match l, h with
  | [a, b, c], _ => exact ⟨a, b, c, rfl⟩
theorem p3 {α β : Type} {F : α → β → Prop} {xs : List α} {a b c : β} (h : Paired F xs [a, b, c]) : ∃ x y z, xs = [x, y, z] ∧ F x a ∧ F y b ∧ F z c := by
  cases h with
  | cons h0 h => cases h with
    | cons h1 h => cases h with
      | cons h2 h => cases h with
        | nil => exact ⟨_, _, _, rfl, h0, h1, h2⟩
theorem tiny3 {d0 d1 d2 : PyData} {b k : Nat} (h0 : Tiny d0 b k) (h1 : Tiny d1 b k) (h2 : Tiny d2 b k) : Tiny (.list [d0, d1, d2]) (b + b + b + 3) (k + 1) := by
  have a0 := h0.b
  have a1 := h1.b
  have a2 := h2.b
  have c0 := h0.k
  have c1 := h1.k
  have c2 := h2.k
  refine ⟨?_, ?_, ?_, ?_, ?_⟩
  · simp only [PyData.bulk, PyData.bulkAll]
    omega
  · simp only [PyData.depth, PyData.depthAll]
    omega
  · simp only [PyData.showable, PyData.showableAll, h0.s, h1.s, h2.s]
    rfl
  · simp only [PyData.hasDict, PyData.hasDictAll, h0.h, h1.h, h2.h]
    rfl
  · simp only [PyData.leavesShort, PyData.leavesShortAll, h0.l, h1.l, h2.l]
    rfl
theorem Tiny.le {d : PyData} {b k b' k' : Nat} (h : Tiny d b k) (hb : b ≤ b') (hk : k ≤ k') : Tiny d b' k' := ⟨Nat.le_trans h.b hb, Nat.le_trans h.k hk, h.s, h.h, h.l⟩
def tupD (t : Trn) : PyData := .tuple (t.map intD)
theorem norm_ints (t : Trn) : norms (t.map intD) = t.map intD := by
  rw [norms_map, List.map_map]
  exact List.map_congr_left fun x _ => by simp only [Function.comp, intD, norm]
theorem norm_tups (ts : List Trn) : norm (.list (ts.map tupD)) = trnsD ts := by
  have h : norms (ts.map tupD) = ts.map nT := by
    rw [norms_map, List.map_map]
    exact List.map_congr_left fun t _ => by simp only [Function.comp, tupD, norm, norm_ints, nT]
  simp only [norm, h, trnsD]
theorem norm_list (t : Trn) : norm (.list (t.map intD)) = .list (t.map intD) := by simp only [norm, norm_ints]
theorem tats_dqs {N : Addr → Prop} {H : Hp} : ∀ {ws : List V} {ts : List Trn}, Paired (TAt H) ws ts → Dqs N H ws (ts.map tupD)
  | _, _, .nil => .nil
  | _, _, .cons r t => by
    obtain ⟨p, rfl, fp⟩ := r
    exact .cons (.tup fp (dqs_ints _)) (tats_dqs t)
theorem order_tiny {o : List Nat} (h : ∀ x ∈ o, x < 64) (l : o.length ≤ 60) : Tiny (.list (o.map intD)) 1320 4 := by
  obtain ⟨h1, h2, h3, h4, h5⟩ := ints_tiny h
  exact ⟨by simp only [PyData.bulk, h1]; omega, by simp only [PyData.depth, h2]; omega, by simpa only [PyData.showable] using h3, by simpa only [PyData.hasDict] using h4, by simpa only [PyData.leavesShort] using h5⟩
theorem turns_tiny0 : ∀ {ts : List Trn}, (∀ t ∈ ts, t ∈ allTurns) → PyData.bulkAll (ts.map tupD) ≤ 5 * ts.length ∧ PyData.depthAll (ts.map tupD) ≤ 1 ∧ PyData.showableAll (ts.map tupD) = true ∧ PyData.hasDictAll (ts.map tupD) = false ∧ PyData.leavesShortAll 8 (ts.map tupD) = true
  | [], _ => by simp [PyData.bulkAll, PyData.depthAll, PyData.showableAll, PyData.hasDictAll, PyData.leavesShortAll]
  | t :: ts, h => by
    obtain ⟨h1, h2, h3, h4, h5⟩ := turns_tiny0 (ts := ts) fun y hy => h y (List.mem_cons_of_mem _ hy)
    have ht := turns4 t (h t List.mem_cons_self)
    obtain ⟨g1, g2, g3, g4, g5⟩ := ints_tiny (t := t) fun x hx => Nat.lt_of_lt_of_le (ht.2.1 x hx) (by decide)
    simp only [List.map_cons, PyData.bulkAll, PyData.depthAll, PyData.showableAll, PyData.hasDictAll, PyData.leavesShortAll, h3, h4, h5, tupD, PyData.bulk, PyData.depth, PyData.showable, PyData.hasDict, PyData.leavesShort, g1, g2, g3, g4, g5, List.length_cons]
    refine ⟨?_, ?_, rfl, rfl, rfl⟩
    · have := ht.1
      omega
    · omega
theorem turns_tiny {ts : List Trn} (h : ∀ t ∈ ts, t ∈ allTurns) (l : ts.length ≤ 60) : Tiny (.list (ts.map tupD)) 1320 4 := by
  obtain ⟨h1, h2, h3, h4, h5⟩ := turns_tiny0 h
  exact ⟨by simp only [PyData.bulk]; omega, by simp only [PyData.depth]; omega, by simpa only [PyData.showable] using h3, by simpa only [PyData.hasDict] using h4, by simpa only [PyData.leavesShort] using h5⟩
theorem ren_sb {S : Spc} {o : List Nat} {ts : List Trn} (hG : Good S) (hn : Names S.length o ts) (hl : S.length ≤ 40) : Sb (renS S o ts) := by
  refine ⟨by rw [renS_len]; exact hl, fun b hb => ?_⟩
  unfold renS at hb
  obtain ⟨k, hk, rfl⟩ := List.mem_map.mp hb
  have hk := List.mem_range.mp hk
  obtain ⟨eo, lo, et, mt⟩ := hn.at hk
  refine ⟨renB_len mt, fun j hj n t e => ?_⟩
  unfold renB at hj
  obtain ⟨f, hf, rfl⟩ := List.mem_map.mp hj
  have f4 := (back4 mt).2.2 f hf
  obtain ⟨x, hx⟩ := hG.l4.get (b := tf o k) (f := f) lo f4
  rw [hx] at e
  cases x with
  | none => cases e
  | some y =>
    obtain ⟨m, u⟩ := y
    obtain ⟨hm, hu⟩ := hG.jokAt hx m u rfl
    obtain ⟨_, im⟩ := hn.idx hm
    obtain ⟨_, _, _, ma⟩ := hn.at im
    cases e
    refine ⟨by omega, by rw [List.length_map, (back4 mt).1], fun z hz => ?_⟩
    obtain ⟨c, hc, rfl⟩ := List.mem_map.mp hz
    exact (tf_lt _ ma _ (tf_lt u hu c ((back4 mt).2.2 c hc)).1).1
theorem Names.lt {n : Nat} {o : List Nat} {ts : List Trn} (h : Names n o ts) : ∀ x ∈ o, x < n := fun x hx => List.mem_range.mp (h.o.mem_iff.mp hx)
end Bk

namespace Bk
open PySem PySem.Spec PyProof.Rows L2 RZ
local macro_rules | `(tactic| walk_at "g") => `(tactic| (repeat first | refine ⟨_, rfl, ?_⟩ | refine ⟨cpow, ?_⟩ | refine ⟨wideM, ?_⟩ | refine ⟨_, _, rfl, rfl, ?_⟩ | refine ⟨rfl, ?_⟩))
section
variable {P : Program} {w : World} {K : PySem.W.Frag} {mg : Str → Option Value} {base : Heap}
/-! ### contrary, of lists too -/
def spBackL : Sp := fun vs H Q _ => ∃ p t, vs = [.ref p] ∧ H p = some (.lst (trnV t)) ∧ t ∈ allTurns ∧ ∀ H' p', Same H H' → H p' = none → TAt H' (.ref p') (back t) → Q (.ref p') H'
theorem okcontraryL {f : Addr} {fd : FuncData} (F : Fun K "contrary" "contrary" scontrary f fd) (m_range : mg "range" = none) (m_tuple : mg "tuple" = none) : FnOk P w K mg base CX0 1 f fd ["turn"] spBackL := by
  refine F.ok sccontrary (fun vs H Q E h => ?_) (fun cdv A outer s H vs Q E hr h => ?_)
  · obtain ⟨p, t, rfl, _⟩ := h
    rfl
  · obtain ⟨p, t, rfl, hp, ht, q⟩ := h
    have nd := sccontrary.nd
    refine ⟨_, (pss_one (ps_ret (pe_callTy (kTupleF K rfl) (by rfl) m_tuple (by decide +kernel) (pa_cons (pe_lc (own := [("corner", 1)]) (g := gName 1) (tt := tYes) rfl nd (pi_range1 (by rfl) m_range (pa_cons pe_int pa_nil)) (blkOk_by (own := [("corner", 1)]) (N := Ncontrary) (sc := defScope scontrary) (by decide +kernel)) (fun _ _ _ _ _ => (pg_name (i := 1) nd rfl (Or.inl rfl))) (fun _ _ _ _ _ => pts_nil) (fun _ _ _ _ _ => (kBM K rfl (pe_bm PySem.F.plainAttrs_list PySem.F.slot_list_index PySem.F.type_list_index (kIndexI K rfl) (pv 0) (pa_cons (pv 1) pa_nil))))) pa_nil)))), ?_⟩
    refine ⟨4, rfl, by decide, by decide, fun D nD => ?_⟩
    have hpD : p ≠ D := ne_of_none hp nD
    refine lc_range (lo := 0) (n := 4) (fun i H2 => H2 = upd H D (.lst (((List.range i).map fun c => t.idxOf c).map intV))) rfl ?_ ?_
    · rintro c H2 hc rfl
      rw [Int.zero_add]
      have t4 := turns4 t ht
      have hm : (c : Int) ∈ t.map fun c : Nat => (c : Int) := List.mem_map_of_mem (List.mem_of_getElem? (t4.2.2.2.1 c hc))
      have h1 : (upd H D (.lst (((List.range c).map fun c => t.idxOf c).map intV))) p = some (.lst (trnV t)) := by
        rw [upd_ne hpD]
        exact hp
      refine ⟨rfl, .ref p, rfl, .inl ⟨rfl, _, .inl (.inl h1)⟩, _, rfl, p, t.map fun c : Nat => (c : Int), c, rfl, rfl, ?_, hm, Nat.le_of_lt (small1000 (by rw [List.length_map]; have := t4.1; omega)), ?_⟩
      · rw [← intV_map]
        exact .inl (.inl h1)
      rw [idx_int]
      refine ⟨_, upd_same, small1000 (by rw [List.length_map, List.length_map, List.length_range]; omega), ?_⟩
      rw [upd_upd, List.range_succ, List.map_append, List.map_append]
      rfl
    · rintro H2 rfl
      refine ⟨D, _, rfl, .inl ⟨.inl (.inl upd_same), fun p2 o2 np2 d2 => ?_⟩⟩
      exact q _ p2 ((same_new nD).trans (same_new np2)) ((same_new nD).free np2) ⟨p2, rfl, FT.new d2⟩
def spBackE : Sp := fun vs H Q E => spBack vs H Q E ∨ spBackL vs H Q E
theorem backE {a : Addr} {t : Trn} {H : Hp} {Q : VK} {E : XK} (h : H a = some (.lst (trnV t)) ∨ FT H a (trnV t)) (ht : t ∈ allTurns) (q : ∀ H' p', Same H H' → H p' = none → TAt H' (.ref p') (back t) → Q (.ref p') H') : spBackE [.ref a] H Q E :=
  h.elim (fun h => .inr ⟨a, t, rfl, h, ht, q⟩) fun h => .inl ⟨_, t, rfl, ⟨a, rfl, h⟩, ht, q⟩
end
end Bk

/-! The refusals' classes; the name of a caught one. -/
namespace Bk
open PySem PySem.Spec PyProof.Rows L2 RZ
/-- a class of refusals of the program's own -/
structure ExF (K : PySem.W.Frag) (mg : Str → Option Value) (name : Str) (C : Addr) : Prop where
  g : mg name = some (.ref C)
  x : PySem.W.excIn K C [.type "ValueError", .type "Exception", .type "BaseException", .type "object"] "ValueError.__new__" = true
  k : PySem.W.keepIn K (.ref C) = true
  b : PySem.W.subIn K (.ref C) (.type "BaseException") = some true
  t : PySem.W.typeIn K (.ref C) = some (.type "type")
theorem kitAny_all {K : PySem.W.Frag} {t : Value} : ∀ {us : List Value}, (∀ u ∈ us, PySem.W.kitOne K t u = some false) → PySem.W.kitAny K t us = some false
  | [], _ => rfl
  | u :: r, h => kitAny_cons (h u List.mem_cons_self) (fun _ => kitAny_all fun v hv => h v (List.mem_cons_of_mem _ hv)) (fun z => by cases z)
def sixN : List Str := ["NoSpace", "NoFace", "NoTurn", "NoName", "NoLine", "NoCorner"]
/-- a pair of a name and a truth -/
def PrAt (H : Hp) (v : V) (x : Str × Bool) : Prop := ∃ p, v = .ref p ∧ FT H p [.str x.1, .bl x.2]
theorem PrAt.mono {H H' : Hp} {v : V} {x : Str × Bool} (h : PrAt H v x) (m : Tups H H') : PrAt H' v x := by
  obtain ⟨p, e, h⟩ := h
  exact ⟨p, e, h.mono m⟩
section
variable {P : Program} {w : World} {K : PySem.W.Frag} {mg : Str → Option Value} {base : Heap}
/-! ### _law_kind_of -/
abbrev s_law_kind_of : Stmt := topS 49
abbrev N_law_kind_of : List Str := ["caught", "some", "found", "others", "name", "so"]
theorem sc_law_kind_of : FnScope N_law_kind_of ["caught"] (defScope s_law_kind_of) := ⟨rfl, rfl, rfl, by decide +kernel, rfl, by decide +kernel, by decide +kernel⟩
/-- the caught error's class is D, the i-th of the six -/
def spKind (D : Addr) (nm : Str) : Sp := fun vs H Q _ => ∃ a fs, vs = [.ref a] ∧ CaL H D a fs ∧ ∀ H', Same H H' → Q (.str nm) H'
theorem ok_law_kind_of {f xNoSpace xNoFace xNoTurn xNoName xNoLine xNoCorner xNoNumbers xNoSurface xNoMove xNoForm xNoneYet D : Addr} {fd : FuncData} {b1 b2 b3 b4 b5 b6 : Bool} {nm : Str} (F : Fun K "_law_kind_of" "_law_kind_of" s_law_kind_of f fd)
    (gNoSpace : mg "NoSpace" = some (.ref xNoSpace)) (gNoFace : mg "NoFace" = some (.ref xNoFace)) (gNoTurn : mg "NoTurn" = some (.ref xNoTurn)) (gNoName : mg "NoName" = some (.ref xNoName)) (gNoLine : mg "NoLine" = some (.ref xNoLine)) (gNoCorner : mg "NoCorner" = some (.ref xNoCorner))
    (gNoNumbers : mg "NoNumbers" = some (.ref xNoNumbers)) (gNoSurface : mg "NoSurface" = some (.ref xNoSurface)) (gNoMove : mg "NoMove" = some (.ref xNoMove)) (gNoForm : mg "NoForm" = some (.ref xNoForm)) (gNoneYet : mg "NoneYet" = some (.ref xNoneYet))
    (C : ExcC K D) (k1 : PySem.W.kitOne K (.ref D) (.ref xNoSpace) = some b1) (k2 : PySem.W.kitOne K (.ref D) (.ref xNoFace) = some b2) (k3 : PySem.W.kitOne K (.ref D) (.ref xNoTurn) = some b3) (k4 : PySem.W.kitOne K (.ref D) (.ref xNoName) = some b4) (k5 : PySem.W.kitOne K (.ref D) (.ref xNoLine) = some b5) (k6 : PySem.W.kitOne K (.ref D) (.ref xNoCorner) = some b6)
    (k7 : PySem.W.kitAny K (.ref D) [.ref xNoNumbers, .ref xNoSurface, .ref xNoMove, .ref xNoForm, .ref xNoneYet] = some false) (k8 : PySem.W.kitOne K (.ref D) (.type "ValueError") = some true)
    (hnm : ((sixN.zip [b1, b2, b3, b4, b5, b6]).filter (·.2)).map (·.1) = [nm])
    (m_isinstance : mg "isinstance" = none) (m_len : mg "len" = none) (m_ValueError : mg "ValueError" = none) : FnOk P w K mg base CX0 1 f fd ["caught"] (spKind D nm) := by
  refine F.ok sc_law_kind_of (fun vs H Q E h => ?_) (fun cdv A outer s H vs Q E hr h => ?_)
  · obtain ⟨a, fs, rfl, _⟩ := h
    rfl
  · obtain ⟨a, fs, rfl, ha, q⟩ := h
    have nd := sc_law_kind_of.nd
    refine ⟨_, (pss_cons (ps_set (i := 1) nd rfl (.inl rfl) (pe_lst (pa_cons (pe_tupF (pa_cons pe_str (pa_cons (pe_callB (kIsC K rfl) (by rfl) m_isinstance (by decide +kernel) (pa_cons (pv 0) (pa_cons (pe_glob (v := .ref xNoSpace) rfl gNoSpace rfl) pa_nil))) pa_nil))) (pa_cons (pe_tupF (pa_cons pe_str (pa_cons (pe_callB (kIsC K rfl) (by rfl) m_isinstance (by decide +kernel) (pa_cons (pv 0) (pa_cons (pe_glob (v := .ref xNoFace) rfl gNoFace rfl) pa_nil))) pa_nil))) pa_nil))))
      (pss_cons (ps_set (i := 1) nd rfl (.inl rfl) (pe_op op_cat (pv 1) (pe_lst (pa_cons (pe_tupF (pa_cons pe_str (pa_cons (pe_callB (kIsC K rfl) (by rfl) m_isinstance (by decide +kernel) (pa_cons (pv 0) (pa_cons (pe_glob (v := .ref xNoTurn) rfl gNoTurn rfl) pa_nil))) pa_nil))) (pa_cons (pe_tupF (pa_cons pe_str (pa_cons (pe_callB (kIsC K rfl) (by rfl) m_isinstance (by decide +kernel) (pa_cons (pv 0) (pa_cons (pe_glob (v := .ref xNoName) rfl gNoName rfl) pa_nil))) pa_nil))) pa_nil)))))
      (pss_cons (ps_set (i := 1) nd rfl (.inl rfl) (pe_op op_cat (pv 1) (pe_lst (pa_cons (pe_tupF (pa_cons pe_str (pa_cons (pe_callB (kIsC K rfl) (by rfl) m_isinstance (by decide +kernel) (pa_cons (pv 0) (pa_cons (pe_glob (v := .ref xNoLine) rfl gNoLine rfl) pa_nil))) pa_nil))) (pa_cons (pe_tupF (pa_cons pe_str (pa_cons (pe_callB (kIsC K rfl) (by rfl) m_isinstance (by decide +kernel) (pa_cons (pv 0) (pa_cons (pe_glob (v := .ref xNoCorner) rfl gNoCorner rfl) pa_nil))) pa_nil))) pa_nil)))))
      (pss_cons (ps_setLc (i := 2) (own := [("name", 4), ("so", 5)]) rfl nd rfl rfl (sw_true rfl rfl rfl (by decide +kernel)) (kPiL K rfl (pi_list (pv 1))) (blkOk_by (own := [("name", 4), ("so", 5)]) (N := N_law_kind_of) (sc := defScope s_law_kind_of) (by decide +kernel)) (fun _ _ _ _ _ => (kPgT K rfl (pg_tup (n := 2) rfl (pgs_cons (pg_name (i := 4) nd rfl (Or.inl rfl)) (pgs_cons (pg_name (i := 5) nd rfl (Or.inl rfl)) pgs_nil))))) (fun _ _ _ _ _ => (pts_one (pt_val (pv 5)))) (fun _ _ _ _ _ => (pv 4)))
      (pss_cons (ps_set (i := 3) nd rfl (.inl rfl) (pe_callB (kIsCT K rfl) (by rfl) m_isinstance (by decide +kernel) (pa_cons (pv 0) (pa_cons (pe_tup (pa_cons (pe_glob (v := .ref xNoNumbers) rfl gNoNumbers rfl) (pa_cons (pe_glob (v := .ref xNoSurface) rfl gNoSurface rfl) (pa_cons (pe_glob (v := .ref xNoMove) rfl gNoMove rfl) (pa_cons (pe_glob (v := .ref xNoForm) rfl gNoForm rfl) (pa_cons (pe_glob (v := .ref xNoneYet) rfl gNoneYet rfl) pa_nil)))))) pa_nil))))
      (pss_cons (ps_if (pw_or (pt_val (pv 3)) (pw_or (pt_cmpR op_ne (pe_callB (kLen K rfl) (by rfl) m_len (by decide +kernel) (pa_cons (pv 2) pa_nil)) pe_int (nomark _)) (pw_or1 (pt_not (pt_val (pe_callB (kIsC K rfl) (by rfl) m_isinstance (by decide +kernel) (pa_cons (pv 0) (pa_cons (pe_bltn (v := .ty "ValueError") (by rfl) m_ValueError (by decide +kernel) rfl) pa_nil)))))))).pt (pss_one (ps_ret pe_str)) pss_nil)
      (pss_one (ps_ret (pe_ix (kIxL K rfl) (pv 2) pe_int (fun _ _ => rfl)))))))))), ?_⟩
    have h0 := ha
    generalize e0 : H = H0 at h0 ⊢
    have z0 : Same H H0 := e0 ▸ Same.refl H
    refine ⟨.ref a, rfl, a, D, fs, .ref xNoSpace, .ref xNoSpace, b1, rfl, h0, C, .own _, k1, Nat.le_of_lt (small1000 (by show 2 ≤ 1000; decide)), fun p1 o1 np1 d1 => ?_⟩
    have s1 : Same H0 (upd H0 p1 (.frz o1 (.tup [.str "NoSpace", .bl b1]))) := same_new np1
    have f1 : FT (upd H0 p1 (.frz o1 (.tup [.str "NoSpace", .bl b1]))) p1 [.str "NoSpace", .bl b1] := FT.new d1
    generalize upd H0 p1 (.frz o1 (.tup [.str "NoSpace", .bl b1])) = H1 at s1 f1 ⊢
    have h1 := h0.same s1
    refine ⟨.ref a, rfl, a, D, fs, .ref xNoFace, .ref xNoFace, b2, rfl, h1, C, .own _, k2, Nat.le_of_lt (small1000 (by show 2 ≤ 1000; decide)), fun p2 o2 np2 d2 => ?_⟩
    have s2 : Same H1 (upd H1 p2 (.frz o2 (.tup [.str "NoFace", .bl b2]))) := same_new np2
    have f2 : FT (upd H1 p2 (.frz o2 (.tup [.str "NoFace", .bl b2]))) p2 [.str "NoFace", .bl b2] := FT.new d2
    generalize upd H1 p2 (.frz o2 (.tup [.str "NoFace", .bl b2])) = H2 at s2 f2 ⊢
    have h2 := h1.same s2
    refine ⟨Nat.le_of_lt (small1000 (by show 2 ≤ 1000; decide)), fun l1 nl1 => ?_⟩
    have t1 : Same H2 (upd H2 l1 (.lst [.ref p1, .ref p2])) := same_new nl1
    have g1 : (upd H2 l1 (.lst [.ref p1, .ref p2])) l1 = some (.lst [.ref p1, .ref p2]) := upd_same
    generalize upd H2 l1 (.lst [.ref p1, .ref p2]) = H2b at t1 g1 ⊢
    have h2 := h2.same t1
    refine ⟨.ref l1, rfl, ?_⟩
    refine ⟨.ref a, rfl, a, D, fs, .ref xNoTurn, .ref xNoTurn, b3, rfl, h2, C, .own _, k3, Nat.le_of_lt (small1000 (by show 2 ≤ 1000; decide)), fun p3 o3 np3 d3 => ?_⟩
    have s3 : Same H2b (upd H2b p3 (.frz o3 (.tup [.str "NoTurn", .bl b3]))) := same_new np3
    have f3 : FT (upd H2b p3 (.frz o3 (.tup [.str "NoTurn", .bl b3]))) p3 [.str "NoTurn", .bl b3] := FT.new d3
    generalize upd H2b p3 (.frz o3 (.tup [.str "NoTurn", .bl b3])) = H3 at s3 f3 ⊢
    have h3 := h2.same s3
    refine ⟨.ref a, rfl, a, D, fs, .ref xNoName, .ref xNoName, b4, rfl, h3, C, .own _, k4, Nat.le_of_lt (small1000 (by show 2 ≤ 1000; decide)), fun p4 o4 np4 d4 => ?_⟩
    have s4 : Same H3 (upd H3 p4 (.frz o4 (.tup [.str "NoName", .bl b4]))) := same_new np4
    have f4 : FT (upd H3 p4 (.frz o4 (.tup [.str "NoName", .bl b4]))) p4 [.str "NoName", .bl b4] := FT.new d4
    generalize upd H3 p4 (.frz o4 (.tup [.str "NoName", .bl b4])) = H4 at s4 f4 ⊢
    have h4 := h3.same s4
    refine ⟨Nat.le_of_lt (small1000 (by show 2 ≤ 1000; decide)), fun l2 nl2 => ?_⟩
    have t2 : Same H4 (upd H4 l2 (.lst [.ref p3, .ref p4])) := same_new nl2
    have g2 : (upd H4 l2 (.lst [.ref p3, .ref p4])) l2 = some (.lst [.ref p3, .ref p4]) := upd_same
    generalize upd H4 l2 (.lst [.ref p3, .ref p4]) = H4b at t2 g2 ⊢
    refine ⟨l1, l2, _, _, rfl, rfl, t2 _ _ (s4 _ _ (s3 _ _ g1)), g2, Nat.le_of_lt (small1000 (by show 4 ≤ 1000; decide)), fun l3 nl3 => ?_⟩
    rw [show ([V.ref p1, V.ref p2] ++ [V.ref p3, V.ref p4]) = [V.ref p1, .ref p2, .ref p3, .ref p4] from rfl]
    have t3 : Same H4b (upd H4b l3 (.lst [.ref p1, .ref p2, .ref p3, .ref p4])) := same_new nl3
    have g3 : (upd H4b l3 (.lst [.ref p1, .ref p2, .ref p3, .ref p4])) l3 = some (.lst [.ref p1, .ref p2, .ref p3, .ref p4]) := upd_same
    generalize upd H4b l3 (.lst [.ref p1, .ref p2, .ref p3, .ref p4]) = H4c at t3 g3 ⊢
    have h4 := (h4.same t2).same t3
    refine ⟨.ref l3, rfl, ?_⟩
    refine ⟨.ref a, rfl, a, D, fs, .ref xNoLine, .ref xNoLine, b5, rfl, h4, C, .own _, k5, Nat.le_of_lt (small1000 (by show 2 ≤ 1000; decide)), fun p5 o5 np5 d5 => ?_⟩
    have s5 : Same H4c (upd H4c p5 (.frz o5 (.tup [.str "NoLine", .bl b5]))) := same_new np5
    have f5 : FT (upd H4c p5 (.frz o5 (.tup [.str "NoLine", .bl b5]))) p5 [.str "NoLine", .bl b5] := FT.new d5
    generalize upd H4c p5 (.frz o5 (.tup [.str "NoLine", .bl b5])) = H5 at s5 f5 ⊢
    have h5 := h4.same s5
    refine ⟨.ref a, rfl, a, D, fs, .ref xNoCorner, .ref xNoCorner, b6, rfl, h5, C, .own _, k6, Nat.le_of_lt (small1000 (by show 2 ≤ 1000; decide)), fun p6 o6 np6 d6 => ?_⟩
    have s6 : Same H5 (upd H5 p6 (.frz o6 (.tup [.str "NoCorner", .bl b6]))) := same_new np6
    have f6 : FT (upd H5 p6 (.frz o6 (.tup [.str "NoCorner", .bl b6]))) p6 [.str "NoCorner", .bl b6] := FT.new d6
    generalize upd H5 p6 (.frz o6 (.tup [.str "NoCorner", .bl b6])) = H6 at s6 f6 ⊢
    have h6 := h5.same s6
    refine ⟨Nat.le_of_lt (small1000 (by show 2 ≤ 1000; decide)), fun l4 nl4 => ?_⟩
    have t4 : Same H6 (upd H6 l4 (.lst [.ref p5, .ref p6])) := same_new nl4
    have g4 : (upd H6 l4 (.lst [.ref p5, .ref p6])) l4 = some (.lst [.ref p5, .ref p6]) := upd_same
    generalize upd H6 l4 (.lst [.ref p5, .ref p6]) = H6b at t4 g4 ⊢
    refine ⟨l3, l4, _, _, rfl, rfl, t4 _ _ (s6 _ _ (s5 _ _ g3)), g4, Nat.le_of_lt (small1000 (by show 6 ≤ 1000; decide)), fun l5 nl5 => ?_⟩
    rw [show ([V.ref p1, V.ref p2, V.ref p3, V.ref p4] ++ [V.ref p5, V.ref p6]) = [V.ref p1, .ref p2, .ref p3, .ref p4, .ref p5, .ref p6] from rfl]
    have t5 : Same H6b (upd H6b l5 (.lst [.ref p1, .ref p2, .ref p3, .ref p4, .ref p5, .ref p6])) := same_new nl5
    have g5 : (upd H6b l5 (.lst [.ref p1, .ref p2, .ref p3, .ref p4, .ref p5, .ref p6])) l5 = some (.lst [.ref p1, .ref p2, .ref p3, .ref p4, .ref p5, .ref p6]) := upd_same
    generalize upd H6b l5 (.lst [.ref p1, .ref p2, .ref p3, .ref p4, .ref p5, .ref p6]) = H7 at t5 g5 ⊢
    have h7 := (h6.same t4).same t5
    have u6 : Same H6 H7 := t4.trans t5
    have u5 : Same H5 H7 := s6.trans u6
    have u4 : Same H4 H7 := ((t2.trans t3).trans s5).trans u5
    have u3 : Same H3 H7 := s4.trans u4
    have u2 : Same H2 H7 := (t1.trans s3).trans u3
    have u1 : Same H1 H7 := s2.trans u2
    have u0 : Same H H7 := (z0.trans s1).trans u1
    have pr : Paired (PrAt H7) [V.ref p1, .ref p2, .ref p3, .ref p4, .ref p5, .ref p6] (sixN.zip [b1, b2, b3, b4, b5, b6]) :=
      .cons ⟨p1, rfl, f1.mono u1.tups⟩ (.cons ⟨p2, rfl, f2.mono u2.tups⟩ (.cons ⟨p3, rfl, f3.mono u3.tups⟩ (.cons ⟨p4, rfl, f4.mono u4.tups⟩ (.cons ⟨p5, rfl, f5.mono u5.tups⟩ (.cons ⟨p6, rfl, f6.mono u6.tups⟩ .nil)))))
    have lz : (sixN.zip [b1, b2, b3, b4, b5, b6]).length = 6 := rfl
    -- found
    refine ⟨.ref l5, rfl, l5, rfl, ⟨_, .inl (.inl g5)⟩, fun L nL => ?_⟩
    generalize sixN.zip [b1, b2, b3, b4, b5, b6] = prs at pr hnm lz
    generalize [V.ref p1, .ref p2, .ref p3, .ref p4, .ref p5, .ref p6] = rs at pr g5 ⊢
    refine lc_list (xs := rs) (fun i H8 => H8 = upd H7 L (.lst ((((prs.take i).filter (·.2)).map (·.1)).map V.str))) rfl ?_ ?_ ?_
    · rintro i H8 _ rfl
      exact .inl (.inl (same_new nL _ _ g5))
    · rintro i x H8 hx rfl
      obtain ⟨⟨n, b⟩, hb, p, rfl, fp⟩ := pget' pr hx
      have fp8 := fp.mono (same_new (o := .lst ((((prs.take i).filter (·.2)).map (·.1)).map V.str)) nL).tups
      refine ⟨p, _, rfl, fp8.sqt, rfl, _, _, rfl, _, _, rfl, rfl, rfl, .bl b, rfl, b, rfl, ?_⟩
      cases b with
      | true =>
        refine iteT ⟨.str n, rfl, _, upd_same, small1000 (by
          rw [List.length_map, List.length_map]
          refine Nat.le_trans (List.length_filter_le _ _) ?_
          rw [List.length_take]
          omega), ?_⟩
        rw [upd_upd, filter_take_succ hb, if_pos rfl, List.map_append, List.map_append]
        rfl
      | false =>
        refine iteF ?_
        rw [filter_take_succ hb, if_neg Bool.false_ne_true, List.append_nil]
    · rintro H8 e8
      rw [pr.length, List.take_length, hnm] at e8
      have s8 : Same H7 H8 := by
        rw [e8]
        exact same_new nL
      have g8 : H8 L = some (.lst [.str nm]) := by
        rw [e8]
        exact upd_same
      clear e8
      have h8 := h7.same s8
      -- others
      refine ⟨.ref a, rfl, Nat.le_of_lt (small1000 (by show 5 ≤ 1000; decide)), fun tp ntp => ?_⟩
      have s9 : Same H8 (upd H8 tp (.tup [.ref xNoNumbers, .ref xNoSurface, .ref xNoMove, .ref xNoForm, .ref xNoneYet])) := same_new ntp
      refine ⟨a, D, tp, fs, _, _, false, rfl, h8.same s9, C, upd_same, .cons (.own _) (.cons (.own _) (.cons (.own _) (.cons (.own _) (.cons (.own _) .nil)))), k7, ?_⟩
      generalize upd H8 tp (.tup [.ref xNoNumbers, .ref xNoSurface, .ref xNoMove, .ref xNoForm, .ref xNoneYet]) = H9 at s9 ⊢
      have g9 := s9 _ _ g8
      refine ⟨.bl false, rfl, _, rfl, iteF ?_⟩
      refine ⟨.ref L, rfl, L, _, rfl, .inl (.inl (.inl g9)), rfl, _, rfl, iteF ?_⟩
      refine ⟨.ref a, rfl, a, D, fs, .ty "ValueError", .type "ValueError", true, rfl, h8.same s9, C, .ty _, k8, _, rfl, iteF ?_⟩
      exact ⟨.ref L, rfl, L, _, 0, .str nm, rfl, rfl, .inl (.inl g9), rfl, q _ (u0.trans (s8.trans s9))⟩
end
end Bk

/-! What isinstance answers of a refusal, from what the written part says of the classes. -/
namespace Bk
open PySem PySem.Spec PyProof.Rows L2 RZ
theorem kit_own {K : PySem.W.Frag} {D C : Addr} {b : Bool} (hD : PySem.W.subIn K (.ref D) (.ref D) = some true) (i : PySem.W.isClsIn K C = true) (t : PySem.W.typeIn K (.ref C) = some (.type "type")) (h : PySem.W.subIn K (.ref D) (.ref C) = some b) : PySem.W.kitOne K (.ref D) (.ref C) = some b := by
  unfold PySem.W.kitOne
  by_cases e : D = C
  · subst e
    rw [hD] at h
    cases h
    rw [if_pos (beq_self_eq_true _)]
  · rw [if_neg (fun z => e (Value.ref.inj (beq_iff_eq.mp z)))]
    have i' : (PySem.W.clsIn K C).isSome = true := i
    show (if ((PySem.W.clsIn K C).isSome && PySem.W.typeIn K (.ref C) == some (.type "type")) = true then PySem.W.subIn K (.ref D) (.ref C) else none) = some b
    rw [i', t, if_pos (by simp)]
    exact h
theorem kit_built {K : PySem.W.Frag} {D : Addr} {T : String} {b : Bool} (m : PySem.W.kitMeta T = true) (h : PySem.W.subIn K (.ref D) (.type T) = some b) : PySem.W.kitOne K (.ref D) (.type T) = some b := by
  unfold PySem.W.kitOne
  rw [if_neg (fun z => by have := beq_iff_eq.mp z; cases this)]
  show (if PySem.W.kitMeta T = true then PySem.W.subIn K (.ref D) (.type T) else none) = some b
  rw [if_pos m]
  exact h
theorem kit_five {K : PySem.W.Frag} {t u1 u2 u3 u4 u5 : Value} (h1 : PySem.W.kitOne K t u1 = some false) (h2 : PySem.W.kitOne K t u2 = some false) (h3 : PySem.W.kitOne K t u3 = some false) (h4 : PySem.W.kitOne K t u4 = some false) (h5 : PySem.W.kitOne K t u5 = some false) : PySem.W.kitAny K t [u1, u2, u3, u4, u5] = some false :=
  kitAny_all fun u hu => by
    simp only [List.mem_cons, List.not_mem_nil, or_false] at hu
    rcases hu with rfl | rfl | rfl | rfl | rfl <;> assumption
end Bk

/-! An error class over one over ValueError, whose __init__ says super().__init__(f"..") and self.line = line. -/
namespace Bk
open PySem PySem.Spec PyProof.Rows L2
section
variable {prog : Program} {w : World} {A : Around} {E : Value → Shared → Prop} {h : Heap} {g : Array GenState} {d : Drawn} {t : Nat} {os : OsState}
variable {nm q : Str} {C N : Addr} {bs bm : List Value} {hdct : Bool} {sn : List Str} {sub : List Value} {ab : Bool} {col : Option Bool} {dd : Option Addr} {k0 k1 k2 k3 k5 : Option Value}
/-- the bound ValueError.__init__ called -/
theorem call_mw {u e t0 : Addr} {rest : List Value} {Q : Value → Shared → Prop}
    (hC : h.get? C = some (excClassObj nm q C N bs bm hdct sn sub ab col dd k0 k1 k2 k3 k5 "ValueError.__new__")) (he : h.get? e = some (HandSPX.excO C t0)) (hu : h.get? u = some (PySem.W.kxs_mw "ValueError.__init__" e)) (hrest : rest.length ≤ sizeLine)
    (hq : ∀ h' t1, (∀ b o, b ≠ e → h.get? b = some o → h'.get? b = some o) → h'.get? e = some (HandSPX.excO C t1) → Q .none ⟨h', g, d, t, os⟩) :
    wpAny (model prog w) A (call (.ref u) rest) Q E ⟨h, g, d, t, os⟩ := by
  refine wpAny_call (codeAny_of_tree ?_)
  show wpAny _ A.in1 (callAny (.ref u) ⟨rest, []⟩) _ _ _
  simp only [callAny]
  refine wpAny_bind (wpAny_load hu ?_)
  simp only [PySem.W.kxs_mw, show (Value.type "method-wrapper" == Value.type "method" || Value.type "method-wrapper" == Value.type "builtin_function_or_method" || Value.type "method-wrapper" == Value.type "method-wrapper") = true by decide, if_true]
  refine PySem.W.KFB.if_so (by decide) ?_
  refine wpAny_bind (PySem.W.check_bound_init F.excBase_ValueError.toExcCallFacts hC he rfl ?_)
  refine wpAny_bind (wpAny_pure (wpAny_pure ?_))
  refine ⟨Code.quiet_builtin _ (by decide +kernel), codeAny_builtin F.excBase_ValueError.initEntry ?_⟩
  rw [Around.under_plainId F.excBase_ValueError.init.plain _]
  wp_walk
  refine hq _ h.objs.size (fun b o hb ho => ?_) ?_
  · rw [Heap.get?_update_other _ _ (Ne.symm hb)]
    exact Heap.get?_push_of_some _ ho
  · rw [Heap.get?_update_self _ (Heap.get?_push_of_some _ he) rfl]
    rfl
end
theorem callWith_mw {M : Model} {A : Around} {E : Value → Shared → Prop} {s : Shared} {u x : Addr} {pos : Pos} {env : Env} {e : Expr} {rest : List Expr} {Q : Value → Shared → Prop}
    (h : wpAny M A (spliced (backTo pos (starEach (e :: rest) env))) (fun vs s₁ => PySem.W.KxsAt "ValueError.__init__" u x s₁.heap ∧ wpAny M A (call (.ref u) vs) Q E s₁) E s)
    (he : starEach (e :: rest) env = (false, eval e env) :: starEach rest env := by rfl) (hplain : (backTo pos (starEach rest env)).any (·.1) = false := by rfl) :
    wpAny M A (callWith pos (.ref u) [] (backTo pos (starEach (e :: rest) env)) []) Q E s := by
  rw [he] at h ⊢
  refine PySem.W.kxs_callWith (i := "ValueError.__init__") (x := x) (by show (false || (backTo pos (starEach rest env)).any (·.1)) = false; rw [hplain]; rfl) ?_
  exact Calls.evalArgs_plain h
abbrev sNL : Stmt := inClass (topS 6) 0
/-- a def that closes over its class: the context -/
def cxN (P : Program) (w : World) (K : PySem.W.Frag) (mg : Str → Option Value) (base : Heap) (N : List Str) (env : Env) (A : Around) (outer : List Env) (s : Shared) (H : Hp) (xe : Value → Shared → Prop) : Cx where
  prog := P
  w := w
  K := K
  mg := mg
  base := base
  A := A.deeper env
  N := N
  s_0 := s
  H_0 := H
  env := env
  outer := outer
  stack := env :: outer
  ex := []
  calm := true
  fn := fun _ => false
  pn := []
  xe := xe
/-- what the written part says of the class with that __init__ -/
structure NlC (P : Program) (K : PySem.W.Frag) (mg : Str → Option Value) (C f : Addr) (fd : FuncData) : Prop where
  T : OexC K C
  lk : ∃ (dV kV doc pm : Value) (an : Option Addr) (cda cc : Addr) (ct oc : Value) (od : Option Addr) (osl : Array (Option Value)) (ccl : Value) (cdd : Option Addr) (vs : Array Value) (ccs : Array (Option Value)) (file : Str) (tf : Tok) (cl : Value) (cld : Option Addr) (csl : Array (Option Value)),
    fd = PySem.W.ksFn "__init__" "NoLine.__init__" (defArgs sNL) (defBody sNL) (defScope sNL) dV kV doc pm an (.ref cda) ct cc ∧ K.lookup f = some ⟨oc, od, .func fd, osl⟩ ∧ PySem.W.codeIn K (.ref cda) "NoLine.__init__" = true ∧
    K.lookup cda = some ⟨ccl, cdd, .fields vs, ccs⟩ ∧ vs[2]? = some (.str file tf) ∧ ((P.main.file : Str) == file) = true ∧ K.lookup cc = some ⟨cl, cld, .cell (some (.ref C)), csl⟩
  hsub : PySem.W.mroIn K C (.ref C) = some true
  sup : mg "super" = none
  opq : PySem.W.nsIn K cStatics "thirdparty.any" = some none
  hm : PySem.W.ks_superIn K C C "__init__" = some (some (.builtin "ValueError.__init__"))
  hB : PySem.W.subIn K (.ref C) (.type "ValueError") = some true
  hno : PySem.W.findIn K (.ref C) "line" = some none
  htop : (P.main.scope.names.lookup ("super" : Str)).isSome = false
def spLineI (C : Addr) : Sp := fun vs H Q _ => ∃ (a : Addr) (n : Nat), vs = [.ref a, intV n] ∧ n < 64 ∧ H a = some (exo a C none) ∧ ∀ d H', H d = none → d ≠ a → H' = upd (upd H d (exd d [("line", intV n)])) a (exo a C (some d)) → Q .non H'
abbrev nlEnv (L f cda cc : Addr) : Env := PySem.W.ksEnv "NoLine.__init__" (defScope sNL) L f (.ref cda) cc
abbrev nlX (P : Program) (w : World) (K : PySem.W.Frag) (mg : Str → Option Value) (base : Heap) (A : Around) (outer : List Env) (s : Shared) (H : Hp) (xe : Value → Shared → Prop) (f cda cc : Addr) : Cx :=
  cxN P w K mg base ["self", "line"] (nlEnv s.heap.objs.size f cda cc) A outer s H xe
section
variable {P : Program} {w : World} {K : PySem.W.Frag} {mg : Str → Option Value} {base : Heap}
theorem nl_free {x : Str} (h : (defScope sNL).names.lookup x = some .cell ∨ (defScope sNL).names.lookup x = some .free) : x = ("__class__" : Str) := by
  have key : ∀ y ∈ (defScope sNL).names, y.2 = .cell ∨ y.2 = .free → y.1 = ("__class__" : Str) := by decide +kernel
  rcases h with h | h
  · exact key _ (PySem.mem_of_lookup h) (.inl rfl)
  · exact key _ (PySem.mem_of_lookup h) (.inr rfl)
theorem nl_cell {x : Str} {c cc : Addr} (h : List.lookup x [(("__class__" : Str), cc)] = some c) : x = ("__class__" : Str) ∧ c = cc := by
  have := PySem.mem_of_lookup h
  rw [List.mem_singleton] at this
  cases this
  exact ⟨rfl, rfl⟩
theorem nl_inv {A : Around} {outer : List Env} {s : Shared} {H : Hp} {xe : Value → Shared → Prop} {f cda cc C a : Addr} {n : Nat} {u2 : Value} {h₀ : Heap} {oc : Obj} (e0 : Env0 P w K mg base A outer s H) (hd : A.handled = none) (r2 : RelV (intV n) u2) (lcell : base.get? cc = some oc) (hoc : oc.data = .cell (some (.ref C)))
    (hns : h₀.Ns s.heap.objs.size (fun x => (List.zip [("self" : Str), ("line" : Str)] [Value.ref a, u2]).reverse.lookup x)) (hk : ∀ b o, s.heap.get? b = some o → h₀.get? b = some o) (t' : Nat) : Inv (nlX P w K mg base A outer s H xe f cda cc) [] [some (.ref a), some (intV n)] H { s with heap := h₀, toks := t' } := by
  have kb : ∀ b o, base.get? b = some o → s.heap.get? b = some o := fun b o e => (e0.bs b o e).1
  have noA : ∀ b : Addr, b ∉ (nlX P w K mg base A outer s H xe f cda cc).ex := fun b z => absurd (show b ∈ ([] : List Addr) from z) (by simp)
  refine ⟨⟨e0.mod, rfl, rfl, rfl, Nat.le_refl _, fun y z c h1 h2 => ?_, fun y hy => ?_, fun y c h _ => (by cases h), fun _ => hd, Around.frames_deeper e0.frames, .inr ⟨rfl, rfl⟩, fun b z => absurd z (noA b), e0.bs, e0.bsz, fun b _ _ => noA b, fun b z => absurd z (noA b), e0.funs, e0.frf⟩,
    rfl, e0.bare, Un.kept hk, ⟨_, hns, fun i y v h1 h2 h3 => ?_⟩, fun y c h => ?_, e0.hok.fresh (Nat.le_refl _), fun y c h => ?_, fun p hp => absurd (show p ∈ ([] : List (Addr × Obj)) from hp) (by simp), e0.hok.kept hk, rfl⟩
  · rw [(nl_cell h1).1, (nl_cell h2).1]
  · exact ⟨cc, by rw [nl_free hy]; rfl⟩
  · match i, h1, h2 with
    | 0, h1, h2 =>
      cases h1
      cases h2
      exact ⟨.ref a, rfl, .inl ⟨rfl, rfl⟩⟩
    | 1, h1, h2 =>
      cases h1
      cases h2
      exact ⟨u2, r2, .inl ⟨rfl, rfl⟩⟩
    | i + 2, h1, _ => cases h1
  · obtain ⟨_, rfl⟩ := nl_cell h
    exact ⟨_, oc, hk _ _ (kb _ _ lcell), hoc⟩
  · obtain ⟨_, rfl⟩ := nl_cell h
    exact (e0.bs _ _ lcell).2
/-- an object of the body's own is pinned -/
theorem pin_new {X : Cx} {σ : L2.St} {H : Hp} {s : Shared} {p : Addr × Obj} (I : Inv X [] σ H s) (e : s.heap.get? p.1 = some p.2) (n : H p.1 = none) (l : p.1 ≠ X.env.locals) (fs : p.1 ∉ X.fs) (c : ∀ v, p.2.data ≠ .cell v) : Inv X [p] σ H s :=
  ⟨I.ok, I.os, I.bare, I.base, I.loc, I.cell, I.free, I.freeC, fun y hy => by
    rcases List.mem_append.mp hy with hy | hy
    · exact I.pin y (List.mem_append_left _ hy)
    · rw [List.mem_singleton.mp hy]
      exact ⟨e, n, l, fs, c⟩, I.hok, I.len⟩
theorem ok_line_init {C f : Addr} {fd : FuncData} (Y : NlC P K mg C f fd) : FnOk P w K mg base CX0 1 f fd ["self", "line"] (spLineI C) := by
  obtain ⟨T, ⟨dV, kV, doc, pm, an, cda, cc, ct, oc, od, osl, ccl, cdd, vs0, ccs, file, tf, cl, cld, csl, rfl, lk, hcd, lcode, hvs, hfile, lcell⟩, hsub, sup, opq, hm, hB, hno, htop⟩ := Y
  refine ⟨fun vs H Q E h => ?_, fun A outer s H args us vs Q E hr e0 hb r hsp => ?_⟩
  · obtain ⟨a, n, rfl, _⟩ := h
    rfl
  obtain ⟨a, n, rfl, hn, ha, q⟩ := hsp
  obtain ⟨u1, u2, rfl, r1, r2⟩ := vals2 r
  obtain rfl : u1 = Value.ref a := r1
  have kb : ∀ b o, base.get? b = some o → s.heap.get? b = some o := fun b o e => (e0.bs b o e).1
  have KX : K.In s.heap := e0.mod.kin.keeps kb
  have lim : s.heap.NoLimit := e0.mod.nolimit.keeps kb
  obtain ⟨nm, qn, N, bs, bm, sn, sub, ab, col, dd, k0, k1, k2, k3, k5, hC, hbm⟩ := T.cls
  have hcl : PySem.W.clsIn K C = some { name := nm, bases := bs, mro := .ref C :: bm, ns := N, qualname := qn, hasDict := true, slotNames := sn, subclasses := sub, abstract := ab, collection := col, hasDel := false } := by unfold PySem.W.clsIn; rw [hC] <;> rfl
  obtain ⟨t1, ho⟩ := exo_at e0.hok ha
  have hcell : ∀ x ∈ (defScope sNL).names, x.2 ≠ .cell := by decide +kernel
  refine ks_codeAny_call_defAt (fd := PySem.W.ksFn "__init__" "NoLine.__init__" (defArgs sNL) (defBody sNL) (defScope sNL) dV kV doc pm an (.ref cda) ct cc) (body := defBody sNL) (binds := List.zip [("self" : Str), ("line" : Str)] [Value.ref a, u2]) hr.depth (KX _ _ lk) rfl lim (PySem.W.codeRec_of KX hcd) rfl hb hcell (fun x hx => ?_) (fun h₀ hns hk => ?_) rfl rfl rfl
  · have hx' : x = (("self" : Str), Value.ref a) ∨ x = (("line" : Str), u2) := by simpa using hx
    rcases hx' with rfl | rfl <;> rfl
  have I := nl_inv (w := w) (xe := fun e s' => wpAny (model P w) (A.deeper (nlEnv s.heap.objs.size f cda cc)) (leaving (nlEnv s.heap.objs.size f cda cc) e) (fun _ s'' => CR CX0 outer P w H s Q E (.error e) s'') (fun e' s'' => CR CX0 outer P w H s Q E (.error e') s'') s') (f := f) (cda := cda) e0 hr.hd r2 (e0.mod.kin _ _ lcell) rfl hns hk (s.toks + 2)
  have ho0 := hk _ _ ho
  have KX0 : K.In h₀ := KX.keeps hk
  obtain ⟨mb, hb1, hb2⟩ := e0.mod.blt
  refine ks_wpAt_execs_cons (ks_wpAt_Expr_any (ks_wpAt_MethodCall (ks_wpAt_super_base (f := f) (cc := cda) (tf := tf) rfl rfl rfl rfl (KX0 _ _ lk) rfl rfl rfl (KX0 _ _ lcode) rfl hvs hfile htop ?_)))
  refine PySem.W.ks_loadName_global rfl rfl (Calls.loadGlobal_builtin (mb := mb) ((e0.mod.glob.keeps kb).keeps hk) sup ((hb1.keeps kb).keeps hk) ((hb2 "super" (by decide)).trans (by first | rfl | decide +kernel)) ⟨rfl, ?_⟩)
  refine wpAny_loadName_free rfl rfl rfl ⟨_, KX0 _ _ lcell, rfl⟩ ?_
  refine wpAny_loadName_local (v := .ref a) rfl rfl hns rfl ?_
  refine ks_wpAny_isType_cls (KX0 _ _ hC) rfl ⟨rfl, ?_⟩
  refine ks_wpAny_call_super (KX0 _ _ hC) rfl ho0 rfl (fun c e => nomatch e) (PySem.W.looks_mroIn KX0 hsub) (fun h1 e1 k1 => ?_)
  have KX1 : K.In h1 := KX0.keeps k1
  have ho1 := k1 _ _ ho0
  have IA : PySem.W.InstAt h1 a _ C none := ⟨ho1, rfl, rfl, trivial⟩
  have hI : PySem.W.Looks (model P w) h1 (isInstance (.ref a) (.type "ValueError")) true := IA.type.andThen (PySem.W.looks_subIn KX1 hB)
  have hm2 := hm
  unfold PySem.W.ks_superIn at hm2
  rw [hcl] at hm2
  refine PySem.W.kxs_getMethod PySem.W.kxs_ValueError e1 (PySem.W.looks_opaque KX1 opq) (fun A Q E s k q => wpAny_bind ((PySem.W.looks_clsIn KX1 hcl) A _ E s k (wpAny_pure q))) rfl KX1 hm2 hI (PySem.W.ks_ne KX1 IA hcl) rfl ?_
  have k2 : ∀ b o, h₀.get? b = some o → (h1.push (PySem.W.kxs_mw "ValueError.__init__" a)).get? b = some o := fun b o e => Heap.get?_push_of_some _ (k1 b o e)
  have hu : (h1.push (PySem.W.kxs_mw "ValueError.__init__" a)).get? h1.objs.size = some (PySem.W.kxs_mw "ValueError.__init__" a) := Heap.get?_push_at rfl rfl
  obtain ⟨oL, _, _, hL, _⟩ := hns
  have hn1 : H h1.objs.size = none := (I.hok.kept k1).fresh (Nat.le_refl _)
  have I2 := pin_new (p := (h1.objs.size, PySem.W.kxs_mw "ValueError.__init__" a)) (I.kept (h' := h1.push (PySem.W.kxs_mw "ValueError.__init__" a)) (t' := s.toks + 2 + 1) k2) hu hn1
    (Ne.symm (Nat.ne_of_lt (Heap.lt_size (k1 _ _ hL)))) (fun hm => by
      obtain ⟨_, o, e, _⟩ := e0.funs.mem hm
      exact absurd (Heap.lt_size (k1 _ _ (hk _ _ e))) (Nat.lt_irrefl _)) (fun v => nofun)
  have ei : toString ((n : Nat) : Int) = toString (n : Int) := rfl
  have lnum : (Str.ofString (toString ((n : Nat) : Int))).length ≤ 2 := by
    have key : ∀ n : Nat, n < 64 → (Str.ofString (toString ((n : Nat) : Int))).length ≤ 2 := by decide +kernel
    exact key n hn
  have ln : ((n : Nat) : Int).natAbs.log2 < 1920 := by
    have key : ∀ n : Nat, n < 64 → n.log2 < 1920 := by decide +kernel
    rw [Int.natAbs_natCast]
    exact key n hn
  have l5 : (Str.ofString "line ").length = 5 := by decide +kernel
  have l12 : (Str.ofString " has no form").length = 12 := by decide +kernel
  have szl : 100 ≤ sizeLine := by rw [sizeLine_eq]; decide
  refine callWith_mw (u := h1.objs.size) (x := a) (thn ((pa_cons (pe_joined (.cons pe_str (.cons (pe_fmt (pe_var (i := 1) rfl (.inl rfl))) (.cons pe_str .nil)))) pa_nil).run _ _ _ _ _ (fun vs H1 => vs.length = 1 ∧ H1 = H) I2 ?_) fun us s1 got => ?_)
  · refine ⟨_, rfl, ?_, ?_⟩
    · show (Str.empty ++ Str.ofString "line ").length ≤ sizeLine
      rw [strLen_append, l5]
      show 0 + 5 ≤ sizeLine
      omega
    refine ⟨intV n, rfl, .inr ⟨_, rfl, ln, ⟨_, rfl, ?_, ?_⟩⟩⟩
    · show (Str.empty ++ Str.ofString "line " ++ Str.ofString (toString ((n : Nat) : Int))).length ≤ sizeLine
      rw [strLen_append, strLen_append, l5]
      show 0 + 5 + _ ≤ sizeLine
      omega
    refine ⟨_, rfl, ?_, rfl, rfl⟩
    show (Str.empty ++ Str.ofString "line " ++ Str.ofString (toString ((n : Nat) : Int)) ++ Str.ofString " has no form").length ≤ sizeLine
    rw [strLen_append, strLen_append, strLen_append, l5, l12]
    show 0 + 5 + _ + 12 ≤ sizeLine
    omega
  obtain ⟨vs, H1, J, rv, lv, rfl⟩ := got
  have hpin := (J.pin _ (List.mem_append_right _ List.mem_cons_self)).1
  refine ⟨hpin, ?_⟩
  have hus : us.length ≤ sizeLine := by
    rw [← rv.length, lv]
    omega
  obtain ⟨t2, ho2⟩ := exo_at J.hok ha
  obtain ⟨hp3, g3, d3, tk3, os3⟩ := s1
  refine call_mw (J.kIn _ _ hC) ho2 hpin hus (fun h4 t4 k4 hx4 => ?_)
  have J2 := J.write (t' := tk3) (x := a) (e := a) (o := exo a C none) (by rw [ha]; exact True.intro) (.inl rfl) k4 ⟨_, hx4⟩ (exo_ok hx4)
  have eu : upd H1 a (exo a C none) = H1 := by
    funext b
    by_cases hb : b = a
    · rw [hb, upd_same, ha]
    · rw [upd_ne hb]
  rw [eu] at J2
  refine wpAt_of_wpAny (wpAny_mono ((pss_one (ps_ost (pe_var (i := 0) rfl (.inl rfl)) (pe_var (i := 1) rfl (.inl rfl)))).run _ _ _ _ { nx := fun _ H' => Q .non H', rt := Q } J2 ?_) (fun fl s' hs => ?_) fun e s' hs => hs)
  · exact ⟨intV n, rfl, .ref a, rfl, a, C, rfl, T, hno, .inl ⟨ha, fun dx hdx ne => q dx _ hdx ne rfl⟩⟩
  · cases fl with
    | ret u =>
      obtain ⟨v, σ', H', J, rv, q⟩ := hs
      exact ⟨v, H', J.os, J.bare, J.base, J.hok, rv, q⟩
    | next =>
      obtain ⟨σ', H', J, q⟩ := hs
      exact ⟨.non, H', J.os, J.bare, J.base, J.hok, rfl, q⟩
    | brk =>
      obtain ⟨_, _, _, q⟩ := hs
      exact False.elim q
    | cont =>
      obtain ⟨_, _, _, q⟩ := hs
      exact False.elim q
end
end Bk

/-! sorted(x), x a text. -/
namespace Bk
open PySem PySem.Spec PyProof.Rows L2 TL
def charsOf (x : Str) : List Str := (tl x).map fun c => (⟨#[c]⟩ : Str)
theorem chars_are {x : Str} {acc : Array Value} (h : ItemsOf (SignAt x) acc x.cps.size) : StrsAre acc.toList (charsOf x) := by
  obtain ⟨hz, hv⟩ := h
  have lv : acc.toList.length = (tl x).length := by
    rw [Array.length_toList, hz]
    rfl
  have go : ∀ (l : List Nat) (us : List Value), us.length = l.length → (∀ (j : Nat) (v : Value), us[j]? = some v → ∃ (c : Nat) (t : Tok), l[j]? = some c ∧ v = Value.str ⟨#[c]⟩ t) → Vals ((l.map fun c => (⟨#[c]⟩ : Str)).map V.str) us := by
    intro l
    induction l with
    | nil =>
      intro us e _
      have : us = [] := List.length_eq_zero_iff.mp e
      subst this
      exact .nil
    | cons c l ih =>
      intro us e hu
      cases us with
      | nil => cases e
      | cons u us =>
        obtain ⟨c', t, h1, rfl⟩ := hu 0 u rfl
        have e1 : c = c' := by simpa using h1
        subst e1
        exact .cons ⟨t, rfl⟩ (ih us (by simpa using e) fun j v hj => by
          obtain ⟨c'', t', h2, h3⟩ := hu (j + 1) v (by simpa using hj)
          exact ⟨c'', t', by simpa using h2, h3⟩)
  refine strs_of_vals (go (tl x) acc.toList lv fun j v hj => ?_)
  obtain ⟨c, t, h1, h2⟩ := hv j v (by simpa using hj)
  exact ⟨c, t, by simpa [tl] using h1, h2⟩
section
variable {P : Program} {w : World} {A : Around} {E : Value → Shared → Prop} {s : Shared}
theorem sorted_text (hh : A.handled = none) (x : Str) (t : Tok) {Q : Value → Shared → Prop} (h64 : x.length < 64)
    (hQ : ∀ s' p (out : Array Value) (c : Nat) (ys : List Str), (∀ b o, s.heap.get? b = some o → s'.heap.get? b = some o) → s'.gens = s.gens → s'.os = s.os → s.heap.get? p = none → s'.heap.get? p = some (seqObj "list" out c) → StrsAre out.toList ys → ys.Perm (charsOf x) → sortedS ys = true → Q (.ref p) s') :
    wpAny (model P w) A (call (.builtin "sorted") [.str x t]) Q E s := by
  have short : x.cps.size < 64 := h64
  refine Calls.call_function_entry kind_sorted plain_sorted entry_sorted (args_sorted1 _) (show wpAny _ _ (Builtin.«sorted» _) _ _ _ from ?_)
  unfold Builtin.«sorted»
  refine wpAny_bind (m := checkCount "sorted" 1 1 _) (wpAny_pure (wpAny_bind (wpAny_collect_str (A := A.in1) hh x t (fun s1 acc k1 g1 _ o1 items => ?_) (by rw [sizeLine_eq]; omega))))
  have hS := chars_are items
  have lv : acc.toList.length < 64 := by
    rw [Array.length_toList, items.1]
    exact short
  refine wpAny_bind (wpAny_newList ?_ (by rw [sizeLine_eq]; omega))
  have laid : (s1.heap.push (seqObj "list" acc.toList.toArray 0)).get? s1.heap.objs.size = some (seqObj "list" acc.toList.toArray 0) := Heap.get?_push_size _ rfl
  refine wpAny_bind (wpAny_holding (wpAny_call_entry slot_list_sort ⟨_, laid, rfl⟩ entry_list_sort (list_sort_treeK strKind_oneLt laid hS.keysOf (fun v₁ v₂ rest e => keyKind_strs (by rw [← e]; exact hS)) lv fun st' pm so => ⟨_, rfl, ?_⟩) (args_list_sort _)))
  obtain ⟨ys, y1, y2, y3⟩ := sorted_out_str hS pm so
  obtain ⟨c, hc⟩ := sortedHeap_at (vs := acc.toList) (out := (arrOf st').map (·.2)) laid
  refine wpAny_pure ⟨_, rfl, hQ _ s1.heap.objs.size _ c ys (fun b u e => ?_) g1 o1 ?_ hc y1 y2 y3⟩
  · have q := k1 b u e
    have lt := Heap.lt_size q
    refine (sortedHeap_old (Nat.ne_of_lt lt) (Nat.lt_of_lt_of_le lt (by rw [size_push']; exact Nat.le_succ _))).trans ?_
    exact Heap.get?_push_of_some _ q
  · cases e : s.heap.get? s1.heap.objs.size with
    | none => rfl
    | some o => exact absurd (Heap.lt_size (k1 _ _ e)) (Nat.lt_irrefl _)
end
/-- sorted(x): a new list of x's signs, from the least on -/
def rSortTxt : List V → Hp → VK → Prop := fun vs H Q => ∃ x : Str, vs = [.str x] ∧ x.length < 64 ∧ ∀ (ys : List Str) (p : Addr), ys.Perm (charsOf x) → sortedS ys = true → H p = none → Q (.ref p) (upd H p (.lst (ys.map V.str)))
theorem cr_sortTxt {X : Cx} (hc : X.calm = true) : CallR X (.builtin "sorted") rSortTxt := by
  rintro pins s σ H vs us Q I r ⟨x, rfl, h64, q⟩
  obtain ⟨u, rfl, t, rfl⟩ := r.one
  refine sorted_text (I.ok.hd hc) x t h64 fun s' p out c ys k g o hp at_ hS pm so => ?_
  have nH : H p = none := I.hok.gone hp
  have ln : (ys.map V.str).length ≤ sizeLine := by
    rw [List.length_map, pm.length_eq, charsOf, List.length_map, ← len_tl, sizeLine_eq]
    omega
  have J : Inv X pins σ (upd H p (.lst (ys.map V.str))) s' := I.call' (ch := []) o (Un.laidN k hp nH) (I.hok.laidN k nH ⟨ln, out.toList, c, vals_of_strs hS, by simpa using at_⟩) (by rw [g]; exact I.bare) (fun _ z => nomatch z)
  exact ⟨.ref p, _, J, rfl, q ys p pm so nH⟩
end Bk

namespace Bk
open PySem PySem.Spec PyProof.Rows L2
local macro_rules | `(tactic| walk_at "g") => `(tactic| (repeat first | refine ⟨_, rfl, ?_⟩ | refine ⟨cpow, ?_⟩ | refine ⟨wideM, ?_⟩ | refine ⟨_, _, rfl, rfl, ?_⟩ | refine ⟨rfl, ?_⟩))
/-! ### texts -/
def figT (t : Trn) : Str := Txt.join (Str.ofString "") (t.map numT)
def wordT : Jn → Str
  | none => Str.ofString "-"
  | some (n, t) => numT n ++ Str.ofString ":" ++ figT t
def lineT (b : Blk) : Str := Txt.join (Str.ofString " ") (b.map wordT)
def textT (S : Spc) : Str := Txt.join (Str.ofString "\n") (S.map lineT)
theorem fig_len : ∀ n < 4, (numT n).length ≤ 1 := by decide +kernel
theorem sum_le {ys : List Str} {c : Nat} (h : ∀ y ∈ ys, y.length ≤ c) : (ys.map (·.length)).sum ≤ ys.length * c := by
  induction ys with
  | nil => simp
  | cons y r ih =>
    have h1 := h y List.mem_cons_self
    have h2 := ih fun z hz => h z (List.mem_cons_of_mem _ hz)
    rw [List.map_cons, List.sum_cons, List.length_cons, Nat.add_mul, Nat.one_mul]
    omega
theorem join_le {a : Str} {ys : List Str} {c : Nat} (h : ∀ y ∈ ys, y.length ≤ c) : (Txt.join a ys).length ≤ ys.length * c + ys.length * a.length := by
  rw [show Txt.join a ys = Str.join a ys from TL.join_eq a ys]
  have h1 := StrLaws.join_length_le a ys
  have h2 := sum_le h
  omega
theorem fig_le {t : Trn} (hl : t.length = 4) (h : ∀ x ∈ t, x < 4) : (figT t).length ≤ 4 := by
  have h1 : (figT t).length ≤ (t.map numT).length * 1 + (t.map numT).length * (Str.ofString "").length := join_le fun y hy => by
    obtain ⟨x, hx, rfl⟩ := List.mem_map.mp hy
    exact fig_len x (h x hx)
  rw [List.length_map, hl] at h1
  exact h1
theorem word_len {j : Jn} (h : Jb j) : (wordT j).length ≤ 7 := by
  cases j with
  | none => decide +kernel
  | some k =>
    obtain ⟨n, t⟩ := k
    obtain ⟨h1, h2, h3⟩ := h n t rfl
    show (numT n ++ Str.ofString ":" ++ figT t).length ≤ 7
    rw [strLen_append, strLen_append]
    have := num_len n h1
    have := fig_le h2 h3
    have e : (Str.ofString ":").length = 1 := by decide +kernel
    omega
theorem line_len {b : Blk} (h4 : b.length = 4) (h : ∀ j ∈ b, Jb j) : (lineT b).length ≤ 32 := by
  have h1 : (lineT b).length ≤ (b.map wordT).length * 7 + (b.map wordT).length * (Str.ofString " ").length := join_le fun y hy => by
    obtain ⟨j, hj, rfl⟩ := List.mem_map.mp hy
    exact word_len (h j hj)
  rw [List.length_map, h4] at h1
  exact h1
end Bk

namespace Bk
open PySem PySem.Spec PyProof.Rows L2 TL
local macro_rules | `(tactic| walk_at "g") => `(tactic| (repeat first | refine ⟨_, rfl, ?_⟩ | refine ⟨cpow, ?_⟩ | refine ⟨wideM, ?_⟩ | refine ⟨_, _, rfl, rfl, ?_⟩ | refine ⟨rfl, ?_⟩))
def digsS : Str := Str.ofString "0123456789"
def isDig (c : Nat) : Bool := decide (c ∈ tl digsS)
def isNumL : List Nat → Bool
  | [] => false
  | c :: r => (c :: r).all isDig && (decide (c :: r = [48]) || decide (c ≠ 48))
def isNumW (x : Str) : Bool := isNumL (tl x)
section
variable {P : Program} {w : World} {K : PySem.W.Frag} {mg : Str → Option Value} {base : Heap}
abbrev sis_number_word : Stmt := topS 29
abbrev Nis_number_word : List Str := ["word", "sign"]
theorem scis_number_word : FnScope Nis_number_word ["word"] (defScope sis_number_word) := ⟨rfl, rfl, rfl, by decide +kernel, rfl, by decide +kernel, by decide +kernel⟩
def spNumW : Sp := fun vs H Q _ => ∃ x : Str, vs = [.str x] ∧ x.length ≤ 100 ∧ ∀ H', Same H H' → Q (.bl (isNumW x)) H'
theorem okis_number_word {f : Addr} {fd : FuncData} {tF : Tok} (F : Fun K "is_number_word" "is_number_word" sis_number_word f fd) (g_FIGURES : mg "FIGURES" = some (.str digsS tF)) (m_all : mg "all" = none) : FnOk P w K mg base CX0 1 f fd ["word"] spNumW := by
  have r_FIGURES : RelV (V.str digsS) (.str digsS tF) := ⟨_, rfl⟩
  refine F.ok scis_number_word (fun vs H Q E h => ?_) (fun cdv A outer s H vs Q E hr h => ?_)
  · obtain ⟨x, rfl, _⟩ := h
    rfl
  · obtain ⟨x, rfl, hx, q⟩ := h
    have nd := scis_number_word.nd
    refine ⟨_, (pss_cons (ps_if (pw_or (pt_cmpR op_eq (pv 0) pe_str (nomark _)) (pw_or1 (pt_not (pt_val (pe_callB (kAll K rfl rfl) (by rfl) m_all (by decide +kernel) (pa_cons (pe_lc (own := [("sign", 1)]) (g := gName 1) (tt := tYes) rfl nd (pi_str (pv 0)) (blkOk_by (own := [("sign", 1)]) (N := Nis_number_word) (sc := defScope sis_number_word) (by decide +kernel)) (fun _ _ _ _ _ => (pg_name (i := 1) nd rfl (Or.inl rfl))) (fun _ _ _ _ _ => pts_nil) (fun _ _ _ _ _ => (pe_cmpR op_in_sign (pv 1) (pe_glob (by rfl) g_FIGURES r_FIGURES) (by rfl)))) pa_nil)))))).pt (pss_one (ps_ret pe_bl)) pss_nil)
      (pss_one (ps_ret (pe_or (pe_cmpR op_eq (pv 0) pe_str (nomark _)) (pe_one (pe_cmpR op_ne (pe_ix ix_str (pv 0) pe_int (fun _ _ => rfl)) pe_str (nomark _))))))), ?_⟩
    have hl : x.cps.size = (tl x).length := len_tl x
    have hx' : (tl x).length ≤ 100 := by rw [← hl]; exact hx
    have e0 : decide (V.str x = V.str (Str.ofString "")) = (tl x).isEmpty := by
      cases e : tl x with
      | nil =>
        have : x = Str.ofString "" := ext_tl (by rw [e]; decide +kernel)
        rw [this]
        rfl
      | cons c r =>
        refine decide_eq_false fun z => ?_
        injection z with z
        rw [z] at e
        have : tl (Str.ofString "") = [] := by decide +kernel
        rw [this] at e
        cases e
    refine ⟨.str x, rfl, rfl, _, congrArg V.bl e0, ?_⟩
    cases e : tl x with
    | nil =>
      refine iteT (iteT ?_)
      have := q H (Same.refl H)
      rw [show isNumW x = false by unfold isNumW; rw [e]; rfl] at this
      exact this
    | cons c r =>
      refine iteF ?_
      refine ⟨.str x, rfl, x, rfl, fun D nD => ?_⟩
      refine lc_it walk_str (fun i H2 => H2 = upd H D (.lst ((((tl x).take i).map isDig).map V.bl))) rfl (fun _ _ _ _ => trivial) ?_ ?_
      · rintro i v H2 H3 hi rfl ⟨rfl, d, hd, rfl⟩
        have hd' : (tl x)[i]? = some d := by rw [← hd]; exact Array.getElem?_toList
        refine ⟨rfl, .str ⟨#[d]⟩, rfl, d, digsS, rfl, rfl, _, upd_same, small1000 (by rw [List.length_map, List.length_map, List.length_take]; omega), ?_⟩
        rw [upd_upd, List.take_add_one, hd', List.map_append, List.map_append]
        rfl
      · rintro H2 rfl
        rw [hl, List.take_length]
        refine ⟨D, _, rfl, .inl (.inl upd_same), _, rfl, ?_⟩
        have s2 : Same H (upd H D (.lst (((tl x).map isDig).map V.bl))) := same_new nD
        generalize upd H D (.lst (((tl x).map isDig).map V.bl)) = H2 at s2 ⊢
        have ea : ((tl x).map isDig).all id = (c :: r).all isDig := by
          rw [List.all_map, e]
          rfl
        rw [ea]
        have q2 := q H2 s2
        unfold isNumW at q2
        rw [e] at q2
        rw [show isNumL (c :: r) = ((c :: r).all isDig && (decide (c :: r = [48]) || decide (c ≠ 48))) from rfl] at q2
        cases ha : (c :: r).all isDig with
        | false =>
          rw [ha] at q2
          refine iteT ?_
          exact q2
        | true =>
          rw [ha, Bool.true_and] at q2
          refine iteF ?_
          refine ⟨.str x, rfl, rfl, ?_⟩
          have e48 : decide (V.str x = V.str (Str.ofString "0")) = decide (c :: r = [48]) := by
            refine decide_eq_decide.mpr ⟨fun z => ?_, fun z => ?_⟩
            · injection z with z
              rw [← e, z]
              decide +kernel
            · rw [z] at e
              exact congrArg V.str (ext_tl (by rw [e]; decide +kernel))
          rw [e48]
          refine ⟨_, rfl, ?_⟩
          cases h0 : decide (c :: r = [48]) with
          | true =>
            rw [h0] at q2
            exact iteT q2
          | false =>
            rw [h0, Bool.false_or] at q2
            refine iteF ?_
            have hat : atI x.cps.toList 0 = some c := by
              show atI (tl x) 0 = some c
              rw [e]
              exact atI_nat (xs := c :: r) (j := 0) rfl
            refine ⟨.str x, rfl, x, 0, c, rfl, rfl, Nat.le_of_lt (small1000 (by omega)), hat, rfl, ?_⟩
            have e1 : (!decide (V.str ⟨#[c]⟩ = V.str (Str.ofString "0"))) = decide (c ≠ 48) := by
              have e2 : decide (V.str ⟨#[c]⟩ = V.str (Str.ofString "0")) = decide (c = 48) := by
                refine decide_eq_decide.mpr ⟨fun z => ?_, fun z => ?_⟩
                · injection z with z
                  have : tl (⟨#[c]⟩ : Str) = tl (Str.ofString "0") := congrArg tl z
                  rw [show tl (Str.ofString "0") = [48] by decide +kernel] at this
                  exact (List.cons.inj this).1
                · rw [z]
                  exact congrArg V.str (ext_tl (by decide +kernel))
              rw [e2]
              exact decide_not.symm
            rw [e1]
            exact q2
/-! ### is_joining_word -/
def fourS : List Str := [Str.ofString "0", Str.ofString "1", Str.ofString "2", Str.ofString "3"]
def isTurnW (x : Str) : Bool := decide ((charsOf x).Perm fourS)
def isJoinW (x : Str) : Bool := isNumW (Txt.partition x (Str.ofString ":")).1 && isTurnW (Txt.partition x (Str.ofString ":")).2.2
theorem dp_strs {H : Hp} : ∀ ns : List Str, DpAll K H (ns.map V.str) (ns.map PyData.str)
  | [] => .nil
  | n :: ns => .cons (.str n) (dp_strs ns)
theorem strs_lay : ∀ ns : List Str, (∀ n ∈ ns, ∀ c ∈ tl n, c < 1000) → PyData.canLayAll0 (ns.map PyData.str) = true ∧ PyData.depthAll (ns.map PyData.str) ≤ 1
  | [], _ => by simp [PyData.canLayAll0, PyData.depthAll]
  | n :: ns, hn => by
    have h := strs_lay ns fun m hm => hn m (List.mem_cons_of_mem _ hm)
    have h0 : PyData.strOk n = true := by
      show n.cps.all (· < 0x110000) = true
      rw [← Array.all_toList]
      refine List.all_eq_true.mpr fun c hc => decide_eq_true ?_
      have := hn n List.mem_cons_self c hc
      omega
    simp only [List.map_cons, PyData.canLayAll0, PyData.depthAll, PyData.canLay0, PyData.depth, h0, Bool.true_and]
    exact ⟨h.1, by omega⟩
theorem strs_shaped {ns : List Str} (hn : ∀ n ∈ ns, ∀ c ∈ tl n, c < 1000) : SeqAt.shaped (.list (ns.map PyData.str)) = true := by
  have h := strs_lay ns hn
  have h2 : PyData.depth (.list (ns.map PyData.str)) ≤ 64 := by
    simp only [PyData.depth]
    omega
  show (PyData.canLay0 (.list (ns.map PyData.str)) && decide (PyData.depth (.list (ns.map PyData.str)) ≤ 64)) = true
  rw [Bool.and_eq_true]
  exact ⟨by simp only [PyData.canLay0]; exact h.1, decide_eq_true h2⟩
theorem eqv_strs : ∀ xs ys : List Str, PyData.eqvAll (xs.map PyData.str) (ys.map PyData.str) = decide (xs = ys)
  | [], [] => rfl
  | [], y :: ys => rfl
  | x :: xs, [] => rfl
  | x :: xs, y :: ys => by
    simp only [List.map_cons, PyData.eqvAll, PyData.eqv, eqv_strs xs ys]
    by_cases h : x = y
    · subst h
      simp
    · simp [h]
theorem four_sorted : ∀ a ∈ fourS, ∀ b ∈ fourS, ∀ c ∈ fourS, ∀ d ∈ fourS, sortedS [a, b, c, d] = true → [a, b, c, d].Nodup → [a, b, c, d] = fourS := by decide +kernel
theorem four_uniq {ys : List Str} (h : ys.Perm fourS) (so : sortedS ys = true) : ys = fourS := by
  have hl : ys.length = 4 := h.length_eq
  have hn : ys.Nodup := h.symm.nodup (by decide +kernel)
  match ys, hl with
  | [a, b, c, d], _ =>
    exact four_sorted a (h.mem_iff.mp (by simp)) b (h.mem_iff.mp (by simp)) c (h.mem_iff.mp (by simp)) d (h.mem_iff.mp (by simp)) so hn
abbrev sis_joining_word : Stmt := topS 28
abbrev Nis_joining_word : List Str := ["word", "number", "_", "turn"]
theorem scis_joining_word : FnScope Nis_joining_word ["word"] (defScope sis_joining_word) := ⟨rfl, rfl, rfl, by decide +kernel, rfl, by decide +kernel, by decide +kernel⟩
def spJoinW : Sp := fun vs H Q _ => ∃ x : Str, vs = [.str x] ∧ x.length ≤ 60 ∧ (∀ c ∈ tl x, c < 1000) ∧ ∀ H', Same H H' → Q (.bl (isJoinW x)) H'
theorem par_le (S : List Nat) : ∀ (l acc a b : List Nat), par S acc l = some (a, b) → a.length ≤ acc.length + l.length ∧ b.length ≤ l.length
  | [], acc, a, b, h => by cases h
  | c :: r, acc, a, b, h => by
    cases hp : pre S (c :: r) with
    | true =>
      rw [par_hit hp] at h
      injection h with h
      injection h with h1 h2
      subst h1 h2
      rw [List.length_drop]
      exact ⟨by omega, by omega⟩
    | false =>
      rw [par_miss hp] at h
      have := par_le S r (acc ++ [c]) a b h
      rw [List.length_append] at this
      simp only [List.length_cons, List.length_nil] at this ⊢
      omega
theorem par_mem (S : List Nat) : ∀ (l acc a b : List Nat), par S acc l = some (a, b) → ∀ c ∈ b, c ∈ l
  | [], acc, a, b, h => by cases h
  | c :: r, acc, a, b, h => by
    cases hp : pre S (c :: r) with
    | true =>
      rw [par_hit hp] at h
      injection h with h
      injection h with h1 h2
      subst h1 h2
      exact fun d hd => List.mem_of_mem_drop hd
    | false =>
      rw [par_miss hp] at h
      exact fun d hd => List.mem_cons_of_mem _ (par_mem S r (acc ++ [c]) a b h d hd)
theorem part_mem (x y : Str) (hy : tl y ≠ []) : ∀ c ∈ tl (Txt.partition x y).2.2, c ∈ tl x := by
  rw [partition_par x y hy]
  cases h : par (tl y) [] (tl x) with
  | none => exact fun c hc => by cases hc
  | some ab =>
    obtain ⟨a, b⟩ := ab
    exact par_mem _ _ _ _ _ h
theorem part_le (x y : Str) (hy : tl y ≠ []) : (Txt.partition x y).1.length ≤ x.length ∧ (Txt.partition x y).2.2.length ≤ x.length := by
  rw [partition_par x y hy, len_tl x]
  cases h : par (tl y) [] (tl x) with
  | none => exact ⟨Nat.le_of_eq (len_tl x), Nat.zero_le _⟩
  | some ab =>
    obtain ⟨a, b⟩ := ab
    have := par_le _ _ _ _ _ h
    simp only [List.length_nil, Nat.zero_add] at this
    exact this
theorem okis_joining_word {f fN : Addr} {fd fdN : FuncData} (F : Fun K "is_joining_word" "is_joining_word" sis_joining_word f fd) (Fis_number_word : Fun K "is_number_word" "is_number_word" sis_number_word fN fdN) (gis_number_word : mg "is_number_word" = some (.ref fN)) (bis_number_word : Binds K fdN ["word"] [])
    (Gis_number_word : FnOk P w K mg base CX0 1 fN fdN ["word"] spNumW) (m_sorted : mg "sorted" = none) : FnOk P w K mg base CX0 2 f fd ["word"] spJoinW := by
  refine F.ok scis_joining_word (fun vs H Q E h => ?_) (fun cdv A outer s H vs Q E hr h => ?_)
  · obtain ⟨x, rfl, _⟩ := h
    rfl
  · obtain ⟨x, rfl, hx, hc, q⟩ := h
    have nd := scis_joining_word.nd
    refine ⟨_, (pss_cons (ps_asg (pe_partition (pv 0) pe_str) (kPgT K rfl (pg_tup (n := 3) rfl (pgs_cons (pg_name (i := 1) nd rfl (.inl rfl)) (pgs_cons (pg_name (i := 2) nd rfl (.inl rfl)) (pgs_cons (pg_name (i := 3) nd rfl (.inl rfl)) pgs_nil))))))
      (pss_one (ps_ret (pe_and (pe_call Gis_number_word (hr.mono (by first | decide | omega)) (by rfl) gis_number_word Fis_number_word.kp bis_number_word .nil pass0 (pa_cons (pv 1) pa_nil)) (pe_one (pe_cmpR (kEqD K rfl hr.units) (pe_callB (cr_sortTxt rfl) (by rfl) m_sorted (by decide +kernel) (pa_cons (pv 3) pa_nil)) (pe_lst (pa_cons pe_str (pa_cons pe_str (pa_cons pe_str (pa_cons pe_str pa_nil))))) (nomark _))))))), ?_⟩
    obtain ⟨p1, p2⟩ := part_le x (Str.ofString ":") (by decide +kernel)
    refine ⟨.str x, rfl, ⟨x, rfl⟩, x, Str.ofString ":", rfl, rfl, by decide +kernel, Nat.le_of_lt (small1000 (by omega)), fun p np => ?_⟩
    have s1 : Same H (upd H p (.tup [.str (Txt.partition x (Str.ofString ":")).1, .str (Txt.partition x (Str.ofString ":")).2.1, .str (Txt.partition x (Str.ofString ":")).2.2])) := same_new np
    refine ⟨p, _, rfl, .inl (.inl upd_same), rfl, _, _, rfl, _, _, rfl, _, _, rfl, rfl, ?_⟩
    generalize upd H p (.tup [.str (Txt.partition x (Str.ofString ":")).1, .str (Txt.partition x (Str.ofString ":")).2.1, .str (Txt.partition x (Str.ofString ":")).2.2]) = H1 at s1 ⊢
    refine ⟨.str (Txt.partition x (Str.ofString ":")).1, rfl, _, rfl, by omega, fun H2 s2 => ⟨_, rfl, ?_⟩⟩
    have q' := fun H' (z : Same H1 H') => q H' (s1.trans z)
    unfold isJoinW at q'
    cases hN : isNumW (Txt.partition x (Str.ofString ":")).1 with
    | false =>
      rw [hN] at q'
      exact iteF (q' H2 s2)
    | true =>
      rw [hN] at q'
      refine iteT ?_
      refine ⟨.str (Txt.partition x (Str.ofString ":")).2.2, rfl, _, rfl, by omega, fun ys p' pm so np' => ?_⟩
      have s3 : Same H2 (upd H2 p' (.lst (ys.map V.str))) := same_new np'
      have h3 : (upd H2 p' (.lst (ys.map V.str))) p' = some (.lst (ys.map V.str)) := upd_same
      generalize upd H2 p' (.lst (ys.map V.str)) = H3 at s3 h3 ⊢
      refine ⟨by decide, fun L nL => ?_⟩
      have s4 : Same H3 (upd H3 L (.lst (fourS.map V.str))) := same_new nL
      have hys : ∀ n ∈ ys, ∀ c ∈ tl n, c < 1000 := fun n hn c hcn => by
        have := pm.mem_iff.mp hn
        unfold charsOf at this
        obtain ⟨d, hd, rfl⟩ := List.mem_map.mp this
        have e1 : c ∈ [d] := hcn
        rw [List.mem_singleton.mp e1]
        exact hc d (part_mem x (Str.ofString ":") (by decide +kernel) d hd)
      refine ⟨.list (ys.map PyData.str), .list (fourS.map PyData.str), .lst (.inl (.inl (s4 _ _ h3))) (dp_strs ys), .lst (.inl (.inl upd_same)) (dp_strs fourS), strs_shaped hys, strs_shaped (by decide +kernel), ?_⟩
      have ee : PyData.eqv (.list (ys.map PyData.str)) (.list (fourS.map PyData.str)) = isTurnW (Txt.partition x (Str.ofString ":")).2.2 := by
        show PyData.eqvAll _ _ = _
        rw [eqv_strs]
        unfold isTurnW
        refine decide_eq_decide.mpr ⟨fun z => ?_, fun z => four_uniq (pm.trans z) so⟩
        rw [← z]
        exact pm.symm
      rw [ee]
      exact q' _ ((s2.trans s3).trans s4)
end
end Bk

namespace Bk
open PySem PySem.Spec PyProof.Rows L2 TL
local macro_rules | `(tactic| walk_at "g") => `(tactic| (repeat first | refine ⟨_, rfl, ?_⟩ | refine ⟨cpow, ?_⟩ | refine ⟨wideM, ?_⟩ | refine ⟨_, _, rfl, rfl, ?_⟩ | refine ⟨rfl, ?_⟩))
def hasForm (ws : List Str) : Bool := decide (ws.length = 4) && ws.all fun x => decide (V.str x = V.str (Str.ofString "-")) || isJoinW x
/-! ### texts of words -/
theorem joinL_nil : ∀ ps : List (List Nat), joinL [] ps = ps.flatten
  | [] => rfl
  | [p] => by simp [joinL]
  | p :: q :: r => by
    show p ++ ([] ++ joinL [] (q :: r)) = _
    rw [joinL_nil (q :: r)]
    rfl
theorem tl_numT (n : Nat) : tl (numT n) = numL n := tl_num n
theorem tl_fig {t : Trn} (h : ∀ x ∈ t, x < 4) : tl (figT t) = t.map (48 + ·) := by
  unfold figT
  rw [join_eq, tl_join, show tl (Str.ofString "") = [] by decide +kernel, joinL_nil, List.map_map]
  induction t with
  | nil => rfl
  | cons x t ih =>
    rw [List.map_cons, List.flatten_cons, ih fun y hy => h y (List.mem_cons_of_mem _ hy), Function.comp, tl_numT, numL_lt (by have := h x List.mem_cons_self; omega)]
    rfl
theorem numT_inj {m n : Nat} (h : numT m = numT n) : m = n := numL_inj (by rw [← tl_numT, ← tl_numT, h])
theorem tl_word (n : Nat) (t : Trn) : tl (wordT (some (n, t))) = numL n ++ 58 :: tl (figT t) := by
  show tl (numT n ++ Str.ofString ":" ++ figT t) = _
  rw [tl_append, tl_append, tl_numT, show tl (Str.ofString ":") = [58] by decide +kernel, List.append_assoc]
  rfl
theorem word_no (n : Nat) (t : Trn) : decide (V.str (wordT (some (n, t))) = V.str (Str.ofString "-")) = false := by
  refine decide_eq_false fun z => ?_
  injection z with z
  have := congrArg tl z
  rw [tl_word, show tl (Str.ofString "-") = [45] by decide +kernel] at this
  have h58 : 58 ∈ [45] := by
    rw [← this]
    simp
  revert h58
  decide
theorem word_part (n : Nat) (t : Trn) : Txt.partition (wordT (some (n, t))) (Str.ofString ":") = (numT n, Str.ofString ":", figT t) :=
  partition_app (s := 58) (S := []) (by decide +kernel) (by rw [tl_numT]; exact numL_free (by omega))
theorem num_word : ∀ n < 64, isNumW (numT n) = true := by decide +kernel
theorem turn_word : ∀ t ∈ allTurns, isTurnW (figT t) = true := by decide +kernel
/-- the numbers below m -/
def Jt (j : Jn) : Prop := ∀ n t, j = some (n, t) → n < 64 ∧ t ∈ allTurns
theorem Jt.jb {j : Jn} (h : Jt j) : Jb j := fun n t e => ⟨(h n t e).1, (turns4 t (h n t e).2).1, (turns4 t (h n t e).2).2.1⟩
theorem word_form {j : Jn} (h : Jt j) : (decide (V.str (wordT j) = V.str (Str.ofString "-")) || isJoinW (wordT j)) = true := by
  cases j with
  | none => rfl
  | some k =>
    obtain ⟨n, t⟩ := k
    obtain ⟨h1, h2⟩ := h n t rfl
    rw [word_no, Bool.false_or]
    unfold isJoinW
    rw [word_part]
    show (isNumW (numT n) && isTurnW (figT t)) = true
    rw [num_word n h1, turn_word t h2]
    rfl
theorem line_form {b : Blk} (h4 : b.length = 4) (h : ∀ j ∈ b, Jt j) : hasForm (b.map wordT) = true := by
  unfold hasForm
  rw [List.length_map, h4, List.all_map]
  refine List.all_eq_true.mpr fun j hj => ?_
  exact word_form (h j hj)
theorem word_mem {j : Jn} (h : Jb j) : ∀ c ∈ tl (wordT j), c = 45 ∨ (48 ≤ c ∧ c ≤ 58) := by
  cases j with
  | none => decide +kernel
  | some k =>
    obtain ⟨n, t⟩ := k
    obtain ⟨h1, h2, h3⟩ := h n t rfl
    intro c hc
    rw [tl_word] at hc
    rcases List.mem_append.mp hc with z | z
    · refine .inr ⟨?_, ?_⟩
      · by_cases y : 48 ≤ c
        · exact y
        · exact absurd z (numL_free (by omega))
      · by_cases y : c ≤ 57
        · omega
        · exact absurd z (numL_free (by omega))
    · rcases List.mem_cons.mp z with z | z
      · omega
      · rw [tl_fig h3] at z
        obtain ⟨x, hx, rfl⟩ := List.mem_map.mp z
        have := h3 x hx
        show 48 + x = 45 ∨ 48 ≤ 48 + x ∧ 48 + x ≤ 58
        omega
theorem word_free {j : Jn} (h : Jb j) : 32 ∉ tl (wordT j) ∧ 10 ∉ tl (wordT j) := ⟨fun z => by have := word_mem h _ z; omega, fun z => by have := word_mem h _ z; omega⟩
theorem line_split {b : Blk} (h4 : b.length = 4) (h : ∀ j ∈ b, Jb j) : Txt.split (lineT b) (Str.ofString " ") = b.map wordT :=
  split_join (s := 32) (S := []) (by decide +kernel) (by decide +kernel) (by
    intro e
    have := congrArg List.length e
    rw [List.length_map, h4] at this
    cases this) fun p hp => by
      obtain ⟨j, hj, rfl⟩ := List.mem_map.mp hp
      exact (word_free (h j hj)).1
theorem mem_joinL {S : List Nat} {c : Nat} : ∀ {ps : List (List Nat)}, c ∈ joinL S ps → c ∈ S ∨ ∃ p ∈ ps, c ∈ p
  | [], h => by cases h
  | [p], h => .inr ⟨p, List.mem_singleton.mpr rfl, h⟩
  | p :: q :: r, h => by
    rcases List.mem_append.mp (show c ∈ p ++ (S ++ joinL S (q :: r)) from h) with z | z
    · exact .inr ⟨p, List.mem_cons_self, z⟩
    · rcases List.mem_append.mp z with z | z
      · exact .inl z
      · rcases mem_joinL z with z | ⟨p', hp, z⟩
        · exact .inl z
        · exact .inr ⟨p', List.mem_cons_of_mem _ hp, z⟩
theorem tl_join' (y : Str) (ps : List Str) : tl (Txt.join y ps) = joinL (tl y) (ps.map tl) := by rw [join_eq, tl_join]
theorem line_free {b : Blk} (h : ∀ j ∈ b, Jb j) : 10 ∉ tl (lineT b) := by
  intro z
  unfold lineT at z
  rw [tl_join'] at z
  rcases mem_joinL z with z | ⟨p, hp, z⟩
  · revert z
    decide +kernel
  · rw [List.map_map] at hp
    obtain ⟨j, hj, rfl⟩ := List.mem_map.mp hp
    exact (word_free (h j hj)).2 z
theorem text_split {S : Spc} (h : Sb S) (h1 : 1 ≤ S.length) : Txt.split (textT S) (Str.ofString "\n") = S.map lineT :=
  split_join (s := 10) (S := []) (by decide +kernel) (by decide +kernel) (by
    intro e
    have := congrArg List.length e
    rw [List.length_map] at this
    simp only [List.length_nil] at this
    omega) fun p hp => by
      obtain ⟨b, hb, rfl⟩ := List.mem_map.mp hp
      exact line_free (h.2 b hb).2
theorem text_len {S : Spc} (h : Sb S) : (textT S).length ≤ 1400 := by
  have h1 : (textT S).length ≤ (S.map lineT).length * 32 + (S.map lineT).length * (Str.ofString "\n").length := join_le fun y hy => by
    obtain ⟨b, hb, rfl⟩ := List.mem_map.mp hy
    exact line_len (h.2 b hb).1 (h.2 b hb).2
  have e1 : (Str.ofString "\n").length = 1 := by decide +kernel
  have := h.1
  rw [List.length_map, e1] at h1
  omega
theorem Good.jt {S : Spc} (h : Good S) (hl : S.length ≤ 40) : ∀ b ∈ S, ∀ j ∈ b, Jt j := by
  intro b hb j hj n t e
  subst e
  obtain ⟨i, hi⟩ := List.mem_iff_getElem?.mp hb
  obtain ⟨f, hf⟩ := List.mem_iff_getElem?.mp hj
  have g : getJ S i f = some (some (n, t)) := by
    unfold getJ
    rw [hi]
    exact hf
  have := h.lt g
  exact ⟨by omega, (h.both _ _ _ _ g).1⟩
/-- a comprehension of a dict over a range -/
theorem dc_range {lo : Int} {n : Nat} {g : TG} {tt : TT} {tk tv : TE} {vs : List Nat} {σ : L2.St} {H1 : Hp} {D : Addr} {Qd : Hp → Prop} (Pv : Nat → Hp → Prop) (h0 : Pv 0 (upd H1 D (.dK [])))
    (hs : ∀ i H, i < n → Pv i H → g (.int (lo + i)) (wipe σ vs) H fun σ2 H2 => wipe σ2 vs = wipe σ vs ∧ tt σ2 H2 fun b H3 =>
      if b = true then tk σ2 H3 fun y H4 => tv σ2 H4 fun z H5 => ∃ kvs k, y = kV k ∧ H5 D = some (.dK kvs) ∧ kvs.length < sizeLine ∧ Pv (i + 1) (upd H5 D (.dK (putK kvs k z))) else Pv (i + 1) H3) (hd : ∀ H, Pv n H → Qd H) :
    ∃ W : Nat → Nat → Hp → Prop, (∃ m, W 0 m (upd H1 D (.dK []))) ∧ ∀ i m H, W i m H →
      ((Itr lo n).stop i H ∧ Qd H) ∨ ((Itr lo n).go i H ∧ ∃ Nx : Hp → Prop, (∀ H', Nx H' → ∃ m', m' < m ∧ W (i + 1) m' H') ∧ ∀ x H', (Itr lo n).yld i H x H' → g x (wipe σ vs) H' fun σ2 H2 => wipe σ2 vs = wipe σ vs ∧ tt σ2 H2 fun b H3 =>
        if b = true then tk σ2 H3 fun y H4 => tv σ2 H4 fun z H5 => ∃ kvs k, y = kV k ∧ H5 D = some (.dK kvs) ∧ kvs.length < sizeLine ∧ Nx (upd H5 D (.dK (putK kvs k z))) else Nx H3) := by
  refine ⟨fun i m H => m = n - i ∧ i ≤ n ∧ Pv i H, ⟨n, by simp, Nat.zero_le _, h0⟩, ?_⟩
  rintro i m H ⟨rfl, hi, p⟩
  by_cases hlt : i < n
  · refine .inr ⟨hlt, Pv (i + 1), fun H' p' => ⟨n - (i + 1), by omega, rfl, hlt, p'⟩, fun x H' y => ?_⟩
    obtain ⟨e, y⟩ := y
    subst e y
    exact hs i _ hlt p
  · have e : i = n := by omega
    subst e
    exact .inl ⟨Nat.le_refl _, hd H p⟩
section
variable {P : Program} {w : World} {K : PySem.W.Frag} {mg : Str → Option Value} {base : Heap}
/-! ### _has_form -/
abbrev s_has_form : Stmt := topS 27
abbrev N_has_form : List Str := ["words", "word"]
theorem sc_has_form : FnScope N_has_form ["words"] (defScope s_has_form) := ⟨rfl, rfl, rfl, by decide +kernel, rfl, by decide +kernel, by decide +kernel⟩
def spHasForm : Sp := fun vs H Q _ => ∃ (a : Addr) (ws : List Str), vs = [.ref a] ∧ H a = some (.lst (ws.map V.str)) ∧ ws.length ≤ 60 ∧ (∀ x ∈ ws, x.length ≤ 60 ∧ ∀ c ∈ tl x, c < 1000) ∧ ∀ H', Same H H' → Q (.bl (hasForm ws)) H'
theorem ok_has_form {f fJ : Addr} {fd fdJ : FuncData} (F : Fun K "_has_form" "_has_form" s_has_form f fd) (Fis_joining_word : Fun K "is_joining_word" "is_joining_word" sis_joining_word fJ fdJ) (gis_joining_word : mg "is_joining_word" = some (.ref fJ)) (bis_joining_word : Binds K fdJ ["word"] [])
    (Gis_joining_word : FnOk P w K mg base CX0 2 fJ fdJ ["word"] spJoinW) (m_all : mg "all" = none) (m_len : mg "len" = none) : FnOk P w K mg base CX0 3 f fd ["words"] spHasForm := by
  refine F.ok sc_has_form (fun vs H Q E h => ?_) (fun cdv A outer s H vs Q E hr h => ?_)
  · obtain ⟨a, ws, rfl, _⟩ := h
    rfl
  · obtain ⟨a, ws, rfl, ha, hl, hw, q⟩ := h
    have nd := sc_has_form.nd
    refine ⟨_, (pss_one (ps_ret (pe_and (pe_cmpR op_eq (pe_callB (kLen K rfl) (by rfl) m_len (by decide +kernel) (pa_cons (pv 0) pa_nil)) pe_int (nomark _)) (pe_one (pe_callB (kAll K rfl rfl) (by rfl) m_all (by decide +kernel) (pa_cons (pe_lc (own := [("word", 1)]) (g := gName 1) (tt := tYes) rfl nd (kPiL K rfl (pi_list (pv 0))) (blkOk_by (own := [("word", 1)]) (N := N_has_form) (sc := defScope s_has_form) (by decide +kernel)) (fun _ _ _ _ _ => (pg_name (i := 1) nd rfl (Or.inl rfl))) (fun _ _ _ _ _ => pts_nil) (fun _ _ _ _ _ => (pe_or (pe_cmpR op_eq (pv 1) pe_str (nomark _)) (pe_one (pe_call Gis_joining_word (hr.mono (by first | decide | omega)) (by rfl) gis_joining_word Fis_joining_word.kp bis_joining_word .nil pass0 (pa_cons (pv 1) pa_nil)))))) pa_nil)))))), ?_⟩
    have lw : (ws.map V.str).length = ws.length := List.length_map ..
    have el : decide (V.int ((ws.map V.str).length : Int) = V.int 4) = decide (ws.length = 4) := by
      rw [lw, dec_int, Bool.eq_iff_iff]
      simp
      omega
    refine ⟨.ref a, rfl, a, _, rfl, .inl (.inl (.inl ha)), rfl, _, congrArg V.bl el, ?_⟩
    unfold hasForm at q
    cases h4 : decide (ws.length = 4) with
    | false =>
      rw [h4] at q
      exact iteF (q H (Same.refl H))
    | true =>
      rw [h4, Bool.true_and] at q
      refine iteT ?_
      refine ⟨.ref a, rfl, a, rfl, ⟨_, .inl (.inl ha)⟩, fun D nD => ?_⟩
      refine lc_list (xs := ws.map V.str) (fun i H2 => H2 D = some (.lst (((ws.take i).map fun x => decide (V.str x = V.str (Str.ofString "-")) || isJoinW x).map V.bl)) ∧ Same H H2) ⟨upd_same, same_new nD⟩ ?_ ?_ ?_
      · rintro i H2 _ ⟨h2, s2⟩
        exact .inl (.inl (s2 _ _ ha))
      · rintro i v H2 hv ⟨h2, s2⟩
        rw [List.getElem?_map] at hv
        cases hx : ws[i]? with
        | none =>
          rw [hx] at hv
          cases hv
        | some x =>
          rw [hx] at hv
          have ev : V.str x = v := Option.some.inj hv
          subst ev
          obtain ⟨hx1, hx2⟩ := hw x (List.mem_of_getElem? hx)
          have fin : ∀ H3, Same H2 H3 → ∃ acc, H3 D = some (.lst acc) ∧ acc.length < sizeLine ∧ ((upd H3 D (.lst (acc ++ [V.bl (decide (V.str x = V.str (Str.ofString "-")) || isJoinW x)]))) D = some (.lst (((ws.take (i + 1)).map fun x => decide (V.str x = V.str (Str.ofString "-")) || isJoinW x).map V.bl)) ∧ Same H (upd H3 D (.lst (acc ++ [V.bl (decide (V.str x = V.str (Str.ofString "-")) || isJoinW x)])))) := fun H3 s3 => by
            refine ⟨_, s3 _ _ h2, small1000 (by rw [List.length_map, List.length_map, List.length_take]; omega), ?_, same_fill (s2.trans s3) nD⟩
            rw [upd_same, List.take_add_one, hx, List.map_append, List.map_append]
            rfl
          refine ⟨rfl, .str x, rfl, rfl, _, rfl, ?_⟩
          cases hd : decide (V.str x = V.str (Str.ofString "-")) with
          | true =>
            rw [hd, Bool.true_or] at fin
            exact iteT (fin H2 (Same.refl _))
          | false =>
            rw [hd, Bool.false_or] at fin
            refine iteF ?_
            exact ⟨.str x, rfl, x, rfl, hx1, hx2, fin⟩
      · rintro H2 ⟨h2, s2⟩
        rw [lw, List.take_length] at h2
        refine ⟨D, _, rfl, .inl (.inl h2), ?_⟩
        rw [List.all_map]
        exact q H2 s2
/-! ### _joining_told -/
abbrev s_joining_told : Stmt := topS 31
abbrev N_joining_told : List Str := ["word", "numbers", "number", "_", "turn", "figure"]
theorem sc_joining_told : FnScope N_joining_told ["word", "numbers"] (defScope s_joining_told) := ⟨rfl, rfl, rfl, by decide +kernel, rfl, by decide +kernel, by decide +kernel⟩
def Nums (H : Hp) (dd : Addr) (m : Nat) : Prop := ∃ kvs, H dd = some (.dK kvs) ∧ ∀ n < m, valV kvs (.inr (numT n)) = some (intV n)
theorem Nums.same {H H' : Hp} {dd : Addr} {m : Nat} (h : Nums H dd m) (s : Same H H') : Nums H' dd m := by
  obtain ⟨kvs, h1, h2⟩ := h
  exact ⟨kvs, s _ _ h1, h2⟩
def NewD (H H' : Hp) (v : V) (d : PyData) : Prop := ∀ N : Addr → Prop, (∀ a, N a → H a ≠ none) → Dq N H' v d
def spJTold : Sp := fun vs H Q _ => ∃ (j : Jn) (dd : Addr) (m : Nat), vs = [.str (wordT j), .ref dd] ∧ Nums H dd m ∧ Jb j ∧ (∀ n t, j = some (n, t) → n < m) ∧ ∀ H' v d, Same H H' → NewD H H' v d → norm d = nJ j → Q v H'
theorem ok_joining_told {f : Addr} {fd : FuncData} (F : Fun K "_joining_told" "_joining_told" s_joining_told f fd) (m_int : mg "int" = none) : FnOk P w K mg base CX0 1 f fd ["word", "numbers"] spJTold := by
  refine F.ok sc_joining_told (fun vs H Q E h => ?_) (fun cdv A outer s H vs Q E hr h => ?_)
  · obtain ⟨j, dd, m, rfl, _⟩ := h
    rfl
  · obtain ⟨j, dd, m, rfl, hN, hb, hm, q⟩ := h
    have nd := sc_joining_told.nd
    refine ⟨_, (pss_cons (ps_if (pt_cmpR op_eq (pv 0) pe_str (nomark _)) (pss_one (ps_ret pe_non)) pss_nil)
      (pss_cons (ps_asg (pe_partition (pv 0) pe_str) (kPgT K rfl (pg_tup (n := 3) rfl (pgs_cons (pg_name (i := 2) nd rfl (.inl rfl)) (pgs_cons (pg_name (i := 3) nd rfl (.inl rfl)) (pgs_cons (pg_name (i := 4) nd rfl (.inl rfl)) pgs_nil))))))
      (pss_one (ps_ret (pe_tupF (pa_cons (pe_dget1 (hu_of hr) (pv 1) (pv 2) ⟨by rfl, by rfl, by rfl, by rfl⟩) (pa_cons (pe_lc (own := [("figure", 5)]) (g := gName 5) (tt := tYes) rfl nd (pi_str (pv 4)) (blkOk_by (own := [("figure", 5)]) (N := N_joining_told) (sc := defScope s_joining_told) (by decide +kernel)) (fun _ _ _ _ _ => (pg_name (i := 5) nd rfl (Or.inl rfl))) (fun _ _ _ _ _ => pts_nil) (fun _ _ _ _ _ => (pe_callTy call_int_str (by rfl) m_int (by decide +kernel) (pa_cons (pv 5) pa_nil)))) pa_nil))))))), ?_⟩
    have wl := word_len hb
    refine ⟨.str (wordT j), rfl, rfl, ?_⟩
    cases j with
    | none =>
      refine ⟨true, rfl, iteT ?_⟩
      exact q H .non .none (Same.refl H) (fun _ _ => .non) rfl
    | some k =>
      obtain ⟨n, t⟩ := k
      obtain ⟨h1, h2, h3⟩ := hb n t rfl
      refine ⟨_, congrArg V.bl (word_no n t), iteF ?_⟩
      refine ⟨.str (wordT (some (n, t))), rfl, ⟨_, rfl⟩, wordT (some (n, t)), Str.ofString ":", rfl, rfl, by decide +kernel, Nat.le_of_lt (small1000 (by omega)), fun p np => ?_⟩
      rw [word_part]
      refine ⟨p, _, rfl, .inl (.inl upd_same), rfl, _, _, rfl, _, _, rfl, _, _, rfl, rfl, ?_⟩
      have s1 : Same H (upd H p (.tup [.str (numT n), .str (Str.ofString ":"), .str (figT t)])) := same_new np
      show _
      generalize upd H p (.tup [.str (numT n), .str (Str.ofString ":"), .str (figT t)]) = H1 at s1 ⊢
      obtain ⟨kvs, hk, hv⟩ := hN.same s1
      refine ⟨.ref dd, rfl, dd, rfl, .inl ⟨kvs, .inl hk⟩, .str (numT n), rfl, some (intV n), ?_, ?_⟩
      · have := DGet.k (k := .inr (numT n)) hk
        rw [hv n (hm n t rfl)] at this
        exact this
      refine ⟨.str (figT t), rfl, figT t, rfl, fun D nD => ?_⟩
      have tf := tl_fig h3
      have lf : (figT t).cps.size = t.length := by
        have := len_tl (figT t)
        rw [tf, List.length_map] at this
        exact this
      refine lc_it walk_str (fun i H2 => H2 = upd H1 D (.lst ((t.take i).map intV))) rfl (fun _ _ _ _ => trivial) ?_ ?_
      · rintro i v H2 H3 hi rfl ⟨rfl, c, hc, rfl⟩
        have hc' : (tl (figT t))[i]? = some c := by rw [← hc]; exact Array.getElem?_toList
        rw [tf, List.getElem?_map] at hc'
        cases hx : t[i]? with
        | none =>
          rw [hx] at hc'
          cases hc'
        | some x =>
          rw [hx] at hc'
          have ec : 48 + x = c := Option.some.inj hc'
          subst ec
          have hx4 := h3 x (List.mem_of_getElem? hx)
          have es : (⟨#[48 + x]⟩ : Str) = numT x := ext_tl (by
            rw [tl_numT, numL_lt (by omega)])
          rw [es]
          refine ⟨rfl, .str (numT x), rfl, numT x, (x : Int), rfl, int_num (by rw [numL_lt (by omega)]; show 1 ≤ 4300; decide), by have := num_len x (by omega); omega, _, upd_same, small1000 (by rw [List.length_map, List.length_take]; omega), ?_⟩
          rw [upd_upd, List.take_add_one, hx, List.map_append]
          rfl
      · rintro H2 rfl
        rw [lf, List.take_length]
        refine ⟨(show 2 ≤ sizeLine by decide), fun p2 o2 np2 dn => ?_⟩
        have s2 : Same H1 (upd H1 D (.lst (t.map intV))) := same_new nD
        have h2' : (upd H1 D (.lst (t.map intV))) D = some (.lst (t.map intV)) := upd_same
        generalize upd H1 D (.lst (t.map intV)) = H2 at s2 h2' np2 ⊢
        have s3 : Same H2 (upd H2 p2 (.frz o2 (.tup [intV n, .ref D]))) := same_new np2
        have f3 : FT (upd H2 p2 (.frz o2 (.tup [intV n, .ref D]))) p2 [intV n, .ref D] := FT.new dn
        refine q _ _ (.tuple [intD n, .list (t.map intD)]) ((s1.trans s2).trans s3) (fun N hN' => .tup f3 (.cons (.int _) (.cons (.lst (s3 _ _ h2') (fun z => hN' D z ?_) (dqs_ints t)) .nil))) ?_
        · cases e : H D with
          | none => rfl
          | some o =>
            have := s1 _ _ e
            rw [nD] at this
            cases this
        · rw [nJ_some]
          simp only [norm, norms, norm_ints, intD]
end
end Bk

namespace Bk
open PySem PySem.Spec PyProof.Rows L2 TL
local macro_rules | `(tactic| walk_at "g") => `(tactic| (repeat first | refine ⟨_, rfl, ?_⟩ | refine ⟨cpow, ?_⟩ | refine ⟨wideM, ?_⟩ | refine ⟨_, _, rfl, rfl, ?_⟩ | refine ⟨rfl, ?_⟩))
theorem upd_eq {H : Hp} {a : Addr} {o : HO} (h : H a = some o) : upd H a o = H := by
  funext b
  by_cases e : b = a
  · subst e
    rw [upd_same, h]
  · rw [upd_ne e]
theorem kPiE {X : Cx} (K : PySem.W.Frag) {tg l : Expr} {ta : TA} (h : X.K = K) (x : PI X tg l (iEnum X.K ta)) : PI X tg l (iEnum K ta) := h ▸ x
theorem new_none {H H' : Hp} {D : Addr} (s : Same H H') (n : H' D = none) : H D = none := by
  cases e : H D with
  | none => rfl
  | some o =>
    have := s _ _ e
    rw [n] at this
    cases this
/-- stored in a new list -/
theorem Dq.fillN {N N' : Addr → Prop} {H : Hp} {D : Addr} {o : HO} {v : V} {d : PyData} (h : Dq N H v d) (n : ∀ a, N' a → N a) (hD : N D) {u : List V} (e : H D = some (.lst u)) : Dq N' (upd H D o) v d :=
  h.mono (tups_set e) n fun a xs ha hn => by
    rw [upd_ne (fun z => hn (by rw [z]; exact hD))]
    exact ha
theorem Dqs.fillN {N N' : Addr → Prop} {H : Hp} {D : Addr} {o : HO} (n : ∀ a, N' a → N a) (hD : N D) {u : List V} (e : H D = some (.lst u)) : ∀ {vs : List V} {ds : List PyData}, Dqs N H vs ds → Dqs N' (upd H D o) vs ds
  | _, _, .nil => .nil
  | _, _, .cons h t => .cons (h.fillN n hD e) (Dqs.fillN n hD e t)
theorem Dqs.snocN {N : Addr → Prop} {H : Hp} {v : V} {d : PyData} (h : Dq N H v d) : ∀ {vs : List V} {ds : List PyData}, Dqs N H vs ds → Dqs N H (vs ++ [v]) (ds ++ [d])
  | _, _, .nil => .cons h .nil
  | _, _, .cons h1 t => .cons h1 (Dqs.snocN h t)
theorem Dqs.sameN {N : Addr → Prop} {H H' : Hp} (s : Same H H') : ∀ {vs : List V} {ds : List PyData}, Dqs N H vs ds → Dqs N H' vs ds
  | _, _, .nil => .nil
  | _, _, .cons h t => .cons (h.same s) (Dqs.sameN s t)
theorem norms_snoc {ds : List PyData} {d e : PyData} {es : List PyData} (h : norms ds = es) (he : norm d = e) : norms (ds ++ [d]) = es ++ [e] := by
  rw [norms_map, List.map_append, ← norms_map, h]
  show es ++ [norm d] = _
  rw [he]
section
variable {P : Program} {w : World} {K : PySem.W.Frag} {mg : Str → Option Value} {base : Heap}
/-! ### _block_told -/
abbrev s_block_told : Stmt := topS 30
abbrev N_block_told : List Str := ["words", "numbers", "word"]
theorem sc_block_told : FnScope N_block_told ["words", "numbers"] (defScope s_block_told) := ⟨rfl, rfl, rfl, by decide +kernel, rfl, by decide +kernel, by decide +kernel⟩
def spBTold : Sp := fun vs H Q _ => ∃ (a dd : Addr) (b : Blk) (m : Nat), vs = [.ref a, .ref dd] ∧ H a = some (.lst ((b.map wordT).map V.str)) ∧ Nums H dd m ∧ b.length = 4 ∧ (∀ j ∈ b, Jb j ∧ ∀ n t, j = some (n, t) → n < m) ∧ ∀ H' v d, Same H H' → NewD H H' v d → norm d = nB b → Q v H'
theorem ok_block_told {f fJ : Addr} {fd fdJ : FuncData} (F : Fun K "_block_told" "_block_told" s_block_told f fd) (F_joining_told : Fun K "_joining_told" "_joining_told" s_joining_told fJ fdJ) (g_joining_told : mg "_joining_told" = some (.ref fJ)) (b_joining_told : Binds K fdJ ["word", "numbers"] [])
    (G_joining_told : FnOk P w K mg base CX0 1 fJ fdJ ["word", "numbers"] spJTold) : FnOk P w K mg base CX0 2 f fd ["words", "numbers"] spBTold := by
  refine F.ok sc_block_told (fun vs H Q E h => ?_) (fun cdv A outer s H vs Q E hr h => ?_)
  · obtain ⟨a, dd, b, m, rfl, _⟩ := h
    rfl
  · obtain ⟨a, dd, b, m, rfl, ha, hN, h4, hb, q⟩ := h
    have nd := sc_block_told.nd
    refine ⟨_, (pss_one (ps_ret (pe_lc (own := [("word", 2)]) (g := gName 2) (tt := tYes) rfl nd (kPiL K rfl (pi_list (pv 0))) (blkOk_by (own := [("word", 2)]) (N := N_block_told) (sc := defScope s_block_told) (by decide +kernel)) (fun _ _ _ _ _ => (pg_name (i := 2) nd rfl (Or.inl rfl))) (fun _ _ _ _ _ => pts_nil) (fun _ _ _ _ _ => (pe_call G_joining_told (hr.mono (by first | decide | omega)) (by rfl) g_joining_told F_joining_told.kp b_joining_told .nil pass0 (pa_cons (pv 2) (pa_cons (pv 1) pa_nil))))))), ?_⟩
    have lw : ((b.map wordT).map V.str).length = b.length := by rw [List.length_map, List.length_map]
    refine ⟨.ref a, rfl, a, rfl, ⟨_, .inl (.inl ha)⟩, fun D nD => ?_⟩
    refine lc_list (xs := (b.map wordT).map V.str) (fun i H2 => ∃ vs ds, H2 D = some (.lst vs) ∧ vs.length = i ∧ i ≤ 4 ∧ norms ds = (b.take i).map nJ ∧ (∀ N : Addr → Prop, (∀ a, N a → H a ≠ none) → Dqs (fun a => a = D ∨ N a) H2 vs ds) ∧ Same H H2) ⟨[], [], upd_same, rfl, by decide, rfl, fun _ _ => .nil, same_new nD⟩ ?_ ?_ ?_
    · rintro i H2 _ ⟨vs, ds, h2, l2, i4, n2, d2, s2⟩
      exact .inl (.inl (s2 _ _ ha))
    · rintro i v H2 hv ⟨vs, ds, h2, l2, i4, n2, d2, s2⟩
      rw [List.getElem?_map, List.getElem?_map] at hv
      cases hx : b[i]? with
      | none =>
        rw [hx] at hv
        cases hv
      | some j =>
        rw [hx] at hv
        have ev : V.str (wordT j) = v := Option.some.inj hv
        subst ev
        obtain ⟨hj1, hj2⟩ := hb j (List.mem_of_getElem? hx)
        have hi : i < 4 := by
          have := (List.getElem?_eq_some_iff.mp hx).1
          omega
        refine ⟨rfl, .str (wordT j), rfl, .ref dd, rfl, j, dd, m, rfl, hN.same s2, hj1, hj2, fun H3 v3 d3 s3 n3 e3 => ?_⟩
        have h3 := s3 _ _ h2
        refine ⟨vs, h3, small1000 (by omega), vs ++ [v3], ds ++ [d3], upd_same, by rw [List.length_append, l2]; rfl, hi, ?_, fun N hN' => ?_, same_fill (s2.trans s3) nD⟩
        · rw [List.take_add_one, hx, List.map_append]
          exact norms_snoc n2 e3
        · have c1 := (d2 N hN').sameN s3
          have c2 := n3 (fun a => a = D ∨ N a) fun a ha' => by
            rcases ha' with rfl | ha'
            · rw [h2]
              exact fun z => by cases z
            · cases e : H a with
              | none => exact absurd e (hN' a ha')
              | some o => rw [s2 _ _ e]; exact fun z => by cases z
          exact Dqs.fillN (fun _ z => z) (.inl rfl) h3 (Dqs.snocN c2 c1)
    · rintro H2 ⟨vs, ds, h2, l2, i4, n2, d2, s2⟩
      rw [lw, List.take_length] at n2
      refine q H2 (.ref D) (.list ds) s2 (fun N hN' => .lst h2 (fun z => hN' D z nD) ?_) ?_
      · have := d2 N hN'
        have e := Dqs.fillN (o := .lst vs) (fun a z => .inr z) (.inl rfl) h2 this (N' := N)
        rwa [upd_eq h2] at e
      · simp only [norm, n2, nB]
/-! ### read_space -/
def WAt (D : Addr) (H : Hp) (v : V) (b : Blk) : Prop := ∃ p, v = .ref p ∧ p ≠ D ∧ H p = some (.lst ((b.map wordT).map V.str))
theorem WAt.same {D : Addr} {H H' : Hp} {v : V} {b : Blk} (h : WAt D H v b) (s : Same H H') : WAt D H' v b := by
  obtain ⟨p, e, n, hp⟩ := h
  exact ⟨p, e, n, s _ _ hp⟩
theorem WAt.fill {D : Addr} {H : Hp} {o : HO} {v : V} {b : Blk} (h : WAt D H v b) : WAt D (upd H D o) v b := by
  obtain ⟨p, e, n, hp⟩ := h
  exact ⟨p, e, n, by rw [upd_ne n]; exact hp⟩
theorem valV_put {kvs : List (Key × V)} {k : Key} {v : V} (h : valV kvs k = none) (j : Key) : valV (putK kvs k v) j = if j = k then some v else valV kvs j := by
  unfold putK
  rw [valV_any, h]
  exact valV_snoc k j v kvs h
theorem putK_new {kvs : List (Key × V)} {k : Key} {v : V} (h : valV kvs k = none) : putK kvs k v = kvs ++ [(k, v)] := by
  unfold putK
  rw [valV_any, h]
  rfl
abbrev sread_space : Stmt := topS 26
abbrev Nread_space : List Str := ["text", "rows", "at", "words", "numbers", "line", "block", "row"]
theorem scread_space : FnScope Nread_space ["text"] (defScope sread_space) := ⟨rfl, rfl, rfl, by decide +kernel, rfl, by decide +kernel, by decide +kernel⟩
def spRead : Sp := fun vs H Q _ => ∃ (S : Spc), vs = [.str (textT S)] ∧ Good S ∧ 1 ≤ S.length ∧ S.length ≤ 40 ∧ ∀ H' v, Same H H' → ST H' v S → Q v H'
theorem okread_space {f fF fB fX : Addr} {fd fdF fdB fdX : FuncData} (F : Fun K "read_space" "read_space" sread_space f fd) (F_has_form : Fun K "_has_form" "_has_form" s_has_form fF fdF) (g_has_form : mg "_has_form" = some (.ref fF)) (b_has_form : Binds K fdF ["words"] []) (G_has_form : FnOk P w K mg base CX0 3 fF fdF ["words"] spHasForm)
    (F_block_told : Fun K "_block_told" "_block_told" s_block_told fB fdB) (g_block_told : mg "_block_told" = some (.ref fB)) (b_block_told : Binds K fdB ["words", "numbers"] []) (G_block_told : FnOk P w K mg base CX0 2 fB fdB ["words", "numbers"] spBTold)
    (Fspace_of : Fun K "space_of" "space_of" sspace_of fX fdX) (gspace_of : mg "space_of" = some (.ref fX)) (bspace_of : Binds K fdX ["blocks"] []) (Gspace_of : FnOk P w K mg base CX0 6 fX fdX ["blocks"] spSpace)
    (m_enumerate : mg "enumerate" = none) (m_str : mg "str" = none) (m_range : mg "range" = none) (m_len : mg "len" = none) : FnOk P w K mg base CX0 7 f fd ["text"] spRead := by
  refine F.ok scread_space (fun vs H Q E h => ?_) (fun cdv A outer s H vs Q E hr h => ?_)
  · obtain ⟨S, rfl, _⟩ := h
    rfl
  · obtain ⟨S, rfl, hG, hS1, hS2, q⟩ := h
    have nd := scread_space.nd
    refine ⟨_, (pss_cons (ps_setLc (i := 1) (own := [("line", 5)]) (g := gName 5) (tt := tYes) rfl nd rfl rfl (sw_true rfl rfl rfl (by decide +kernel)) (kPiL K rfl (pi_list (pe_split (pv 0) pe_str))) (blkOk_by (own := [("line", 5)]) (N := Nread_space) (sc := defScope sread_space) (by decide +kernel)) (fun _ _ _ _ _ => (pg_name (i := 5) nd rfl (Or.inl rfl))) (fun _ _ _ _ _ => pts_nil) (fun _ _ _ _ _ => (pe_split (pv 5) pe_str)))
      (pss_cons (ps_for PassesOwn.never rfl (kPiE K rfl (pi_enum (by rfl) m_enumerate (pa_cons (pv 1) pa_nil))) (kPgT K rfl (pg_tup (n := 2) rfl (pgs_cons (pg_name (i := 2) nd rfl (.inl rfl)) (pgs_cons (pg_name (i := 3) nd rfl (.inl rfl)) pgs_nil)))) (pss_one (ps_if (pt_not (pt_val (pe_call G_has_form (hr.mono (by first | decide | omega)) (by rfl) g_has_form F_has_form.kp b_has_form .nil pass0 (pa_cons (pv 3) pa_nil)))) (pss_one ps_never) pss_nil)))
      (pss_cons (ps_set (i := 4) nd rfl (.inr rfl) (pe_dc (own := [("block", 6)]) (g := gName 6) (tt := tYes) rfl nd (pi_range1 (by rfl) m_range (pa_cons (pe_callB (kLen K rfl) (by rfl) m_len (by decide +kernel) (pa_cons (pv 1) pa_nil)) pa_nil)) (blkOk_by (own := [("block", 6)]) (N := Nread_space) (sc := defScope sread_space) (by decide +kernel)) (fun _ _ _ _ _ => (pg_name (i := 6) nd rfl (Or.inl rfl))) (fun _ _ _ _ _ => pts_nil) (fun _ _ _ _ _ => (pe_callTy call_str_int (by rfl) m_str (by decide +kernel) (pa_cons (pv 6) pa_nil))) (fun _ _ _ _ _ => (pv 6))))
      (pss_one (ps_ret (pe_call Gspace_of (hr.mono (by first | decide | omega)) (by rfl) gspace_of Fspace_of.kp bspace_of .nil pass0 (pa_cons (pe_lc (own := [("row", 7)]) (g := gName 7) (tt := tYes) rfl nd (kPiL K rfl (pi_list (pv 1))) (blkOk_by (own := [("row", 7)]) (N := Nread_space) (sc := defScope sread_space) (by decide +kernel)) (fun _ _ _ _ _ => (pg_name (i := 7) nd rfl (Or.inl rfl))) (fun _ _ _ _ _ => pts_nil) (fun _ _ _ _ _ => (pe_call G_block_told (hr.mono (by first | decide | omega)) (by rfl) g_block_told F_block_told.kp b_block_told .nil pass0 (pa_cons (pv 7) (pa_cons (pv 4) pa_nil))))) pa_nil))))))), ?_⟩
    have hb := hG.sb hS2
    have hj := hG.jt hS2
    have tl' := text_len hb
    refine ⟨.str (textT S), rfl, ⟨_, rfl⟩, textT S, Str.ofString "\n", rfl, rfl, by decide +kernel, by rw [sizeLine_eq]; omega, fun p0 np0 => ?_⟩
    rw [text_split hb hS1]
    have s0 : Same H (upd H p0 (.lst ((S.map lineT).map V.str))) := same_new np0
    have h0 : (upd H p0 (.lst ((S.map lineT).map V.str))) p0 = some (.lst ((S.map lineT).map V.str)) := upd_same
    generalize upd H p0 (.lst ((S.map lineT).map V.str)) = H0 at s0 h0 ⊢
    have lS : ((S.map lineT).map V.str).length = S.length := by rw [List.length_map, List.length_map]
    refine ⟨p0, rfl, ⟨_, .inl (.inl h0)⟩, fun D nD => ?_⟩
    refine lc_list (xs := (S.map lineT).map V.str) (fun i H2 => ∃ ws, H2 D = some (.lst ws) ∧ Paired (WAt D H2) ws (S.take i) ∧ Same H0 H2) ⟨[], upd_same, .nil, same_new nD⟩ ?_ ?_ ?_
    · rintro i H2 _ ⟨ws, h2, w2, s2⟩
      exact .inl (.inl (s2 _ _ h0))
    · rintro i v H2 hv ⟨ws, h2, w2, s2⟩
      rw [List.getElem?_map, List.getElem?_map] at hv
      cases hx : S[i]? with
      | none =>
        rw [hx] at hv
        cases hv
      | some b =>
        rw [hx] at hv
        have ev : V.str (lineT b) = v := Option.some.inj hv
        subst ev
        obtain ⟨hb4, hbj⟩ := hb.2 b (List.mem_of_getElem? hx)
        have hi : i < S.length := (List.getElem?_eq_some_iff.mp hx).1
        have ll := line_len hb4 hbj
        refine ⟨rfl, .str (lineT b), rfl, ⟨_, rfl⟩, lineT b, Str.ofString " ", rfl, rfl, by decide +kernel, by rw [sizeLine_eq]; omega, fun p1 np1 => ?_⟩
        rw [line_split hb4 hbj]
        have s3 : Same H2 (upd H2 p1 (.lst ((b.map wordT).map V.str))) := same_new np1
        have h3 := s3 _ _ h2
        have hp : (upd H2 p1 (.lst ((b.map wordT).map V.str))) p1 = some (.lst ((b.map wordT).map V.str)) := upd_same
        generalize upd H2 p1 (.lst ((b.map wordT).map V.str)) = H3 at s3 h3 hp ⊢
        have ne1 : p1 ≠ D := fun z => by rw [z, h2] at np1; cases np1
        refine ⟨ws, h3, small1000 (by rw [plen w2, List.length_take]; omega), ws ++ [.ref p1], upd_same, ?_, same_fill (s2.trans s3) nD⟩
        rw [List.take_add_one, hx]
        exact papp (pmono w2 fun _ _ z => (z.same s3).fill) (.cons ⟨p1, rfl, ne1, by rw [upd_ne ne1]; exact hp⟩ .nil)
    · rintro H2 ⟨ws, h2, w2, s2⟩
      rw [lS, List.take_length] at w2
      have s02 := s0.trans s2
      have lws : ws.length = S.length := plen w2
      refine ⟨.ref D, rfl, D, ws, rfl, .inl (.inl h2), ?_⟩
      refine for_it (walk_enum (xs := ws)) (fun i σ H3 => ∃ y2 y3 y4, σ = [some (.str (textT S)), some (.ref D), y2, y3, y4, none, none, none] ∧ Same H2 H3) ⟨none, none, none, rfl, Same.refl _⟩ ?_ ?_ ?_
      · rintro i σ H3 _ ⟨y2, y3, y4, rfl, s3⟩
        exact .inl (.inl (s3 _ _ h2))
      · rintro i v σ H3 H4 hi ⟨y2, y3, y4, rfl, s3⟩ ⟨T, x, y, rfl, nT, rfl, hx, hy⟩
        cases hx
        obtain ⟨b, hbi, wb⟩ := pget' w2 hy
        obtain ⟨hb4, hbj⟩ := hb.2 b (List.mem_of_getElem? hbi)
        have s4 : Same H3 (upd H3 T (.tup [.int (i : Nat), y])) := same_new nT
        refine ⟨T, [.int (i : Nat), y], rfl, .inl (.inl upd_same), rfl, .int (i : Nat), [y], rfl, y, [], rfl, rfl, ?_⟩
        generalize upd H3 T (.tup [.int (i : Nat), y]) = H4 at s4 ⊢
        obtain ⟨p, rfl, _, hp⟩ := wb.same (s3.trans s4)
        refine ⟨.ref p, rfl, p, b.map wordT, rfl, hp, by rw [List.length_map]; omega, fun x hx => ?_, fun H5 s5 => ?_⟩
        · obtain ⟨j, hjb, rfl⟩ := List.mem_map.mp hx
          have := word_len (hbj j hjb)
          exact ⟨by omega, fun c hc => by have := word_mem (hbj j hjb) c hc; omega⟩
        · rw [line_form hb4 (hj b (List.mem_of_getElem? hbi))]
          refine ⟨_, rfl, iteF ?_⟩
          exact ⟨_, _, _, rfl, (s3.trans s4).trans s5⟩
      · rintro σ H3 ⟨y2, y3, y4, rfl, s3⟩
        have h3 := s3 _ _ h2
        refine ⟨.ref D, rfl, D, ws, rfl, .inl (.inl (.inl h3)), _, rfl, by rw [lws]; omega, by rw [lws]; omega, ?_⟩
        rw [lws, Int.toNat_natCast]
        intro DD nDD
        refine dc_range (lo := 0) (n := S.length) (fun i H4 => ∃ kvs : List (Key × V), H4 = upd H3 DD (.dK kvs) ∧ kvs.length = i ∧ ∀ n, valV kvs (.inr (numT n)) = if n < i then some (intV n) else none) ⟨[], rfl, rfl, fun n => rfl⟩ ?_ ?_
        · rintro i H4 hi ⟨kvs, rfl, lk, hv⟩
          rw [Int.zero_add]
          have hn : valV kvs (.inr (numT i)) = none := by
            rw [hv i, if_neg (by omega)]
          refine ⟨rfl, intV i, rfl, (i : Int), rfl, num_log (by omega), intV i, rfl, kvs, .inr (numT i), rfl, upd_same, small1000 (by omega), putK kvs (.inr (numT i)) (intV i), by rw [upd_upd], ?_, fun n => ?_⟩
          · rw [putK_new hn, List.length_append, lk]
            rfl
          · rw [valV_put hn]
            by_cases e : n = i
            · subst e
              rw [if_pos rfl, if_pos (by omega)]
            · rw [if_neg (fun z => e (numT_inj (Sum.inr.inj z))), hv n]
              by_cases l : n < i
              · rw [if_pos l, if_pos (by omega)]
              · rw [if_neg l, if_neg (by omega)]
        · rintro H4 ⟨kvs, e4, lk, hv⟩
          have s4 : Same H3 H4 := by
            rw [e4]
            exact same_new nDD
          have hN : Nums H4 DD S.length := ⟨kvs, by rw [e4]; exact upd_same, fun n hn => by rw [hv n, if_pos hn]⟩
          clear e4
          have h4 := s4 _ _ h3
          refine ⟨.ref D, rfl, D, rfl, ⟨_, .inl (.inl h4)⟩, fun L nL => ?_⟩
          refine lc_list (xs := ws) (fun i H5 => ∃ vs ds, H5 L = some (.lst vs) ∧ vs.length = i ∧ norms ds = (S.take i).map nB ∧ Dqs (fun a => a = L) H5 vs ds ∧ Same H4 H5) ⟨[], [], upd_same, rfl, rfl, .nil, same_new nL⟩ ?_ ?_ ?_
          · rintro i H5 _ ⟨vs, ds, h5, l5, n5, d5, s5⟩
            exact .inl (.inl (s5 _ _ h4))
          · rintro i v H5 hv5 ⟨vs, ds, h5, l5, n5, d5, s5⟩
            obtain ⟨b, hbi, wb⟩ := pget' w2 hv5
            obtain ⟨hb4, hbj⟩ := hb.2 b (List.mem_of_getElem? hbi)
            have hi : i < S.length := (List.getElem?_eq_some_iff.mp hbi).1
            obtain ⟨p, rfl, _, hp⟩ := wb.same ((s3.trans s4).trans s5)
            refine ⟨rfl, .ref p, rfl, .ref DD, rfl, p, DD, b, S.length, rfl, hp, hN.same s5, hb4, fun j hjb => ⟨hbj j hjb, fun n t e => ?_⟩, fun H6 v6 d6 s6 n6 e6 => ?_⟩
            · subst e
              obtain ⟨f, hf⟩ := List.mem_iff_getElem?.mp hjb
              have g : getJ S i f = some (some (n, t)) := by
                unfold getJ
                rw [hbi]
                exact hf
              exact hG.lt g
            · have h6 := s6 _ _ h5
              refine ⟨vs, h6, small1000 (by omega), vs ++ [v6], ds ++ [d6], upd_same, by rw [List.length_append, l5]; rfl, ?_, ?_, same_fill (s5.trans s6) nL⟩
              · rw [List.take_add_one, hbi, List.map_append]
                exact norms_snoc n5 e6
              · have c2 := n6 (fun a => a = L) fun a ha' => by
                  rw [ha', h5]
                  exact fun z => by cases z
                exact Dqs.fillN (N := fun a => a = L) (fun _ z => z) rfl h6 (Dqs.snocN c2 (d5.sameN s6))
          · rintro H5 ⟨vs, ds, h5, l5, n5, d5, s5⟩
            rw [lws, List.take_length] at n5
            have d5' := Dqs.fillN (o := .lst vs) (N := fun a => a = L) (N' := fun _ => False) (fun a z => z.elim) rfl h5 d5
            rw [upd_eq h5] at d5'
            exact ⟨fun _ => False, .ref L, .list ds, S, rfl, .lst h5 (fun z => z) d5', (by simp only [norm, n5, nS]), hG, hS1, by omega, fun H6 v6 s6 st6 => q _ _ ((((s02.trans s3).trans s4).trans s5).trans s6) st6⟩
end
end Bk

namespace Bk
open PySem PySem.Spec PyProof.Rows L2
/-! ### a token is out behind y = x.split(".."); a def that goes on from there -/
section
variable {X : Cx} {rest : List Stmt} {u : TS} {o e : Expr} {to te : TE} {z y : Str} {i j : Nat} {c0 apos pos pos' pos2 : Pos}
theorem pss_setSplit (hN : X.N.Nodup) (hi : X.N[i]? = some y) (hx : Loc X.env.scope y) (ho : PE X o to) (h2 : PSsT X rest u)
    (hst : starEach [.Constant (.str z) j c0] X.env = [(false, eval (.Constant (.str z) j c0) X.env)] := by rfl) (hbase : attributeBase o "split" X.env (eval o X.env) = eval o X.env := by rfl) (hline : (apos.endLine == pos.line) = true := by rfl)
    (hs : swapsWith (.Call (.Attribute o "split" apos) [.Constant (.str z) j c0] [] pos) (some (.Name y pos')) pos2.line X.env = pure false := by rfl) (hf : X.fn y = true ∨ X.env.scope.names.lookup y = some .local := by first | exact .inl rfl | exact .inr rfl | assumption) :
    PSs X (.Assign [.Name y pos'] (.Call (.Attribute o "split" apos) [.Constant (.str z) j c0] [] pos) pos2 :: rest)
      (tSeq (tAsg (tM1 (fun x xs H Q => ∃ a b, x = .str a ∧ xs = [.str b] ∧ (b.length == 0) = false ∧ a.length + 2 ≤ sizeLine ∧ rNewStrs (Txt.split a b) H Q) to (tC (.str z))) (gName i)) u) := by
  refine ⟨fun pins s σ H D I h => ?_⟩
  refine wpAny_execs_cons (wpAny_Assign_Name ?_ hs)
  refine PySem.Call_method1 hbase hst hline (thn (ho.run pins s σ H _ I h) fun v s1 ⟨x, H1, I1, r1, q1⟩ => ?_)
  obtain ⟨⟨a, rfl⟩, q1⟩ := q1
  obtain ⟨t, rfl⟩ := _root_.id r1
  refine ⟨"str", _, PySem.F.plainAttrs_str, PySem.F.slot_str_split, PySem.F.type_str_split, typeIs_str _ _ _, (fun _ e => nomatch e), Calls.callWith_builtin rfl (Calls.evalArgs_plain (Calls.spliced_cons ?_))⟩
  refine Calls.Constant_str (Calls.spliced_nil ?_)
  refine wpAny_mono (PySem.wpAny_toks_of (n := 1) (by show 1 ≤ s1.toks + 1; omega) (mt_split (X := X) pins { s1 with toks := s1.toks + 1 } σ H1 (.str a) [.str z] _ [.str z s1.toks] _ (I1.tok _) ⟨t, rfl⟩ (.cons ⟨_, rfl⟩ .nil) q1)) (fun v s2 q => ?_) fun _ _ z => z.2
  obtain ⟨hk, w, H2, I2, r2, q2⟩ := q
  refine wpAny_mono (PySem.wpAny_toks (store_ok (Q := fun _ s3 => Inv X pins (σ.set i (some w)) H2 s3) I2 hN hi hx r2 (fun _ I3 => I3) hf)) (fun _ s3 q => ?_) fun _ _ z => z.2
  exact h2 pins s3 _ H2 D (Nat.le_trans hk q.1) q.2 q2
end
section
variable {X : Cx} {e : Expr} {te : TE} {y : Str} {i : Nat} {pos pos' : Pos}
theorem pst_set (hN : X.N.Nodup) (hi : X.N[i]? = some y) (hx : Loc X.env.scope y) (he : PET X e te) (hs : swapsWith e (some (.Name y pos')) pos.line X.env = pure false := by rfl) (hf : X.fn y = true ∨ X.env.scope.names.lookup y = some .local := by first | exact .inl rfl | exact .inr rfl | assumption) :
    PST X (.Assign [.Name y pos'] e pos) (tAsg te (gName i)) := by
  intro pins s σ H D h0 I h
  refine wpAny_Assign_Name (thn (he pins s σ H _ h0 I h) fun v s1 ⟨y, H1, I1, r1, q1⟩ => ?_) hs
  exact store_ok I1 hN hi hx r1 (fun s2 I2 => ⟨_, H1, I2, q1⟩) hf
end
/-! ### the same behind structures: what is told of a rest with a token out is not looked into -/
structure QST (X : Cx) (st : Stmt) (t : TS) : Prop where
  h : PST X st t
structure QSsT (X : Cx) (st : List Stmt) (t : TS) : Prop where
  h : PSsT X st t
structure QET (X : Cx) (e : Expr) (t : TE) : Prop where
  h : PET X e t
structure QAT (X : Cx) (es : List Expr) (t : TA) : Prop where
  h : PAT X es t
section
variable {X : Cx} {st : Stmt} {rest : List Stmt} {t u : TS} {o e : Expr} {es : List Expr} {te to : TE} {ta : TA} {y z : Str} {i j k : Nat} {c0 c1 apos pos pos' pos2 : Pos}
theorem qsst_of (h : PSs X rest t) : QSsT X rest t := ⟨PSsT.of h⟩
theorem qst_of (h : PS X st t) : QST X st t := ⟨PST.of h⟩
theorem qsst_cons (h1 : QST X st t) (h2 : QSsT X rest u) : QSsT X (st :: rest) (tSeq t u) := ⟨psst_cons h1.h h2.h⟩
theorem qet_of (h : PE X e te) : QET X e te := ⟨CwR.PET.of h⟩
theorem qat_nil : QAT X [] tNil := ⟨pat_nil⟩
theorem qat_cons (ha : QET X e te) (hr : QAT X es ta) (hs : starEach (e :: es) X.env = (false, eval e X.env) :: starEach es X.env := by rfl) : QAT X (e :: es) (tCons te ta) := ⟨pat_cons ha.h hr.h hs⟩
theorem qet_lst (h : QAT X es ta) : QET X (.List es pos) (tLst ta) := ⟨pet_lst h.h⟩
theorem qet_replC (ho : PE X o to) (hyz : (y == z) = false := by decide)
    (hst : starEach [.Constant (.str y) j c0, .Constant (.str z) k c1] X.env = [(false, eval (.Constant (.str y) j c0) X.env), (false, eval (.Constant (.str z) k c1) X.env)] := by rfl)
    (hbase : attributeBase o "replace" X.env (eval o X.env) = eval o X.env := by rfl) (hline : (apos.endLine == pos.line) = true := by rfl) :
    QET X (.Call (.Attribute o "replace" apos) [.Constant (.str y) j c0, .Constant (.str z) k c1] [] pos) (CwR.tReplC to y z) := ⟨CwR.pet_replC ho hyz hst hbase hline⟩
theorem qst_set (hN : X.N.Nodup) (hi : X.N[i]? = some y) (hx : Loc X.env.scope y) (he : QET X e te) (hs : swapsWith e (some (.Name y pos')) pos.line X.env = pure false := by rfl) (hf : X.fn y = true ∨ X.env.scope.names.lookup y = some .local := by first | exact .inl rfl | exact .inr rfl | assumption) :
    QST X (.Assign [.Name y pos'] e pos) (tAsg te (gName i)) := ⟨pst_set hN hi hx he.h hs hf⟩
theorem qss_setSplit (hN : X.N.Nodup) (hi : X.N[i]? = some y) (hx : Loc X.env.scope y) (ho : PE X o to) (h2 : QSsT X rest u)
    (hst : starEach [.Constant (.str z) j c0] X.env = [(false, eval (.Constant (.str z) j c0) X.env)] := by rfl) (hbase : attributeBase o "split" X.env (eval o X.env) = eval o X.env := by rfl) (hline : (apos.endLine == pos.line) = true := by rfl)
    (hs : swapsWith (.Call (.Attribute o "split" apos) [.Constant (.str z) j c0] [] pos) (some (.Name y pos')) pos2.line X.env = pure false := by rfl) (hf : X.fn y = true ∨ X.env.scope.names.lookup y = some .local := by first | exact .inl rfl | exact .inr rfl | assumption) :
    PSs X (.Assign [.Name y pos'] (.Call (.Attribute o "split" apos) [.Constant (.str z) j c0] [] pos) pos2 :: rest)
      (tSeq (tAsg (tM1 (fun x xs H Q => ∃ a b, x = .str a ∧ xs = [.str b] ∧ (b.length == 0) = false ∧ a.length + 2 ≤ sizeLine ∧ rNewStrs (Txt.split a b) H Q) to (tC (.str z))) (gName i)) u) := pss_setSplit hN hi hx ho h2.h hst hbase hline hs hf
end
end Bk

namespace Bk
open PySem PySem.Spec PyProof.Rows L2 TL
/-! ### lines spoilt -/
theorem joinL_app {s : List Nat} : ∀ {ps qs : List (List Nat)}, ps ≠ [] → qs ≠ [] → joinL s (ps ++ qs) = joinL s ps ++ (s ++ joinL s qs)
  | [], qs, h, _ => absurd rfl h
  | [p], [], _, h => absurd rfl h
  | [p], q :: r, _, _ => rfl
  | p :: p' :: r, qs, _, h => by
    show p ++ (s ++ joinL s (p' :: r ++ qs)) = (p ++ (s ++ joinL s (p' :: r))) ++ (s ++ joinL s qs)
    rw [joinL_app (by simp) h]
    simp only [List.append_assoc]
/-- words of a line: no blank in them -/
def Wds (ws : List Str) : Prop := ws ≠ [] ∧ ∀ w ∈ ws, 32 ∉ tl w
theorem spl_words {ws : List Str} (h : Wds ws) : Txt.split (Txt.join (Str.ofString " ") ws) (Str.ofString " ") = ws :=
  split_join (s := 32) (S := []) (by decide +kernel) (by decide +kernel) h.1 h.2
theorem no_form_len {ws : List Str} (h : ws.length ≠ 4) : hasForm ws = false := by
  unfold hasForm
  rw [decide_eq_false h, Bool.false_and]
theorem no_form_word {ws : List Str} {w : Str} (hm : w ∈ ws) (h1 : w ≠ Str.ofString "-") (h2 : isJoinW w = false) : hasForm ws = false := by
  unfold hasForm
  rw [Bool.and_eq_false_iff]
  refine .inr (Bool.eq_false_iff.mpr fun z => ?_)
  have := List.all_eq_true.mp z w hm
  rw [h2, Bool.or_false] at this
  have e := of_decide_eq_true this
  injection e with e
  exact h1 e
theorem tl_blank : tl (Str.ofString " ") = [32] := by decide +kernel
theorem join_snoc {ws : List Str} (h : ws ≠ []) (x : Str) : Txt.join (Str.ofString " ") ws ++ (Str.ofString " " ++ x) = Txt.join (Str.ofString " ") (ws ++ [x]) := by
  refine ext_tl ?_
  rw [tl_append, tl_append, tl_join', tl_join', tl_blank, List.map_append, joinL_app (fun z => h (List.map_eq_nil_iff.mp z)) (by simp)]
  rfl
theorem join_cons {ws : List Str} (h : ws ≠ []) (x : Str) : x ++ Str.ofString " " ++ Txt.join (Str.ofString " ") ws = Txt.join (Str.ofString " ") (x :: ws) := by
  refine ext_tl ?_
  rw [tl_append, tl_append, tl_join', tl_join', tl_blank]
  cases ws with
  | nil => exact absurd rfl h
  | cons w r =>
    show tl x ++ [32] ++ joinL [32] (tl w :: r.map tl) = tl x ++ ([32] ++ joinL [32] (tl w :: r.map tl))
    rw [List.append_assoc]
/-- a word as lines have them -/
def Wok (u : Str) : Prop := u.length ≤ 10 ∧ 32 ∉ tl u ∧ 10 ∉ tl u ∧ ∀ c ∈ tl u, c < 200
/-- a line of no form -/
def Spoilt (x : Str) : Prop := ∃ us, x = Txt.join (Str.ofString " ") us ∧ us ≠ [] ∧ us.length ≤ 7 ∧ hasForm us = false ∧ ∀ u ∈ us, Wok u
theorem wok_none : Wok Str.empty := ⟨by decide, ⟨(fun z => by cases z), ⟨(fun z => by cases z), fun c hc => by cases hc⟩⟩⟩
theorem wok_bar : Wok (Str.ofString "-") := by
  refine ⟨by decide +kernel, by decide +kernel, by decide +kernel, by decide +kernel⟩
/-- a word too few -/
theorem sp_few {ws : List Str} (h : ∀ w ∈ ws, Wok w) (h4 : ws.length = 4) : Spoilt (Txt.join (Str.ofString " ") (ws.take 3)) := by
  refine ⟨ws.take 3, rfl, fun z => ?_, by rw [List.length_take]; omega, no_form_len (by rw [List.length_take]; omega), fun w hw => h w (List.mem_of_mem_take hw)⟩
  have := congrArg List.length z
  rw [List.length_take, h4] at this
  cases this
/-- a word too many -/
theorem sp_many {ws : List Str} (h : ∀ w ∈ ws, Wok w) (h4 : ws.length = 4) {x : Str} (hx : Wok x) : Spoilt (Txt.join (Str.ofString " ") ws ++ (Str.ofString " " ++ x)) := by
  have hne : ws ≠ [] := fun z => by rw [z] at h4; cases h4
  refine ⟨ws ++ [x], join_snoc hne x, by simp, by rw [List.length_append, h4]; show 5 ≤ 7; decide, no_form_len (by rw [List.length_append, h4]; show 5 ≠ 4; decide), fun w hw => ?_⟩
  rcases List.mem_append.mp hw with z | z
  · exact h w z
  · rw [List.mem_singleton.mp z]
    exact hx
/-- a blank ahead -/
theorem sp_ahead {ws : List Str} (h : ∀ w ∈ ws, Wok w) (h4 : ws.length = 4) : Spoilt (Str.ofString " " ++ Txt.join (Str.ofString " ") ws) := by
  have hne : ws ≠ [] := fun z => by rw [z] at h4; cases h4
  have e : Str.ofString " " ++ Txt.join (Str.ofString " ") ws = Txt.join (Str.ofString " ") (Str.empty :: ws) := by
    rw [← join_cons hne]
    refine ext_tl ?_
    rw [tl_append, tl_append, tl_append]
    rfl
  refine ⟨Str.empty :: ws, e, by simp, by rw [List.length_cons, h4]; decide, no_form_len (by rw [List.length_cons, h4]; decide), fun w hw => ?_⟩
  rcases List.mem_cons.mp hw with z | z
  · rw [z]
    exact wok_none
  · exact h w z
/-- nothing -/
theorem sp_none : Spoilt (Str.ofString "") :=
  ⟨[Str.empty], ext_tl (by decide +kernel), by simp, by decide, no_form_len (by decide), (fun w hw => by rw [List.mem_singleton.mp hw]; exact wok_none)⟩
/-- blanks doubled -/
theorem sp_twice {ws : List Str} (h : ∀ w ∈ ws, Wok w) (h4 : ws.length = 4) : Spoilt (Txt.replace (Txt.join (Str.ofString " ") ws) (Str.ofString " ") (Str.ofString "  ")) := by
  have hW : Wds ws := ⟨(fun z => by rw [z] at h4; cases h4), fun w hw => (h w hw).2.1⟩
  have e32 : (Str.ofString " ") = ⟨#[32]⟩ := ext_tl (by decide +kernel)
  have e1 : Txt.replace (Txt.join (Str.ofString " ") ws) (Str.ofString " ") (Str.ofString "  ") = Str.join (Str.ofString "  ") ws := by
    conv => lhs; rw [e32]
    rw [StrLaws.replace_one, ← e32, spl_words hW]
  match ws, h4 with
  | [a, b, c, d], _ =>
    have e2 : Str.join (Str.ofString "  ") [a, b, c, d] = Txt.join (Str.ofString " ") [a, Str.empty, b, Str.empty, c, Str.empty, d] := by
      refine ext_tl ?_
      rw [tl_join, tl_join', tl_blank, show tl (Str.ofString "  ") = [32, 32] by decide +kernel]
      show tl a ++ ([32, 32] ++ (tl b ++ ([32, 32] ++ (tl c ++ ([32, 32] ++ tl d))))) = tl a ++ ([32] ++ ([] ++ ([32] ++ (tl b ++ ([32] ++ ([] ++ ([32] ++ (tl c ++ ([32] ++ ([] ++ ([32] ++ tl d)))))))))))
      simp
    rw [e1]
    refine ⟨_, e2, by simp, Nat.le_refl 7, no_form_len (by show 7 ≠ 4; decide), fun w hw => ?_⟩
    simp only [List.mem_cons, List.not_mem_nil, or_false] at hw
    rcases hw with z | z | z | z | z | z | z
    all_goals first
      | (rw [z]; exact wok_none)
      | exact h w (by rw [z]; simp)
def odds : List Str := ["0:012", "0:1123", "01:0123", "-0:0123", "0:01234", "0", "0:", ":", "--", "0:0123x", "x", "0:0123:"].map Str.ofString
theorem odds_no : ∀ o ∈ odds, o ≠ Str.ofString "-" ∧ isJoinW o = false ∧ o.length ≤ 10 ∧ 32 ∉ tl o ∧ 10 ∉ tl o ∧ ∀ c ∈ tl o, c < 200 := by decide +kernel
/-- a word of no form -/
theorem sp_odd {ws : List Str} (h : ∀ w ∈ ws, Wok w) (h4 : ws.length = 4) {i : Nat} (hi : i < 4) {o : Str} (ho : o ∈ odds) : Spoilt (Txt.join (Str.ofString " ") (ws.set i o)) := by
  obtain ⟨h1, h2, h3⟩ := odds_no o ho
  refine ⟨ws.set i o, rfl, fun z => ?_, by rw [List.length_set]; omega, no_form_word (List.mem_set (by omega) o) h1 h2, fun w hw => ?_⟩
  · have := congrArg List.length z
    rw [List.length_set, h4] at this
    cases this
  · rcases List.mem_or_eq_of_mem_set hw with z | z
    · exact h w z
    · rw [z]
      exact h3
end Bk

/-! read_space of lines of which one has no form. -/
namespace Bk
open PySem PySem.Spec PyProof.Rows L2 TL
/-- what a raise of NoLine wants -/
structure LineC (P : Program) (w : World) (K : PySem.W.Frag) (mg : Str → Option Value) (base : Heap) (C f : Addr) (fd : FuncData) : Prop where
  T : OexC K C
  i : PySem.W.findIn K (.ref C) "__init__" = some (some (.ref f))
  t : PySem.W.typeIn K (.ref f) = some (.type "function")
  G : FnOk P w K mg base CX0 1 f fd ["self", "line"] (spLineI C)
  b : Binds K fd ["self", "line"] []
/-! ### lines -/
def Ln (ws : List Str) : Prop := ws ≠ [] ∧ ws.length ≤ 7 ∧ ∀ w ∈ ws, Wok w
def lineW (ws : List Str) : Str := Txt.join (Str.ofString " ") ws
def textL (wss : List (List Str)) : Str := Txt.join (Str.ofString "\n") (wss.map lineW)
theorem ln_len {ws : List Str} (h : Ln ws) : (lineW ws).length ≤ 77 := by
  have h1 : (lineW ws).length ≤ ws.length * 10 + ws.length * (Str.ofString " ").length := join_le fun y hy => (h.2.2 y hy).1
  have e1 : (Str.ofString " ").length = 1 := by decide +kernel
  have := h.2.1
  rw [e1] at h1
  omega
theorem ln_split {ws : List Str} (h : Ln ws) : Txt.split (lineW ws) (Str.ofString " ") = ws := spl_words ⟨h.1, fun w hw => (h.2.2 w hw).2.1⟩
theorem ln_free {ws : List Str} (h : Ln ws) : 10 ∉ tl (lineW ws) := by
  intro z
  unfold lineW at z
  rw [tl_join'] at z
  rcases mem_joinL z with z | ⟨p, hp, z⟩
  · revert z
    decide +kernel
  · obtain ⟨j, hj, rfl⟩ := List.mem_map.mp hp
    exact (h.2.2 j hj).2.2.1 z
theorem textL_split {wss : List (List Str)} (h : ∀ ws ∈ wss, Ln ws) (h1 : 1 ≤ wss.length) : Txt.split (textL wss) (Str.ofString "\n") = wss.map lineW :=
  split_join (s := 10) (S := []) (by decide +kernel) (by decide +kernel) (by
    intro e
    have := congrArg List.length e
    rw [List.length_map] at this
    simp only [List.length_nil] at this
    omega) fun p hp => by
      obtain ⟨b, hb, rfl⟩ := List.mem_map.mp hp
      exact ln_free (h b hb)
theorem textL_len {wss : List (List Str)} (h : ∀ ws ∈ wss, Ln ws) (h1 : wss.length ≤ 40) : (textL wss).length ≤ 3200 := by
  have h2 : (textL wss).length ≤ (wss.map lineW).length * 77 + (wss.map lineW).length * (Str.ofString "\n").length := join_le fun y hy => by
    obtain ⟨b, hb, rfl⟩ := List.mem_map.mp hy
    exact ln_len (h b hb)
  have e1 : (Str.ofString "\n").length = 1 := by decide +kernel
  rw [List.length_map, e1] at h2
  omega
def WsAt (D : Addr) (H : Hp) (v : V) (ws : List Str) : Prop := ∃ p, v = .ref p ∧ p ≠ D ∧ H p = some (.lst (ws.map V.str))
theorem WsAt.same {D : Addr} {H H' : Hp} {v : V} {b : List Str} (h : WsAt D H v b) (s : Same H H') : WsAt D H' v b := by
  obtain ⟨p, e, n, hp⟩ := h
  exact ⟨p, e, n, s _ _ hp⟩
theorem WsAt.fill {D : Addr} {H : Hp} {o : HO} {v : V} {b : List Str} (h : WsAt D H v b) : WsAt D (upd H D o) v b := by
  obtain ⟨p, e, n, hp⟩ := h
  exact ⟨p, e, n, by rw [upd_ne n]; exact hp⟩
/-- what is left when the error is let go -/
theorem line_left {H : Hp} {a d : Addr} {u v : HO} {x : HO} (n : d ≠ a) (h : H a = none) : upd (del (upd (upd (upd H a u) d v) a x) a) d (.xd fs) = upd H d (.xd fs) := by
  funext b
  by_cases hd : b = d
  · subst hd
    rw [upd_same, upd_same]
  · rw [upd_ne hd, upd_ne hd]
    by_cases ha : b = a
    · subst ha
      rw [del_same, h]
    · rw [del_ne ha, upd_ne ha, upd_ne hd, upd_ne ha]
section
variable {P : Program} {w : World} {K : PySem.W.Frag} {mg : Str → Option Value} {base : Heap}
def spReadX (C : Addr) : Sp := fun vs H Q E => ∃ (wss : List (List Str)) (k : Nat) (ws : List Str), vs = [.str (textL wss)] ∧ (∀ ws ∈ wss, Ln ws) ∧ wss.length ≤ 40 ∧ wss[k]? = some ws ∧ hasForm ws = false ∧ (∀ i ws', i < k → wss[i]? = some ws' → hasForm ws' = true) ∧
  ∀ H' d, Same H H' → H' d = none → E (.ref C) (some d) (upd H' d (.xd [("line", intV (k + 1))]))
theorem okread_spaceX {f fF fB fX fL xNoLine : Addr} {fd fdF fdB fdX fdL : FuncData} (F : Fun K "read_space" "read_space" sread_space f fd) (gNoLine : mg "NoLine" = some (.ref xNoLine)) (LNoLine : LineC P w K mg base xNoLine fL fdL) (F_has_form : Fun K "_has_form" "_has_form" s_has_form fF fdF) (g_has_form : mg "_has_form" = some (.ref fF)) (b_has_form : Binds K fdF ["words"] []) (G_has_form : FnOk P w K mg base CX0 3 fF fdF ["words"] spHasForm)
    (F_block_told : Fun K "_block_told" "_block_told" s_block_told fB fdB) (g_block_told : mg "_block_told" = some (.ref fB)) (b_block_told : Binds K fdB ["words", "numbers"] []) (G_block_told : FnOk P w K mg base CX0 2 fB fdB ["words", "numbers"] spBTold)
    (Fspace_of : Fun K "space_of" "space_of" sspace_of fX fdX) (gspace_of : mg "space_of" = some (.ref fX)) (bspace_of : Binds K fdX ["blocks"] []) (Gspace_of : FnOk P w K mg base CX0 6 fX fdX ["blocks"] spSpace)
    (m_enumerate : mg "enumerate" = none) (m_str : mg "str" = none) (m_range : mg "range" = none) (m_len : mg "len" = none) : FnOk P w K mg base (L2.CX P w) 7 f fd ["text"] (spReadX xNoLine) := by
  refine F.okX scread_space (fun vs H Q E h => ?_) (fun cdv A outer s H vs Q E hr h => ?_)
  · obtain ⟨wss, k, ws, rfl, _⟩ := h
    rfl
  · obtain ⟨wss, k, ws, rfl, hL, hl, hk, hno, hlt, q⟩ := h
    have nd := scread_space.nd
    refine ⟨_, (pss_cons (ps_setLc (i := 1) (own := [("line", 5)]) (g := gName 5) (tt := tYes) rfl nd rfl rfl (sw_true rfl rfl rfl (by decide +kernel)) (kPiL K rfl (pi_list (pe_split (pv 0) pe_str))) (blkOk_by (own := [("line", 5)]) (N := Nread_space) (sc := defScope sread_space) (by decide +kernel)) (fun _ _ _ _ _ => (pg_name (i := 5) nd rfl (Or.inl rfl))) (fun _ _ _ _ _ => pts_nil) (fun _ _ _ _ _ => (pe_split (pv 5) pe_str)))
      (pss_cons (ps_for (passes_of rfl) rfl (kPiE K rfl (pi_enum (by rfl) m_enumerate (pa_cons (pv 1) pa_nil))) (kPgT K rfl (pg_tup (n := 2) rfl (pgs_cons (pg_name (i := 2) nd rfl (.inl rfl)) (pgs_cons (pg_name (i := 3) nd rfl (.inl rfl)) pgs_nil)))) (pss_one (ps_if (pt_not (pt_val (pe_call G_has_form (hr.mono (by first | decide | omega)) (by rfl) g_has_form F_has_form.kp b_has_form .nil pass0 (pa_cons (pv 3) pa_nil)))) (pss_one (ps_raise rfl (takes_of rfl rfl rfl rfl) (pmk_oex LNoLine.T LNoLine.i LNoLine.t LNoLine.G (hr.mono (by first | decide | omega)) LNoLine.b .nil pass0 (by rfl) gNoLine (pa_cons (pe_op op_add (pv 2) pe_int) pa_nil)))) pss_nil)))
      (pss_cons (ps_set (i := 4) nd rfl (.inr rfl) (pe_dc (own := [("block", 6)]) (g := gName 6) (tt := tYes) rfl nd (pi_range1 (by rfl) m_range (pa_cons (pe_callB (kLen K rfl) (by rfl) m_len (by decide +kernel) (pa_cons (pv 1) pa_nil)) pa_nil)) (blkOk_by (own := [("block", 6)]) (N := Nread_space) (sc := defScope sread_space) (by decide +kernel)) (fun _ _ _ _ _ => (pg_name (i := 6) nd rfl (Or.inl rfl))) (fun _ _ _ _ _ => pts_nil) (fun _ _ _ _ _ => (pe_callTy call_str_int (by rfl) m_str (by decide +kernel) (pa_cons (pv 6) pa_nil))) (fun _ _ _ _ _ => (pv 6))))
      (pss_one (ps_ret (pe_call Gspace_of (hr.mono (by first | decide | omega)) (by rfl) gspace_of Fspace_of.kp bspace_of .nil pass0 (pa_cons (PE.nox (pe_lc (own := [("row", 7)]) (g := gName 7) (tt := tYes) rfl nd (kPiL K rfl (pi_list (pv 1))) (blkOk_by (own := [("row", 7)]) (N := Nread_space) (sc := defScope sread_space) (by decide +kernel)) (fun _ _ _ _ _ => (pg_name (i := 7) nd rfl (Or.inl rfl))) (fun _ _ _ _ _ => pts_nil) (fun _ _ _ _ _ => (pe_call G_block_told (hr.mono (by first | decide | omega)) (by rfl) g_block_told F_block_told.kp b_block_told .nil pass0 (pa_cons (pv 7) (pa_cons (pv 4) pa_nil)))))) pa_nil))))))), ?_⟩
    have hkl : k < wss.length := (List.getElem?_eq_some_iff.mp hk).1
    have tl' := textL_len hL hl
    refine ⟨.str (textL wss), rfl, ⟨_, rfl⟩, textL wss, Str.ofString "\n", rfl, rfl, by decide +kernel, by rw [sizeLine_eq]; omega, fun p0 np0 => ?_⟩
    rw [textL_split hL (by omega)]
    have s0 : Same H (upd H p0 (.lst ((wss.map lineW).map V.str))) := same_new np0
    have h0 : (upd H p0 (.lst ((wss.map lineW).map V.str))) p0 = some (.lst ((wss.map lineW).map V.str)) := upd_same
    generalize upd H p0 (.lst ((wss.map lineW).map V.str)) = H0 at s0 h0 ⊢
    have lS : ((wss.map lineW).map V.str).length = wss.length := by rw [List.length_map, List.length_map]
    refine ⟨p0, rfl, ⟨_, .inl (.inl h0)⟩, fun D nD => ?_⟩
    refine lc_list (xs := (wss.map lineW).map V.str) (fun i H2 => ∃ vs, H2 D = some (.lst vs) ∧ Paired (WsAt D H2) vs (wss.take i) ∧ Same H0 H2) ⟨[], upd_same, .nil, same_new nD⟩ ?_ ?_ ?_
    · rintro i H2 _ ⟨vs, h2, w2, s2⟩
      exact .inl (.inl (s2 _ _ h0))
    · rintro i v H2 hv ⟨vs, h2, w2, s2⟩
      rw [List.getElem?_map, List.getElem?_map] at hv
      cases hx : wss[i]? with
      | none =>
        rw [hx] at hv
        cases hv
      | some b =>
        rw [hx] at hv
        have ev : V.str (lineW b) = v := Option.some.inj hv
        subst ev
        have hb := hL b (List.mem_of_getElem? hx)
        have hi : i < wss.length := (List.getElem?_eq_some_iff.mp hx).1
        have ll := ln_len hb
        refine ⟨rfl, .str (lineW b), rfl, ⟨_, rfl⟩, lineW b, Str.ofString " ", rfl, rfl, by decide +kernel, by rw [sizeLine_eq]; omega, fun p1 np1 => ?_⟩
        rw [ln_split hb]
        have s3 : Same H2 (upd H2 p1 (.lst (b.map V.str))) := same_new np1
        have h3 := s3 _ _ h2
        have hp : (upd H2 p1 (.lst (b.map V.str))) p1 = some (.lst (b.map V.str)) := upd_same
        generalize upd H2 p1 (.lst (b.map V.str)) = H3 at s3 h3 hp ⊢
        have ne1 : p1 ≠ D := fun z => by rw [z, h2] at np1; cases np1
        refine ⟨vs, h3, small1000 (by rw [plen w2, List.length_take]; omega), vs ++ [.ref p1], upd_same, ?_, same_fill (s2.trans s3) nD⟩
        rw [List.take_add_one, hx]
        exact papp (pmono w2 fun _ _ z => (z.same s3).fill) (.cons ⟨p1, rfl, ne1, by rw [upd_ne ne1]; exact hp⟩ .nil)
    · rintro H2 ⟨vs, h2, w2, s2⟩
      rw [lS, List.take_length] at w2
      have s02 := s0.trans s2
      have lws : vs.length = wss.length := plen w2
      refine ⟨.ref D, rfl, D, vs, rfl, .inl (.inl h2), ?_⟩
      refine for_it (walk_enum (xs := vs)) (fun i σ H3 => ∃ y2 y3 y4, σ = [some (.str (textL wss)), some (.ref D), y2, y3, y4, none, none, none] ∧ Same H2 H3 ∧ i ≤ k) ⟨none, none, none, rfl, Same.refl _, Nat.zero_le _⟩ ?_ ?_ ?_
      · rintro i σ H3 _ ⟨y2, y3, y4, rfl, s3, _⟩
        exact .inl (.inl (s3 _ _ h2))
      · rintro i v σ H3 H4 hi ⟨y2, y3, y4, rfl, s3, hik⟩ ⟨T, x, y, rfl, nT, rfl, hx, hy⟩
        cases hx
        obtain ⟨b, hbi, wb⟩ := pget' w2 hy
        have hb := hL b (List.mem_of_getElem? hbi)
        have s4 : Same H3 (upd H3 T (.tup [.int (i : Nat), y])) := same_new nT
        refine ⟨T, [.int (i : Nat), y], rfl, .inl (.inl upd_same), rfl, .int (i : Nat), [y], rfl, y, [], rfl, rfl, ?_⟩
        generalize upd H3 T (.tup [.int (i : Nat), y]) = H4 at s4 ⊢
        obtain ⟨p, rfl, _, hp⟩ := wb.same (s3.trans s4)
        refine ⟨.ref p, rfl, p, b, rfl, hp, by have := hb.2.1; omega, fun x hx => ?_, fun H5 s5 => ?_⟩
        · have := hb.2.2 x hx
          exact ⟨by have := this.1; omega, fun c hc => by have := this.2.2.2 c hc; omega⟩
        · by_cases e : i = k
          · subst e
            have : b = ws := Option.some.inj (hbi.symm.trans hk)
            subst this
            rw [hno]
            refine ⟨_, rfl, iteT ?_⟩
            have s25 := (s3.trans s4).trans s5
            refine ⟨.int (i : Nat), rfl, (i : Int), 1, rfl, rfl, (by show 1 ≤ 1000; decide), fun a na => ?_⟩
            refine ⟨a, i + 1, rfl, by omega, upd_same, fun d H' nd' nda eH => ⟨rfl, d, [("line", intV (i + 1))], ?_, ?_, ?_, ?_⟩⟩
            · rw [eH, upd_same]
            · rw [eH, upd_ne nda, upd_same]
            · rw [upd_ne nda] at nd'
              exact nd'
            · rw [eH, line_left nda na]
              rw [upd_ne nda] at nd'
              exact q H5 d (s02.trans s25) nd'
          · rw [hlt i b (by omega) hbi]
            refine ⟨_, rfl, iteF ?_⟩
            exact ⟨_, _, _, rfl, (s3.trans s4).trans s5, by omega⟩
      · rintro σ H3 ⟨y2, y3, y4, rfl, s3, hik⟩
        omega
end
end Bk

namespace Bk
open PySem PySem.Spec PyProof.Rows L2 TL RZ
section
variable {P : Program} {w : World} {K : PySem.W.Frag} {mg : Str → Option Value} {base : Heap}
/-- a def that raises nothing, where errors are told of -/
theorem _root_.L2.FnOk.toX {CX : CXT} {k : Nat} {f : Addr} {fd : FuncData} {ps : List Str} {sp : Sp} (F : FnOk P w K mg base CX0 k f fd ps sp) : FnOk P w K mg base CX k f fd ps sp :=
  ⟨F.len, fun A outer s H args us vs Q E hr he hb hv hs => codeAny_mono (F.run A outer s H args us vs Q E hr he hb hv hs) fun r s' h => by
    cases r with
    | error e => exact absurd h (fun z => z)
    | ok fl => cases fl <;> exact h⟩
/-- two promises of one def -/
theorem _root_.L2.FnOk.or {CX : CXT} {k : Nat} {f : Addr} {fd : FuncData} {ps : List Str} {sp1 sp2 : Sp} (F : FnOk P w K mg base CX k f fd ps sp1) (G : FnOk P w K mg base CX k f fd ps sp2) : FnOk P w K mg base CX k f fd ps (fun vs H Q E => sp1 vs H Q E ∨ sp2 vs H Q E) :=
  ⟨fun vs H Q E h => h.elim (F.len vs H Q E) (G.len vs H Q E), fun A outer s H args us vs Q E hr he hb hv hs => hs.elim (F.run A outer s H args us vs Q E hr he hb hv) (G.run A outer s H args us vs Q E hr he hb hv)⟩
def spReadB (C : Addr) : Sp := fun vs H Q E => spRead vs H Q E ∨ spReadX C vs H Q E
/-! ### _law_asked -/
abbrev s_law_asked : Stmt := topS 53
abbrev N_law_asked : List Str := ["text", "caught", "told", "e", "kind"]
theorem sc_law_asked : FnScope N_law_asked ["text"] (defScope s_law_asked) := ⟨rfl, rfl, rfl, by decide +kernel, rfl, by decide +kernel, by decide +kernel⟩
def spAsked : Sp := fun vs H Q _ => (∃ S : Spc, vs = [.str (textT S)] ∧ Good S ∧ 1 ≤ S.length ∧ S.length ≤ 40 ∧ ∀ H' v', Same H H' → (∀ N, Dq N H' v' (.tuple [.str "none", shutD S])) → Q v' H') ∨
  ∃ (wss : List (List Str)) (k : Nat) (ws : List Str), vs = [.str (textL wss)] ∧ (∀ ws ∈ wss, Ln ws) ∧ wss.length ≤ 40 ∧ wss[k]? = some ws ∧ hasForm ws = false ∧ (∀ i ws', i < k → wss[i]? = some ws' → hasForm ws' = true) ∧ ∀ H' v', Same H H' → (∀ N, Dq N H' v' (.tuple [.str "NoLine", .int (k + 1 : Nat)])) → Q v' H'
theorem ok_law_asked {f fX fK xNoLine xRoomError : Addr} {fd fdX fdK : FuncData} (F : Fun K "_law_asked" "_law_asked" s_law_asked f fd) (gRoomError : mg "RoomError" = some (.ref xRoomError)) (eNoLine : PySem.W.exmOne K (.ref xNoLine) (.ref xRoomError) = some true)
    (CNoLine : ExcC K xNoLine) (hno : PySem.W.findIn K (.ref xNoLine) "line" = some none)
    (Fread_space : Fun K "read_space" "read_space" sread_space fX fdX) (gread_space : mg "read_space" = some (.ref fX)) (bread_space : Binds K fdX ["text"] []) (Gread_space : FnOk P w K mg base (L2.CX P w) 7 fX fdX ["text"] (spReadB xNoLine))
    (F_law_kind_of : Fun K "_law_kind_of" "_law_kind_of" s_law_kind_of fK fdK) (g_law_kind_of : mg "_law_kind_of" = some (.ref fK)) (b_law_kind_of : Binds K fdK ["caught"] []) (G_law_kind_of : FnOk P w K mg base CX0 1 fK fdK ["caught"] (spKind xNoLine "NoLine")) : FnOk P w K mg base CX0 8 f fd ["text"] spAsked := by
  refine F.ok sc_law_asked (fun vs H Q E h => ?_) (fun cdv A outer s H vs Q E hr h => ?_)
  · rcases h with ⟨S, rfl, _⟩ | ⟨wss, k, ws, rfl, _⟩ <;> rfl
  · obtain ⟨x, ex⟩ : ∃ x, vs = [.str x] := by
      rcases h with ⟨S, rfl, _⟩ | ⟨wss, k, ws, rfl, _⟩ <;> exact ⟨_, rfl⟩
    subst ex
    have nd := sc_law_asked.nd
    refine ⟨_, (pss_cons (ps_set (i := 1) nd rfl (.inl rfl) pe_non)
      (pss_cons (ps_set (i := 2) nd rfl (.inl rfl) pe_non)
      (pss_cons (ps_try_keep (i := 3) (j := 1) rfl rfl nd rfl rfl (by decide) rfl rfl (.inl rfl) rfl ⟨rfl, by decide, .inl gRoomError⟩ (fun I => Nat.lt_of_lt_of_eq (show 3 < List.length N_law_asked by decide) I.len.symm) (by decide) (by decide) (fun W pn xe tk _ => (pss_one (ps_set (i := 2) nd rfl (.inl rfl) (pe_callS Gread_space (hr.mono (by first | decide | omega)) (by rfl) gread_space Fread_space.kp bread_space (fun σ => passAt tk σ) (pa_cons (pv 0) pa_nil))))))
      (pss_cons (ps_if (pt_cmpR op_isN (pv 1) pe_non (nomark _)) (pss_one (ps_ret (pe_tupF (pa_cons pe_str (pa_cons (pv 2) pa_nil))))) pss_nil)
      (pss_cons (ps_set (i := 4) nd rfl (.inl rfl) (pe_call G_law_kind_of (hr.mono (by first | decide | omega)) (by rfl) g_law_kind_of F_law_kind_of.kp b_law_kind_of .nil pass0 (pa_cons (pv 1) pa_nil)))
      (pss_one (ps_ret (pe_tupF (pa_cons (pv 4) (pa_cons (pe_ifExp (pt_cmpR op_eq (pv 4) pe_str (nomark _)) (pe_efld K rfl (pv 1) rfl) pe_int) pa_nil)))))))))), ?_⟩
    refine ⟨.str x, rfl, ?_⟩
    rcases h with ⟨S, ex, hG, h1, h2, q⟩ | ⟨wss, k, ws, ex, hL, hl, hk, hno', hlt, q⟩
    · refine .inl ⟨S, ex, hG, h1, h2, fun H1 v1 s1 st1 => ?_⟩
      refine ⟨.non, rfl, rfl, _, rfl, iteT ?_⟩
      refine ⟨v1, rfl, Nat.le_of_lt (small1000 (by show 2 ≤ 1000; decide)), fun p o' np dn => ?_⟩
      have s2 : Same H1 (upd H1 p (.frz o' (.tup [.str "none", v1]))) := same_new np
      exact q _ _ (s1.trans s2) fun N' => .tup (FT.new dn) (.cons (.str _) (.cons ((st1.mono s2.tups).dq) .nil))
    · refine .inr ⟨wss, k, ws, ex, hL, hl, hk, hno', hlt, fun H1 d s1 nd' => ⟨eNoLine, fun a na => ?_⟩⟩
      have s2 : Same H1 (upd H1 d (.xd [("line", intV (k + 1))])) := same_new nd'
      have g2 : (upd H1 d (.xd [("line", intV (k + 1))])) d = some (.xd [("line", intV (k + 1))]) := upd_same
      generalize upd H1 d (.xd [("line", intV (k + 1))]) = H2 at s2 g2 na ⊢
      have s3 : Same H2 (upd H2 a (CaO (.ref xNoLine) (some d) a)) := same_new na
      have hc : CaL (upd H2 a (CaO (.ref xNoLine) (some d) a)) xNoLine a [("line", intV (k + 1))] := ⟨d, upd_same, s3 _ _ g2⟩
      refine ⟨.ref a, rfl, rfl, _, rfl, iteF ?_⟩
      generalize upd H2 a (CaO (.ref xNoLine) (some d) a) = H3 at s3 hc ⊢
      refine ⟨.ref a, rfl, a, _, rfl, hc, fun H4 s4 => ?_⟩
      refine ⟨.str "NoLine", rfl, .str "NoLine", rfl, rfl, _, rfl, iteT ?_⟩

      refine ⟨.ref a, rfl, a, xNoLine, _, intV (k + 1), rfl, hc.same s4, CNoLine, hno, rfl, Nat.le_of_lt (small1000 (by show 2 ≤ 1000; decide)), fun p o np dn => ?_⟩
      exact q _ _ (((s1.trans s2).trans (s3.trans s4)).trans (same_new np)) fun N' => .tup (FT.new dn) (.cons (.str _) (.cons (.int _) .nil))
end
end Bk

/-! the law's own text of a space -/
namespace Bk
open PySem PySem.Spec PyProof.Rows L2
section
variable {P : Program} {w : World} {K : PySem.W.Frag} {mg : Str → Option Value} {base : Heap}
/-! ### _law_text -/
abbrev s_law_text : Stmt := topS 52
abbrev N_law_text : List Str := ["space", "lines", "block", "words", "one", "c"]
theorem sc_law_text : FnScope N_law_text ["space"] (defScope s_law_text) := ⟨rfl, rfl, rfl, by decide +kernel, rfl, by decide +kernel, by decide +kernel⟩
def spLawText : Sp := fun vs H Q _ => ∃ (l : Addr) (rs : List V) (S : Spc), vs = [.ref l] ∧ SpAt H l rs S ∧ Sb S ∧ ∀ H', Same H H' → Q (.str (textT S)) H'
theorem ok_law_text {f : Addr} {fd : FuncData} (F : Fun K "_law_text" "_law_text" s_law_text f fd) (m_str : mg "str" = none) : FnOk P w K mg base CX0 1 f fd ["space"] spLawText := by
  refine F.ok sc_law_text (fun vs H Q E h => ?_) (fun cdv A outer s H vs Q E hr h => ?_)
  · obtain ⟨l, rs, S, rfl, _⟩ := h
    rfl
  · obtain ⟨l, rs, S, rfl, hS, hb, q⟩ := h
    have nd := sc_law_text.nd
    refine ⟨_, (pss_cons (ps_set (i := 1) nd rfl (.inl rfl) (pe_lst pa_nil))
      (pss_cons (ps_for PassesOwn.never rfl (kPiL K rfl (pi_list (pv 0))) (pg_name (i := 2) nd rfl (.inl rfl)) (pss_cons (ps_setLc (i := 3) (own := [("one", 4)]) (g := gName 4) (tt := tYes) rfl nd rfl rfl (sw_true rfl rfl rfl (by decide +kernel)) (kPiL K rfl (pi_list (pv 2))) (blkOk_by (own := [("one", 4)]) (N := N_law_text) (sc := defScope s_law_text) (by decide +kernel)) (fun _ _ _ _ _ => (pg_name (i := 4) nd rfl (Or.inl rfl))) (fun _ _ _ _ _ => pts_nil) (fun _ _ _ _ _ => (pe_ifExp (pt_cmpR op_isN (pv 4) pe_non (nomark _)) pe_str (pe_op op_add_str (pe_op op_add_str (pe_callTy call_str_int (by rfl) m_str (by decide +kernel) (pa_cons (pe_ix (kIxT K rfl) (pv 4) pe_int (fun _ _ => rfl)) pa_nil)) pe_str) (kJoin K rfl (pe_join pe_str (pe_lc (own := [("c", 5)]) (g := gName 5) (tt := tYes) rfl nd (kPiT K rfl (pi_tup (pe_ix (kIxT K rfl) (pv 4) pe_int (fun _ _ => rfl)))) (blkOk_by (own := [("c", 5)]) (N := N_law_text) (sc := lcScope (stAt (forBody (stAt (defBody s_law_text) 1)) 0)) (by decide +kernel)) (fun _ _ _ _ _ => (pg_name (i := 5) nd rfl (Or.inl rfl))) (fun _ _ _ _ _ => pts_nil) (fun _ _ _ _ _ => (pe_callTy call_str_int (by rfl) m_str (by decide +kernel) (pa_cons (pv 5) pa_nil))))))))))
      (pss_one (ps_expr (kBM K rfl (pe_bm PySem.F.plainAttrs_list PySem.F.slot_list_append PySem.F.type_list_append mt_append (pv 1) (pa_cons (kJoin K rfl (pe_join pe_str (pv 3))) pa_nil)))))))
      (pss_one (ps_ret (kJoin K rfl (pe_join pe_str (pv 1))))))), ?_⟩
    have lrs : rs.length = S.length := plen hS.b
    have hS1 := hb.1
    refine ⟨Nat.zero_le _, fun L nL => ?_⟩
    refine ⟨.ref l, rfl, l, rfl, ⟨_, .inl (.inl (same_new nL _ _ hS.l))⟩, ?_⟩
    refine for_list (xs := rs) (fun i σ H1 => ∃ y2 y3, σ = [some (.ref l), some (.ref L), y2, y3, none, none] ∧ H1 L = some (.lst (((S.take i).map lineT).map V.str)) ∧ Same H H1) ⟨none, none, rfl, upd_same, same_new nL⟩ ?_ ?_ ?_
    · rintro i σ H1 _ ⟨y2, y3, rfl, h1, s1⟩
      exact .inl (.inl (s1 _ _ hS.l))
    · rintro i x σ H1 hx ⟨y2, y3, rfl, h1, s1⟩
      obtain ⟨b, hbi, p, vs, rfl, hp, hv⟩ := pget' hS.b hx
      have hi : i < S.length := (List.getElem?_eq_some_iff.mp hbi).1
      obtain ⟨hb4, hbj⟩ := hb.2 b (List.mem_of_getElem? hbi)
      have hp1 := s1 _ _ hp
      refine ⟨.ref p, rfl, p, rfl, ⟨_, .inl (.inl hp1)⟩, fun D nD => ?_⟩
      refine lc_list (xs := vs) (fun k H2 => H2 D = some (.lst (((b.take k).map wordT).map V.str)) ∧ Same H1 H2) ⟨upd_same, same_new nD⟩ ?_ ?_ ?_
      · rintro k H2 _ ⟨h2, s2⟩
        exact .inl (.inl (s2 _ _ hp1))
      · rintro k v H2 hvk ⟨h2, s2⟩
        obtain ⟨j, hj, jv⟩ := pget' hv hvk
        have jv2 := jv.mono (s1.trans s2).tups
        have hk : k < 4 := by
          rw [← hb4]
          exact (List.getElem?_eq_some_iff.mp hj).1
        have hjb := hbj j (List.mem_of_getElem? hj)
        have lw : (((b.take k).map wordT).map V.str).length < sizeLine := small1000 (by rw [List.length_map, List.length_map, List.length_take]; omega)
        have fin : ∀ H3, Same H2 H3 → ∃ acc, H3 D = some (.lst acc) ∧ acc.length < sizeLine ∧ ((upd H3 D (.lst (acc ++ [.str (wordT j)]))) D = some (.lst (((b.take (k + 1)).map wordT).map V.str)) ∧ Same H1 (upd H3 D (.lst (acc ++ [.str (wordT j)])))) := fun H3 s3 => by
          refine ⟨_, s3 _ _ h2, lw, ?_, same_fill (s2.trans s3) nD⟩
          rw [upd_same, List.take_add_one, hj, List.map_append, List.map_append]
          rfl
        refine ⟨rfl, v, rfl, rfl, ?_⟩
        rw [jv2.isN]
        refine ⟨_, rfl, ?_⟩
        cases j with
        | none =>
          refine iteT ?_
          exact fin H2 (Same.refl _)
        | some nt =>
          obtain ⟨n, t⟩ := nt
          obtain ⟨hn64, ht4, htx⟩ := hjb n t rfl
          obtain ⟨pj, pq, rfl, f1, f2⟩ := jv2
          refine iteF ?_
          refine ⟨.ref pj, rfl, pj, _, 0, intV n, rfl, rfl, f1.sqt, rfl, (n : Int), rfl, num_log hn64, _, _, rfl, rfl, ?_, ⟨_, rfl⟩, .ref pj, rfl, pj, _, 1, .ref pq, rfl, rfl, f1.sqt, rfl, pq, rfl, ⟨_, f2.sqt⟩, fun D2 nD2 => ?_⟩
          · have ln := num_len n hn64
            have e1 : (Str.ofString ":").length = 1 := by decide +kernel
            show (numT n).length + (Str.ofString ":").length ≤ sizeLine
            exact Nat.le_of_lt (small1000 (by omega))
          refine lc_tup (xs := trnV t) (fun m H3 => H3 = upd H2 D2 (.lst (((t.take m).map numT).map V.str))) rfl ?_ ?_ ?_
          · rintro m H3 _ rfl
            exact (f2.mono (same_new nD2).tups).sqt
          · rintro m x H3 hx rfl
            unfold trnV at hx
            rw [List.getElem?_map] at hx
            cases hc : t[m]? with
            | none =>
              rw [hc] at hx
              cases hx
            | some c =>
              rw [hc] at hx
              have ex : intV c = x := Option.some.inj hx
              subst ex
              have hm : m < t.length := (List.getElem?_eq_some_iff.mp hc).1
              have hc4 := htx c (List.mem_of_getElem? hc)
              refine ⟨rfl, intV c, rfl, (c : Int), rfl, num_log (by omega), _, upd_same, small1000 (by rw [List.length_map, List.length_map, List.length_take]; omega), ?_⟩
              rw [upd_upd, List.take_add_one, hc, List.map_append, List.map_append]
              rfl
          · rintro H3 rfl
            unfold trnV
            rw [List.length_map, List.take_length]
            have lsum := sum_le (ys := t.map numT) (c := 1) fun y hy => by
              obtain ⟨x, hx, rfl⟩ := List.mem_map.mp hy
              exact fig_len x (htx x hx)
            rw [List.length_map, ht4] at lsum
            refine ⟨_, D2, t.map numT, rfl, rfl, .inl (.inl (.inl upd_same)), ?_, ?_⟩
            · rw [List.length_map, ht4]
              exact Nat.le_trans (Nat.add_le_add lsum (Nat.le_refl _)) (by decide +kernel)
            refine ⟨_, _, rfl, rfl, ?_, fin _ (same_new nD2)⟩
            have lf := fig_le ht4 htx
            have ln := num_len n hn64
            have e1 : (Str.ofString ":").length = 1 := by decide +kernel
            show (numT n ++ Str.ofString ":").length + (figT t).length ≤ sizeLine
            rw [strLen_append]
            exact Nat.le_of_lt (small1000 (by omega))
      · rintro H2 ⟨h2, s2⟩
        rw [plen hv, List.take_length] at h2
        have ls := sum_le (ys := b.map wordT) (c := 7) fun y hy => by
          obtain ⟨j, hj, rfl⟩ := List.mem_map.mp hy
          exact word_len (hbj j hj)
        rw [List.length_map, hb4] at ls
        refine ⟨.ref L, rfl, .inl ⟨rfl, _, .inl (.inl (s2 _ _ h1))⟩, ⟨_, rfl⟩, .ref D, rfl, _, D, b.map wordT, rfl, rfl, .inl (.inl (.inl h2)), ?_, ?_⟩
        · rw [List.length_map, hb4]
          exact Nat.le_trans (Nat.add_le_add ls (Nat.le_refl _)) (by decide +kernel)
        refine ⟨L, _, _, rfl, rfl, s2 _ _ h1, small1000 (by rw [List.length_map, List.length_map, List.length_take]; omega), _, _, rfl, ?_, same_fill (s1.trans s2) nL⟩
        rw [upd_same, List.take_add_one, hbi, List.map_append, List.map_append]
        rfl
    · rintro σ H1 ⟨y2, y3, rfl, h1, s1⟩
      rw [lrs, List.take_length] at h1
      have ls := sum_le (ys := S.map lineT) (c := 32) fun y hy => by
        obtain ⟨b, hb', rfl⟩ := List.mem_map.mp hy
        exact line_len (hb.2 b hb').1 (hb.2 b hb').2
      rw [List.length_map] at ls
      refine ⟨⟨_, rfl⟩, .ref L, rfl, _, L, S.map lineT, rfl, rfl, .inl (.inl (.inl h1)), ?_, q H1 s1⟩
      rw [List.length_map]
      have e1 : (Str.ofString "\n").length = 1 := by decide +kernel
      show _ + S.length * (Str.ofString "\n").length ≤ 16777216
      rw [e1]
      omega
end
end Bk

namespace Bk
open PySem PySem.Spec PyProof.Rows L2 TL
local macro_rules | `(tactic| walk_at "g") => `(tactic| (repeat first | refine ⟨_, rfl, ?_⟩ | refine ⟨cpow, ?_⟩ | refine ⟨wideM, ?_⟩ | refine ⟨_, _, rfl, rfl, ?_⟩ | refine ⟨rfl, ?_⟩))
section
variable {P : Program} {w : World} {K : PySem.W.Frag} {mg : Str → Option Value} {base : Heap}
abbrev s_law_spoilt : Stmt := topS 54
abbrev N_law_spoilt : List Str := ["reel", "line", "words", "at", "some", "odd"]
theorem sc_law_spoilt : FnScope N_law_spoilt ["reel", "line"] (defScope s_law_spoilt) := ⟨rfl, rfl, rfl, by decide +kernel, rfl, by decide +kernel, by decide +kernel⟩
def spSpoilt : Sp := fun vs H Q _ => ∃ (R : Addr) (ws : List Str), vs = [.ref R, .str (Txt.join (Str.ofString " ") ws)] ∧ ReelOk R H ∧ ws.length = 4 ∧ (∀ w ∈ ws, Wok w) ∧ ∀ H' x, Keep R H H' → Aw R H H' → ReelOk R H' → Spoilt x → Q (.str x) H'
theorem ok_law_spoilt {f fD : Addr} {fd fdD : FuncData} (F : Fun K "_law_spoilt" "_law_spoilt" s_law_spoilt f fd)
    (F_law_draw : Fun K "_law_draw" "_law_draw" s_law_draw fD fdD) (g_law_draw : mg "_law_draw" = some (.ref fD)) (b_law_draw : Binds K fdD ["reel", "many"] []) (G_law_draw : FnOk P w K mg base CX0 1 fD fdD ["reel", "many"] spDraw) : FnOk P w K mg base CX0 2 f fd ["reel", "line"] spSpoilt := by
  refine F.ok sc_law_spoilt (fun vs H Q E h => ?_) (fun cdv A outer s H vs Q E hr h => ?_)
  · obtain ⟨R, ws, rfl, _⟩ := h
    rfl
  · obtain ⟨R, ws, rfl, hR, h4, hw, q⟩ := h
    have nd := sc_law_spoilt.nd
    refine ⟨_, qss_setSplit (i := 2) nd rfl (.inl rfl) (pv 1) (qsst_cons (qst_of (ps_set (i := 3) nd rfl (.inl rfl) (pe_call G_law_draw (hr.mono (by first | decide | omega)) (by rfl) g_law_draw F_law_draw.kp b_law_draw .nil pass0 (pa_cons (pv 0) (pa_cons pe_int pa_nil)))))
      (qsst_cons (qst_set (i := 4) nd rfl (.inl rfl) (qet_lst (qat_cons (qet_of (kJoin K rfl (pe_join pe_str (pe_slice (kSlL K rfl) (pv 2) po_none (po_some pe_int))))) (qat_cons (qet_of (pe_op op_add_str (pv 1) pe_str)) (qat_cons (qet_of (pe_op op_add_str (pv 1) pe_str)) (qat_cons (qet_of (pe_op op_add_str pe_str (pv 1))) (qat_cons (qet_of pe_str) (qat_cons (qet_replC (pv 1)) (qat_cons (qet_of (pe_op op_add_str pe_str (pv 1))) qat_nil)))))))))
      (qsst_of (pss_cons (ps_set (i := 5) nd rfl (.inl rfl) (pe_lst (pa_cons pe_str (pa_cons pe_str (pa_cons pe_str (pa_cons pe_str (pa_cons pe_str (pa_cons pe_str (pa_cons pe_str (pa_cons pe_str (pa_cons pe_str (pa_cons pe_str (pa_cons pe_str (pa_cons pe_str pa_nil))))))))))))))
      (pss_cons (ps_asg (pe_ix (kIxL K rfl) (pv 5) (pe_call G_law_draw (hr.mono (by first | decide | omega)) (by rfl) g_law_draw F_law_draw.kp b_law_draw .nil pass0 (pa_cons (pv 0) (pa_cons pe_int pa_nil))) (fun _ _ => rfl)) (pg_sub (pv 2) (pv 3) set_list))
      (pss_one (ps_ret (pe_ix (kIxL K rfl) (pe_op op_cat (pe_slice (kSlL K rfl) (pv 4) po_none (po_some pe_int)) (pe_op op_rep (pe_lst (pa_cons (kJoin K rfl (pe_join pe_str (pv 2))) pa_nil)) pe_int)) (pe_call G_law_draw (hr.mono (by first | decide | omega)) (by rfl) g_law_draw F_law_draw.kp b_law_draw .nil pass0 (pa_cons (pv 0) (pa_cons pe_int pa_nil))) (fun _ _ => rfl))))))))), ?_⟩
    have hW : Wds ws := ⟨(fun z => by rw [z] at h4; cases h4), fun w hw' => (hw w hw').2.1⟩
    have ll : (Txt.join (Str.ofString " ") ws).length ≤ 100 := by
      have h1 : (Txt.join (Str.ofString " ") ws).length ≤ ws.length * 10 + ws.length * (Str.ofString " ").length := join_le fun y hy => (hw y hy).1
      have e1 : (Str.ofString " ").length = 1 := by decide +kernel
      rw [h4, e1] at h1
      omega
    refine ⟨.str (Txt.join (Str.ofString " ") ws), rfl, ⟨_, rfl⟩, Txt.join (Str.ofString " ") ws, Str.ofString " ", rfl, rfl, by decide +kernel, by rw [sizeLine_eq]; omega, fun p1 np1 => ?_⟩
    rw [spl_words hW]
    have s1 : Same H (upd H p1 (.lst (ws.map V.str))) := same_new np1
    have g1 : (upd H p1 (.lst (ws.map V.str))) p1 = some (.lst (ws.map V.str)) := upd_same
    have a1 : Away R p1 (upd H p1 (.lst (ws.map V.str))) := hR.away np1
    show tSeq _ _ _ _ (upd H p1 (.lst (ws.map V.str)))
    generalize upd H p1 (.lst (ws.map V.str)) = H1 at s1 g1 a1 ⊢
    refine ⟨.ref R, rfl, R, 4, rfl, by decide, by decide, a1.ok, fun H2 i k2 hR2 w2 i0 i4 => ?_⟩
    have g2 := k2 _ _ g1 a1.ne
    have a2 := w2 p1 (fun z => by rw [g1] at z; cases z) a1
    have e3 : cutV (ws.map V.str) none (some (3 : Int)) = (ws.take 3).map V.str := by rw [show (3 : Int) = ((3 : Nat) : Int) from rfl, cut_to, List.map_take]
    have szl : 1000 ≤ sizeLine := by rw [sizeLine_eq]; decide
    have l1 : (Str.ofString " ").length = 1 := by decide +kernel
    have l2 : (Str.ofString " -").length = 2 := by decide +kernel
    have l3 : (Str.ofString "\t").length = 1 := by decide +kernel
    have l4 : (Str.ofString "  ").length = 2 := by decide +kernel
    have sum_b : ∀ us : List Str, us.length ≤ 4 → (∀ u ∈ us, u.length ≤ 10) → (us.map (·.length)).sum + us.length * (Str.ofString " ").length ≤ 16777216 := fun us hu hus => by
      have := sum_le (ys := us) (c := 10) hus
      rw [l1]
      have : us.length * 10 ≤ 40 := by omega
      omega
    generalize eL : Txt.join (Str.ofString " ") ws = line at ll ⊢
    refine ⟨⟨_, rfl⟩, .ref p1, rfl, 3, rfl, p1, _, rfl, .inl (.inl g2), fun p2 np2 => ?_⟩
    rw [e3]
    have s2 : Same H2 (upd H2 p2 (.lst ((ws.take 3).map V.str))) := same_new np2
    have a3 := a2.same s2
    have g3 := s2 _ _ g2
    have g32 : (upd H2 p2 (.lst ((ws.take 3).map V.str))) p2 = some (.lst ((ws.take 3).map V.str)) := upd_same
    have hR3 := hR2.same s2
    refine ⟨_, p2, ws.take 3, rfl, rfl, .inl (.inl (.inl g32)), sum_b _ (by rw [List.length_take]; omega) (fun u hu => (hw u (List.mem_of_mem_take hu)).1), ?_⟩
    generalize upd H2 p2 (.lst ((ws.take 3).map V.str)) = H3 at s2 a3 g3 g32 hR3 ⊢
    refine ⟨.str line, rfl, _, _, rfl, rfl, by rw [l2]; omega, .str line, rfl, _, _, rfl, rfl, by rw [l1]; omega, .str line, rfl, _, _, rfl, rfl, by rw [l1]; omega, .str line, rfl, _, rfl, by rw [l4]; omega, .str line, rfl, _, _, rfl, rfl, by rw [l3]; omega, ?_⟩
    refine ⟨by show 7 ≤ sizeLine; omega, fun p3 np3 => ?_⟩
    have hsix : ∀ x ∈ [Txt.join (Str.ofString " ") (ws.take 3), line ++ Str.ofString " -", line ++ Str.ofString " ", Str.ofString " " ++ line, Str.ofString "", Txt.replace line (Str.ofString " ") (Str.ofString "  ")], Spoilt x := by
      subst eL
      intro x hx
      simp only [List.mem_cons, List.not_mem_nil, or_false] at hx
      rcases hx with z | z | z | z | z | z
      · rw [z]
        exact sp_few hw h4
      · rw [z]
        rw [show Str.ofString " -" = Str.ofString " " ++ Str.ofString "-" by decide +kernel]
        exact sp_many hw h4 wok_bar
      · rw [z]
        rw [show Str.ofString " " = Str.ofString " " ++ Str.empty by decide +kernel]
        exact sp_many hw h4 wok_none
      · rw [z]
        exact sp_ahead hw h4
      · rw [z]
        exact sp_none
      · rw [z]
        exact sp_twice hw h4
    generalize eS : [Txt.join (Str.ofString " ") (ws.take 3), line ++ Str.ofString " -", line ++ Str.ofString " ", Str.ofString " " ++ line, Str.ofString "", Txt.replace line (Str.ofString " ") (Str.ofString "  ")] = six at hsix
    have l6 : six.length = 6 := by rw [← eS]; rfl
    have e7 : [V.str (Txt.join (Str.ofString " ") (ws.take 3)), V.str (line ++ Str.ofString " -"), V.str (line ++ Str.ofString " "), V.str (Str.ofString " " ++ line), V.str (Str.ofString ""), V.str (Txt.replace line (Str.ofString " ") (Str.ofString "  ")), V.str (Str.ofString "\t" ++ line)] = six.map V.str ++ [V.str (Str.ofString "\t" ++ line)] := by rw [← eS]; rfl
    rw [e7]
    have s3 : Same H3 (upd H3 p3 (.lst (six.map V.str ++ [V.str (Str.ofString "\t" ++ line)]))) := same_new np3
    have a4 := a3.same s3
    have g4 := s3 _ _ g3
    have a43 : Away R p3 (upd H3 p3 (.lst (six.map V.str ++ [V.str (Str.ofString "\t" ++ line)]))) := hR3.away np3
    have g43 : (upd H3 p3 (.lst (six.map V.str ++ [V.str (Str.ofString "\t" ++ line)]))) p3 = some (.lst (six.map V.str ++ [V.str (Str.ofString "\t" ++ line)])) := upd_same
    show tSeq _ _ _ _ (upd H3 p3 (.lst (six.map V.str ++ [V.str (Str.ofString "\t" ++ line)])))
    generalize upd H3 p3 (.lst (six.map V.str ++ [V.str (Str.ofString "\t" ++ line)])) = H4 at s3 a4 g4 a43 g43 ⊢
    refine ⟨by show 12 ≤ sizeLine; omega, fun p4 np4 => ?_⟩
    have s4 : Same H4 (upd H4 p4 (.lst (odds.map V.str))) := same_new np4
    have a5 := a4.same s4
    have g5 := s4 _ _ g4
    have a53 := a43.same s4
    have g53 := s4 _ _ g43
    have a54 : Away R p4 (upd H4 p4 (.lst (odds.map V.str))) := a4.ok.away np4
    have g54 : (upd H4 p4 (.lst (odds.map V.str))) p4 = some (.lst (odds.map V.str)) := upd_same
    show tSeq _ _ _ _ (upd H4 p4 (.lst (odds.map V.str)))
    generalize upd H4 p4 (.lst (odds.map V.str)) = H5 at s4 a5 g5 a53 g53 a54 g54 ⊢
    have lo : odds.length = 12 := rfl
    refine ⟨.ref p4, rfl, .ref R, rfl, R, 12, rfl, by decide, by decide, a5.ok, fun H6 r k6 hR6 w6 r0 r1 => ?_⟩
    have g6 := k6 _ _ g5 a5.ne
    have a6 := w6 p1 (fun z => by rw [g5] at z; cases z) a5
    have g63 := k6 _ _ g53 a53.ne
    have a63 := w6 p3 (fun z => by rw [g53] at z; cases z) a53
    have g64 := k6 _ _ g54 a54.ne
    obtain ⟨o, ho⟩ : ∃ o, odds[r.toNat]? = some o := ⟨_, List.getElem?_eq_getElem (by rw [lo]; omega)⟩
    obtain ⟨n, rfl⟩ : ∃ n : Nat, i = (n : Int) := ⟨i.toNat, by omega⟩
    refine ⟨p4, odds.map V.str, r, .str o, rfl, rfl, .inl (.inl g64), at_of (j := r.toNat) (by omega) (by rw [List.getElem?_map, ho]; rfl), ?_⟩
    refine ⟨.ref p1, rfl, .int (n : Int), rfl, p1, ws.map V.str, (n : Int), n, rfl, rfl, g6, ixN_lt (by rw [List.length_map]; omega), ?_⟩
    have e8 : (ws.map V.str).set n (.str o) = (ws.set n o).map V.str := by rw [List.map_set]
    rw [e8]
    have ne13 : p3 ≠ p1 := (ne_of_none g3 np3).symm
    have k7 : Keep R H (upd H6 p1 (.lst ((ws.set n o).map V.str))) := keep_fill ((((Keep.of s1).trans k2).same ((s2.trans s3).trans s4)).trans k6) np1
    have w61 : Aw R H H6 := (((s1.aw.trans (Keep.of s1) w2).trans ((Keep.of s1).trans k2) ((s2.trans s3).trans s4).aw).trans (((Keep.of s1).trans k2).same ((s2.trans s3).trans s4)) w6)
    have w7 : Aw R H (upd H6 p1 (.lst ((ws.set n o).map V.str))) := w61.trans ((((Keep.of s1).trans k2).same ((s2.trans s3).trans s4)).trans k6) (Aw.fill a6)
    have a71 : Away R p1 (upd H6 p1 (.lst ((ws.set n o).map V.str))) := a6.fill
    have g71 : (upd H6 p1 (.lst ((ws.set n o).map V.str))) p1 = some (.lst ((ws.set n o).map V.str)) := upd_same
    have g73 : (upd H6 p1 (.lst ((ws.set n o).map V.str))) p3 = some (.lst (six.map V.str ++ [V.str (Str.ofString "\t" ++ line)])) := by
      rw [upd_ne ne13]
      exact k6 _ _ g53 a53.ne
    have lw : (ws.set n o).length = 4 := by rw [List.length_set, h4]
    have hodd := sp_odd hw h4 (i := n) (by omega) (List.mem_of_getElem? ho)
    have hwo : ∀ u ∈ ws.set n o, u.length ≤ 10 := fun u hu => by
      rcases List.mem_or_eq_of_mem_set hu with z | z
      · exact (hw u z).1
      · rw [z]
        exact (odds_no o (List.mem_of_getElem? ho)).2.2.1
    generalize upd H6 p1 (.lst ((ws.set n o).map V.str)) = H7 at k7 w7 a71 g71 g73 ⊢
    have e6 : cutV (six.map V.str ++ [V.str (Str.ofString "\t" ++ line)]) none (some (6 : Int)) = six.map V.str := by
      rw [show (6 : Int) = ((6 : Nat) : Int) from rfl, cut_to, List.take_append_of_le_length (by rw [List.length_map]; omega), List.take_of_length_le (by rw [List.length_map]; omega)]
    refine ⟨.ref p3, rfl, 6, rfl, p3, _, rfl, .inl (.inl g73), fun p5 np5 => ?_⟩
    rw [e6]
    have s8 : Same H7 (upd H7 p5 (.lst (six.map V.str))) := same_new np5
    have g85 : (upd H7 p5 (.lst (six.map V.str))) p5 = some (.lst (six.map V.str)) := upd_same
    have g81 := s8 _ _ g71
    generalize upd H7 p5 (.lst (six.map V.str)) = H8 at s8 g85 g81 ⊢
    refine ⟨⟨_, rfl⟩, .ref p1, rfl, _, p1, ws.set n o, rfl, rfl, .inl (.inl (.inl g81)), sum_b _ (by omega) hwo, by show 1 ≤ sizeLine; omega, fun p6 np6 => ?_⟩
    have s9 : Same H8 (upd H8 p6 (.lst [.str (Txt.join (Str.ofString " ") (ws.set n o))])) := same_new np6
    have g96 : (upd H8 p6 (.lst [.str (Txt.join (Str.ofString " ") (ws.set n o))])) p6 = some (.lst [.str (Txt.join (Str.ofString " ") (ws.set n o))]) := upd_same
    refine ⟨p6, 6, _, rfl, rfl, g96, by decide, by decide, by show 1 * 6 ≤ sizeLine; omega, fun p7 np7 => ?_⟩
    generalize upd H8 p6 (.lst [.str (Txt.join (Str.ofString " ") (ws.set n o))]) = H9 at s9 g96 np7 ⊢
    have er : (List.replicate (6 : Int).toNat [V.str (Txt.join (Str.ofString " ") (ws.set n o))]).flatten = (List.replicate 6 (Txt.join (Str.ofString " ") (ws.set n o))).map V.str := rfl
    rw [er]
    have s10 : Same H9 (upd H9 p7 (.lst ((List.replicate 6 (Txt.join (Str.ofString " ") (ws.set n o))).map V.str))) := same_new np7
    have g107 : (upd H9 p7 (.lst ((List.replicate 6 (Txt.join (Str.ofString " ") (ws.set n o))).map V.str))) p7 = some (.lst ((List.replicate 6 (Txt.join (Str.ofString " ") (ws.set n o))).map V.str)) := upd_same
    have g105 := s10 _ _ (s9 _ _ g85)
    generalize upd H9 p7 (.lst ((List.replicate 6 (Txt.join (Str.ofString " ") (ws.set n o))).map V.str)) = H10 at s10 g107 g105 ⊢
    refine ⟨p5, p7, _, _, rfl, rfl, g105, g107, by rw [List.length_map, List.length_map, l6, List.length_replicate]; omega, fun p8 np8 => ?_⟩
    rw [← List.map_append]
    have hall : ∀ x ∈ six ++ List.replicate 6 (Txt.join (Str.ofString " ") (ws.set n o)), Spoilt x := fun x hx => by
      rcases List.mem_append.mp hx with z | z
      · exact hsix x z
      · rw [List.eq_of_mem_replicate z]
        exact hodd
    have l12 : (six ++ List.replicate 6 (Txt.join (Str.ofString " ") (ws.set n o))).length = 12 := by rw [List.length_append, l6, List.length_replicate]
    generalize six ++ List.replicate 6 (Txt.join (Str.ofString " ") (ws.set n o)) = tw at hall l12 ⊢
    have s11 : Same H10 (upd H10 p8 (.lst (tw.map V.str))) := same_new np8
    have g118 : (upd H10 p8 (.lst (tw.map V.str))) p8 = some (.lst (tw.map V.str)) := upd_same
    have s711 : Same H7 (upd H10 p8 (.lst (tw.map V.str))) := ((s8.trans s9).trans s10).trans s11
    have a11 := a71.same s711
    have a118 : Away R p8 (upd H10 p8 (.lst (tw.map V.str))) := (a71.same ((s8.trans s9).trans s10)).ok.away np8
    generalize upd H10 p8 (.lst (tw.map V.str)) = H11 at s11 g118 s711 a11 a118 ⊢
    refine ⟨.ref R, rfl, R, 12, rfl, by decide, by decide, a11.ok, fun H12 r2 k12 hR12 w12 r20 r21 => ?_⟩
    obtain ⟨x, hx⟩ : ∃ x, tw[r2.toNat]? = some x := ⟨_, List.getElem?_eq_getElem (by rw [l12]; omega)⟩
    refine ⟨p8, tw.map V.str, r2, .str x, rfl, rfl, .inl (.inl (k12 _ _ g118 a118.ne)), at_of (j := r2.toNat) (by omega) (by rw [List.getElem?_map, hx]; rfl), ?_⟩
    exact q _ _ ((k7.same s711).trans k12) ((w7.trans k7 s711.aw).trans (k7.same s711) w12) hR12 (hall x (List.mem_of_getElem? hx))
end
end Bk

namespace Bk
open PySem PySem.Spec PyProof.Rows L2 TL RZ
local macro_rules | `(tactic| walk_at "g") => `(tactic| (repeat first | refine ⟨_, rfl, ?_⟩ | refine ⟨cpow, ?_⟩ | refine ⟨wideM, ?_⟩ | refine ⟨_, _, rfl, rfl, ?_⟩ | refine ⟨rfl, ?_⟩))
theorem kMin {X : Cx} (K : PySem.W.Frag) (h : X.K = K) (hc : X.calm = true) : CallR X (.builtin "min") (rMin K) := h ▸ cr_min hc
/-! ### lines -/
def FormW (ws : List Str) : Prop := ws.length = 4 ∧ hasForm ws = true ∧ ∀ w ∈ ws, Wok w
theorem FormW.ln {ws : List Str} (h : FormW ws) : Ln ws := ⟨(fun z => by have := h.1; rw [z] at this; cases this), (by have := h.1; omega), h.2.2⟩
theorem rgV_nat (n : Nat) : rgV 0 (n : Int) = (List.range n).map intV := by
  unfold rgV
  rw [show ((n : Int) - 0).toNat = n by omega]
  exact List.map_congr_left fun x _ => by
    show V.int (0 + (x : Int)) = V.int (x : Int)
    rw [Int.zero_add]
def lns (Ws : List (List Str)) : List V := Ws.map fun ws => V.str (lineW ws)
structure St (R l p : Addr) (rs : List V) (S : Spc) (Ws : List (List Str)) (H : Hp) : Prop where
  sp : SpAt H l rs S
  ln : H p = some (.lst (lns Ws))
  aw : Away R p H
  nl : p ≠ l
  nr : V.ref p ∉ rs
theorem St.same {R l p : Addr} {rs : List V} {S : Spc} {Ws : List (List Str)} {H H' : Hp} (h : St R l p rs S Ws H) (s : Same H H') : St R l p rs S Ws H' := ⟨h.sp.same s, s _ _ h.ln, h.aw.same s, h.nl, h.nr⟩
theorem St.keep {R l p : Addr} {rs : List V} {S : Spc} {Ws : List (List Str)} {H H' : Hp} (h : St R l p rs S Ws H) (k : Keep R H H') (w : ∀ D, H D ≠ none → Away R D H → Away R D H') (l4 : L4 S) (nR : l ≠ R) : St R l p rs S Ws H' :=
  ⟨h.sp.keep k h.aw.ok l4 nR, k _ _ h.ln h.aw.ne, w p (fun z => by rw [h.ln] at z; cases z) h.aw, h.nl, h.nr⟩
theorem St.set {R l p : Addr} {rs : List V} {S : Spc} {Ws : List (List Str)} {H : Hp} (h : St R l p rs S Ws H) (Ws' : List (List Str)) : St R l p rs S Ws' (upd H p (.lst (lns Ws'))) := ⟨h.sp.other h.ln h.nl h.nr, upd_same, h.aw.fill, h.nl, h.nr⟩
theorem St.other {R l p L : Addr} {rs : List V} {S : Spc} {Ws : List (List Str)} {H : Hp} {xs : List V} {o : HO} (h : St R l p rs S Ws H) (hL : H L = some (.lst xs)) (a : Away R L H) (n1 : L ≠ l) (n2 : V.ref L ∉ rs) (n3 : L ≠ p) : St R l p rs S Ws (upd H L o) :=
  ⟨h.sp.other hL n1 n2, by rw [upd_ne n3.symm]; exact h.ln, h.aw.fill' a, h.nl, h.nr⟩
/-- an address that is new is none of these -/
theorem St.new {R l p L : Addr} {rs : List V} {S : Spc} {Ws : List (List Str)} {H : Hp} (h : St R l p rs S Ws H) (n : H L = none) : L ≠ l ∧ V.ref L ∉ rs ∧ L ≠ p := ⟨(ne_of_none h.sp.l n).symm, h.sp.fresh n, (ne_of_none h.ln n).symm⟩
theorem word200 {j : Jn} (h : Jb j) : Wok (wordT j) := ⟨by have := word_len h; omega, (word_free h).1, (word_free h).2, fun c hc => by have := word_mem h c hc; omega⟩
theorem form_blk {b : Blk} (h4 : b.length = 4) (h : ∀ j ∈ b, Jt j) : FormW (b.map wordT) := ⟨by rw [List.length_map, h4], line_form h4 h, fun w hw => by
  obtain ⟨j, hj, rfl⟩ := List.mem_map.mp hw
  exact word200 (h j hj).jb⟩
def oddLine : List Str := [Str.ofString "-", Str.ofString "77:0123", Str.ofString "0:0123", Str.ofString "-"]
theorem form_odd : FormW oddLine := by
  refine ⟨rfl, by decide +kernel, ?_⟩
  have key : ∀ w ∈ oddLine, w.length ≤ 10 ∧ 32 ∉ tl w ∧ 10 ∉ tl w ∧ ∀ c ∈ tl w, c < 200 := by decide +kernel
  exact key
theorem text_is (S : Spc) : textT S = textL (S.map fun b => b.map wordT) := by
  unfold textT textL
  rw [List.map_map]
  rfl
section
variable {P : Program} {w : World} {K : PySem.W.Frag} {mg : Str → Option Value} {base : Heap}
abbrev slaw : Stmt := topS 55
abbrev Nlaw : List Str := ["script", "reel", "k", "blocks", "text", "lines", "left", "spots", "at", "turn", "step"]
theorem sclaw : FnScope Nlaw ["script"] (defScope slaw) := ⟨rfl, rfl, rfl, by decide +kernel, rfl, by decide +kernel, by decide +kernel⟩
def spLaw (K : PySem.W.Frag) : Sp := fun vs H Q _ => ∃ (a : Addr) (ns : List Int), vs = [.ref a] ∧ SqL K H a (ns.map V.int) ∧ ns.length ≤ 63 ∧ ∀ H', Q (.bl true) H'
theorem ok_law {f fR fD fO fS fT fP fA fX : Addr} {fd fdR fdD fdO fdS fdT fdP fdA fdX : FuncData} (F : Fun K "law" "law" slaw f fd)
    (F_law_reel : Fun K "_law_reel" "_law_reel" s_law_reel fR fdR) (g_law_reel : mg "_law_reel" = some (.ref fR)) (b_law_reel : Binds K fdR ["script"] [])
    (F_law_draw : Fun K "_law_draw" "_law_draw" s_law_draw fD fdD) (g_law_draw : mg "_law_draw" = some (.ref fD)) (b_law_draw : Binds K fdD ["reel", "many"] [])
    (F_law_blocks : Fun K "_law_blocks" "_law_blocks" s_law_blocks fO fdO) (g_law_blocks : mg "_law_blocks" = some (.ref fO)) (b_law_blocks : Binds K fdO ["reel", "most"] [])
    (F_law_shut : Fun K "_law_shut" "_law_shut" s_law_shut fS fdS) (g_law_shut : mg "_law_shut" = some (.ref fS)) (b_law_shut : Binds K fdS ["blocks"] [])
    (F_law_text : Fun K "_law_text" "_law_text" s_law_text fT fdT) (g_law_text : mg "_law_text" = some (.ref fT)) (b_law_text : Binds K fdT ["space"] [])
    (F_law_spoilt : Fun K "_law_spoilt" "_law_spoilt" s_law_spoilt fP fdP) (g_law_spoilt : mg "_law_spoilt" = some (.ref fP)) (b_law_spoilt : Binds K fdP ["reel", "line"] [])
    (F_law_alike : Fun K "_law_alike" "_law_alike" s_law_alike fA fdA) (g_law_alike : mg "_law_alike" = some (.ref fA)) (b_law_alike : Binds K fdA ["found", "due"] [])
    (F_law_asked : Fun K "_law_asked" "_law_asked" s_law_asked fX fdX) (g_law_asked : mg "_law_asked" = some (.ref fX)) (b_law_asked : Binds K fdX ["text"] [])
    (G_law_reel : FnOk P w K mg base CX0 1 fR fdR ["script"] (spReel K)) (G_law_draw : FnOk P w K mg base CX0 1 fD fdD ["reel", "many"] spDraw) (G_law_blocks : FnOk P w K mg base CX0 4 fO fdO ["reel", "most"] spBlocks) (G_law_shut : FnOk P w K mg base CX0 1 fS fdS ["blocks"] spShut)
    (G_law_text : FnOk P w K mg base CX0 1 fT fdT ["space"] spLawText) (G_law_spoilt : FnOk P w K mg base CX0 2 fP fdP ["reel", "line"] spSpoilt) (G_law_alike : FnOk P w K mg base CX0 8 fA fdA ["found", "due"] (spAlike 7)) (G_law_asked : FnOk P w K mg base CX0 8 fX fdX ["text"] spAsked)
    (m_range : mg "range" = none) (m_len : mg "len" = none) (m_min : mg "min" = none) (m_list : mg "list" = none) : FnG P w K mg base 9 f fd ["script"] (spLaw K) := by
  refine fnG_of F sclaw (fun vs H Q E h => ?_) (fun cdv A outer s H vs Q E hg hr h => ?_)
  · obtain ⟨a, ns, rfl, _⟩ := h
    rfl
  · obtain ⟨a, ns, rfl, hS, hl, q⟩ := h
    have nd := sclaw.nd
    refine ⟨_, (pss_cons (ps_set (i := 1) nd rfl (.inr rfl) (pe_call G_law_reel (hr.mono (by first | decide | omega)) (by rfl) g_law_reel F_law_reel.kp b_law_reel .nil pass0 (pa_cons (pv 0) pa_nil)))
      (pss_cons (ps_for PassesOwn.never rfl (pi_range1 (by rfl) m_range (pa_cons (pe_op op_add pe_int (pe_callB (call_min2 rfl) (by rfl) m_min (by decide +kernel) (pa_cons (pe_callB (kLen K rfl) (by rfl) m_len (by decide +kernel) (pa_cons (pv 0) pa_nil)) (pa_cons pe_int pa_nil)))) pa_nil)) (pg_name (i := 2) nd rfl (.inl rfl)) (pss_cons (ps_set (i := 3) nd rfl (.inl rfl) (pe_call G_law_blocks (hr.mono (by first | decide | omega)) (by rfl) g_law_blocks F_law_blocks.kp b_law_blocks .nil pass0 (pa_cons (pv 1) (pa_cons (pe_ix (kIxL K rfl) (pe_lst (pa_cons pe_int (pa_cons pe_int pa_nil))) (pe_op op_fdivN (pe_call G_law_draw (hr.mono (by first | decide | omega)) (by rfl) g_law_draw F_law_draw.kp b_law_draw .nil pass0 (pa_cons (pv 1) (pa_cons pe_int pa_nil))) pe_int) (fun _ _ => rfl)) pa_nil))))
      (pss_cons (ps_expr (kBM K rfl (pe_bm PySem.F.plainAttrs_list PySem.F.slot_list_append PySem.F.type_list_append mt_append (pv 3) (pa_cons (pe_op op_rep (pe_lst (pa_cons pe_non pa_nil)) pe_int) pa_nil))))
      (pss_cons (ps_set (i := 4) nd rfl (.inl rfl) (pe_call G_law_text (hr.mono (by first | decide | omega)) (by rfl) g_law_text F_law_text.kp b_law_text .nil pass0 (pa_cons (pv 3) pa_nil)))
      (pss_cons (ps_set (i := 5) nd rfl (.inl rfl) (pe_split (pv 4) pe_str))
      (pss_cons (ps_if (pt_cmpR op_eq (pe_call G_law_draw (hr.mono (by first | decide | omega)) (by rfl) g_law_draw F_law_draw.kp b_law_draw .nil pass0 (pa_cons (pv 1) (pa_cons pe_int pa_nil))) pe_int (nomark _)) (pss_one (ps_asg pe_str (pg_sub (pv 5) (pe_call G_law_draw (hr.mono (by first | decide | omega)) (by rfl) g_law_draw F_law_draw.kp b_law_draw .nil pass0 (pa_cons (pv 1) (pa_cons (pe_callB (kLen K rfl) (by rfl) m_len (by decide +kernel) (pa_cons (pv 5) pa_nil)) pa_nil))) set_list))) pss_nil)
      (pss_cons (ps_set (i := 6) nd rfl (.inr rfl) (pe_listRg rfl (by rfl) m_list (prg_1 (by rfl) m_range (pe_callB (kLen K rfl) (by rfl) m_len (by decide +kernel) (pa_cons (pv 5) pa_nil)))))
      (pss_cons (ps_setLc (i := 7) (own := [("step", 10)]) (g := gName 10) (tt := tYes) rfl nd rfl rfl (sw_true rfl rfl rfl (by decide +kernel)) (pi_range1 (by rfl) m_range (pa_cons (pe_callB (call_min2 rfl) (by rfl) m_min (by decide +kernel) (pa_cons (pe_callB (kLen K rfl) (by rfl) m_len (by decide +kernel) (pa_cons (pv 6) pa_nil)) (pa_cons (pe_op op_add pe_int (pe_call G_law_draw (hr.mono (by first | decide | omega)) (by rfl) g_law_draw F_law_draw.kp b_law_draw .nil pass0 (pa_cons (pv 1) (pa_cons pe_int pa_nil)))) pa_nil))) pa_nil)) (blkOk_by (own := [("step", 10)]) (N := Nlaw) (sc := defScope slaw) (by decide +kernel)) (fun _ _ _ _ _ => (pg_name (i := 10) nd rfl (Or.inl rfl))) (fun _ _ _ _ _ => pts_nil) (fun _ _ _ _ _ => (kBM K rfl (pe_bm PySem.F.plainAttrs_list PySem.F.slot_list_pop PySem.F.type_list_pop mt_popAt (pv 6) (pa_cons (pe_call G_law_draw (hr.mono (by first | decide | omega)) (by rfl) g_law_draw F_law_draw.kp b_law_draw .nil pass0 (pa_cons (pv 1) (pa_cons (pe_callB (kLen K rfl) (by rfl) m_len (by decide +kernel) (pa_cons (pv 6) pa_nil)) pa_nil))) pa_nil)))))
      (pss_cons (ps_for PassesOwn.never rfl (kPiL K rfl (pi_list (pv 7))) (pg_name (i := 8) nd rfl (.inl rfl)) (pss_one (ps_asg (pe_call G_law_spoilt (hr.mono (by first | decide | omega)) (by rfl) g_law_spoilt F_law_spoilt.kp b_law_spoilt .nil pass0 (pa_cons (pv 1) (pa_cons (pe_ix (kIxL K rfl) (pv 5) (pv 8) (fun _ _ => rfl)) pa_nil))) (pg_sub (pv 5) (pv 8) set_list))))
      (pss_one (ps_for PassesOwn.never rfl (pi_range1 (by rfl) m_range (pa_cons pe_int pa_nil)) (pg_name (i := 9) nd rfl (.inl rfl)) (pss_cons (ps_if (pt_not (pt_val (pe_call G_law_alike (hr.mono (by first | decide | omega)) (by rfl) g_law_alike F_law_alike.kp b_law_alike .nil pass0 (pa_cons (pe_call G_law_asked (hr.mono (by first | decide | omega)) (by rfl) g_law_asked F_law_asked.kp b_law_asked .nil pass0 (pa_cons (kJoin K rfl (pe_join pe_str (pv 5))) pa_nil)) (pa_cons (pe_tupF (pa_cons pe_str (pa_cons (pe_op op_add pe_int (pe_callB (kMin K rfl rfl) (by rfl) m_min (by decide +kernel) (pa_cons (pv 7) pa_nil))) pa_nil))) pa_nil))))) (pss_one (ps_ret pe_bl)) pss_nil)
      (pss_one (ps_if (pt_not (pt_val (pe_call G_law_alike (hr.mono (by first | decide | omega)) (by rfl) g_law_alike F_law_alike.kp b_law_alike .nil pass0 (pa_cons (pe_call G_law_asked (hr.mono (by first | decide | omega)) (by rfl) g_law_asked F_law_asked.kp b_law_asked .nil pass0 (pa_cons (pv 4) pa_nil)) (pa_cons (pe_tupF (pa_cons pe_str (pa_cons (pe_call G_law_shut (hr.mono (by first | decide | omega)) (by rfl) g_law_shut F_law_shut.kp b_law_shut .nil pass0 (pa_cons (pv 3) pa_nil)) pa_nil))) pa_nil))))) (pss_one (ps_ret pe_bl)) pss_nil))))))))))))))
      (pss_one (ps_ret pe_bl)))), ?_⟩
    refine ⟨.ref a, rfl, a, ns, rfl, hS, hl, fun H1 R s1 _ hR1 => ?_⟩
    obtain ⟨turns, ht, ht2⟩ : ∃ n : Nat, (1 : Int) + (if (15 : Int) < ((ns.map V.int).length : Int) then (15 : Int) else ((ns.map V.int).length : Int)) = (n : Int) ∧ n ≤ 100 := by
      rw [List.length_map]
      by_cases h : (15 : Int) < (ns.length : Int)
      · exact ⟨16, by rw [if_pos h]; rfl, by decide⟩
      · exact ⟨1 + ns.length, by rw [if_neg h]; omega, by omega⟩
    refine ⟨.ref a, rfl, a, _, rfl, .inl (s1.seq hS), _, _, rfl, _, _, rfl, rfl, (turns : Int), congrArg (fun z => [V.int z]) ht, by omega, by omega, ?_⟩
    rw [Int.toNat_natCast]
    refine for_range (lo := 0) (n := turns) (fun i σ H2 => ∃ y2 y3 y4 y5 y6 y7 y8 y9 y10, σ = [some (.ref a), some (.ref R), y2, y3, y4, y5, y6, y7, y8, y9, y10] ∧ ReelOk R H2) ⟨_, _, _, _, _, _, _, _, _, rfl, hR1⟩ ?_ ?_
    · rintro i σ H2 hi ⟨y2, y3, y4, y5, y6, y7, y8, y9, y10, rfl, hR2⟩
      -- blocks
      refine ⟨.ref R, rfl, by show 2 ≤ sizeLine; rw [sizeLine_eq]; omega, fun p1 np1 => ?_⟩
      have s3 : Same H2 (upd H2 p1 (.lst [.int 8, .int 11])) := same_new np1
      have g3 : (upd H2 p1 (.lst [.int 8, .int 11])) p1 = some (.lst [.int 8, .int 11]) := upd_same
      have a3 : Away R p1 (upd H2 p1 (.lst [.int 8, .int 11])) := hR2.away np1
      generalize upd H2 p1 (.lst [.int 8, .int 11]) = H3 at s3 g3 a3 ⊢
      refine ⟨.ref R, rfl, R, 4, rfl, by decide, by decide, a3.ok, fun H4 r k4 hR4 w4 r0 r1 => ?_⟩
      obtain ⟨most, em, hm1, hm2⟩ : ∃ m : Nat, atI [V.int 8, V.int 11] (r.fdiv 3) = some (intV m) ∧ 1 ≤ m ∧ m ≤ 11 := by
        obtain rfl | rfl | rfl | rfl : r = 0 ∨ r = 1 ∨ r = 2 ∨ r = 3 := by omega
        · exact ⟨8, rfl, by decide, by decide⟩
        · exact ⟨8, rfl, by decide, by decide⟩
        · exact ⟨8, rfl, by decide, by decide⟩
        · exact ⟨11, rfl, by decide, by decide⟩
      refine ⟨r, 3, rfl, rfl, ⟨by decide, by decide⟩, p1, _, _, intV most, rfl, rfl, .inl (.inl (k4 _ _ g3 a3.ne)), em, ?_⟩
      refine ⟨R, most, rfl, hm1, by omega, hR4, fun H5 l rs S k5 hR5 w5 nl hS5 hF5 hG hS1 hS2 => ?_⟩
      have lrs : rs.length = S.length := plen hS5.b
      have nlR : l ≠ R := hR5.isR hS5.l (no_int (bat_ref hS5.b))
      -- blocks.append([None] * 4)
      refine ⟨.ref l, rfl, .inl ⟨rfl, _, .inl (.inl hS5.l)⟩, Nat.le_of_lt (small1000 (by show 1 ≤ 1000; decide)), fun p3 np3 => ?_⟩
      refine ⟨p3, 4, _, rfl, rfl, upd_same, by decide, by decide, Nat.le_of_lt (small1000 (by show 4 ≤ 1000; decide)), fun p4 np4 => ?_⟩
      rw [flat4]
      have s7 : Same H5 (upd (upd H5 p3 (.lst [.non])) p4 (.lst [.non, .non, .non, .non])) := (same_new np3).trans (same_new np4)
      have h7 : (upd (upd H5 p3 (.lst [.non])) p4 (.lst [.non, .non, .non, .non])) p4 = some (.lst [.non, .non, .non, .non]) := upd_same
      have n7 : H5 p4 = none := (same_new np3).free np4
      generalize upd (upd H5 p3 (.lst [.non])) p4 (.lst [.non, .non, .non, .non]) = H7 at s7 h7 ⊢
      have hS7 := hS5.push s7 n7 ⟨p4, _, rfl, h7, .cons rfl (.cons rfl (.cons rfl (.cons rfl .nil)))⟩ (b := free4)
      have hD7 := s7 _ _ hS5.l
      have hR7 := ((hR5.same s7).set (o := .lst (rs ++ [.ref p4])) hD7 (notReel_refs (fun z => by rw [z] at lrs; simp at lrs; omega) (bat_ref hS5.b))).1
      refine ⟨l, rs, .ref p4, rfl, rfl, hD7, small1000 (by omega), ?_⟩
      show tSeq _ _ _ _ (upd H7 l (.lst (rs ++ [.ref p4])))
      have hG8 : Good (S ++ [free4]) := hG.push
      have lS8 : (S ++ [free4]).length = S.length + 1 := by rw [List.length_append]; rfl
      generalize S ++ [free4] = S8 at hS7 hG8 lS8
      generalize rs ++ [V.ref p4] = rs8 at hS7 hR7 ⊢
      generalize upd H7 l (.lst rs8) = H8 at hS7 hR7 ⊢
      have hb8 := hG8.sb (by omega : S8.length ≤ 40)
      have hj8 := hG8.jt (by omega : S8.length ≤ 40)
      have tlen := text_len hb8
      -- text, lines
      refine ⟨.ref l, rfl, l, rs8, S8, rfl, hS7, hb8, fun H9 s9 => ?_⟩
      refine ⟨.str (textT S8), rfl, ⟨_, rfl⟩, textT S8, Str.ofString "\n", rfl, rfl, by decide +kernel, by rw [sizeLine_eq]; omega, fun p np => ?_⟩
      rw [text_split hb8 (by omega)]
      have eW : (S8.map lineT).map V.str = lns (S8.map fun b => b.map wordT) := by
        unfold lns
        rw [List.map_map, List.map_map]
        rfl
      rw [eW]
      have hW0 : ∀ ws ∈ S8.map (fun b => b.map wordT), FormW ws := fun ws hws => by
        obtain ⟨b, hb, rfl⟩ := List.mem_map.mp hws
        exact form_blk (hb8.2 b hb).1 (hj8 b hb)
      have lW0 : (S8.map fun b => b.map wordT).length = S.length + 1 := by rw [List.length_map, lS8]
      have s10 : Same H8 (upd H9 p (.lst (lns (S8.map fun b => b.map wordT)))) := s9.trans (same_new np)
      have T10 : St R l p rs8 S8 (S8.map fun b => b.map wordT) (upd H9 p (.lst (lns (S8.map fun b => b.map wordT)))) := by
        have hS9 := hS7.same s9
        exact ⟨hS7.same s10, upd_same, (hR7.same s9).away np, (ne_of_none hS9.l np).symm, hS9.fresh np⟩
      show tSeq _ _ _ _ (upd H9 p (.lst (lns (S8.map fun b => b.map wordT))))
      generalize upd H9 p (.lst (lns (S8.map fun b => b.map wordT))) = H10 at s10 T10 ⊢
      generalize S8.map (fun b => b.map wordT) = W0 at T10 hW0 lW0
      -- one line otherwise
      refine ⟨.ref R, rfl, R, 2, rfl, by decide, by decide, T10.aw.ok, fun H11 r2 k11 hR11 w11 r20 r21 => ?_⟩
      have T11 := T10.keep k11 w11 hG8.l4 nlR
      have lns_len : ∀ W : List (List Str), (lns W).length = W.length := fun W => List.length_map ..
      have lns_set : ∀ (W : List (List Str)) (j : Nat) (ws : List Str), (lns W).set j (.str (lineW ws)) = lns (W.set j ws) := fun W j ws => by
        unfold lns
        rw [List.map_set]
      refine ⟨rfl, _, rfl, ite2 (fun e => ?_) (fun e => ?_)⟩
      · refine ⟨.ref p, rfl, .ref R, rfl, .ref p, rfl, p, _, rfl, .inl (.inl (.inl T11.ln)), R, ((lns W0).length : Int), rfl, by rw [lns_len]; omega, by rw [lns_len]; omega, T11.aw.ok, fun H12 r3 k12 hR12 w12 r30 r31 => ?_⟩
        have T12 := T11.keep k12 w12 hG8.l4 nlR
        rw [lns_len] at r31
        obtain ⟨j, rfl⟩ : ∃ j : Nat, r3 = (j : Int) := ⟨r3.toNat, by omega⟩
        refine ⟨p, lns W0, (j : Int), j, rfl, rfl, T12.ln, ixN_lt (by rw [lns_len]; omega), ?_⟩
        rw [show V.str (Str.ofString "- 77:0123 0:0123 -") = V.str (lineW oddLine) by decide +kernel, lns_set]
        have T13 := T12.set (W0.set j oddLine)
        have hW : ∀ ws ∈ W0.set j oddLine, FormW ws := fun ws hws => by
          rcases List.mem_or_eq_of_mem_set hws with z | z
          · exact hW0 ws z
          · rw [z]
            exact form_odd
        have lW : (W0.set j oddLine).length = S.length + 1 := by rw [List.length_set, lW0]
        generalize upd H12 p (.lst (lns (W0.set j oddLine))) = H14 at T13 ⊢
        generalize W0.set j oddLine = W at T13 hW lW
        have T14 := T13
        -- left
        have hlp := T14.ln
        refine ⟨.ref p, rfl, p, _, rfl, .inl (.inl (.inl T14.ln)), ((lns W).length : Int), rfl, .of_le (by decide) (by rw [lns_len]; omega) (by decide) (by rw [lns_len]; omega), fun L nL => ?_⟩
        rw [lns_len, rgV_nat]
        have h1L : (upd H14 L (.lst ((List.range W.length).map intV))) L = some (.lst (trnV (List.range W.length))) := upd_same
        have T15 := T14.same (same_new (o := .lst ((List.range W.length).map intV)) nL)
        have aL : Away R L (upd H14 L (.lst ((List.range W.length).map intV))) := T14.aw.ok.away nL
        obtain ⟨nLl, nLr, nLp⟩ := T14.new nL
        show tSeq _ _ _ _ (upd H14 L (.lst ((List.range W.length).map intV)))
        generalize upd H14 L (.lst ((List.range W.length).map intV)) = H15 at h1L T15 aL ⊢
        -- spots
        have lL : (trnV (List.range W.length)).length = S.length + 1 := by unfold trnV; rw [List.length_map, List.length_range, lW]
        refine ⟨.ref L, rfl, L, _, rfl, .inl (.inl (.inl h1L)), .ref R, rfl, R, 2, rfl, by decide, by decide, T15.aw.ok, fun H16 r4 k16 hR16 w16 r40 r41 => ?_⟩
        have T16 := T15.keep k16 w16 hG8.l4 nlR
        have h16L := k16 _ _ h1L aL.ne
        have a16L := w16 L (fun z => by rw [h1L] at z; cases z) aL
        obtain ⟨m, em, hm1', hm2'⟩ : ∃ m : Nat, (if (2 : Int) + r4 < ((trnV (List.range W.length)).length : Int) then (2 : Int) + r4 else ((trnV (List.range W.length)).length : Int)) = (m : Int) ∧ 1 ≤ m ∧ m ≤ S.length + 1 := by
          rw [lL]
          by_cases h : (2 : Int) + r4 < ((S.length + 1 : Nat) : Int)
          · exact ⟨(2 + r4).toNat, by rw [if_pos h]; omega, by omega, by omega⟩
          · exact ⟨S.length + 1, by rw [if_neg h], by omega, Nat.le_refl _⟩
        refine ⟨2, r4, rfl, rfl, _, _, rfl, (m : Int), congrArg (fun z => [V.int z]) em, by omega, by omega, fun D nD => ?_⟩
        have nLD : L ≠ D := ne_of_none h16L nD
        rw [Int.toNat_natCast]
        have szl : 1000 ≤ sizeLine := by rw [sizeLine_eq]; decide
        obtain ⟨nDl, nDr, nDp⟩ := T16.new nD
        refine lc_range (lo := 0) (n := m) (fun i H3 => ∃ fs gs, H3 L = some (.lst (trnV fs)) ∧ H3 D = some (.lst (trnV gs)) ∧ (gs ++ fs).Perm (List.range W.length) ∧ gs.length = i ∧ Away R D H3 ∧ Away R L H3 ∧ St R l p rs8 S8 W H3)
          ⟨List.range W.length, [], by rw [upd_ne nLD]; exact h16L, upd_same, .refl _, rfl, T16.aw.ok.away nD, a16L.same (same_new nD), T16.same (same_new nD)⟩ ?_ ?_
        · rintro i3 H3 hi3 ⟨fs, gs, h3, h3', pm, rfl, aD3, aL3, T3⟩
          have hl3 : fs.length = W.length - gs.length := by
            have := pm.length_eq
            rw [List.length_append, List.length_range] at this
            omega
          have lm : (trnV fs).length = fs.length := List.length_map ..
          refine ⟨rfl, .ref L, rfl, .inl ⟨rfl, _, .inl (.inl h3)⟩, .ref R, rfl, .ref L, rfl, L, _, rfl, .inl (.inl (.inl h3)), R, ((trnV fs).length : Int), rfl, by rw [lm]; omega, by rw [lm]; omega, aD3.ok, fun H4 r k4 hR4 w4 r0 r1 => ?_⟩
          rw [lm] at r1
          obtain ⟨x, hx⟩ : ∃ x, fs[r.toNat]? = some x := ⟨_, List.getElem?_eq_getElem (by omega)⟩
          have h4 := k4 _ _ h3 aL3.ne
          have h4' := k4 _ _ h3' aD3.ne
          have aL4 := w4 L (fun z => by rw [h3] at z; cases z) aL3
          have aD4 := w4 D (fun z => by rw [h3'] at z; cases z) aD3
          have T4 := T3.keep k4 w4 hG8.l4 nlR
          refine ⟨L, _, r, r.toNat, intV x, rfl, rfl, h4, by omega, by omega, pop_ix lm r0 r1, by unfold trnV; rw [List.getElem?_map, hx]; rfl, ?_⟩
          have ee : (trnV fs).eraseIdx r.toNat = trnV (fs.eraseIdx r.toNat) := erase_map
          rw [ee]
          have h5 : (upd H4 L (.lst (trnV (fs.eraseIdx r.toNat)))) L = some (.lst (trnV (fs.eraseIdx r.toNat))) := upd_same
          have h5' : (upd H4 L (.lst (trnV (fs.eraseIdx r.toNat)))) D = some (.lst (trnV gs)) := by rw [upd_ne nLD.symm]; exact h4'
          have aL5 : Away R L (upd H4 L (.lst (trnV (fs.eraseIdx r.toNat)))) := aL4.fill
          have aD5 : Away R D (upd H4 L (.lst (trnV (fs.eraseIdx r.toNat)))) := aD4.fill' aL4
          have T5 := T4.other (o := .lst (trnV (fs.eraseIdx r.toNat))) h4 aL4 nLl nLr nLp
          generalize upd H4 L (.lst (trnV (fs.eraseIdx r.toNat))) = H5 at h5 h5' aL5 aD5 T5 ⊢
          refine ⟨_, h5', small1000 (by unfold trnV; rw [List.length_map]; omega), fs.eraseIdx r.toNat, gs ++ [x], by rw [upd_ne nLD]; exact h5, by rw [upd_same]; unfold trnV; rw [List.map_append]; rfl, ?_, by rw [List.length_append]; rfl, aD5.fill, aL5.fill' aD5, T5.other h5' aD5 nDl nDr nDp⟩
          rw [List.append_assoc]
          exact ((pperm_erase hx).append_left gs).trans pm
        · rintro H17 ⟨fs, gs, h17, h17', pm, hg, aD17, aL17, T17⟩
          have gnd : gs.Nodup := (List.nodup_append.mp (pm.symm.nodup List.nodup_range)).1
          have glt : ∀ g ∈ gs, g < W.length := fun g hg' => List.mem_range.mp (pm.mem_iff.mp (List.mem_append_left _ hg'))
          -- lines[at] = _law_spoilt(reel, lines[at])
          refine ⟨.ref D, rfl, D, rfl, ⟨_, .inl (.inl h17')⟩, ?_⟩
          refine for_list (xs := trnV gs) (fun i5 σ H3 => ∃ y8, σ = [some (.ref a), some (.ref R), some (.int (0 + (i : Int))), some (.ref l), some (.str (textT S8)), some (.ref p), some (.ref L), some (.ref D), y8, y9, y10] ∧ H3 D = some (.lst (trnV gs)) ∧ Away R D H3 ∧
            ∃ Wi, St R l p rs8 S8 Wi H3 ∧ Wi.length = W.length ∧ (∀ ws ∈ Wi, Ln ws) ∧ (∀ j us, Wi[j]? = some us → j ∈ gs.take i5 → hasForm us = false) ∧ ∀ j, j ∉ gs.take i5 → Wi[j]? = W[j]?)
            ⟨y8, rfl, h17', aD17, W, T17, rfl, fun ws hws => (hW ws hws).ln, (fun j us _ z => by simp at z), fun j _ => rfl⟩ ?_ ?_ ?_
          · rintro i5 σ H3 _ ⟨y8, rfl, h3, aD3, Wi, T3, lWi, hLi, hSi, hKi⟩
            exact .inl (.inl h3)
          · rintro i5 x σ H3 hx ⟨y8, rfl, h3, aD3, Wi, T3, lWi, hLi, hSi, hKi⟩
            unfold trnV at hx
            rw [List.getElem?_map] at hx
            cases hg5 : gs[i5]? with
            | none =>
              rw [hg5] at hx
              cases hx
            | some g =>
              rw [hg5] at hx
              have ex : intV g = x := Option.some.inj hx
              subst ex
              have hgm := List.mem_of_getElem? hg5
              have hgW := glt g hgm
              have hi5 : i5 < gs.length := (List.getElem?_eq_some_iff.mp hg5).1
              have hnot : g ∉ gs.take i5 := fun z => by
                obtain ⟨j, hj⟩ := List.mem_iff_getElem?.mp z
                rw [List.getElem?_take] at hj
                by_cases hji : j < i5
                · rw [if_pos hji] at hj
                  have := (List.getElem?_inj (by omega : j < gs.length) gnd).mp (hj.trans hg5.symm)
                  omega
                · rw [if_neg hji] at hj
                  cases hj
              obtain ⟨us, hus⟩ : ∃ us, W[g]? = some us := ⟨_, List.getElem?_eq_getElem hgW⟩
              have husi : Wi[g]? = some us := (hKi g hnot).trans hus
              have hF := hW us (List.mem_of_getElem? hus)
              refine ⟨.ref R, rfl, .ref p, rfl, intV g, rfl, p, lns Wi, (g : Int), .str (lineW us), rfl, rfl, .inl (.inl T3.ln), at_of (j := g) rfl (by unfold lns; rw [List.getElem?_map, husi]; rfl), R, us, rfl, T3.aw.ok, hF.1, hF.2.2, fun H4 x k4 w4 hR4 hsp => ?_⟩
              have T4 := T3.keep k4 w4 hG8.l4 nlR
              have h4 := k4 _ _ h3 aD3.ne
              have aD4 := w4 D (fun z => by rw [h3] at z; cases z) aD3
              obtain ⟨us2, rfl, hne, hle, hnf, hok⟩ := hsp
              refine ⟨.ref p, rfl, intV g, rfl, p, lns Wi, (g : Int), g, rfl, rfl, T4.ln, ixN_lt (by rw [lns_len]; omega), ?_⟩
              rw [show V.str (Txt.join (Str.ofString " ") us2) = V.str (lineW us2) from rfl, lns_set]
              refine ⟨_, rfl, by rw [upd_ne nDp]; exact h4, aD4.fill' T4.aw, Wi.set g us2, T4.set _, by rw [List.length_set, lWi], fun ws hws => ?_, fun j us3 hj hjm => ?_, fun j hj => ?_⟩
              · rcases List.mem_or_eq_of_mem_set hws with z | z
                · exact hLi ws z
                · rw [z]
                  exact ⟨hne, hle, hok⟩
              · by_cases hjg : j = g
                · subst hjg
                  rw [List.getElem?_set_self (by omega)] at hj
                  rw [← Option.some.inj hj]
                  exact hnf
                · rw [List.getElem?_set_ne (Ne.symm hjg)] at hj
                  refine hSi j us3 hj ?_
                  rw [List.take_add_one, hg5] at hjm
                  rcases List.mem_append.mp hjm with z | z
                  · exact z
                  · exact absurd (List.mem_singleton.mp z) hjg
              · have hjg : j ≠ g := fun z => hj (by
                  rw [z, List.take_add_one, hg5]
                  exact List.mem_append_right _ List.mem_cons_self)
                rw [List.getElem?_set_ne (Ne.symm hjg)]
                refine hKi j fun z => hj ?_
                rw [List.take_add_one]
                exact List.mem_append_left _ z
          · rintro σ H18 ⟨y8, rfl, h18, aD18, Wf, T18, lWf, hLf, hSf, hKf⟩
            rw [show (trnV gs).length = gs.length from List.length_map .., List.take_length] at hSf hKf
            obtain ⟨kmin, hkm, hkle⟩ : ∃ k ∈ gs, ∀ y ∈ gs, k ≤ y := by
              have hne : gs ≠ [] := fun z => by rw [z] at hg; simp at hg; omega
              obtain ⟨k, hk⟩ := Option.isSome_iff_exists.mp (List.isSome_min?_of_ne_nil hne)
              exact ⟨k, List.min?_mem hk, fun y hy => (List.min?_eq_some_iff.mp hk).2 y hy⟩
            obtain ⟨usk, husk⟩ : ∃ us, Wf[kmin]? = some us := ⟨_, List.getElem?_eq_getElem (by rw [lWf]; exact glt kmin hkm)⟩
            have hbad := hSf kmin usk husk hkm
            have hfirst : ∀ j us, j < kmin → Wf[j]? = some us → hasForm us = true := fun j us hj hjs => by
              have hnm : j ∉ gs := fun z => by have := hkle j z; omega
              rw [hKf j hnm] at hjs
              exact (hW us (List.mem_of_getElem? hjs)).2.1
            have hkl : kmin < W.length := glt kmin hkm
            have etw : lns Wf = (Wf.map lineW).map V.str := by
              unfold lns
              rw [List.map_map]
              rfl
            have egs : trnV gs = (List.map (fun x : Nat => ((x : Nat) : Int)) gs).map V.int := by
              unfold trnV
              rw [List.map_map]
              rfl
            refine ⟨2, rfl, by decide, by decide, ?_⟩
            refine for_range (lo := 0) (n := 2) (fun i6 σ H3 => ∃ y9, σ = [some (.ref a), some (.ref R), some (.int (0 + (i : Int))), some (.ref l), some (.str (textT S8)), some (.ref p), some (.ref L), some (.ref D), y8, y9, y10] ∧ H3 D = some (.lst (trnV gs)) ∧ St R l p rs8 S8 Wf H3) ⟨_, rfl, h18, T18⟩ ?_ ?_
            · rintro i6 σ H3 hi6 ⟨y9, rfl, h3, T3⟩
              have hsum : ((Wf.map lineW).map (·.length)).sum + (Wf.map lineW).length * (Str.ofString "\n").length ≤ 16777216 := by
                have := sum_le (ys := Wf.map lineW) (c := 77) fun y hy => by
                  obtain ⟨b, hb, rfl⟩ := List.mem_map.mp hy
                  exact ln_len (hLf b hb)
                have e1 : (Str.ofString "\n").length = 1 := by decide +kernel
                rw [List.length_map] at this
                rw [e1, List.length_map]
                omega
              refine ⟨⟨_, rfl⟩, .ref p, rfl, _, p, Wf.map lineW, rfl, rfl, .inl (.inl (.inl (T3.ln.trans (by rw [etw])))), hsum, ?_⟩
              refine .inr ⟨Wf, kmin, usk, rfl, hLf, by omega, husk, hbad, fun j us hj hjs => hfirst j us hj hjs, fun H4 v4 s4 hd4 => ?_⟩
              have h4 := s4 _ _ h3
              refine ⟨.ref D, rfl, D, List.map (fun x : Nat => ((x : Nat) : Int)) gs, rfl, .inl (.inl (h4.trans (by rw [egs]))), by rw [List.length_map]; omega, fun mn hmn hle => ?_⟩
              have emn : mn = (kmin : Int) := by
                obtain ⟨g, hgm, rfl⟩ := List.mem_map.mp hmn
                have := hle (kmin : Int) (List.mem_map.mpr ⟨kmin, hkm, rfl⟩)
                have := hkle g hgm
                omega
              subst emn
              refine ⟨1, (kmin : Int), rfl, rfl, Nat.le_of_lt (small1000 (by show 2 ≤ 1000; decide)), fun pt o npt dn => ?_⟩
              have s5 : Same H4 (upd H4 pt (.frz o (.tup [.str "NoLine", .int (1 + (kmin : Int))]))) := same_new npt
              have f5 : FT (upd H4 pt (.frz o (.tup [.str "NoLine", .int (1 + (kmin : Int))]))) pt [.str "NoLine", .int (1 + (kmin : Int))] := FT.new dn
              generalize upd H4 pt (.frz o (.tup [.str "NoLine", .int (1 + (kmin : Int))])) = H5 at s5 f5 ⊢
              rw [show (1 : Int) + (kmin : Int) = ((kmin + 1 : Nat) : Int) by omega] at f5
              refine ⟨fun _ => False, fun _ => False, v4, .ref pt, .tuple [.str "NoLine", .int ((kmin + 1 : Nat) : Int)], rfl, (hd4 _).same s5, .tup f5 (.cons (.str _) (.cons (.int _) .nil)), (by simp only [PyData.depth, PyData.depthAll]; try omega), (by rw [PyData.bulk, show PyData.bulkAll [.str "NoLine", .int ((kmin + 1 : Nat) : Int)] = ("NoLine" : Str).cps.size + 1 + (0 + 1 + 0) by simp only [PyData.bulk, PyData.bulkAll], (by decide +kernel : ("NoLine" : Str).cps.size = 6)]; decide), fun H6 s6 => ⟨_, rfl, iteF ?_⟩⟩
              -- the text itself
              have s46 := (s4.trans s5).trans s6
              have T6 := T3.same s46
              refine ⟨.str (textT S8), rfl, .inl ⟨S8, rfl, hG8, by omega, by omega, fun H7 v7 s7 hd7 => ?_⟩⟩
              have T7 := T6.same s7
              refine ⟨.ref l, rfl, l, rs8, S8, rfl, T7.sp, by omega, fun H8 v8 s8 hd8 => ?_⟩
              refine ⟨Nat.le_of_lt (small1000 (by show 2 ≤ 1000; decide)), fun pt2 o2 npt2 dn2 => ?_⟩
              have s9 : Same H8 (upd H8 pt2 (.frz o2 (.tup [.str "none", v8]))) := same_new npt2
              have f9 : FT (upd H8 pt2 (.frz o2 (.tup [.str "none", v8]))) pt2 [.str "none", v8] := FT.new dn2
              generalize upd H8 pt2 (.frz o2 (.tup [.str "none", v8])) = H9 at s9 f9 ⊢
              have rtin := shut_tiny hb8
              refine ⟨fun _ => False, fun _ => False, v7, .ref pt2, .tuple [.str "none", shutD S8], rfl, (hd7 _).same (s8.trans s9), .tup f9 (.cons (.str _) (.cons ((hd8 _).same s9) .nil)), ?_, ?_, fun H10 s10 => ⟨_, rfl, iteF ?_⟩⟩
              · have := rtin.k
                simp only [PyData.depth, PyData.depthAll]
                omega
              · have := rtin.b
                simp only [PyData.bulk, PyData.bulkAll]
                have e4 : ("none" : Str).cps.size = 4 := by decide +kernel
                omega
              · have sall := (s46.trans s7).trans ((s8.trans s9).trans s10)
                exact ⟨_, rfl, sall _ _ h3, T3.same sall⟩
            · rintro σ H3 ⟨y9, rfl, h3, T3⟩
              exact ⟨_, _, _, _, _, _, _, _, _, rfl, T3.aw.ok⟩
      · have T14 := T11
        have hW := hW0
        have lW := lW0
        clear T10 T11 hW0 lW0
        generalize H11 = H14 at T14 ⊢
        generalize W0 = W at T14 hW lW
        -- left
        have hlp := T14.ln
        refine ⟨.ref p, rfl, p, _, rfl, .inl (.inl (.inl T14.ln)), ((lns W).length : Int), rfl, .of_le (by decide) (by rw [lns_len]; omega) (by decide) (by rw [lns_len]; omega), fun L nL => ?_⟩
        rw [lns_len, rgV_nat]
        have h1L : (upd H14 L (.lst ((List.range W.length).map intV))) L = some (.lst (trnV (List.range W.length))) := upd_same
        have T15 := T14.same (same_new (o := .lst ((List.range W.length).map intV)) nL)
        have aL : Away R L (upd H14 L (.lst ((List.range W.length).map intV))) := T14.aw.ok.away nL
        obtain ⟨nLl, nLr, nLp⟩ := T14.new nL
        show tSeq _ _ _ _ (upd H14 L (.lst ((List.range W.length).map intV)))
        generalize upd H14 L (.lst ((List.range W.length).map intV)) = H15 at h1L T15 aL ⊢
        -- spots
        have lL : (trnV (List.range W.length)).length = S.length + 1 := by unfold trnV; rw [List.length_map, List.length_range, lW]
        refine ⟨.ref L, rfl, L, _, rfl, .inl (.inl (.inl h1L)), .ref R, rfl, R, 2, rfl, by decide, by decide, T15.aw.ok, fun H16 r4 k16 hR16 w16 r40 r41 => ?_⟩
        have T16 := T15.keep k16 w16 hG8.l4 nlR
        have h16L := k16 _ _ h1L aL.ne
        have a16L := w16 L (fun z => by rw [h1L] at z; cases z) aL
        obtain ⟨m, em, hm1', hm2'⟩ : ∃ m : Nat, (if (2 : Int) + r4 < ((trnV (List.range W.length)).length : Int) then (2 : Int) + r4 else ((trnV (List.range W.length)).length : Int)) = (m : Int) ∧ 1 ≤ m ∧ m ≤ S.length + 1 := by
          rw [lL]
          by_cases h : (2 : Int) + r4 < ((S.length + 1 : Nat) : Int)
          · exact ⟨(2 + r4).toNat, by rw [if_pos h]; omega, by omega, by omega⟩
          · exact ⟨S.length + 1, by rw [if_neg h], by omega, Nat.le_refl _⟩
        refine ⟨2, r4, rfl, rfl, _, _, rfl, (m : Int), congrArg (fun z => [V.int z]) em, by omega, by omega, fun D nD => ?_⟩
        have nLD : L ≠ D := ne_of_none h16L nD
        rw [Int.toNat_natCast]
        have szl : 1000 ≤ sizeLine := by rw [sizeLine_eq]; decide
        obtain ⟨nDl, nDr, nDp⟩ := T16.new nD
        refine lc_range (lo := 0) (n := m) (fun i H3 => ∃ fs gs, H3 L = some (.lst (trnV fs)) ∧ H3 D = some (.lst (trnV gs)) ∧ (gs ++ fs).Perm (List.range W.length) ∧ gs.length = i ∧ Away R D H3 ∧ Away R L H3 ∧ St R l p rs8 S8 W H3)
          ⟨List.range W.length, [], by rw [upd_ne nLD]; exact h16L, upd_same, .refl _, rfl, T16.aw.ok.away nD, a16L.same (same_new nD), T16.same (same_new nD)⟩ ?_ ?_
        · rintro i3 H3 hi3 ⟨fs, gs, h3, h3', pm, rfl, aD3, aL3, T3⟩
          have hl3 : fs.length = W.length - gs.length := by
            have := pm.length_eq
            rw [List.length_append, List.length_range] at this
            omega
          have lm : (trnV fs).length = fs.length := List.length_map ..
          refine ⟨rfl, .ref L, rfl, .inl ⟨rfl, _, .inl (.inl h3)⟩, .ref R, rfl, .ref L, rfl, L, _, rfl, .inl (.inl (.inl h3)), R, ((trnV fs).length : Int), rfl, by rw [lm]; omega, by rw [lm]; omega, aD3.ok, fun H4 r k4 hR4 w4 r0 r1 => ?_⟩
          rw [lm] at r1
          obtain ⟨x, hx⟩ : ∃ x, fs[r.toNat]? = some x := ⟨_, List.getElem?_eq_getElem (by omega)⟩
          have h4 := k4 _ _ h3 aL3.ne
          have h4' := k4 _ _ h3' aD3.ne
          have aL4 := w4 L (fun z => by rw [h3] at z; cases z) aL3
          have aD4 := w4 D (fun z => by rw [h3'] at z; cases z) aD3
          have T4 := T3.keep k4 w4 hG8.l4 nlR
          refine ⟨L, _, r, r.toNat, intV x, rfl, rfl, h4, by omega, by omega, pop_ix lm r0 r1, by unfold trnV; rw [List.getElem?_map, hx]; rfl, ?_⟩
          have ee : (trnV fs).eraseIdx r.toNat = trnV (fs.eraseIdx r.toNat) := erase_map
          rw [ee]
          have h5 : (upd H4 L (.lst (trnV (fs.eraseIdx r.toNat)))) L = some (.lst (trnV (fs.eraseIdx r.toNat))) := upd_same
          have h5' : (upd H4 L (.lst (trnV (fs.eraseIdx r.toNat)))) D = some (.lst (trnV gs)) := by rw [upd_ne nLD.symm]; exact h4'
          have aL5 : Away R L (upd H4 L (.lst (trnV (fs.eraseIdx r.toNat)))) := aL4.fill
          have aD5 : Away R D (upd H4 L (.lst (trnV (fs.eraseIdx r.toNat)))) := aD4.fill' aL4
          have T5 := T4.other (o := .lst (trnV (fs.eraseIdx r.toNat))) h4 aL4 nLl nLr nLp
          generalize upd H4 L (.lst (trnV (fs.eraseIdx r.toNat))) = H5 at h5 h5' aL5 aD5 T5 ⊢
          refine ⟨_, h5', small1000 (by unfold trnV; rw [List.length_map]; omega), fs.eraseIdx r.toNat, gs ++ [x], by rw [upd_ne nLD]; exact h5, by rw [upd_same]; unfold trnV; rw [List.map_append]; rfl, ?_, by rw [List.length_append]; rfl, aD5.fill, aL5.fill' aD5, T5.other h5' aD5 nDl nDr nDp⟩
          rw [List.append_assoc]
          exact ((pperm_erase hx).append_left gs).trans pm
        · rintro H17 ⟨fs, gs, h17, h17', pm, hg, aD17, aL17, T17⟩
          have gnd : gs.Nodup := (List.nodup_append.mp (pm.symm.nodup List.nodup_range)).1
          have glt : ∀ g ∈ gs, g < W.length := fun g hg' => List.mem_range.mp (pm.mem_iff.mp (List.mem_append_left _ hg'))
          -- lines[at] = _law_spoilt(reel, lines[at])
          refine ⟨.ref D, rfl, D, rfl, ⟨_, .inl (.inl h17')⟩, ?_⟩
          refine for_list (xs := trnV gs) (fun i5 σ H3 => ∃ y8, σ = [some (.ref a), some (.ref R), some (.int (0 + (i : Int))), some (.ref l), some (.str (textT S8)), some (.ref p), some (.ref L), some (.ref D), y8, y9, y10] ∧ H3 D = some (.lst (trnV gs)) ∧ Away R D H3 ∧
            ∃ Wi, St R l p rs8 S8 Wi H3 ∧ Wi.length = W.length ∧ (∀ ws ∈ Wi, Ln ws) ∧ (∀ j us, Wi[j]? = some us → j ∈ gs.take i5 → hasForm us = false) ∧ ∀ j, j ∉ gs.take i5 → Wi[j]? = W[j]?)
            ⟨y8, rfl, h17', aD17, W, T17, rfl, fun ws hws => (hW ws hws).ln, (fun j us _ z => by simp at z), fun j _ => rfl⟩ ?_ ?_ ?_
          · rintro i5 σ H3 _ ⟨y8, rfl, h3, aD3, Wi, T3, lWi, hLi, hSi, hKi⟩
            exact .inl (.inl h3)
          · rintro i5 x σ H3 hx ⟨y8, rfl, h3, aD3, Wi, T3, lWi, hLi, hSi, hKi⟩
            unfold trnV at hx
            rw [List.getElem?_map] at hx
            cases hg5 : gs[i5]? with
            | none =>
              rw [hg5] at hx
              cases hx
            | some g =>
              rw [hg5] at hx
              have ex : intV g = x := Option.some.inj hx
              subst ex
              have hgm := List.mem_of_getElem? hg5
              have hgW := glt g hgm
              have hi5 : i5 < gs.length := (List.getElem?_eq_some_iff.mp hg5).1
              have hnot : g ∉ gs.take i5 := fun z => by
                obtain ⟨j, hj⟩ := List.mem_iff_getElem?.mp z
                rw [List.getElem?_take] at hj
                by_cases hji : j < i5
                · rw [if_pos hji] at hj
                  have := (List.getElem?_inj (by omega : j < gs.length) gnd).mp (hj.trans hg5.symm)
                  omega
                · rw [if_neg hji] at hj
                  cases hj
              obtain ⟨us, hus⟩ : ∃ us, W[g]? = some us := ⟨_, List.getElem?_eq_getElem hgW⟩
              have husi : Wi[g]? = some us := (hKi g hnot).trans hus
              have hF := hW us (List.mem_of_getElem? hus)
              refine ⟨.ref R, rfl, .ref p, rfl, intV g, rfl, p, lns Wi, (g : Int), .str (lineW us), rfl, rfl, .inl (.inl T3.ln), at_of (j := g) rfl (by unfold lns; rw [List.getElem?_map, husi]; rfl), R, us, rfl, T3.aw.ok, hF.1, hF.2.2, fun H4 x k4 w4 hR4 hsp => ?_⟩
              have T4 := T3.keep k4 w4 hG8.l4 nlR
              have h4 := k4 _ _ h3 aD3.ne
              have aD4 := w4 D (fun z => by rw [h3] at z; cases z) aD3
              obtain ⟨us2, rfl, hne, hle, hnf, hok⟩ := hsp
              refine ⟨.ref p, rfl, intV g, rfl, p, lns Wi, (g : Int), g, rfl, rfl, T4.ln, ixN_lt (by rw [lns_len]; omega), ?_⟩
              rw [show V.str (Txt.join (Str.ofString " ") us2) = V.str (lineW us2) from rfl, lns_set]
              refine ⟨_, rfl, by rw [upd_ne nDp]; exact h4, aD4.fill' T4.aw, Wi.set g us2, T4.set _, by rw [List.length_set, lWi], fun ws hws => ?_, fun j us3 hj hjm => ?_, fun j hj => ?_⟩
              · rcases List.mem_or_eq_of_mem_set hws with z | z
                · exact hLi ws z
                · rw [z]
                  exact ⟨hne, hle, hok⟩
              · by_cases hjg : j = g
                · subst hjg
                  rw [List.getElem?_set_self (by omega)] at hj
                  rw [← Option.some.inj hj]
                  exact hnf
                · rw [List.getElem?_set_ne (Ne.symm hjg)] at hj
                  refine hSi j us3 hj ?_
                  rw [List.take_add_one, hg5] at hjm
                  rcases List.mem_append.mp hjm with z | z
                  · exact z
                  · exact absurd (List.mem_singleton.mp z) hjg
              · have hjg : j ≠ g := fun z => hj (by
                  rw [z, List.take_add_one, hg5]
                  exact List.mem_append_right _ List.mem_cons_self)
                rw [List.getElem?_set_ne (Ne.symm hjg)]
                refine hKi j fun z => hj ?_
                rw [List.take_add_one]
                exact List.mem_append_left _ z
          · rintro σ H18 ⟨y8, rfl, h18, aD18, Wf, T18, lWf, hLf, hSf, hKf⟩
            rw [show (trnV gs).length = gs.length from List.length_map .., List.take_length] at hSf hKf
            obtain ⟨kmin, hkm, hkle⟩ : ∃ k ∈ gs, ∀ y ∈ gs, k ≤ y := by
              have hne : gs ≠ [] := fun z => by rw [z] at hg; simp at hg; omega
              obtain ⟨k, hk⟩ := Option.isSome_iff_exists.mp (List.isSome_min?_of_ne_nil hne)
              exact ⟨k, List.min?_mem hk, fun y hy => (List.min?_eq_some_iff.mp hk).2 y hy⟩
            obtain ⟨usk, husk⟩ : ∃ us, Wf[kmin]? = some us := ⟨_, List.getElem?_eq_getElem (by rw [lWf]; exact glt kmin hkm)⟩
            have hbad := hSf kmin usk husk hkm
            have hfirst : ∀ j us, j < kmin → Wf[j]? = some us → hasForm us = true := fun j us hj hjs => by
              have hnm : j ∉ gs := fun z => by have := hkle j z; omega
              rw [hKf j hnm] at hjs
              exact (hW us (List.mem_of_getElem? hjs)).2.1
            have hkl : kmin < W.length := glt kmin hkm
            have etw : lns Wf = (Wf.map lineW).map V.str := by
              unfold lns
              rw [List.map_map]
              rfl
            have egs : trnV gs = (List.map (fun x : Nat => ((x : Nat) : Int)) gs).map V.int := by
              unfold trnV
              rw [List.map_map]
              rfl
            refine ⟨2, rfl, by decide, by decide, ?_⟩
            refine for_range (lo := 0) (n := 2) (fun i6 σ H3 => ∃ y9, σ = [some (.ref a), some (.ref R), some (.int (0 + (i : Int))), some (.ref l), some (.str (textT S8)), some (.ref p), some (.ref L), some (.ref D), y8, y9, y10] ∧ H3 D = some (.lst (trnV gs)) ∧ St R l p rs8 S8 Wf H3) ⟨_, rfl, h18, T18⟩ ?_ ?_
            · rintro i6 σ H3 hi6 ⟨y9, rfl, h3, T3⟩
              have hsum : ((Wf.map lineW).map (·.length)).sum + (Wf.map lineW).length * (Str.ofString "\n").length ≤ 16777216 := by
                have := sum_le (ys := Wf.map lineW) (c := 77) fun y hy => by
                  obtain ⟨b, hb, rfl⟩ := List.mem_map.mp hy
                  exact ln_len (hLf b hb)
                have e1 : (Str.ofString "\n").length = 1 := by decide +kernel
                rw [List.length_map] at this
                rw [e1, List.length_map]
                omega
              refine ⟨⟨_, rfl⟩, .ref p, rfl, _, p, Wf.map lineW, rfl, rfl, .inl (.inl (.inl (T3.ln.trans (by rw [etw])))), hsum, ?_⟩
              refine .inr ⟨Wf, kmin, usk, rfl, hLf, by omega, husk, hbad, fun j us hj hjs => hfirst j us hj hjs, fun H4 v4 s4 hd4 => ?_⟩
              have h4 := s4 _ _ h3
              refine ⟨.ref D, rfl, D, List.map (fun x : Nat => ((x : Nat) : Int)) gs, rfl, .inl (.inl (h4.trans (by rw [egs]))), by rw [List.length_map]; omega, fun mn hmn hle => ?_⟩
              have emn : mn = (kmin : Int) := by
                obtain ⟨g, hgm, rfl⟩ := List.mem_map.mp hmn
                have := hle (kmin : Int) (List.mem_map.mpr ⟨kmin, hkm, rfl⟩)
                have := hkle g hgm
                omega
              subst emn
              refine ⟨1, (kmin : Int), rfl, rfl, Nat.le_of_lt (small1000 (by show 2 ≤ 1000; decide)), fun pt o npt dn => ?_⟩
              have s5 : Same H4 (upd H4 pt (.frz o (.tup [.str "NoLine", .int (1 + (kmin : Int))]))) := same_new npt
              have f5 : FT (upd H4 pt (.frz o (.tup [.str "NoLine", .int (1 + (kmin : Int))]))) pt [.str "NoLine", .int (1 + (kmin : Int))] := FT.new dn
              generalize upd H4 pt (.frz o (.tup [.str "NoLine", .int (1 + (kmin : Int))])) = H5 at s5 f5 ⊢
              rw [show (1 : Int) + (kmin : Int) = ((kmin + 1 : Nat) : Int) by omega] at f5
              refine ⟨fun _ => False, fun _ => False, v4, .ref pt, .tuple [.str "NoLine", .int ((kmin + 1 : Nat) : Int)], rfl, (hd4 _).same s5, .tup f5 (.cons (.str _) (.cons (.int _) .nil)), (by simp only [PyData.depth, PyData.depthAll]; try omega), (by rw [PyData.bulk, show PyData.bulkAll [.str "NoLine", .int ((kmin + 1 : Nat) : Int)] = ("NoLine" : Str).cps.size + 1 + (0 + 1 + 0) by simp only [PyData.bulk, PyData.bulkAll], (by decide +kernel : ("NoLine" : Str).cps.size = 6)]; decide), fun H6 s6 => ⟨_, rfl, iteF ?_⟩⟩
              -- the text itself
              have s46 := (s4.trans s5).trans s6
              have T6 := T3.same s46
              refine ⟨.str (textT S8), rfl, .inl ⟨S8, rfl, hG8, by omega, by omega, fun H7 v7 s7 hd7 => ?_⟩⟩
              have T7 := T6.same s7
              refine ⟨.ref l, rfl, l, rs8, S8, rfl, T7.sp, by omega, fun H8 v8 s8 hd8 => ?_⟩
              refine ⟨Nat.le_of_lt (small1000 (by show 2 ≤ 1000; decide)), fun pt2 o2 npt2 dn2 => ?_⟩
              have s9 : Same H8 (upd H8 pt2 (.frz o2 (.tup [.str "none", v8]))) := same_new npt2
              have f9 : FT (upd H8 pt2 (.frz o2 (.tup [.str "none", v8]))) pt2 [.str "none", v8] := FT.new dn2
              generalize upd H8 pt2 (.frz o2 (.tup [.str "none", v8])) = H9 at s9 f9 ⊢
              have rtin := shut_tiny hb8
              refine ⟨fun _ => False, fun _ => False, v7, .ref pt2, .tuple [.str "none", shutD S8], rfl, (hd7 _).same (s8.trans s9), .tup f9 (.cons (.str _) (.cons ((hd8 _).same s9) .nil)), ?_, ?_, fun H10 s10 => ⟨_, rfl, iteF ?_⟩⟩
              · have := rtin.k
                simp only [PyData.depth, PyData.depthAll]
                omega
              · have := rtin.b
                simp only [PyData.bulk, PyData.bulkAll]
                have e4 : ("none" : Str).cps.size = 4 := by decide +kernel
                omega
              · have sall := (s46.trans s7).trans ((s8.trans s9).trans s10)
                exact ⟨_, rfl, sall _ _ h3, T3.same sall⟩
            · rintro σ H3 ⟨y9, rfl, h3, T3⟩
              exact ⟨_, _, _, _, _, _, _, _, _, rfl, T3.aw.ok⟩
    · rintro σ H2 ⟨y2, y3, y4, y5, y6, y7, y8, y9, y10, rfl, hR2⟩
      exact q _
end
end Bk

namespace Bk
open PySem PySem.Spec PyProof.Rows L2 RZ
theorem all_mk {l : PySem.W.OpenLaw} {w : World} {K : PySem.W.Frag} {h : Heap} {mg : Str → Option Value} {fa fis_whole fis_listed fis_below fis_order fis_turn fcontrary fspace_of f_block_of f_joining_of f_goes_both_ways fread_space f_has_form fis_joining_word fis_number_word f_block_told f_joining_told f_law_reel f_law_draw f_law_alike f_law_turns f_law_back f_law_set f_law_any f_law_ball f_law_doubled f_law_blocks f_law_shut f_law_kind_of f_law_text f_law_asked f_law_spoilt flaw xNoSpace xNoFace xNoTurn xNoName xNoLine xNoCorner xNoNumbers xNoSurface xNoMove xNoForm xNoneYet xRoomError fNL cdaN ccN : Addr} (X : K.In h) (G : h.Ns mainGlobals mg) (hfa : mg "law" = some (.ref fa))
    {odis_whole anis_whole odis_listed anis_listed odis_below anis_below odis_order anis_order odis_turn anis_turn odcontrary ancontrary odspace_of anspace_of od_block_of an_block_of od_joining_of an_joining_of od_goes_both_ways an_goes_both_ways odread_space anread_space od_has_form an_has_form odis_joining_word anis_joining_word odis_number_word anis_number_word od_block_told an_block_told od_joining_told an_joining_told od_law_reel an_law_reel od_law_draw an_law_draw od_law_alike an_law_alike od_law_turns an_law_turns od_law_back an_law_back od_law_set an_law_set od_law_any an_law_any od_law_ball an_law_ball od_law_doubled an_law_doubled od_law_blocks an_law_blocks od_law_shut an_law_shut od_law_kind_of an_law_kind_of od_law_text an_law_text od_law_asked an_law_asked od_law_spoilt an_law_spoilt odlaw anlaw : Option Addr} {slis_whole slis_listed slis_below slis_order slis_turn slcontrary slspace_of sl_block_of sl_joining_of sl_goes_both_ways slread_space sl_has_form slis_joining_word slis_number_word sl_block_told sl_joining_told sl_law_reel sl_law_draw sl_law_alike sl_law_turns sl_law_back sl_law_set sl_law_any sl_law_ball sl_law_doubled sl_law_blocks sl_law_shut sl_law_kind_of sl_law_text sl_law_asked sl_law_spoilt sllaw : Array (Option Value)} {ocis_whole kVis_whole dcis_whole pmis_whole cdis_whole ctis_whole ocis_listed kVis_listed dcis_listed pmis_listed cdis_listed ctis_listed ocis_below kVis_below dcis_below pmis_below cdis_below ctis_below ocis_order kVis_order dcis_order pmis_order cdis_order ctis_order ocis_turn kVis_turn dcis_turn pmis_turn cdis_turn ctis_turn occontrary kVcontrary dccontrary pmcontrary cdcontrary ctcontrary ocspace_of kVspace_of dcspace_of pmspace_of cdspace_of ctspace_of oc_block_of kV_block_of dc_block_of pm_block_of cd_block_of ct_block_of oc_joining_of kV_joining_of dc_joining_of pm_joining_of cd_joining_of ct_joining_of oc_goes_both_ways kV_goes_both_ways dc_goes_both_ways pm_goes_both_ways cd_goes_both_ways ct_goes_both_ways ocread_space kVread_space dcread_space pmread_space cdread_space ctread_space oc_has_form kV_has_form dc_has_form pm_has_form cd_has_form ct_has_form ocis_joining_word kVis_joining_word dcis_joining_word pmis_joining_word cdis_joining_word ctis_joining_word ocis_number_word kVis_number_word dcis_number_word pmis_number_word cdis_number_word ctis_number_word oc_block_told kV_block_told dc_block_told pm_block_told cd_block_told ct_block_told oc_joining_told kV_joining_told dc_joining_told pm_joining_told cd_joining_told ct_joining_told oc_law_reel kV_law_reel dc_law_reel pm_law_reel cd_law_reel ct_law_reel oc_law_draw kV_law_draw dc_law_draw pm_law_draw cd_law_draw ct_law_draw oc_law_alike kV_law_alike dc_law_alike pm_law_alike cd_law_alike ct_law_alike oc_law_turns kV_law_turns dc_law_turns pm_law_turns cd_law_turns ct_law_turns oc_law_back kV_law_back dc_law_back pm_law_back cd_law_back ct_law_back oc_law_set kV_law_set dc_law_set pm_law_set cd_law_set ct_law_set oc_law_any kV_law_any dc_law_any pm_law_any cd_law_any ct_law_any oc_law_ball kV_law_ball dc_law_ball pm_law_ball cd_law_ball ct_law_ball oc_law_doubled kV_law_doubled dc_law_doubled pm_law_doubled cd_law_doubled ct_law_doubled oc_law_blocks kV_law_blocks dc_law_blocks pm_law_blocks cd_law_blocks ct_law_blocks oc_law_shut kV_law_shut dc_law_shut pm_law_shut cd_law_shut ct_law_shut oc_law_kind_of kV_law_kind_of dc_law_kind_of pm_law_kind_of cd_law_kind_of ct_law_kind_of oc_law_text kV_law_text dc_law_text pm_law_text cd_law_text ct_law_text oc_law_asked kV_law_asked dc_law_asked pm_law_asked cd_law_asked ct_law_asked oc_law_spoilt kV_law_spoilt dc_law_spoilt pm_law_spoilt cd_law_spoilt ct_law_spoilt oclaw kVlaw dclaw pmlaw cdlaw ctlaw : Value}
    {tFIG : Tok}
    (ais_whole : PySem.W.nsIn K mainGlobals "is_whole" = some (some (.ref fis_whole))) (lis_whole : K.lookup fis_whole = some ⟨ocis_whole, odis_whole, .func (PySem.W.fnOf "is_whole" "is_whole" (defArgs sis_whole) (defBody sis_whole) (defScope sis_whole) .none kVis_whole dcis_whole pmis_whole anis_whole cdis_whole ctis_whole), slis_whole⟩) (cis_whole : PySem.W.codeIn K cdis_whole "is_whole" = true) (kis_whole : PySem.W.keepIn K (.ref fis_whole) = true)
    (ais_listed : PySem.W.nsIn K mainGlobals "is_listed" = some (some (.ref fis_listed))) (lis_listed : K.lookup fis_listed = some ⟨ocis_listed, odis_listed, .func (PySem.W.fnOf "is_listed" "is_listed" (defArgs sis_listed) (defBody sis_listed) (defScope sis_listed) .none kVis_listed dcis_listed pmis_listed anis_listed cdis_listed ctis_listed), slis_listed⟩) (cis_listed : PySem.W.codeIn K cdis_listed "is_listed" = true) (kis_listed : PySem.W.keepIn K (.ref fis_listed) = true)
    (ais_below : PySem.W.nsIn K mainGlobals "is_below" = some (some (.ref fis_below))) (lis_below : K.lookup fis_below = some ⟨ocis_below, odis_below, .func (PySem.W.fnOf "is_below" "is_below" (defArgs sis_below) (defBody sis_below) (defScope sis_below) .none kVis_below dcis_below pmis_below anis_below cdis_below ctis_below), slis_below⟩) (cis_below : PySem.W.codeIn K cdis_below "is_below" = true) (kis_below : PySem.W.keepIn K (.ref fis_below) = true)
    (ais_order : PySem.W.nsIn K mainGlobals "is_order" = some (some (.ref fis_order))) (lis_order : K.lookup fis_order = some ⟨ocis_order, odis_order, .func (PySem.W.fnOf "is_order" "is_order" (defArgs sis_order) (defBody sis_order) (defScope sis_order) .none kVis_order dcis_order pmis_order anis_order cdis_order ctis_order), slis_order⟩) (cis_order : PySem.W.codeIn K cdis_order "is_order" = true) (kis_order : PySem.W.keepIn K (.ref fis_order) = true)
    (ais_turn : PySem.W.nsIn K mainGlobals "is_turn" = some (some (.ref fis_turn))) (lis_turn : K.lookup fis_turn = some ⟨ocis_turn, odis_turn, .func (PySem.W.fnOf "is_turn" "is_turn" (defArgs sis_turn) (defBody sis_turn) (defScope sis_turn) .none kVis_turn dcis_turn pmis_turn anis_turn cdis_turn ctis_turn), slis_turn⟩) (cis_turn : PySem.W.codeIn K cdis_turn "is_turn" = true) (kis_turn : PySem.W.keepIn K (.ref fis_turn) = true)
    (acontrary : PySem.W.nsIn K mainGlobals "contrary" = some (some (.ref fcontrary))) (lcontrary : K.lookup fcontrary = some ⟨occontrary, odcontrary, .func (PySem.W.fnOf "contrary" "contrary" (defArgs scontrary) (defBody scontrary) (defScope scontrary) .none kVcontrary dccontrary pmcontrary ancontrary cdcontrary ctcontrary), slcontrary⟩) (ccontrary : PySem.W.codeIn K cdcontrary "contrary" = true) (kcontrary : PySem.W.keepIn K (.ref fcontrary) = true)
    (aspace_of : PySem.W.nsIn K mainGlobals "space_of" = some (some (.ref fspace_of))) (lspace_of : K.lookup fspace_of = some ⟨ocspace_of, odspace_of, .func (PySem.W.fnOf "space_of" "space_of" (defArgs sspace_of) (defBody sspace_of) (defScope sspace_of) .none kVspace_of dcspace_of pmspace_of anspace_of cdspace_of ctspace_of), slspace_of⟩) (cspace_of : PySem.W.codeIn K cdspace_of "space_of" = true) (kspace_of : PySem.W.keepIn K (.ref fspace_of) = true)
    (a_block_of : PySem.W.nsIn K mainGlobals "_block_of" = some (some (.ref f_block_of))) (l_block_of : K.lookup f_block_of = some ⟨oc_block_of, od_block_of, .func (PySem.W.fnOf "_block_of" "_block_of" (defArgs s_block_of) (defBody s_block_of) (defScope s_block_of) .none kV_block_of dc_block_of pm_block_of an_block_of cd_block_of ct_block_of), sl_block_of⟩) (c_block_of : PySem.W.codeIn K cd_block_of "_block_of" = true) (k_block_of : PySem.W.keepIn K (.ref f_block_of) = true)
    (a_joining_of : PySem.W.nsIn K mainGlobals "_joining_of" = some (some (.ref f_joining_of))) (l_joining_of : K.lookup f_joining_of = some ⟨oc_joining_of, od_joining_of, .func (PySem.W.fnOf "_joining_of" "_joining_of" (defArgs s_joining_of) (defBody s_joining_of) (defScope s_joining_of) .none kV_joining_of dc_joining_of pm_joining_of an_joining_of cd_joining_of ct_joining_of), sl_joining_of⟩) (c_joining_of : PySem.W.codeIn K cd_joining_of "_joining_of" = true) (k_joining_of : PySem.W.keepIn K (.ref f_joining_of) = true)
    (a_goes_both_ways : PySem.W.nsIn K mainGlobals "_goes_both_ways" = some (some (.ref f_goes_both_ways))) (l_goes_both_ways : K.lookup f_goes_both_ways = some ⟨oc_goes_both_ways, od_goes_both_ways, .func (PySem.W.fnOf "_goes_both_ways" "_goes_both_ways" (defArgs s_goes_both_ways) (defBody s_goes_both_ways) (defScope s_goes_both_ways) .none kV_goes_both_ways dc_goes_both_ways pm_goes_both_ways an_goes_both_ways cd_goes_both_ways ct_goes_both_ways), sl_goes_both_ways⟩) (c_goes_both_ways : PySem.W.codeIn K cd_goes_both_ways "_goes_both_ways" = true) (k_goes_both_ways : PySem.W.keepIn K (.ref f_goes_both_ways) = true)
    (aread_space : PySem.W.nsIn K mainGlobals "read_space" = some (some (.ref fread_space))) (lread_space : K.lookup fread_space = some ⟨ocread_space, odread_space, .func (PySem.W.fnOf "read_space" "read_space" (defArgs sread_space) (defBody sread_space) (defScope sread_space) .none kVread_space dcread_space pmread_space anread_space cdread_space ctread_space), slread_space⟩) (cread_space : PySem.W.codeIn K cdread_space "read_space" = true) (kread_space : PySem.W.keepIn K (.ref fread_space) = true)
    (a_has_form : PySem.W.nsIn K mainGlobals "_has_form" = some (some (.ref f_has_form))) (l_has_form : K.lookup f_has_form = some ⟨oc_has_form, od_has_form, .func (PySem.W.fnOf "_has_form" "_has_form" (defArgs s_has_form) (defBody s_has_form) (defScope s_has_form) .none kV_has_form dc_has_form pm_has_form an_has_form cd_has_form ct_has_form), sl_has_form⟩) (c_has_form : PySem.W.codeIn K cd_has_form "_has_form" = true) (k_has_form : PySem.W.keepIn K (.ref f_has_form) = true)
    (ais_joining_word : PySem.W.nsIn K mainGlobals "is_joining_word" = some (some (.ref fis_joining_word))) (lis_joining_word : K.lookup fis_joining_word = some ⟨ocis_joining_word, odis_joining_word, .func (PySem.W.fnOf "is_joining_word" "is_joining_word" (defArgs sis_joining_word) (defBody sis_joining_word) (defScope sis_joining_word) .none kVis_joining_word dcis_joining_word pmis_joining_word anis_joining_word cdis_joining_word ctis_joining_word), slis_joining_word⟩) (cis_joining_word : PySem.W.codeIn K cdis_joining_word "is_joining_word" = true) (kis_joining_word : PySem.W.keepIn K (.ref fis_joining_word) = true)
    (ais_number_word : PySem.W.nsIn K mainGlobals "is_number_word" = some (some (.ref fis_number_word))) (lis_number_word : K.lookup fis_number_word = some ⟨ocis_number_word, odis_number_word, .func (PySem.W.fnOf "is_number_word" "is_number_word" (defArgs sis_number_word) (defBody sis_number_word) (defScope sis_number_word) .none kVis_number_word dcis_number_word pmis_number_word anis_number_word cdis_number_word ctis_number_word), slis_number_word⟩) (cis_number_word : PySem.W.codeIn K cdis_number_word "is_number_word" = true) (kis_number_word : PySem.W.keepIn K (.ref fis_number_word) = true)
    (a_block_told : PySem.W.nsIn K mainGlobals "_block_told" = some (some (.ref f_block_told))) (l_block_told : K.lookup f_block_told = some ⟨oc_block_told, od_block_told, .func (PySem.W.fnOf "_block_told" "_block_told" (defArgs s_block_told) (defBody s_block_told) (defScope s_block_told) .none kV_block_told dc_block_told pm_block_told an_block_told cd_block_told ct_block_told), sl_block_told⟩) (c_block_told : PySem.W.codeIn K cd_block_told "_block_told" = true) (k_block_told : PySem.W.keepIn K (.ref f_block_told) = true)
    (a_joining_told : PySem.W.nsIn K mainGlobals "_joining_told" = some (some (.ref f_joining_told))) (l_joining_told : K.lookup f_joining_told = some ⟨oc_joining_told, od_joining_told, .func (PySem.W.fnOf "_joining_told" "_joining_told" (defArgs s_joining_told) (defBody s_joining_told) (defScope s_joining_told) .none kV_joining_told dc_joining_told pm_joining_told an_joining_told cd_joining_told ct_joining_told), sl_joining_told⟩) (c_joining_told : PySem.W.codeIn K cd_joining_told "_joining_told" = true) (k_joining_told : PySem.W.keepIn K (.ref f_joining_told) = true)
    (a_law_reel : PySem.W.nsIn K mainGlobals "_law_reel" = some (some (.ref f_law_reel))) (l_law_reel : K.lookup f_law_reel = some ⟨oc_law_reel, od_law_reel, .func (PySem.W.fnOf "_law_reel" "_law_reel" (defArgs s_law_reel) (defBody s_law_reel) (defScope s_law_reel) .none kV_law_reel dc_law_reel pm_law_reel an_law_reel cd_law_reel ct_law_reel), sl_law_reel⟩) (c_law_reel : PySem.W.codeIn K cd_law_reel "_law_reel" = true) (k_law_reel : PySem.W.keepIn K (.ref f_law_reel) = true)
    (a_law_draw : PySem.W.nsIn K mainGlobals "_law_draw" = some (some (.ref f_law_draw))) (l_law_draw : K.lookup f_law_draw = some ⟨oc_law_draw, od_law_draw, .func (PySem.W.fnOf "_law_draw" "_law_draw" (defArgs s_law_draw) (defBody s_law_draw) (defScope s_law_draw) .none kV_law_draw dc_law_draw pm_law_draw an_law_draw cd_law_draw ct_law_draw), sl_law_draw⟩) (c_law_draw : PySem.W.codeIn K cd_law_draw "_law_draw" = true) (k_law_draw : PySem.W.keepIn K (.ref f_law_draw) = true)
    (a_law_alike : PySem.W.nsIn K mainGlobals "_law_alike" = some (some (.ref f_law_alike))) (l_law_alike : K.lookup f_law_alike = some ⟨oc_law_alike, od_law_alike, .func (PySem.W.fnOf "_law_alike" "_law_alike" (defArgs s_law_alike) (defBody s_law_alike) (defScope s_law_alike) .none kV_law_alike dc_law_alike pm_law_alike an_law_alike cd_law_alike ct_law_alike), sl_law_alike⟩) (c_law_alike : PySem.W.codeIn K cd_law_alike "_law_alike" = true) (k_law_alike : PySem.W.keepIn K (.ref f_law_alike) = true)
    (a_law_turns : PySem.W.nsIn K mainGlobals "_law_turns" = some (some (.ref f_law_turns))) (l_law_turns : K.lookup f_law_turns = some ⟨oc_law_turns, od_law_turns, .func (PySem.W.fnOf "_law_turns" "_law_turns" (defArgs s_law_turns) (defBody s_law_turns) (defScope s_law_turns) .none kV_law_turns dc_law_turns pm_law_turns an_law_turns cd_law_turns ct_law_turns), sl_law_turns⟩) (c_law_turns : PySem.W.codeIn K cd_law_turns "_law_turns" = true) (k_law_turns : PySem.W.keepIn K (.ref f_law_turns) = true)
    (a_law_back : PySem.W.nsIn K mainGlobals "_law_back" = some (some (.ref f_law_back))) (l_law_back : K.lookup f_law_back = some ⟨oc_law_back, od_law_back, .func (PySem.W.fnOf "_law_back" "_law_back" (defArgs s_law_back) (defBody s_law_back) (defScope s_law_back) .none kV_law_back dc_law_back pm_law_back an_law_back cd_law_back ct_law_back), sl_law_back⟩) (c_law_back : PySem.W.codeIn K cd_law_back "_law_back" = true) (k_law_back : PySem.W.keepIn K (.ref f_law_back) = true)
    (a_law_set : PySem.W.nsIn K mainGlobals "_law_set" = some (some (.ref f_law_set))) (l_law_set : K.lookup f_law_set = some ⟨oc_law_set, od_law_set, .func (PySem.W.fnOf "_law_set" "_law_set" (defArgs s_law_set) (defBody s_law_set) (defScope s_law_set) .none kV_law_set dc_law_set pm_law_set an_law_set cd_law_set ct_law_set), sl_law_set⟩) (c_law_set : PySem.W.codeIn K cd_law_set "_law_set" = true) (k_law_set : PySem.W.keepIn K (.ref f_law_set) = true)
    (a_law_any : PySem.W.nsIn K mainGlobals "_law_any" = some (some (.ref f_law_any))) (l_law_any : K.lookup f_law_any = some ⟨oc_law_any, od_law_any, .func (PySem.W.fnOf "_law_any" "_law_any" (defArgs s_law_any) (defBody s_law_any) (defScope s_law_any) .none kV_law_any dc_law_any pm_law_any an_law_any cd_law_any ct_law_any), sl_law_any⟩) (c_law_any : PySem.W.codeIn K cd_law_any "_law_any" = true) (k_law_any : PySem.W.keepIn K (.ref f_law_any) = true)
    (a_law_ball : PySem.W.nsIn K mainGlobals "_law_ball" = some (some (.ref f_law_ball))) (l_law_ball : K.lookup f_law_ball = some ⟨oc_law_ball, od_law_ball, .func (PySem.W.fnOf "_law_ball" "_law_ball" (defArgs s_law_ball) (defBody s_law_ball) (defScope s_law_ball) .none kV_law_ball dc_law_ball pm_law_ball an_law_ball cd_law_ball ct_law_ball), sl_law_ball⟩) (c_law_ball : PySem.W.codeIn K cd_law_ball "_law_ball" = true) (k_law_ball : PySem.W.keepIn K (.ref f_law_ball) = true)
    (a_law_doubled : PySem.W.nsIn K mainGlobals "_law_doubled" = some (some (.ref f_law_doubled))) (l_law_doubled : K.lookup f_law_doubled = some ⟨oc_law_doubled, od_law_doubled, .func (PySem.W.fnOf "_law_doubled" "_law_doubled" (defArgs s_law_doubled) (defBody s_law_doubled) (defScope s_law_doubled) .none kV_law_doubled dc_law_doubled pm_law_doubled an_law_doubled cd_law_doubled ct_law_doubled), sl_law_doubled⟩) (c_law_doubled : PySem.W.codeIn K cd_law_doubled "_law_doubled" = true) (k_law_doubled : PySem.W.keepIn K (.ref f_law_doubled) = true)
    (a_law_blocks : PySem.W.nsIn K mainGlobals "_law_blocks" = some (some (.ref f_law_blocks))) (l_law_blocks : K.lookup f_law_blocks = some ⟨oc_law_blocks, od_law_blocks, .func (PySem.W.fnOf "_law_blocks" "_law_blocks" (defArgs s_law_blocks) (defBody s_law_blocks) (defScope s_law_blocks) .none kV_law_blocks dc_law_blocks pm_law_blocks an_law_blocks cd_law_blocks ct_law_blocks), sl_law_blocks⟩) (c_law_blocks : PySem.W.codeIn K cd_law_blocks "_law_blocks" = true) (k_law_blocks : PySem.W.keepIn K (.ref f_law_blocks) = true)
    (a_law_shut : PySem.W.nsIn K mainGlobals "_law_shut" = some (some (.ref f_law_shut))) (l_law_shut : K.lookup f_law_shut = some ⟨oc_law_shut, od_law_shut, .func (PySem.W.fnOf "_law_shut" "_law_shut" (defArgs s_law_shut) (defBody s_law_shut) (defScope s_law_shut) .none kV_law_shut dc_law_shut pm_law_shut an_law_shut cd_law_shut ct_law_shut), sl_law_shut⟩) (c_law_shut : PySem.W.codeIn K cd_law_shut "_law_shut" = true) (k_law_shut : PySem.W.keepIn K (.ref f_law_shut) = true)
    (a_law_kind_of : PySem.W.nsIn K mainGlobals "_law_kind_of" = some (some (.ref f_law_kind_of))) (l_law_kind_of : K.lookup f_law_kind_of = some ⟨oc_law_kind_of, od_law_kind_of, .func (PySem.W.fnOf "_law_kind_of" "_law_kind_of" (defArgs s_law_kind_of) (defBody s_law_kind_of) (defScope s_law_kind_of) .none kV_law_kind_of dc_law_kind_of pm_law_kind_of an_law_kind_of cd_law_kind_of ct_law_kind_of), sl_law_kind_of⟩) (c_law_kind_of : PySem.W.codeIn K cd_law_kind_of "_law_kind_of" = true) (k_law_kind_of : PySem.W.keepIn K (.ref f_law_kind_of) = true)
    (a_law_text : PySem.W.nsIn K mainGlobals "_law_text" = some (some (.ref f_law_text))) (l_law_text : K.lookup f_law_text = some ⟨oc_law_text, od_law_text, .func (PySem.W.fnOf "_law_text" "_law_text" (defArgs s_law_text) (defBody s_law_text) (defScope s_law_text) .none kV_law_text dc_law_text pm_law_text an_law_text cd_law_text ct_law_text), sl_law_text⟩) (c_law_text : PySem.W.codeIn K cd_law_text "_law_text" = true) (k_law_text : PySem.W.keepIn K (.ref f_law_text) = true)
    (a_law_asked : PySem.W.nsIn K mainGlobals "_law_asked" = some (some (.ref f_law_asked))) (l_law_asked : K.lookup f_law_asked = some ⟨oc_law_asked, od_law_asked, .func (PySem.W.fnOf "_law_asked" "_law_asked" (defArgs s_law_asked) (defBody s_law_asked) (defScope s_law_asked) .none kV_law_asked dc_law_asked pm_law_asked an_law_asked cd_law_asked ct_law_asked), sl_law_asked⟩) (c_law_asked : PySem.W.codeIn K cd_law_asked "_law_asked" = true) (k_law_asked : PySem.W.keepIn K (.ref f_law_asked) = true)
    (a_law_spoilt : PySem.W.nsIn K mainGlobals "_law_spoilt" = some (some (.ref f_law_spoilt))) (l_law_spoilt : K.lookup f_law_spoilt = some ⟨oc_law_spoilt, od_law_spoilt, .func (PySem.W.fnOf "_law_spoilt" "_law_spoilt" (defArgs s_law_spoilt) (defBody s_law_spoilt) (defScope s_law_spoilt) .none kV_law_spoilt dc_law_spoilt pm_law_spoilt an_law_spoilt cd_law_spoilt ct_law_spoilt), sl_law_spoilt⟩) (c_law_spoilt : PySem.W.codeIn K cd_law_spoilt "_law_spoilt" = true) (k_law_spoilt : PySem.W.keepIn K (.ref f_law_spoilt) = true)
    (alaw : PySem.W.nsIn K mainGlobals "law" = some (some (.ref flaw))) (llaw : K.lookup flaw = some ⟨oclaw, odlaw, .func (PySem.W.fnOf "law" "law" (defArgs slaw) (defBody slaw) (defScope slaw) .none kVlaw dclaw pmlaw anlaw cdlaw ctlaw), sllaw⟩) (claw : PySem.W.codeIn K cdlaw "law" = true) (klaw : PySem.W.keepIn K (.ref flaw) = true)
    (aCNoSpace : PySem.W.nsIn K mainGlobals "NoSpace" = some (some (.ref xNoSpace)))
    (iCNoSpace : PySem.W.isClsIn K xNoSpace = true)
    (tCNoSpace : PySem.W.typeIn K (.ref xNoSpace) = some (.type "type"))
    (aCNoFace : PySem.W.nsIn K mainGlobals "NoFace" = some (some (.ref xNoFace)))
    (iCNoFace : PySem.W.isClsIn K xNoFace = true)
    (tCNoFace : PySem.W.typeIn K (.ref xNoFace) = some (.type "type"))
    (aCNoTurn : PySem.W.nsIn K mainGlobals "NoTurn" = some (some (.ref xNoTurn)))
    (iCNoTurn : PySem.W.isClsIn K xNoTurn = true)
    (tCNoTurn : PySem.W.typeIn K (.ref xNoTurn) = some (.type "type"))
    (aCNoName : PySem.W.nsIn K mainGlobals "NoName" = some (some (.ref xNoName)))
    (iCNoName : PySem.W.isClsIn K xNoName = true)
    (tCNoName : PySem.W.typeIn K (.ref xNoName) = some (.type "type"))
    (aCNoLine : PySem.W.nsIn K mainGlobals "NoLine" = some (some (.ref xNoLine)))
    (iCNoLine : PySem.W.isClsIn K xNoLine = true)
    (tCNoLine : PySem.W.typeIn K (.ref xNoLine) = some (.type "type"))
    (aCNoCorner : PySem.W.nsIn K mainGlobals "NoCorner" = some (some (.ref xNoCorner)))
    (iCNoCorner : PySem.W.isClsIn K xNoCorner = true)
    (tCNoCorner : PySem.W.typeIn K (.ref xNoCorner) = some (.type "type"))
    (aCNoNumbers : PySem.W.nsIn K mainGlobals "NoNumbers" = some (some (.ref xNoNumbers)))
    (iCNoNumbers : PySem.W.isClsIn K xNoNumbers = true)
    (tCNoNumbers : PySem.W.typeIn K (.ref xNoNumbers) = some (.type "type"))
    (aCNoSurface : PySem.W.nsIn K mainGlobals "NoSurface" = some (some (.ref xNoSurface)))
    (iCNoSurface : PySem.W.isClsIn K xNoSurface = true)
    (tCNoSurface : PySem.W.typeIn K (.ref xNoSurface) = some (.type "type"))
    (aCNoMove : PySem.W.nsIn K mainGlobals "NoMove" = some (some (.ref xNoMove)))
    (iCNoMove : PySem.W.isClsIn K xNoMove = true)
    (tCNoMove : PySem.W.typeIn K (.ref xNoMove) = some (.type "type"))
    (aCNoForm : PySem.W.nsIn K mainGlobals "NoForm" = some (some (.ref xNoForm)))
    (iCNoForm : PySem.W.isClsIn K xNoForm = true)
    (tCNoForm : PySem.W.typeIn K (.ref xNoForm) = some (.type "type"))
    (aCNoneYet : PySem.W.nsIn K mainGlobals "NoneYet" = some (some (.ref xNoneYet)))
    (iCNoneYet : PySem.W.isClsIn K xNoneYet = true)
    (tCNoneYet : PySem.W.typeIn K (.ref xNoneYet) = some (.type "type"))
    (aCRoomError : PySem.W.nsIn K mainGlobals "RoomError" = some (some (.ref xRoomError)))
    (iCRoomError : PySem.W.isClsIn K xRoomError = true)
    (tCRoomError : PySem.W.typeIn K (.ref xRoomError) = some (.type "type"))
    (bCRoomError : PySem.W.subIn K (.ref xRoomError) (.type "BaseException") = some true)
    (hCRoomError : PySem.W.hasDictIn K xRoomError = true)
    (oGet : PySem.W.specialIn K (.builtin "object.__class__") "__get__" = some (some (.builtin "getset_descriptor.__get__")))
    (oTak : PySem.W.takesIn K (.builtin "object.__class__") = some true)
    (kCNoLine : PySem.W.keepIn K (.ref xNoLine) = true)
    (bCNoLine : PySem.W.subIn K (.ref xNoLine) (.type "BaseException") = some true)
    (vCNoLine : PySem.W.subIn K (.ref xNoLine) (.type "ValueError") = some true)
    (sNoLine_NoSpace : PySem.W.subIn K (.ref xNoLine) (.ref xNoSpace) = some false)
    (sNoLine_NoFace : PySem.W.subIn K (.ref xNoLine) (.ref xNoFace) = some false)
    (sNoLine_NoTurn : PySem.W.subIn K (.ref xNoLine) (.ref xNoTurn) = some false)
    (sNoLine_NoName : PySem.W.subIn K (.ref xNoLine) (.ref xNoName) = some false)
    (sNoLine_NoLine : PySem.W.subIn K (.ref xNoLine) (.ref xNoLine) = some true)
    (sNoLine_NoCorner : PySem.W.subIn K (.ref xNoLine) (.ref xNoCorner) = some false)
    (sNoLine_NoNumbers : PySem.W.subIn K (.ref xNoLine) (.ref xNoNumbers) = some false)
    (sNoLine_NoSurface : PySem.W.subIn K (.ref xNoLine) (.ref xNoSurface) = some false)
    (sNoLine_NoMove : PySem.W.subIn K (.ref xNoLine) (.ref xNoMove) = some false)
    (sNoLine_NoForm : PySem.W.subIn K (.ref xNoLine) (.ref xNoForm) = some false)
    (sNoLine_NoneYet : PySem.W.subIn K (.ref xNoLine) (.ref xNoneYet) = some false)
    (sNoLine_RoomError : PySem.W.subIn K (.ref xNoLine) (.ref xRoomError) = some true)
    (gaCNoLine : PySem.W.findIn K (.ref xNoLine) "__getattribute__" = some (some (.builtin "BaseException.__getattribute__")))
    (gtCNoLine : PySem.W.findIn K (.ref xNoLine) "__getattr__" = some none)
    (hCNoLine : PySem.W.hasDictIn K xNoLine = true)
    (clCNoLine : PySem.W.findIn K (.ref xNoLine) "__class__" = some (some (.builtin "object.__class__")))
    (mCNoLine : PySem.W.mroIn K xNoLine (.type "object") = some true)
    {nmN qN fileN : Str} {NN : Addr} {bsN bmN subN : List Value} {snN : List Str} {abN : Bool} {colN : Option Bool} {ddN cddN cldN odN anN : Option Addr} {m0 m1 m2 m3 m5 : Option Value} {kVN dcN pmN ctN ocN cclN clN : Value} {oslN ccsN cslN : Array (Option Value)} {vsN : Array Value} {tfN : Tok}
    (lNL : K.lookup xNoLine = some (excClassObj nmN qN xNoLine NN bsN bmN true snN subN abN colN ddN m0 m1 m2 m3 m5 "ValueError.__new__"))
    (rNL : PySem.HandSPX.refsVE bmN = true)
    (saNL : PySem.W.findIn K (.ref xNoLine) "__setattr__" = some (some (.builtin "object.__setattr__")))
    (keNL : PySem.W.keepIn K (.ref xNoLine) = true)
    (inNL : PySem.W.findIn K (.ref xNoLine) "__init__" = some (some (.ref fNL)))
    (tyNL : PySem.W.typeIn K (.ref fNL) = some (.type "function"))
    (fnNL : K.lookup fNL = some ⟨ocN, odN, .func (PySem.W.ksFn "__init__" "NoLine.__init__" (defArgs sNL) (defBody sNL) (defScope sNL) .none kVN dcN pmN anN (.ref cdaN) ctN ccN), oslN⟩)
    (cdNL : PySem.W.codeIn K (.ref cdaN) "NoLine.__init__" = true)
    (coNL : K.lookup cdaN = some ⟨cclN, cddN, .fields vsN, ccsN⟩)
    (flNL : vsN[2]? = some (.str fileN tfN))
    (maNL : ((l.prog.main.file : Str) == fileN) = true)
    (ceNL : K.lookup ccN = some ⟨clN, cldN, .cell (some (.ref xNoLine)), cslN⟩)
    (mrNL : PySem.W.mroIn K xNoLine (.ref xNoLine) = some true)
    (opNL : PySem.W.nsIn K cStatics "thirdparty.any" = some none)
    (suNL : PySem.W.ks_superIn K xNoLine xNoLine "__init__" = some (some (.builtin "ValueError.__init__")))
    (noNL : PySem.W.findIn K (.ref xNoLine) "line" = some none)
    (toNL : (l.prog.main.scope.names.lookup ("super" : Str)).isSome = false)
    (aFIGURES : PySem.W.nsIn K mainGlobals "FIGURES" = some (some (.str digsS tFIG)))
    (zValueError : PySem.W.nsIn K mainGlobals "ValueError" = some none)
    (zall : PySem.W.nsIn K mainGlobals "all" = some none)
    (zbool : PySem.W.nsIn K mainGlobals "bool" = some none)
    (zenumerate : PySem.W.nsIn K mainGlobals "enumerate" = some none)
    (zint : PySem.W.nsIn K mainGlobals "int" = some none)
    (zisinstance : PySem.W.nsIn K mainGlobals "isinstance" = some none)
    (zlen : PySem.W.nsIn K mainGlobals "len" = some none)
    (zlist : PySem.W.nsIn K mainGlobals "list" = some none)
    (zmin : PySem.W.nsIn K mainGlobals "min" = some none)
    (zrange : PySem.W.nsIn K mainGlobals "range" = some none)
    (zsorted : PySem.W.nsIn K mainGlobals "sorted" = some none)
    (zstr : PySem.W.nsIn K mainGlobals "str" = some none)
    (zsuper : PySem.W.nsIn K mainGlobals "super" = some none)
    (ztuple : PySem.W.nsIn K mainGlobals "tuple" = some none)
    (zzip : PySem.W.nsIn K mainGlobals "zip" = some none)
    : ∃ fd : FuncData, (∀ (s : Shared) (v : Value), BindsTo s fd ⟨[v], []⟩ [("script", v)]) ∧ ∀ base : Heap, K.In base → base.Ns mainGlobals mg → FnG l.prog w K mg base 9 fa fd ["script"] (spLaw K) := by
  have e := hfa.symm.trans (PySem.W.mg_of X G alaw)
  cases e
  have Fis_whole := fun_mk (st := sis_whole) lis_whole cis_whole kis_whole
  have bis_whole := Fis_whole.binds (ps := ["thing"]) fun _ _ _ _ _ _ us hl => match us, hl with | [_], _ => rfl
  have gis_whole := PySem.W.mg_of X G ais_whole
  have Fis_listed := fun_mk (st := sis_listed) lis_listed cis_listed kis_listed
  have bis_listed := Fis_listed.binds (ps := ["thing"]) fun _ _ _ _ _ _ us hl => match us, hl with | [_], _ => rfl
  have gis_listed := PySem.W.mg_of X G ais_listed
  have Fis_below := fun_mk (st := sis_below) lis_below cis_below kis_below
  have bis_below := Fis_below.binds (ps := ["thing", "many"]) fun _ _ _ _ _ _ us hl => match us, hl with | [_, _], _ => rfl
  have gis_below := PySem.W.mg_of X G ais_below
  have Fis_order := fun_mk (st := sis_order) lis_order cis_order kis_order
  have bis_order := Fis_order.binds (ps := ["thing", "many"]) fun _ _ _ _ _ _ us hl => match us, hl with | [_, _], _ => rfl
  have gis_order := PySem.W.mg_of X G ais_order
  have Fis_turn := fun_mk (st := sis_turn) lis_turn cis_turn kis_turn
  have bis_turn := Fis_turn.binds (ps := ["thing"]) fun _ _ _ _ _ _ us hl => match us, hl with | [_], _ => rfl
  have gis_turn := PySem.W.mg_of X G ais_turn
  have Fcontrary := fun_mk (st := scontrary) lcontrary ccontrary kcontrary
  have bcontrary := Fcontrary.binds (ps := ["turn"]) fun _ _ _ _ _ _ us hl => match us, hl with | [_], _ => rfl
  have gcontrary := PySem.W.mg_of X G acontrary
  have Fspace_of := fun_mk (st := sspace_of) lspace_of cspace_of kspace_of
  have bspace_of := Fspace_of.binds (ps := ["blocks"]) fun _ _ _ _ _ _ us hl => match us, hl with | [_], _ => rfl
  have gspace_of := PySem.W.mg_of X G aspace_of
  have F_block_of := fun_mk (st := s_block_of) l_block_of c_block_of k_block_of
  have b_block_of := F_block_of.binds (ps := ["faces", "many"]) fun _ _ _ _ _ _ us hl => match us, hl with | [_, _], _ => rfl
  have g_block_of := PySem.W.mg_of X G a_block_of
  have F_joining_of := fun_mk (st := s_joining_of) l_joining_of c_joining_of k_joining_of
  have b_joining_of := F_joining_of.binds (ps := ["joining", "many"]) fun _ _ _ _ _ _ us hl => match us, hl with | [_, _], _ => rfl
  have g_joining_of := PySem.W.mg_of X G a_joining_of
  have F_goes_both_ways := fun_mk (st := s_goes_both_ways) l_goes_both_ways c_goes_both_ways k_goes_both_ways
  have b_goes_both_ways := F_goes_both_ways.binds (ps := ["space", "block", "face"]) fun _ _ _ _ _ _ us hl => match us, hl with | [_, _, _], _ => rfl
  have g_goes_both_ways := PySem.W.mg_of X G a_goes_both_ways
  have Fread_space := fun_mk (st := sread_space) lread_space cread_space kread_space
  have bread_space := Fread_space.binds (ps := ["text"]) fun _ _ _ _ _ _ us hl => match us, hl with | [_], _ => rfl
  have gread_space := PySem.W.mg_of X G aread_space
  have F_has_form := fun_mk (st := s_has_form) l_has_form c_has_form k_has_form
  have b_has_form := F_has_form.binds (ps := ["words"]) fun _ _ _ _ _ _ us hl => match us, hl with | [_], _ => rfl
  have g_has_form := PySem.W.mg_of X G a_has_form
  have Fis_joining_word := fun_mk (st := sis_joining_word) lis_joining_word cis_joining_word kis_joining_word
  have bis_joining_word := Fis_joining_word.binds (ps := ["word"]) fun _ _ _ _ _ _ us hl => match us, hl with | [_], _ => rfl
  have gis_joining_word := PySem.W.mg_of X G ais_joining_word
  have Fis_number_word := fun_mk (st := sis_number_word) lis_number_word cis_number_word kis_number_word
  have bis_number_word := Fis_number_word.binds (ps := ["word"]) fun _ _ _ _ _ _ us hl => match us, hl with | [_], _ => rfl
  have gis_number_word := PySem.W.mg_of X G ais_number_word
  have F_block_told := fun_mk (st := s_block_told) l_block_told c_block_told k_block_told
  have b_block_told := F_block_told.binds (ps := ["words", "numbers"]) fun _ _ _ _ _ _ us hl => match us, hl with | [_, _], _ => rfl
  have g_block_told := PySem.W.mg_of X G a_block_told
  have F_joining_told := fun_mk (st := s_joining_told) l_joining_told c_joining_told k_joining_told
  have b_joining_told := F_joining_told.binds (ps := ["word", "numbers"]) fun _ _ _ _ _ _ us hl => match us, hl with | [_, _], _ => rfl
  have g_joining_told := PySem.W.mg_of X G a_joining_told
  have F_law_reel := fun_mk (st := s_law_reel) l_law_reel c_law_reel k_law_reel
  have b_law_reel := F_law_reel.binds (ps := ["script"]) fun _ _ _ _ _ _ us hl => match us, hl with | [_], _ => rfl
  have g_law_reel := PySem.W.mg_of X G a_law_reel
  have F_law_draw := fun_mk (st := s_law_draw) l_law_draw c_law_draw k_law_draw
  have b_law_draw := F_law_draw.binds (ps := ["reel", "many"]) fun _ _ _ _ _ _ us hl => match us, hl with | [_, _], _ => rfl
  have g_law_draw := PySem.W.mg_of X G a_law_draw
  have F_law_alike := fun_mk (st := s_law_alike) l_law_alike c_law_alike k_law_alike
  have b_law_alike := F_law_alike.binds (ps := ["found", "due"]) fun _ _ _ _ _ _ us hl => match us, hl with | [_, _], _ => rfl
  have g_law_alike := PySem.W.mg_of X G a_law_alike
  have F_law_turns := fun_mk (st := s_law_turns) l_law_turns c_law_turns k_law_turns
  have b_law_turns := F_law_turns.binds (ps := []) fun _ _ _ _ _ _ us hl => match us, hl with | [], _ => rfl
  have g_law_turns := PySem.W.mg_of X G a_law_turns
  have F_law_back := fun_mk (st := s_law_back) l_law_back c_law_back k_law_back
  have b_law_back := F_law_back.binds (ps := ["turn"]) fun _ _ _ _ _ _ us hl => match us, hl with | [_], _ => rfl
  have g_law_back := PySem.W.mg_of X G a_law_back
  have F_law_set := fun_mk (st := s_law_set) l_law_set c_law_set k_law_set
  have b_law_set := F_law_set.binds (ps := ["blocks", "block", "face", "other", "turn"]) fun _ _ _ _ _ _ us hl => match us, hl with | [_, _, _, _, _], _ => rfl
  have g_law_set := PySem.W.mg_of X G a_law_set
  have F_law_any := fun_mk (st := s_law_any) l_law_any c_law_any k_law_any
  have b_law_any := F_law_any.binds (ps := ["reel", "many"]) fun _ _ _ _ _ _ us hl => match us, hl with | [_, _], _ => rfl
  have g_law_any := PySem.W.mg_of X G a_law_any
  have F_law_ball := fun_mk (st := s_law_ball) l_law_ball c_law_ball k_law_ball
  have b_law_ball := F_law_ball.binds (ps := ["reel", "many"]) fun _ _ _ _ _ _ us hl => match us, hl with | [_, _], _ => rfl
  have g_law_ball := PySem.W.mg_of X G a_law_ball
  have F_law_doubled := fun_mk (st := s_law_doubled) l_law_doubled c_law_doubled k_law_doubled
  have b_law_doubled := F_law_doubled.binds (ps := ["blocks"]) fun _ _ _ _ _ _ us hl => match us, hl with | [_], _ => rfl
  have g_law_doubled := PySem.W.mg_of X G a_law_doubled
  have F_law_blocks := fun_mk (st := s_law_blocks) l_law_blocks c_law_blocks k_law_blocks
  have b_law_blocks := F_law_blocks.binds (ps := ["reel", "most"]) fun _ _ _ _ _ _ us hl => match us, hl with | [_, _], _ => rfl
  have g_law_blocks := PySem.W.mg_of X G a_law_blocks
  have F_law_shut := fun_mk (st := s_law_shut) l_law_shut c_law_shut k_law_shut
  have b_law_shut := F_law_shut.binds (ps := ["blocks"]) fun _ _ _ _ _ _ us hl => match us, hl with | [_], _ => rfl
  have g_law_shut := PySem.W.mg_of X G a_law_shut
  have F_law_kind_of := fun_mk (st := s_law_kind_of) l_law_kind_of c_law_kind_of k_law_kind_of
  have b_law_kind_of := F_law_kind_of.binds (ps := ["caught"]) fun _ _ _ _ _ _ us hl => match us, hl with | [_], _ => rfl
  have g_law_kind_of := PySem.W.mg_of X G a_law_kind_of
  have F_law_text := fun_mk (st := s_law_text) l_law_text c_law_text k_law_text
  have b_law_text := F_law_text.binds (ps := ["space"]) fun _ _ _ _ _ _ us hl => match us, hl with | [_], _ => rfl
  have g_law_text := PySem.W.mg_of X G a_law_text
  have F_law_asked := fun_mk (st := s_law_asked) l_law_asked c_law_asked k_law_asked
  have b_law_asked := F_law_asked.binds (ps := ["text"]) fun _ _ _ _ _ _ us hl => match us, hl with | [_], _ => rfl
  have g_law_asked := PySem.W.mg_of X G a_law_asked
  have F_law_spoilt := fun_mk (st := s_law_spoilt) l_law_spoilt c_law_spoilt k_law_spoilt
  have b_law_spoilt := F_law_spoilt.binds (ps := ["reel", "line"]) fun _ _ _ _ _ _ us hl => match us, hl with | [_, _], _ => rfl
  have g_law_spoilt := PySem.W.mg_of X G a_law_spoilt
  have Flaw := fun_mk (st := slaw) llaw claw klaw
  have glaw := PySem.W.mg_of X G alaw
  have g_FIGURES := PySem.W.mg_of X G aFIGURES
  have m_ValueError := PySem.W.mg_none_of X G zValueError
  have m_all := PySem.W.mg_none_of X G zall
  have m_bool := PySem.W.mg_none_of X G zbool
  have m_enumerate := PySem.W.mg_none_of X G zenumerate
  have m_int := PySem.W.mg_none_of X G zint
  have m_isinstance := PySem.W.mg_none_of X G zisinstance
  have m_len := PySem.W.mg_none_of X G zlen
  have m_list := PySem.W.mg_none_of X G zlist
  have m_min := PySem.W.mg_none_of X G zmin
  have m_range := PySem.W.mg_none_of X G zrange
  have m_sorted := PySem.W.mg_none_of X G zsorted
  have m_str := PySem.W.mg_none_of X G zstr
  have m_super := PySem.W.mg_none_of X G zsuper
  have m_tuple := PySem.W.mg_none_of X G ztuple
  have m_zip := PySem.W.mg_none_of X G zzip
  have gNoSpace := PySem.W.mg_of X G aCNoSpace
  have gNoFace := PySem.W.mg_of X G aCNoFace
  have gNoTurn := PySem.W.mg_of X G aCNoTurn
  have gNoName := PySem.W.mg_of X G aCNoName
  have gNoLine := PySem.W.mg_of X G aCNoLine
  have gNoCorner := PySem.W.mg_of X G aCNoCorner
  have gNoNumbers := PySem.W.mg_of X G aCNoNumbers
  have gNoSurface := PySem.W.mg_of X G aCNoSurface
  have gNoMove := PySem.W.mg_of X G aCNoMove
  have gNoForm := PySem.W.mg_of X G aCNoForm
  have gNoneYet := PySem.W.mg_of X G aCNoneYet
  have gRoomError := PySem.W.mg_of X G aCRoomError
  have CNoLine : ExcC K xNoLine := ⟨gaCNoLine, gtCNoLine, bCNoLine, hCNoLine, clCNoLine, oGet, oTak, mCNoLine⟩
  have eNoLine := PySem.W.exm_ref bCRoomError hCRoomError tCRoomError sNoLine_RoomError
  have kNoLine_NoSpace := kit_own sNoLine_NoLine iCNoSpace tCNoSpace sNoLine_NoSpace
  have kNoLine_NoFace := kit_own sNoLine_NoLine iCNoFace tCNoFace sNoLine_NoFace
  have kNoLine_NoTurn := kit_own sNoLine_NoLine iCNoTurn tCNoTurn sNoLine_NoTurn
  have kNoLine_NoName := kit_own sNoLine_NoLine iCNoName tCNoName sNoLine_NoName
  have kNoLine_NoLine := kit_own sNoLine_NoLine iCNoLine tCNoLine sNoLine_NoLine
  have kNoLine_NoCorner := kit_own sNoLine_NoLine iCNoCorner tCNoCorner sNoLine_NoCorner
  have kNoLine_NoNumbers := kit_own sNoLine_NoLine iCNoNumbers tCNoNumbers sNoLine_NoNumbers
  have kNoLine_NoSurface := kit_own sNoLine_NoLine iCNoSurface tCNoSurface sNoLine_NoSurface
  have kNoLine_NoMove := kit_own sNoLine_NoLine iCNoMove tCNoMove sNoLine_NoMove
  have kNoLine_NoForm := kit_own sNoLine_NoLine iCNoForm tCNoForm sNoLine_NoForm
  have kNoLine_NoneYet := kit_own sNoLine_NoLine iCNoneYet tCNoneYet sNoLine_NoneYet
  have kNoLine_RoomError := kit_own sNoLine_NoLine iCRoomError tCRoomError sNoLine_RoomError
  have k5NoLine := kit_five kNoLine_NoNumbers kNoLine_NoSurface kNoLine_NoMove kNoLine_NoForm kNoLine_NoneYet
  have kVNoLine := kit_built (T := "ValueError") (by decide +kernel) vCNoLine
  have TNL : OexC K xNoLine := ⟨⟨_, _, _, _, _, _, _, _, _, _, _, _, _, _, _, lNL, rNL⟩, saNL, bCNoLine, tCNoLine, keNL⟩
  refine ⟨PySem.W.fnOf "law" "law" (defArgs slaw) (defBody slaw) (defScope slaw) .none kVlaw dclaw pmlaw anlaw cdlaw ctlaw, fun s v => .of_eq rfl, fun base _ _ => ?_⟩
  have G_law_reel := ok_law_reel (P := l.prog) (w := w) (K := K) (mg := mg) (base := base) F_law_reel
  have G_law_draw := ok_law_draw (P := l.prog) (w := w) (K := K) (mg := mg) (base := base) F_law_draw m_len m_int
  have G_law_any := ok_law_any (P := l.prog) (w := w) (K := K) (mg := mg) (base := base) F_law_any F_law_draw g_law_draw b_law_draw F_law_turns g_law_turns b_law_turns F_law_back g_law_back b_law_back F_law_set g_law_set b_law_set m_range m_tuple m_len m_int
  have G_law_ball := ok_law_ball (P := l.prog) (w := w) (K := K) (mg := mg) (base := base) F_law_ball F_law_draw g_law_draw b_law_draw F_law_turns g_law_turns b_law_turns F_law_back g_law_back b_law_back F_law_set g_law_set b_law_set m_range m_tuple m_len m_int
  have G_law_doubled := ok_law_doubled (P := l.prog) (w := w) (K := K) (mg := mg) (base := base) F_law_doubled F_law_back g_law_back b_law_back F_law_set g_law_set b_law_set m_range m_tuple m_len m_list
  have G_law_blocks := ok_law_blocks (P := l.prog) (w := w) (K := K) (mg := mg) (base := base) F_law_blocks F_law_draw g_law_draw b_law_draw F_law_any g_law_any b_law_any F_law_ball g_law_ball b_law_ball F_law_doubled g_law_doubled b_law_doubled G_law_draw G_law_any G_law_ball G_law_doubled m_min
  have G_law_shut := ok_law_shut (P := l.prog) (w := w) (K := K) (mg := mg) (base := base) F_law_shut m_tuple
  have Gis_whole := okis_whole (P := l.prog) (w := w) (K := K) (mg := mg) (base := base) Fis_whole m_isinstance m_int m_bool
  have Gis_listed := okis_listed (P := l.prog) (w := w) (K := K) (mg := mg) (base := base) Fis_listed m_isinstance m_list m_tuple
  have Gis_below := okis_below (P := l.prog) (w := w) (K := K) (mg := mg) (base := base) Fis_below Fis_whole gis_whole bis_whole Gis_whole
  have Gis_order := okis_order (P := l.prog) (w := w) (K := K) (mg := mg) (base := base) Fis_order Fis_whole gis_whole bis_whole Gis_whole Fis_listed gis_listed bis_listed Gis_listed m_all m_sorted m_list m_range
  have Gis_turn := okis_turn (P := l.prog) (w := w) (K := K) (mg := mg) (base := base) Fis_turn Fis_order gis_order bis_order Gis_order
  have Gcontrary := okcontrary (P := l.prog) (w := w) (K := K) (mg := mg) (base := base) Fcontrary m_range m_tuple
  have G_joining_of := ok_joining_of (P := l.prog) (w := w) (K := K) (mg := mg) (base := base) F_joining_of Fis_listed gis_listed bis_listed Gis_listed Fis_below gis_below bis_below Gis_below Fis_turn gis_turn bis_turn Gis_turn m_len m_tuple
  have G_block_of := ok_block_of (P := l.prog) (w := w) (K := K) (mg := mg) (base := base) F_block_of Fis_listed gis_listed bis_listed Gis_listed F_joining_of g_joining_of b_joining_of G_joining_of m_len m_tuple
  have G_goes_both_ways := ok_goes_both_ways (P := l.prog) (w := w) (K := K) (mg := mg) (base := base) F_goes_both_ways Fcontrary gcontrary bcontrary Gcontrary
  have Gspace_of := okspace_of (P := l.prog) (w := w) (K := K) (mg := mg) (base := base) Fspace_of Fis_listed gis_listed bis_listed Gis_listed F_block_of g_block_of b_block_of G_block_of F_goes_both_ways g_goes_both_ways b_goes_both_ways G_goes_both_ways m_len m_tuple m_range
  have G_law_alike := ok_law_alike (P := l.prog) (w := w) (K := K) (mg := mg) (base := base) F_law_alike g_law_alike b_law_alike m_isinstance m_tuple m_list m_len m_all m_zip m_bool m_str m_int 7
  have Gis_number_word := okis_number_word (P := l.prog) (w := w) (K := K) (mg := mg) (base := base) Fis_number_word g_FIGURES m_all
  have Gis_joining_word := okis_joining_word (P := l.prog) (w := w) (K := K) (mg := mg) (base := base) Fis_joining_word Fis_number_word gis_number_word bis_number_word Gis_number_word m_sorted
  have G_has_form := ok_has_form (P := l.prog) (w := w) (K := K) (mg := mg) (base := base) F_has_form Fis_joining_word gis_joining_word bis_joining_word Gis_joining_word m_all m_len
  have G_joining_told := ok_joining_told (P := l.prog) (w := w) (K := K) (mg := mg) (base := base) F_joining_told m_int
  have G_block_told := ok_block_told (P := l.prog) (w := w) (K := K) (mg := mg) (base := base) F_block_told F_joining_told g_joining_told b_joining_told G_joining_told
  have Gread_space := okread_space (P := l.prog) (w := w) (K := K) (mg := mg) (base := base) Fread_space F_has_form g_has_form b_has_form G_has_form F_block_told g_block_told b_block_told G_block_told Fspace_of gspace_of bspace_of Gspace_of m_enumerate m_str m_range m_len
  have YNL : NlC l.prog K mg xNoLine fNL _ := ⟨TNL, ⟨_, _, _, _, _, _, _, _, _, _, _, _, _, _, _, _, _, _, _, _, rfl, fnNL, cdNL, coNL, flNL, maNL, ceNL⟩, mrNL, m_super, opNL, suNL, vCNoLine, noNL, toNL⟩
  have LNoLine : LineC l.prog w K mg base xNoLine fNL _ := ⟨TNL, inNL, tyNL, ok_line_init YNL, .all fun us hl => match us, hl with | [_, _], _ => rfl⟩
  have Gread_spaceX := okread_spaceX (P := l.prog) (w := w) (K := K) (mg := mg) (base := base) Fread_space gNoLine LNoLine F_has_form g_has_form b_has_form G_has_form F_block_told g_block_told b_block_told G_block_told Fspace_of gspace_of bspace_of Gspace_of m_enumerate m_str m_range m_len
  have hnoNL := noNL
  have Gread_space : FnOk l.prog w K mg base (L2.CX l.prog w) 7 _ _ ["text"] (spReadB xNoLine) := Gread_space.toX.or Gread_spaceX
  have G_law_text := ok_law_text (P := l.prog) (w := w) (K := K) (mg := mg) (base := base) F_law_text m_str
  have G_law_spoilt := ok_law_spoilt (P := l.prog) (w := w) (K := K) (mg := mg) (base := base) F_law_spoilt F_law_draw g_law_draw b_law_draw G_law_draw
  have G_law_kind_of := ok_law_kind_of (P := l.prog) (w := w) (K := K) (mg := mg) (base := base) (nm := "NoLine") F_law_kind_of gNoSpace gNoFace gNoTurn gNoName gNoLine gNoCorner gNoNumbers gNoSurface gNoMove gNoForm gNoneYet CNoLine kNoLine_NoSpace kNoLine_NoFace kNoLine_NoTurn kNoLine_NoName kNoLine_NoLine kNoLine_NoCorner k5NoLine kVNoLine (by decide +kernel) m_isinstance m_len m_ValueError
  have hno := noNL
  have G_law_asked := ok_law_asked (P := l.prog) (w := w) (K := K) (mg := mg) (base := base) F_law_asked gRoomError eNoLine CNoLine hno Fread_space gread_space bread_space Gread_space F_law_kind_of g_law_kind_of b_law_kind_of G_law_kind_of
  exact ok_law Flaw F_law_reel g_law_reel b_law_reel F_law_draw g_law_draw b_law_draw F_law_blocks g_law_blocks b_law_blocks F_law_shut g_law_shut b_law_shut F_law_text g_law_text b_law_text F_law_spoilt g_law_spoilt b_law_spoilt F_law_alike g_law_alike b_law_alike F_law_asked g_law_asked b_law_asked G_law_reel G_law_draw G_law_blocks G_law_shut G_law_text G_law_spoilt G_law_alike G_law_asked m_range m_len m_min m_list
end Bk
open PySem PySem.W PyProof.Rows
set_option maxHeartbeats 0 in
theorem PySem.Challenge.cw_blockrooms_k12_lines_refused_holds : PySem.Challenge.rw_blockrooms_k12_lines_refused.Holds := by
  w_on; o_law; k_head; (case hw => w_witness2)
  k_fill
  refine Bk.walk_G (l := PySem.Challenge.rw_blockrooms_k12_lines_refused) (n := 63) (k := 9) (x := "script") (sp := Bk.spLaw) rfl (by decide) rfl ⟨rfl, by decide, by decide⟩ (fun w h Y => PySem.W.kIn_of Y) ?F (fun _ _ a ns hl _ hS => ⟨a, ns, rfl, hS, hl, fun _ => rfl⟩)
  case F =>
    intro w mg fa h KX G hmg
    refine' Bk.all_mk KX G hmg ?ais_whole ?lis_whole ?cis_whole ?kis_whole ?ais_listed ?lis_listed ?cis_listed ?kis_listed ?ais_below ?lis_below ?cis_below ?kis_below ?ais_order ?lis_order ?cis_order ?kis_order ?ais_turn ?lis_turn ?cis_turn ?kis_turn ?acontrary ?lcontrary ?ccontrary ?kcontrary ?aspace_of ?lspace_of ?cspace_of ?kspace_of ?a_block_of ?l_block_of ?c_block_of ?k_block_of ?a_joining_of ?l_joining_of ?c_joining_of ?k_joining_of ?a_goes_both_ways ?l_goes_both_ways ?c_goes_both_ways ?k_goes_both_ways ?aread_space ?lread_space ?cread_space ?kread_space ?a_has_form ?l_has_form ?c_has_form ?k_has_form ?ais_joining_word ?lis_joining_word ?cis_joining_word ?kis_joining_word ?ais_number_word ?lis_number_word ?cis_number_word ?kis_number_word ?a_block_told ?l_block_told ?c_block_told ?k_block_told ?a_joining_told ?l_joining_told ?c_joining_told ?k_joining_told ?a_law_reel ?l_law_reel ?c_law_reel ?k_law_reel ?a_law_draw ?l_law_draw ?c_law_draw ?k_law_draw ?a_law_alike ?l_law_alike ?c_law_alike ?k_law_alike ?a_law_turns ?l_law_turns ?c_law_turns ?k_law_turns ?a_law_back ?l_law_back ?c_law_back ?k_law_back ?a_law_set ?l_law_set ?c_law_set ?k_law_set ?a_law_any ?l_law_any ?c_law_any ?k_law_any ?a_law_ball ?l_law_ball ?c_law_ball ?k_law_ball ?a_law_doubled ?l_law_doubled ?c_law_doubled ?k_law_doubled ?a_law_blocks ?l_law_blocks ?c_law_blocks ?k_law_blocks ?a_law_shut ?l_law_shut ?c_law_shut ?k_law_shut ?a_law_kind_of ?l_law_kind_of ?c_law_kind_of ?k_law_kind_of ?a_law_text ?l_law_text ?c_law_text ?k_law_text ?a_law_asked ?l_law_asked ?c_law_asked ?k_law_asked ?a_law_spoilt ?l_law_spoilt ?c_law_spoilt ?k_law_spoilt ?alaw ?llaw ?claw ?klaw ?aCNoSpace ?iCNoSpace ?tCNoSpace ?aCNoFace ?iCNoFace ?tCNoFace ?aCNoTurn ?iCNoTurn ?tCNoTurn ?aCNoName ?iCNoName ?tCNoName ?aCNoLine ?iCNoLine ?tCNoLine ?aCNoCorner ?iCNoCorner ?tCNoCorner ?aCNoNumbers ?iCNoNumbers ?tCNoNumbers ?aCNoSurface ?iCNoSurface ?tCNoSurface ?aCNoMove ?iCNoMove ?tCNoMove ?aCNoForm ?iCNoForm ?tCNoForm ?aCNoneYet ?iCNoneYet ?tCNoneYet ?aCRoomError ?iCRoomError ?tCRoomError ?bCRoomError ?hCRoomError ?oGet ?oTak ?kCNoLine ?bCNoLine ?vCNoLine ?sNoLine_NoSpace ?sNoLine_NoFace ?sNoLine_NoTurn ?sNoLine_NoName ?sNoLine_NoLine ?sNoLine_NoCorner ?sNoLine_NoNumbers ?sNoLine_NoSurface ?sNoLine_NoMove ?sNoLine_NoForm ?sNoLine_NoneYet ?sNoLine_RoomError ?gaCNoLine ?gtCNoLine ?hCNoLine ?clCNoLine ?mCNoLine ?lNL ?rNL ?saNL ?keNL ?inNL ?tyNL ?fnNL ?cdNL ?coNL ?flNL ?maNL ?ceNL ?mrNL ?opNL ?suNL ?noNL ?toNL ?aFIGURES ?zValueError ?zall ?zbool ?zenumerate ?zint ?zisinstance ?zlen ?zlist ?zmin ?zrange ?zsorted ?zstr ?zsuper ?ztuple ?zzip
    (case ais_whole => k_is); (case lis_whole => k_is); (case cis_whole => k_is); (case kis_whole => k_is); (case ais_listed => k_is); (case lis_listed => k_is); (case cis_listed => k_is); (case kis_listed => k_is); (case ais_below => k_is); (case lis_below => k_is); (case cis_below => k_is); (case kis_below => k_is); (case ais_order => k_is); (case lis_order => k_is); (case cis_order => k_is); (case kis_order => k_is); (case ais_turn => k_is); (case lis_turn => k_is); (case cis_turn => k_is); (case kis_turn => k_is); (case acontrary => k_is); (case lcontrary => k_is); (case ccontrary => k_is); (case kcontrary => k_is); (case aspace_of => k_is); (case lspace_of => k_is); (case cspace_of => k_is); (case kspace_of => k_is); (case a_block_of => k_is); (case l_block_of => k_is); (case c_block_of => k_is); (case k_block_of => k_is); (case a_joining_of => k_is); (case l_joining_of => k_is); (case c_joining_of => k_is); (case k_joining_of => k_is); (case a_goes_both_ways => k_is); (case l_goes_both_ways => k_is); (case c_goes_both_ways => k_is); (case k_goes_both_ways => k_is); (case aread_space => k_is); (case lread_space => k_is); (case cread_space => k_is); (case kread_space => k_is); (case a_has_form => k_is); (case l_has_form => k_is); (case c_has_form => k_is); (case k_has_form => k_is); (case ais_joining_word => k_is); (case lis_joining_word => k_is); (case cis_joining_word => k_is); (case kis_joining_word => k_is); (case ais_number_word => k_is); (case lis_number_word => k_is); (case cis_number_word => k_is); (case kis_number_word => k_is); (case a_block_told => k_is); (case l_block_told => k_is); (case c_block_told => k_is); (case k_block_told => k_is); (case a_joining_told => k_is); (case l_joining_told => k_is); (case c_joining_told => k_is); (case k_joining_told => k_is); (case a_law_reel => k_is); (case l_law_reel => k_is); (case c_law_reel => k_is); (case k_law_reel => k_is); (case a_law_draw => k_is); (case l_law_draw => k_is); (case c_law_draw => k_is); (case k_law_draw => k_is); (case a_law_alike => k_is); (case l_law_alike => k_is); (case c_law_alike => k_is); (case k_law_alike => k_is); (case a_law_turns => k_is); (case l_law_turns => k_is); (case c_law_turns => k_is); (case k_law_turns => k_is); (case a_law_back => k_is); (case l_law_back => k_is); (case c_law_back => k_is); (case k_law_back => k_is); (case a_law_set => k_is); (case l_law_set => k_is); (case c_law_set => k_is); (case k_law_set => k_is); (case a_law_any => k_is); (case l_law_any => k_is); (case c_law_any => k_is); (case k_law_any => k_is); (case a_law_ball => k_is); (case l_law_ball => k_is); (case c_law_ball => k_is); (case k_law_ball => k_is); (case a_law_doubled => k_is); (case l_law_doubled => k_is); (case c_law_doubled => k_is); (case k_law_doubled => k_is); (case a_law_blocks => k_is); (case l_law_blocks => k_is); (case c_law_blocks => k_is); (case k_law_blocks => k_is); (case a_law_shut => k_is); (case l_law_shut => k_is); (case c_law_shut => k_is); (case k_law_shut => k_is); (case a_law_kind_of => k_is); (case l_law_kind_of => k_is); (case c_law_kind_of => k_is); (case k_law_kind_of => k_is); (case a_law_text => k_is); (case l_law_text => k_is); (case c_law_text => k_is); (case k_law_text => k_is); (case a_law_asked => k_is); (case l_law_asked => k_is); (case c_law_asked => k_is); (case k_law_asked => k_is); (case a_law_spoilt => k_is); (case l_law_spoilt => k_is); (case c_law_spoilt => k_is); (case k_law_spoilt => k_is); (case alaw => k_is); (case llaw => k_is); (case claw => k_is); (case klaw => k_is); (case aCNoSpace => k_is); (case iCNoSpace => k_is); (case tCNoSpace => k_is); (case aCNoFace => k_is); (case iCNoFace => k_is); (case tCNoFace => k_is); (case aCNoTurn => k_is); (case iCNoTurn => k_is); (case tCNoTurn => k_is); (case aCNoName => k_is); (case iCNoName => k_is); (case tCNoName => k_is); (case aCNoLine => k_is); (case iCNoLine => k_is); (case tCNoLine => k_is); (case aCNoCorner => k_is); (case iCNoCorner => k_is); (case tCNoCorner => k_is); (case aCNoNumbers => k_is); (case iCNoNumbers => k_is); (case tCNoNumbers => k_is); (case aCNoSurface => k_is); (case iCNoSurface => k_is); (case tCNoSurface => k_is); (case aCNoMove => k_is); (case iCNoMove => k_is); (case tCNoMove => k_is); (case aCNoForm => k_is); (case iCNoForm => k_is); (case tCNoForm => k_is); (case aCNoneYet => k_is); (case iCNoneYet => k_is); (case tCNoneYet => k_is); (case aCRoomError => k_is); (case iCRoomError => k_is); (case tCRoomError => k_is); (case bCRoomError => k_is); (case hCRoomError => k_is); (case oGet => k_is); (case oTak => k_is); (case kCNoLine => k_is); (case bCNoLine => k_is); (case vCNoLine => k_is); (case sNoLine_NoSpace => k_is); (case sNoLine_NoFace => k_is); (case sNoLine_NoTurn => k_is); (case sNoLine_NoName => k_is); (case sNoLine_NoLine => k_is); (case sNoLine_NoCorner => k_is); (case sNoLine_NoNumbers => k_is); (case sNoLine_NoSurface => k_is); (case sNoLine_NoMove => k_is); (case sNoLine_NoForm => k_is); (case sNoLine_NoneYet => k_is); (case sNoLine_RoomError => k_is); (case gaCNoLine => k_is); (case gtCNoLine => k_is); (case hCNoLine => k_is); (case clCNoLine => k_is); (case mCNoLine => k_is); (case lNL => k_is); (case rNL => decide +kernel); (case saNL => k_is); (case keNL => k_is); (case inNL => k_is); (case tyNL => k_is); (case fnNL => k_is); (case cdNL => k_is); (case coNL => k_is); (case flNL => rfl); (case maNL => first | rfl | decide +kernel); (case ceNL => k_is); (case mrNL => k_is); (case opNL => k_is); (case suNL => ks_is); (case noNL => k_is); (case toNL => first | rfl | decide +kernel); (case aFIGURES => k_is); (case zValueError => k_is); (case zall => k_is); (case zbool => k_is); (case zenumerate => k_is); (case zint => k_is); (case zisinstance => k_is); (case zlen => k_is); (case zlist => k_is); (case zmin => k_is); (case zrange => k_is); (case zsorted => k_is); (case zstr => k_is); (case zsuper => k_is); (case ztuple => k_is); (case zzip => k_is)

