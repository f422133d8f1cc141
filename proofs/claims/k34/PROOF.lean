import PyProof.Rows.All
import Wide.All
import OpenK.AllK
import Wide.FinOn
import HandS.ForMost
import HandS.Wide
import HandS.IsInst
import HandS.FStr
import HandS.NoneIn
import HandS.Conv
import HandS.Zip
import KE.KIndexOf
import HandS.ForExc
import HandS.ExcIs
import KE.KIsAll
import PyProof.ReprBulk
import PyProof.ReprRoads
import PyProof.StrBlockL
import HandS.Walk
import HandS.Defaults
import KE.GoesEnum
import KE.GoesZip
import HandS.Deep
import HandS.Star
import HandS.ListItems
import HandS.DictComp
import HandS.TupSets
import PyProof.Rows.TupDisplay
import KE.KDictKeyed
import KE.KDictCopyH
import HandS.DictTup
import HandS.TupLe
import PyProof.Rows.MinMaxN
import KE.SortData
import PySem.Challenge.RW_blockrooms_k34_whole_surfaces_renamed
set_option Elab.async false
set_option linter.all false
set_option maxRecDepth 100000
set_option maxHeartbeats 4000000
/-! Common to all laws: what stays, the reel, turns and blocks as plain Lean, and as they stand in the heap. -/
namespace Bk
open PySem PySem.Spec PyProof.Rows L2

/-! ### what stays -/
/-- all that was tracked but R is as it was -/
def Keep (R : Addr) (H H' : Hp) : Prop := ∀ b o, H b = some o → b ≠ R → H' b = some o
theorem Keep.refl (R : Addr) (H : Hp) : Keep R H H := fun _ _ h _ => h
theorem Keep.trans {R : Addr} {H H1 H2 : Hp} (a : Keep R H H1) (b : Keep R H1 H2) : Keep R H H2 := fun c o h n => b c o (a c o h n) n
theorem Keep.of {R : Addr} {H H' : Hp} (a : Same H H') : Keep R H H' := fun c o h _ => a c o h
theorem Keep.same {R : Addr} {H H1 H2 : Hp} (a : Keep R H H1) (b : Same H1 H2) : Keep R H H2 := a.trans (.of b)
theorem _root_.L2.Same.keep {R : Addr} {H H1 H2 : Hp} (a : Same H H1) (b : Keep R H1 H2) : Keep R H H2 := (Keep.of a).trans b
theorem same_new {H : Hp} {p : Addr} {o : HO} (h : H p = none) : Same H (upd H p o) := fun b x e => by
  rw [upd_ne (ne_of_none e h)]
  exact e
theorem keep_set {H : Hp} {p : Addr} {o : HO} : Keep p H (upd H p o) := fun b x e n => by
  rw [upd_ne n]
  exact e
/-- a list that a loop or comprehension fills, made since -/
theorem same_fill {H H1 : Hp} {D : Addr} {o : HO} (a : Same H H1) (h : H D = none) : Same H (upd H1 D o) := fun b x e => by
  rw [upd_ne (ne_of_none e h)]
  exact a b x e
theorem keep_fill {R : Addr} {H H1 : Hp} {D : Addr} {o : HO} (a : Keep R H H1) (h : H D = none) : Keep R H (upd H1 D o) := fun b x e n => by
  rw [upd_ne (ne_of_none e h)]
  exact a b x e n
theorem Keep.free {R : Addr} {H H' : Hp} (a : Keep R H H') {l : Addr} (h : H' l = none) (n : l ≠ R) : H l = none := by
  cases q : H l with
  | none => rfl
  | some o =>
    rw [a l o q n] at h
    cases h
theorem _root_.L2.Same.sqt {K : PySem.W.Frag} {H H' : Hp} {a : Addr} {xs : List V} (e : Same H H') (h : SqT K H a xs) : SqT K H' a xs := by
  rcases h with (h | ⟨o, h⟩) | h
  · exact .inl (.inl (e _ _ h))
  · exact .inl (.inr ⟨o, e _ _ h⟩)
  · exact .inr h
theorem lst_inj {H : Hp} {p : Addr} {xs ys : List V} (a : H p = some (.lst xs)) (b : H p = some (.lst ys)) : xs = ys := by
  rw [a] at b
  injection b with b
  injection b with b

/-! ### the reel -/
/-- the reel's four: great, cells, turned, stirred -/
structure Reel (R g c : Addr) (gs cs : List Int) (n st : Int) (H : Hp) : Prop where
  r : H R = some (.lst [.ref g, .ref c, .int n, .int st])
  g : H g = some (.lst (gs.map V.int))
  c : H c = some (.lst (cs.map V.int))
  gl : gs.length ≤ 63
  cl : cs.length ≤ 64
  g0 : ∀ x ∈ gs, 0 ≤ x
  c0 : ∀ x ∈ cs, 0 ≤ x ∧ x < 1000003
  ne : cs ≠ []
  s0 : 0 ≤ st
  s1 : st.natAbs < 2 ^ 127
def ReelOk (R : Addr) (H : Hp) : Prop := ∃ g c gs cs n st, Reel R g c gs cs n st H
theorem ReelOk.same {R : Addr} {H H' : Hp} (h : ReelOk R H) (s : Same H H') : ReelOk R H' := by
  obtain ⟨g, c, gs, cs, n, st, r⟩ := h
  exact ⟨g, c, gs, cs, n, st, ⟨s _ _ r.r, s _ _ r.g, s _ _ r.c, r.gl, r.cl, r.g0, r.c0, r.ne, r.s0, r.s1⟩⟩
/-- a list that is none of the reel's -/
def NotReel (xs : List V) : Prop := ∃ x r, xs = x :: r ∧ (∀ i : Int, x ≠ .int i) ∧ ∀ v ∈ xs, ∀ i : Int, v ≠ .int i
theorem ReelOk.set {R p : Addr} {H : Hp} {xs : List V} {o : HO} (h : ReelOk R H) (hp : H p = some (.lst xs)) (n : NotReel xs) : ReelOk R (upd H p o) ∧ p ≠ R := by
  obtain ⟨g, c, gs, cs, m, st, r⟩ := h
  obtain ⟨x, l, e, hx, hv⟩ := n
  have n1 : p ≠ R := fun z => by
    subst z
    have q := lst_inj hp r.r
    exact hv (.int m) (by rw [q]; simp) m rfl
  have nI : ∀ {q : Addr} {ns : List Int}, H q = some (.lst (ns.map V.int)) → p ≠ q := fun {q ns} hq z => by
    subst z
    have q := lst_inj hp hq
    rw [e] at q
    cases ns with
    | nil => cases q
    | cons y t =>
      injection q with q _
      exact hx y q
  have n2 := nI r.g
  have n3 := nI r.c
  exact ⟨⟨g, c, gs, cs, m, st, ⟨by rw [upd_ne n1.symm]; exact r.r, by rw [upd_ne n2.symm]; exact r.g, by rw [upd_ne n3.symm]; exact r.c, r.gl, r.cl, r.g0, r.c0, r.ne, r.s0, r.s1⟩⟩, n1⟩
/-- D is none of the reel's three lists -/
def Away (R D : Addr) (H : Hp) : Prop := ∃ g c gs cs n st, Reel R g c gs cs n st H ∧ D ≠ R ∧ D ≠ g ∧ D ≠ c
theorem Away.ok {R D : Addr} {H : Hp} (h : Away R D H) : ReelOk R H := by
  obtain ⟨g, c, gs, cs, n, st, r, _⟩ := h
  exact ⟨g, c, gs, cs, n, st, r⟩
theorem Away.ne {R D : Addr} {H : Hp} (h : Away R D H) : D ≠ R := by
  obtain ⟨g, c, gs, cs, n, st, r, h, _⟩ := h
  exact h
theorem Away.same {R D : Addr} {H H' : Hp} (h : Away R D H) (s : Same H H') : Away R D H' := by
  obtain ⟨g, c, gs, cs, n, st, r, q⟩ := h
  exact ⟨g, c, gs, cs, n, st, ⟨s _ _ r.r, s _ _ r.g, s _ _ r.c, r.gl, r.cl, r.g0, r.c0, r.ne, r.s0, r.s1⟩, q⟩
theorem Away.fill {R D : Addr} {H : Hp} {o : HO} (h : Away R D H) : Away R D (upd H D o) := by
  obtain ⟨g, c, gs, cs, n, st, r, h1, h2, h3⟩ := h
  exact ⟨g, c, gs, cs, n, st, ⟨by rw [upd_ne h1.symm]; exact r.r, by rw [upd_ne h2.symm]; exact r.g, by rw [upd_ne h3.symm]; exact r.c, r.gl, r.cl, r.g0, r.c0, r.ne, r.s0, r.s1⟩, h1, h2, h3⟩
theorem Away.fill' {R D D' : Addr} {H : Hp} {o : HO} (h : Away R D' H) (a : Away R D H) : Away R D' (upd H D o) := by
  obtain ⟨g, c, gs, cs, n, st, r, h1, h2, h3⟩ := a
  obtain ⟨g', c', _, _, _, _, r', z⟩ := h
  have e := r.r.symm.trans r'.r
  injection e with e
  injection e with e
  injection e with e1 e
  injection e with e2 e
  injection e1 with e1
  injection e2 with e2
  subst e1 e2
  exact ⟨g, c, _, _, _, _, ⟨by rw [upd_ne h1.symm]; exact r'.r, by rw [upd_ne h2.symm]; exact r'.g, by rw [upd_ne h3.symm]; exact r'.c, r'.gl, r'.cl, r'.g0, r'.c0, r'.ne, r'.s0, r'.s1⟩, z⟩
theorem ReelOk.away {R D : Addr} {H : Hp} {o : HO} (h : ReelOk R H) (hD : H D = none) : Away R D (upd H D o) := by
  obtain ⟨g, c, gs, cs, n, st, r⟩ := h
  have h1 : R ≠ D := ne_of_none r.r hD
  have h2 : g ≠ D := ne_of_none r.g hD
  have h3 : c ≠ D := ne_of_none r.c hD
  exact ⟨g, c, gs, cs, n, st, ⟨by rw [upd_ne h1]; exact r.r, by rw [upd_ne h2]; exact r.g, by rw [upd_ne h3]; exact r.c, r.gl, r.cl, r.g0, r.c0, r.ne, r.s0, r.s1⟩, h1.symm, h2.symm, h3.symm⟩
theorem Away.set {R D p : Addr} {H : Hp} {xs : List V} {o : HO} (h : Away R D H) (hp : H p = some (.lst xs)) (n : NotReel xs) : Away R D (upd H p o) ∧ p ≠ R := by
  obtain ⟨g, c, gs, cs, m, st, r, q⟩ := h
  obtain ⟨x, l, e, hx, hv⟩ := n
  have n1 : p ≠ R := fun z => by
    subst z
    have q := lst_inj hp r.r
    exact hv (.int m) (by rw [q]; simp) m rfl
  have nI : ∀ {q : Addr} {ns : List Int}, H q = some (.lst (ns.map V.int)) → p ≠ q := fun {q ns} hq z => by
    subst z
    have q := lst_inj hp hq
    rw [e] at q
    cases ns with
    | nil => cases q
    | cons y t =>
      injection q with q _
      exact hx y q
  exact ⟨⟨g, c, gs, cs, m, st, ⟨by rw [upd_ne n1.symm]; exact r.r, by rw [upd_ne (nI r.g).symm]; exact r.g, by rw [upd_ne (nI r.c).symm]; exact r.c, r.gl, r.cl, r.g0, r.c0, r.ne, r.s0, r.s1⟩, q⟩, n1⟩
/-- R's list is known by its third -/
theorem ReelOk.isR {R p : Addr} {H : Hp} {xs : List V} (h : ReelOk R H) (hp : H p = some (.lst xs)) (hx : ∀ v ∈ xs, ∀ i : Int, v ≠ .int i) : p ≠ R := fun z => by
  obtain ⟨g, c, gs, cs, m, st, r⟩ := h
  subst z
  have q := lst_inj hp r.r
  exact hx (.int m) (by rw [q]; simp) m rfl
theorem ReelOk.isT {R p : Addr} {H : Hp} {o : Obj} {u : HO} (h : ReelOk R H) (hp : H p = some (.frz o u)) : p ≠ R := fun z => by
  obtain ⟨g, c, gs, cs, m, st, r⟩ := h
  subst z
  rw [r.r] at hp
  cases hp
theorem Keep.tup {R p : Addr} {H H' : Hp} {o : Obj} {u : HO} (k : Keep R H H') (h : ReelOk R H) (hp : H p = some (.frz o u)) : H' p = some (.frz o u) := k _ _ hp (h.isT hp)

/-! ### lists of values -/
theorem small16 {n : Nat} (h : n ≤ 4000) : n < sizeLine := Nat.lt_of_le_of_lt h (by decide)
theorem get_map_int {ns : List Int} {i : Nat} {x : V} (h : (ns.map V.int)[i]? = some x) : ∃ k, x = .int k ∧ ns[i]? = some k := by
  rw [List.getElem?_map] at h
  cases e : ns[i]? with
  | none => rw [e] at h; cases h
  | some k =>
    rw [e] at h
    injection h with h
    exact ⟨k, h.symm, rfl⟩
theorem cut_to (xs : List V) (n : Nat) : cutV xs none (some (n : Int)) = xs.take n := by
  unfold cutV
  rw [HT.sIx_none, show HT.sIx xs.length xs.length (some (n : Int)) = min n xs.length from HT.sIx_nat xs.length xs.length n]
  show List.take (min n xs.length - 0) (xs.drop 0) = xs.take n
  rw [List.drop_zero, Nat.sub_zero]
  by_cases h : n ≤ xs.length
  · rw [Nat.min_eq_left h]
  · rw [Nat.min_eq_right (by omega), List.take_length, List.take_of_length_le (by omega)]
theorem cut_from1 (xs : List V) : cutV xs (some 1) none = xs.drop 1 := by
  unfold cutV
  rw [show HT.sIx xs.length 0 (some 1) = min 1 xs.length from HT.sIx_nat xs.length 0 1, HT.sIx_none]
  cases xs with
  | nil => rfl
  | cons x r =>
    rw [show min 1 (x :: r).length = 1 by
      rw [List.length_cons]
      omega]
    show (List.take ((x :: r).length - 1) r) = r
    rw [List.length_cons, Nat.add_sub_cancel]
    exact List.take_length
theorem fmod_pos {a b : Int} (h : 0 < b) : 0 ≤ a.fmod b ∧ a.fmod b < b := ⟨Int.fmod_nonneg_of_pos a h, Int.fmod_lt_of_pos a h⟩
theorem take_succ_map {α β : Type} {f : α → β} {xs : List α} {i : Nat} {x : α} (h : xs[i]? = some x) : (xs.take (i + 1)).map f = (xs.take i).map f ++ [f x] := by
  rw [List.take_add_one, h, List.map_append]
  rfl

/-! ### turns -/
abbrev Trn := List Nat
def turnsAB (a b : Nat) : List Trn := ((List.range 4).filter fun c => !(a == c || b == c)).map fun c => [a, b, c, 6 - a - b - c]
def bsOf (a : Nat) : List Nat := (List.range 4).filter fun b => !(b == a)
def turnsA (a : Nat) : List Trn := (bsOf a).flatMap (turnsAB a)
def turnsTo (n : Nat) : List Trn := (List.range n).flatMap turnsA
def allTurns : List Trn := turnsTo 4
def back (t : Trn) : Trn := (List.range 4).map fun c => t.idxOf c
def intV (n : Nat) : V := .int (n : Int)
def trnV (t : Trn) : List V := t.map intV
theorem turnsTo_succ (n : Nat) : turnsTo (n + 1) = turnsTo n ++ turnsA n := by
  unfold turnsTo
  rw [List.range_succ, List.flatMap_append]
  simp
theorem turns_len : allTurns.length = 24 := by decide +kernel
theorem turns4 : ∀ t ∈ allTurns, t.length = 4 ∧ (∀ x ∈ t, x < 4) ∧ back t ∈ allTurns ∧ (∀ x < 4, t[t.idxOf x]? = some x) ∧ t.Nodup := by decide +kernel
theorem turns_face : ∀ f < 4, ∀ a < 4, (allTurns.filter fun t => t[f]? == some a).length = 6 := by decide +kernel
theorem range_filter_succ (p : Nat → Bool) (n : Nat) : (List.range (n + 1)).filter p = (List.range n).filter p ++ (if p n then [n] else []) := by
  rw [List.range_succ, List.filter_append]
  by_cases h : p n
  · rw [if_pos h]
    simp [h]
  · rw [if_neg h]
    simp [h]

/-! ### as they stand -/
/-- a tuple stands at p, as the object o, that has no dict of its own -/
def FT (H : Hp) (p : Addr) (xs : List V) : Prop := ∃ o : Obj, o.dict = none ∧ H p = some (.frz o (.tup xs))
theorem FT.sqt {K : PySem.W.Frag} {H : Hp} {p : Addr} {xs : List V} (h : FT H p xs) : SqT K H p xs := by
  obtain ⟨o, _, h⟩ := h
  exact .inl (.inr ⟨o, h⟩)
/-- every such tuple stands -/
def Tups (H H' : Hp) : Prop := ∀ b o xs, H b = some (.frz o (.tup xs)) → H' b = some (.frz o (.tup xs))
theorem Tups.refl (H : Hp) : Tups H H := fun _ _ _ h => h
theorem Tups.trans {H H1 H2 : Hp} (a : Tups H H1) (b : Tups H1 H2) : Tups H H2 := fun c o xs h => b c o xs (a c o xs h)
theorem _root_.L2.Same.tups {H H' : Hp} (a : Same H H') : Tups H H' := fun b o xs h => a b _ h
theorem Keep.tups {R : Addr} {H H' : Hp} (k : Keep R H H') (h : ReelOk R H) : Tups H H' := fun b o xs e => k.tup h e
theorem tups_set {H : Hp} {p : Addr} {xs : List V} {o : HO} (h : H p = some (.lst xs)) : Tups H (upd H p o) := fun b _ ys e => by
  rw [upd_ne (ne_of e h (by intro z; cases z))]
  exact e
theorem FT.mono {H H' : Hp} {p : Addr} {xs : List V} (h : FT H p xs) (m : Tups H H') : FT H' p xs := by
  obtain ⟨o, d, h⟩ := h
  exact ⟨o, d, m _ _ _ h⟩
theorem FT.ne {H : Hp} {p q : Addr} {xs ys : List V} (h : FT H p xs) (k : H q = some (.lst ys)) : p ≠ q := by
  obtain ⟨o, d, h⟩ := h
  exact ne_of h k (by intro z; cases z)
theorem FT.new {H : Hp} {p : Addr} {xs : List V} {o : Obj} (d : o.dict = none) : FT (upd H p (.frz o (.tup xs))) p xs := ⟨o, d, upd_same⟩
theorem FT.inj {H : Hp} {p : Addr} {xs ys : List V} (h : FT H p xs) (k : FT H p ys) : xs = ys := by
  obtain ⟨o, d, h⟩ := h
  obtain ⟨o', d', k⟩ := k
  rw [h] at k
  injection k with k
  injection k with _ k
  injection k with k
def TAt (H : Hp) (v : V) (t : Trn) : Prop := ∃ p, v = .ref p ∧ FT H p (trnV t)
theorem TAt.mono {H H' : Hp} {v : V} {t : Trn} (h : TAt H v t) (m : Tups H H') : TAt H' v t := by
  obtain ⟨p, e, h⟩ := h
  exact ⟨p, e, h.mono m⟩
theorem pmono {α β : Type} {F G : α → β → Prop} {xs : List α} {ys : List β} (h : Paired F xs ys) (m : ∀ a b, F a b → G a b) : Paired G xs ys := Paired.mapP h m
theorem papp {α β : Type} {F : α → β → Prop} : ∀ {xs xs' : List α} {ys ys' : List β}, Paired F xs ys → Paired F xs' ys' → Paired F (xs ++ xs') (ys ++ ys')
  | _, _, _, _, .nil, h => h
  | _, _, _, _, .cons a t, h => .cons a (papp t h)
theorem plen {α β : Type} {F : α → β → Prop} {xs : List α} {ys : List β} (h : Paired F xs ys) : xs.length = ys.length := h.length
theorem pget {α β : Type} {F : α → β → Prop} : ∀ {xs : List α} {ys : List β} {i : Nat} {y : β}, Paired F xs ys → ys[i]? = some y → ∃ x, xs[i]? = some x ∧ F x y
  | _, _, _, _, .nil, e => by simp at e
  | _, _, 0, _, .cons r _, e => ⟨_, rfl, by simp at e; subst e; exact r⟩
  | _, _, i + 1, _, .cons _ t, e => by
    obtain ⟨x, h1, h2⟩ := pget (i := i) t (by simpa using e)
    exact ⟨x, by simpa using h1, h2⟩
theorem pget' {α β : Type} {F : α → β → Prop} : ∀ {xs : List α} {ys : List β} {i : Nat} {x : α}, Paired F xs ys → xs[i]? = some x → ∃ y, ys[i]? = some y ∧ F x y
  | _, _, _, _, .nil, e => by simp at e
  | _, _, 0, _, .cons r _, e => ⟨_, rfl, by simp at e; subst e; exact r⟩
  | _, _, i + 1, _, .cons _ t, e => by
    obtain ⟨x, h1, h2⟩ := pget' (i := i) t (by simpa using e)
    exact ⟨x, by simpa using h1, h2⟩

/-! ### rules with the written part K by name (a comprehension's own context has it, but not by that name) -/
section
variable {X : Cx} (K : PySem.W.Frag)
theorem kIxL (h : X.K = K) : IxR X (rIxL K) := h ▸ ix_list
theorem kIxT (h : X.K = K) : IxR X (rIxT K) := h ▸ ix_tup
theorem kSlL (h : X.K = K) : SlR X (rSlL K) := h ▸ sl_list
theorem kIn (h : X.K = K) : OpR X (compareOp .In) (rIn K false) := h ▸ op_in_seq
theorem kNotIn (h : X.K = K) : OpR X (compareOp .NotIn) (rIn K true) := h ▸ op_notIn_seq
theorem kEqD (h : X.K = K) (hu : X.A.units + 64 < cLine) : OpR X (compareOp .Eq) (rEqD K) := h ▸ op_eqD hu
theorem kNeD (h : X.K = K) (hu : X.A.units + 64 < cLine) : OpR X (compareOp .NotEq) (rNeD K) := h ▸ op_neD hu
def rLen (K : PySem.W.Frag) : List V → Hp → VK → Prop := fun xs H Q => ∃ p ys, xs = [.ref p] ∧ (SqL K H p ys ∨ SqT K H p ys) ∧ Q (.int ys.length) H
theorem kLen (h : X.K = K) : CallR X (.builtin "len") (rLen K) := h ▸ call_len_seq
def rListOf (K : PySem.W.Frag) : List V → Hp → VK → Prop := fun xs H Q => ∃ p ys, xs = [.ref p] ∧ (SqL K H p ys ∨ SqT K H p ys) ∧ ∀ l, H l = none → Q (.ref l) (upd H l (.lst ys))
theorem kList (h : X.K = K) : CallR X (.type "list") (rListOf K) := h ▸ call_list_of
def rTupleOf (K : PySem.W.Frag) : List V → Hp → VK → Prop := fun xs H Q => ∃ p ys, xs = [.ref p] ∧ ((SqL K H p ys ∧ ∀ l, H l = none → Q (.ref l) (upd H l (.tup ys))) ∨ (SqT K H p ys ∧ Q (.ref p) H))
theorem kTuple (h : X.K = K) : CallR X (.type "tuple") (rTupleOf K) := h ▸ call_tuple_of
theorem kIsi (h : X.K = K) : CallR X (.builtin "isinstance") (rIsi K) := h ▸ call_isi
theorem kIsiT (h : X.K = K) : CallR X (.builtin "isinstance") (rIsiT K) := h ▸ call_isiT
theorem kIndex (h : X.K = K) : MtR X "list.index" (rIndex K) := h ▸ mt_index
theorem kBM {e : Expr} {T : String} {r : V → List V → Hp → VK → Prop} {to : TE} {t : TA} (h : X.K = K) (x : PE X e (tBM X.K T r to t)) : PE X e (tBM K T r to t) := h ▸ x
theorem kBM0 {e : Expr} {T : String} {r : V → List V → Hp → VK → Prop} {to : TE} (h : X.K = K) (x : PE X e (tBM0 X.K T r to)) : PE X e (tBM0 K T r to) := h ▸ x
theorem kPiL {tg l : Expr} {tl : TE} (h : X.K = K) (x : PI X tg l (iList X.K tl)) : PI X tg l (iList K tl) := h ▸ x
theorem kPiT {tg l : Expr} {tl : TE} (h : X.K = K) (x : PI X tg l (iTup X.K tl)) : PI X tg l (iTup K tl) := h ▸ x
theorem kPgT {tg : Expr} {n : Nat} {t : TGs} (h : X.K = K) (x : PG X tg (gTup X.K n t)) : PG X tg (gTup K n t) := h ▸ x
def rJoin (K : PySem.W.Frag) : V → List V → Hp → VK → Prop := fun x xs H Q => ∃ a p, ∃ ys : List Str, x = .str a ∧ xs = [.ref p] ∧ (SqL K H p (ys.map V.str) ∨ SqT K H p (ys.map V.str)) ∧ (ys.map (·.length)).sum + ys.length * a.length ≤ 16777216 ∧ Q (.str (Txt.join a ys)) H
theorem kJoin {e : Expr} {to te : TE} (h : X.K = K) (x : PE X e (tM1 (rJoin X.K) to te)) : PE X e (tM1 (rJoin K) to te) := h ▸ x
theorem kAll (h : X.K = K) (hc : X.calm = true) : CallR X (.builtin "all") (rAll K) := h ▸ cr_all hc
/-- (a, b, ..), told as the object that it is -/
def tTupF (t : TA) : TE := fun σ H Q => t σ H fun xs H1 => xs.length ≤ sizeLine ∧ ∀ p o, H1 p = none → o.dict = none → Q (.ref p) (upd H1 p (.frz o (.tup xs)))
theorem pe_tupF {es : List Expr} {t : TA} {pos : Pos} {x1} (h : PA X es t) : PE X (.Tuple es x1 pos) (tTupF t) := by
  refine ⟨fun pins s σ H Q I hw => wpAny_Tuple_spliced (thn (h.run pos pins s σ H _ I hw) fun us s1 hv => ?_)⟩
  obtain ⟨xs, H1, J, r, z, q⟩ := hv
  refine ⟨by rw [← r.length]; exact z, .ref s1.heap.objs.size, upd H1 s1.heap.objs.size (.frz { cls := .type "tuple", data := .seq us.toArray } (.tup xs)), ?_, rfl, q _ _ (J.hok.fresh (Nat.le_refl _)) rfl⟩
  have g : (s1.heap.push { cls := .type "tuple", data := .seq us.toArray }).get? s1.heap.objs.size = some { cls := .type "tuple", data := .seq us.toArray } := Heap.get?_push_size _ rfl
  exact J.laid (t' := s1.toks) (fun _ _ e => Heap.get?_push_of_some _ e) (Nat.le_refl _) ⟨g, z, us, r, ⟨_, g, rfl, _, rfl⟩⟩
/-- tuple(x), likewise -/
def rTupleF (K : PySem.W.Frag) : List V → Hp → VK → Prop := fun xs H Q => ∃ p ys, xs = [.ref p] ∧ ((SqL K H p ys ∧ ∀ l o, H l = none → o.dict = none → Q (.ref l) (upd H l (.frz o (.tup ys)))) ∨ (SqT K H p ys ∧ Q (.ref p) H))
theorem kTupleF (h : X.K = K) : CallR X (.type "tuple") (rTupleF K) := by
  subst h
  rintro pins s σ H _ us Q I r ⟨p, ys, rfl, hw⟩
  obtain ⟨u, rfl, rx⟩ := vals1 r
  cases rx
  rcases hw with ⟨hq, q⟩ | ⟨hq, q⟩
  · obtain ⟨its, rv, pl, hz⟩ := I.list hq
    have hlen := rv.length
    refine call_tuple_list pl.isList (fun h' kp => ?_) (by simp only [List.size_toArray] <;> omega)
    have J : Inv X pins σ H { s with heap := h' } := I.kept (t' := s.toks) kp
    have g : (h'.push { cls := .type "tuple", data := .seq its.toArray }).get? h'.objs.size = some { cls := .type "tuple", data := .seq its.toArray } := Heap.get?_push_size _ rfl
    exact ⟨.ref h'.objs.size, _, J.laid (t' := s.toks) (fun _ _ e => Heap.get?_push_of_some _ e) (Nat.le_refl _) (show ObjOk X.prog X.w _ _ _ (.frz _ (.tup ys)) from ⟨g, hz, its, rv, ⟨_, g, rfl, _, rfl⟩⟩), rfl, q _ _ (J.hok.fresh (Nat.le_refl _)) rfl⟩
  · obtain ⟨its, _, pl, _⟩ := I.tuple hq
    exact call_tuple_same pl ⟨.ref p, H, I, rfl, q⟩
/-- t.m(e, ..), t such a tuple -/
def tBMF (r : V → List V → Hp → VK → Prop) (to : TE) (t : TA) : TE := fun σ H Q => to σ H fun x H1 => (∃ p xs, x = .ref p ∧ FT H1 p xs) ∧ t σ H1 fun vs H2 => r x vs H2 Q
theorem pe_bmF {o e : Expr} {es : List Expr} {to : TE} {t : TA} {name : Str} {apos cpos : Pos} {id : String} {r : V → List V → Hp → VK → Prop} (pa : PlainAttrs "tuple") (slot : Slot "tuple" name id) (hty : typeOf (.builtin id) = pure (.type "method_descriptor")) (hm : MtR X id r)
    (ho : PE X o to) (ha : PA X (e :: es) t) (h1 : attributeBase o name X.env (eval o X.env) = eval o X.env := by rfl)
    (h2 : ((backTo cpos (starEach (e :: es) X.env)).all (fun x => !x.1) && (backToKw cpos (keywordEach [] X.env)).all (fun x => x.1.isSome) && decide ((e :: es).length + ([] : List Keyword).length + (if ([] : List Keyword).isEmpty then 0 else 1) < 30)) = true := by rfl)
    (h3 : (apos.endLine == cpos.line) = true := by rfl) (h4 : starEach (e :: es) X.env = (false, eval e X.env) :: starEach es X.env := by rfl) (h5 : (backTo cpos (starEach es X.env)).any (·.1) = false := by rfl) :
    PE X (.Call (.Attribute o name apos) (e :: es) [] cpos) (tBMF r to t) := by
  refine ⟨fun pins s σ H Q I hw => wpAny_Call_method_late h1 h2 h3 rfl (thn (ho.run pins s σ H _ I hw) fun v s1 hv => ?_)⟩
  obtain ⟨x, H1, J, rx, ⟨p, xs, rfl, ob, dn, hp⟩, q⟩ := hv
  cases rx
  obtain ⟨g, _, its, _, ob', g', hc, _⟩ := J.hok p _ hp
  have eo : ob = ob' := Option.some.inj (g.symm.trans g')
  subst eo
  refine ⟨"tuple", id, pa, slot, hty, ⟨ob, g, hc⟩, fun a ea => ?_, ?_⟩
  · cases ea
    exact ⟨ob, g, dn⟩
  have hA := ha.run cpos pins s1 σ H1 _ J q
  rw [h4] at hA ⊢
  refine Calls.callWith_builtin (by show (false || (backTo cpos (starEach es X.env)).any (·.1)) = false; rw [h5] <;> rfl) (Calls.evalArgs_plain (thn hA fun us s2 hv => ?_))
  obtain ⟨vs, H2, J2, r2, q2⟩ := hv
  exact hm pins s2 σ H2 (.ref p) vs _ us Q J2 rfl r2 q2
/-- a walk over the list or the tuple at a, and what it leans on -/
inductive SeqIt (K : PySem.W.Frag) (a : Addr) : It → (Hp → List V → Prop) → Prop
  | l : SeqIt K a (Itl K a) fun H xs => SqL K H a xs
  | t : SeqIt K a (Itt K a) fun H xs => SqT K H a xs
theorem SeqIt.mono {a : Addr} {J : It} {C : Hp → List V → Prop} (h : SeqIt K a J C) {H H' : Hp} {xs : List V} (m : ∀ o, H a = some o → H' a = some o) (c : C H xs) : C H' xs := by
  cases h with
  | l =>
    rcases c with (c | ⟨o, c⟩) | c
    · exact .inl (.inl (m _ c))
    · exact .inl (.inr ⟨o, m _ c⟩)
    · exact .inr c
  | t =>
    rcases c with (c | ⟨o, c⟩) | c
    · exact .inl (.inl (m _ c))
    · exact .inl (.inr ⟨o, m _ c⟩)
    · exact .inr c
/-- a list or a tuple is walked -/
def iSeq (K : PySem.W.Frag) (tl : TE) : TI := fun σ H R => tl σ H fun x H1 => ∃ a xs, x = .ref a ∧ (SqL K H1 a xs ∨ SqT K H1 a xs) ∧ ∀ J C, SeqIt K a J C → C H1 xs → R J H1
theorem kPiS {tg l : Expr} {tl : TE} (h : X.K = K) (hl : PE X l tl) : PI X tg l (iSeq K tl) := by
  subst h
  refine ⟨fun pins s σ H R I hw => thn (hl.run pins s σ H _ I hw) fun v s1 hv => ?_⟩
  obtain ⟨x, H1, J, rx, a, xs, rfl, hq, q⟩ := hv
  cases rx
  have new : ∀ b ∈ [s1.heap.objs.size], FpOk X pins H1 b := fun b hb => by
    rw [List.mem_singleton.mp hb]
    exact J.fpOk (Nat.le_refl _) (J.hok.fresh (Nat.le_refl _))
  rcases hq with hq | hq
  · obtain ⟨its, _, pl, _⟩ := J.list hq
    exact wpAny_pyIter_list pl.isList ⟨_, _, _, _, H1, rfl, J.kept (t' := s1.toks) fun _ _ z => Heap.get?_push_of_some _ z, turn_list a _, ⟨_, Heap.get?_push_size _ rfl, rfl, rfl⟩, new, q _ _ .l hq⟩
  · obtain ⟨its, _, pt, _⟩ := J.tuple hq
    exact wpAny_pyIter_tuple (show s1.heap.IsTuple a its.toArray from pt) ⟨_, _, _, _, H1, rfl, J.kept (t' := s1.toks) fun _ _ z => Heap.get?_push_of_some _ z, turn_tuple a _, ⟨_, Heap.get?_push_size _ rfl, rfl, rfl⟩, new, q _ _ .t hq⟩
variable {K}
/-- what a comprehension's walk asks, and a loop's -/
def LcEnd (J : It) (g : TG) (tt : TT) (te : TE) (vs : List Nat) (σ : L2.St) (H1 : Hp) (D : Addr) (Qd : Hp → Prop) : Prop :=
  ∃ W : Nat → Nat → Hp → Prop, (∃ m, W 0 m (upd H1 D (.lst []))) ∧
    ∀ i m H, W i m H →
      (J.stop i H ∧ Qd H) ∨
      (J.go i H ∧ ∃ Nx : Hp → Prop, (∀ H', Nx H' → ∃ m', m' < m ∧ W (i + 1) m' H') ∧
        ∀ x H', J.yld i H x H' →
          g x (wipe σ vs) H' fun σ2 H2 => wipe σ2 vs = wipe σ vs ∧
            tt σ2 H2 fun b H3 => if b = true then te σ2 H3 fun y H4 =>
              ∃ acc, H4 D = some (.lst acc) ∧ acc.length < sizeLine ∧ Nx (upd H4 D (.lst (acc ++ [y])))
            else Nx H3)
theorem lc_seq {a : Addr} {J : It} {C : Hp → List V → Prop} {xs : List V} {g : TG} {tt : TT} {te : TE} {vs : List Nat} {σ : L2.St} {H1 : Hp} {D : Addr} {Qd : Hp → Prop} (hJ : SeqIt K a J C) (Pv : Nat → Hp → Prop) (h0 : Pv 0 (upd H1 D (.lst [])))
    (hl : ∀ i H, Pv i H → C H xs)
    (hs : ∀ i x H, xs[i]? = some x → Pv i H → g x (wipe σ vs) H fun σ2 H2 => wipe σ2 vs = wipe σ vs ∧ tt σ2 H2 fun b H3 =>
      if b = true then te σ2 H3 fun y H4 => ∃ acc, H4 D = some (.lst acc) ∧ acc.length < sizeLine ∧ Pv (i + 1) (upd H4 D (.lst (acc ++ [y]))) else Pv (i + 1) H3)
    (hd : ∀ H, Pv xs.length H → Qd H) : LcEnd J g tt te vs σ H1 D Qd := by
  cases hJ with
  | l => exact lc_list (xs := xs) Pv h0 (fun i H _ p => hl i H p) hs hd
  | t => exact lc_tup (xs := xs) Pv h0 (fun i H _ p => hl i H p) hs hd
def ForEnd (J : It) (g : TG) (tb : TS) (D : Ends) (σ : L2.St) (H1 : Hp) : Prop :=
  ∃ W : Nat → Nat → L2.St → Hp → Prop, (∃ m, W 0 m σ H1) ∧
    ∀ i m σ H, W i m σ H →
      (J.stop i H ∧ D.nx σ H) ∨
      (J.go i H ∧ ∃ N : L2.St → Hp → Prop, (∀ σ' H', N σ' H' → ∃ m', m' < m ∧ W (i + 1) m' σ' H') ∧
        ∀ x H', J.yld i H x H' → g x σ H' fun σ2 H2 => tb { D with nx := N, ct := N, bk := D.nx } σ2 H2)
/-- a loop over such a walk -/
theorem for_seq {a : Addr} {J : It} {C : Hp → List V → Prop} {xs : List V} {g : TG} {tb : TS} {D : Ends} {σ : L2.St} {H1 : Hp} (hJ : SeqIt K a J C) (Pv : Nat → L2.St → Hp → Prop) (h0 : Pv 0 σ H1)
    (hl : ∀ i σ H, Pv i σ H → C H xs)
    (hs : ∀ i x σ H, xs[i]? = some x → Pv i σ H → g x σ H fun σ2 H2 => tb { D with nx := Pv (i + 1), ct := Pv (i + 1), bk := D.nx } σ2 H2)
    (hd : ∀ σ H, Pv xs.length σ H → D.nx σ H) : ForEnd J g tb D σ H1 := by
  cases hJ with
  | l => exact for_list (xs := xs) Pv h0 (fun i σ H _ p => hl i σ H p) hs hd
  | t => exact for_tup (xs := xs) Pv h0 (fun i σ H _ p => hl i σ H p) hs hd
variable (K)
/-- (a, b, ..) = a list or a tuple of that length -/
def gSeq (K : PySem.W.Frag) (n : Nat) (t : TGs) : TG := fun v σ H Q => ∃ a xs, v = .ref a ∧ (SqL K H a xs ∨ SqT K H a xs) ∧ xs.length = n ∧ t xs σ H Q
theorem kPgS {tg : Expr} {n : Nat} {t : TGs} (h : X.K = K) (x : PG X tg (gTup X.K n t)) (y : PG X tg (gUnl X.K n t)) : PG X tg (gSeq K n t) := by
  subst h
  refine ⟨fun pins s σ H v u Q I r hw => ?_⟩
  obtain ⟨a, xs, e, hq | hq, hl, hw⟩ := hw
  · exact y.run pins s σ H v u Q I r ⟨a, xs, e, hq, hl, hw⟩
  · exact x.run pins s σ H v u Q I r ⟨a, xs, e, hq, hl, hw⟩
theorem kTupIx (h : X.K = K) : MtR X "tuple.index" (fun x xs H Q => ∃ p, ∃ ns : List Int, ∃ k : Int, x = .ref p ∧ xs = [.int k] ∧ SqT K H p (ns.map V.int) ∧ k ∈ ns ∧ Q (.int (ns.idxOf k : Nat)) H) := by
  subst h
  rintro pins s σ H x xs v us Q I rx rs ⟨p, ns, k, rfl, rfl, hq, hk, q⟩
  cases rx
  obtain ⟨u, rfl, ru⟩ := rs.one
  obtain ⟨t, rfl⟩ := ru
  obtain ⟨its, r, pl, _⟩ := I.tuple hq
  exact SeqAt.tuple_index_ints pl (intsAre_of r) hk ⟨.int _, H, I.tok _, ⟨_, rfl⟩, q⟩
end

/-! ### spaces -/
abbrev Jn := Option (Nat × Trn)
abbrev Blk := List Jn
abbrev Spc := List Blk
def free4 : Blk := [none, none, none, none]
/-- what stands at a face: none where there is no such face -/
def getJ (s : Spc) (b f : Nat) : Option Jn := s[b]?.bind fun l => l[f]?
def setJ (s : Spc) (b f : Nat) (j : Jn) : Spc := s.modify b fun l => l.set f j
def tf (t : Trn) (f : Nat) : Nat := t[f]?.getD 0
def joinJ (s : Spc) (b f n : Nat) (t : Trn) : Spc := setJ (setJ s b f (some (n, t))) n (tf t f) (some (b, back t))
theorem setJ_len (s : Spc) (b f : Nat) (j : Jn) : (setJ s b f j).length = s.length := List.length_modify ..
theorem joinJ_len (s : Spc) (b f n : Nat) (t : Trn) : (joinJ s b f n t).length = s.length := by
  unfold joinJ
  rw [setJ_len, setJ_len]
theorem getJ_set (s : Spc) (b f b' f' : Nat) (j : Jn) : getJ (setJ s b f j) b' f' = if b' = b ∧ f' = f then (getJ s b' f').map fun _ => j else getJ s b' f' := by
  unfold getJ setJ
  rw [List.getElem?_modify]
  cases h : s[b']? with
  | none => simp
  | some l =>
    show ((fun a => if b = b' then List.set a f j else a) l)[f']? = _
    by_cases hb : b = b'
    · subst hb
      show (if b = b then List.set l f j else l)[f']? = if b = b ∧ f' = f then (l[f']?).map fun _ => j else l[f']?
      rw [if_pos rfl, List.getElem?_set]
      by_cases hf : f = f'
      · subst hf
        rw [if_pos (show f = f from rfl), if_pos (show b = b ∧ f = f from ⟨rfl, rfl⟩)]
        by_cases hl : f < l.length
        · rw [if_pos hl, List.getElem?_eq_getElem hl]
          rfl
        · rw [if_neg hl, List.getElem?_eq_none (Nat.le_of_not_lt hl)]
          rfl
      · rw [if_neg hf, if_neg (fun z => hf z.2.symm)]
    · show (if b = b' then List.set l f j else l)[f']? = _
      rw [if_neg hb, if_neg (fun z => hb z.1.symm)]
      rfl
def L4 (s : Spc) : Prop := ∀ b ∈ s, b.length = 4
theorem L4.get {s : Spc} (h : L4 s) {b : Nat} (hb : b < s.length) {f : Nat} (hf : f < 4) : ∃ j, getJ s b f = some j := by
  unfold getJ
  rw [List.getElem?_eq_getElem hb]
  have := h _ (List.getElem_mem hb)
  exact ⟨_, List.getElem?_eq_getElem (by omega)⟩
theorem L4.of {s : Spc} (h : L4 s) {b f : Nat} {j : Jn} (e : getJ s b f = some j) : b < s.length ∧ f < 4 := by
  unfold getJ at e
  cases hs : s[b]? with
  | none =>
    rw [hs] at e
    cases e
  | some l =>
    rw [hs] at e
    have h1 := (List.getElem?_eq_some_iff.mp hs).1
    have h2 := (List.getElem?_eq_some_iff.mp (show l[f]? = some j from e)).1
    exact ⟨h1, by rw [h l (List.mem_of_getElem? hs)] at h2; exact h2⟩
theorem L4.set {s : Spc} (h : L4 s) (b f : Nat) (j : Jn) : L4 (setJ s b f j) := fun l hl => by
  obtain ⟨i, hi⟩ := List.mem_iff_getElem?.mp hl
  unfold setJ at hi
  rw [List.getElem?_modify] at hi
  cases hs : s[i]? with
  | none =>
    rw [hs] at hi
    simp at hi
  | some m =>
    rw [hs] at hi
    have hm := h m (List.mem_of_getElem? hs)
    simp at hi
    rw [← hi]
    split
    · rw [List.length_set]
      exact hm
    · exact hm
theorem L4.join {s : Spc} (h : L4 s) (b f n : Nat) (t : Trn) : L4 (joinJ s b f n t) := (h.set _ _ _).set _ _ _
/-- joinings go both ways -/
def Both (s : Spc) : Prop := ∀ b f n t, getJ s b f = some (some (n, t)) → t ∈ allTurns ∧ (n, tf t f) ≠ (b, f) ∧ getJ s n (tf t f) = some (some (b, back t))
structure Good (s : Spc) : Prop where
  l4 : L4 s
  both : Both s
theorem back_back : ∀ t ∈ allTurns, back (back t) = t := by decide +kernel
theorem tf_back : ∀ t ∈ allTurns, ∀ f < 4, tf (back t) (tf t f) = f := by decide +kernel
theorem tf_lt : ∀ t ∈ allTurns, ∀ f < 4, tf t f < 4 ∧ t[f]? = some (tf t f) := by decide +kernel
theorem back_mem {t : Trn} (h : t ∈ allTurns) : back t ∈ allTurns := (turns4 t h).2.2.1
theorem Good.lt {s : Spc} (h : Good s) {b f n : Nat} {t : Trn} (e : getJ s b f = some (some (n, t))) : n < s.length := (h.l4.of (h.both b f n t e).2.2).1
theorem Good.join {s : Spc} (h : Good s) {b f n : Nat} {t : Trn} (ht : t ∈ allTurns) (h1 : getJ s b f = some none) (h2 : getJ s n (tf t f) = some none) (hne : (n, tf t f) ≠ (b, f)) : Good (joinJ s b f n t) := by
  refine ⟨L4.join h.l4 b f n t, fun b' f' n' t' e => ?_⟩
  have hf := (h.l4.of h1).2
  have G : ∀ x y, getJ (joinJ s b f n t) x y = if x = n ∧ y = tf t f then some (some (b, back t)) else if x = b ∧ y = f then some (some (n, t)) else getJ s x y := fun x y => by
    unfold joinJ
    rw [getJ_set, getJ_set]
    by_cases c1 : x = n ∧ y = tf t f
    · rw [if_pos c1, if_pos c1, c1.1, c1.2]
      rw [if_neg (fun z => hne (Prod.ext z.1 z.2)), h2]
      rfl
    · rw [if_neg c1, if_neg c1]
      by_cases c2 : x = b ∧ y = f
      · rw [if_pos c2, if_pos c2, c2.1, c2.2, h1]
        rfl
      · rw [if_neg c2, if_neg c2]
  rw [G] at e ⊢
  by_cases c1 : b' = n ∧ f' = tf t f
  · rw [if_pos c1] at e
    obtain ⟨rfl, rfl⟩ := c1
    cases e
    refine ⟨back_mem ht, ?_, ?_⟩
    · rw [tf_back t ht f hf]
      exact fun z => hne z.symm
    · rw [tf_back t ht f hf, if_neg (fun z => hne (Prod.ext z.1.symm z.2.symm)), if_pos ⟨rfl, rfl⟩, back_back t ht]
  · rw [if_neg c1] at e
    by_cases c2 : b' = b ∧ f' = f
    · rw [if_pos c2] at e
      obtain ⟨rfl, rfl⟩ := c2
      cases e
      refine ⟨ht, hne, ?_⟩
      rw [if_pos ⟨rfl, rfl⟩]
    · rw [if_neg c2] at e
      obtain ⟨q1, q2, q3⟩ := h.both _ _ _ _ e
      refine ⟨q1, q2, ?_⟩
      rw [if_neg, if_neg]
      · exact q3
      · rintro ⟨rfl, hz⟩
        rw [hz, h1] at q3
        cases q3
      · rintro ⟨rfl, hz⟩
        rw [hz, h2] at q3
        cases q3
theorem getJ_join {s : Spc} {b f n : Nat} {t : Trn} {x y : Nat} (n1 : ¬ (x = b ∧ y = f)) (n2 : ¬ (x = n ∧ y = tf t f)) : getJ (joinJ s b f n t) x y = getJ s x y := by
  unfold joinJ
  rw [getJ_set, if_neg n2, getJ_set, if_neg n1]

/-! ### spaces as they stand -/
def JAt (H : Hp) (v : V) : Jn → Prop
  | none => v = .non
  | some (n, t) => ∃ p q, v = .ref p ∧ FT H p [intV n, .ref q] ∧ FT H q (trnV t)
theorem JAt.mono {H H' : Hp} {v : V} {j : Jn} (h : JAt H v j) (m : Tups H H') : JAt H' v j := by
  cases j with
  | none => exact h
  | some k =>
    obtain ⟨p, q, e, h1, h2⟩ := h
    exact ⟨p, q, e, h1.mono m, h2.mono m⟩
theorem JAt.kind {H : Hp} {v : V} {j : Jn} (h : JAt H v j) : v = .non ∨ ∃ p xs, v = .ref p ∧ FT H p xs := by
  cases j with
  | none => exact .inl h
  | some k =>
    obtain ⟨p, q, e, h1, h2⟩ := h
    exact .inr ⟨p, _, e, h1⟩
def BAt (H : Hp) (v : V) (b : Blk) : Prop := ∃ p vs, v = .ref p ∧ H p = some (.lst vs) ∧ Paired (JAt H) vs b
theorem BAt.mono {H H' : Hp} {v : V} {b : Blk} (h : BAt H v b) (m : Tups H H') (k : ∀ p xs, v = .ref p → H p = some (.lst xs) → H' p = some (.lst xs)) : BAt H' v b := by
  obtain ⟨p, vs, e, h1, h2⟩ := h
  exact ⟨p, vs, e, k p vs e h1, pmono h2 fun _ _ x => x.mono m⟩
structure SpAt (H : Hp) (l : Addr) (rs : List V) (s : Spc) : Prop where
  l : H l = some (.lst rs)
  b : Paired (BAt H) rs s
  nd : rs.Nodup
theorem notReel_blk {H : Hp} {vs : List V} {b : Blk} (h : Paired (JAt H) vs b) (hb : b ≠ []) : NotReel vs := by
  have hv : ∀ v ∈ vs, ∀ i : Int, v ≠ .int i := fun v hv i e => by
    obtain ⟨k, hk⟩ := List.mem_iff_getElem?.mp hv
    obtain ⟨j, _, hj⟩ := pget' h hk
    rcases hj.kind with z | ⟨p, xs, z, _⟩
    · rw [e] at z
      cases z
    · rw [e] at z
      cases z
  cases h with
  | nil => exact absurd rfl hb
  | cons a t => exact ⟨_, _, rfl, hv _ List.mem_cons_self, hv⟩
theorem notReel_refs {ps : List V} (hne : ps ≠ []) (h : ∀ v ∈ ps, ∃ p, v = .ref p) : NotReel ps := by
  have hv : ∀ v ∈ ps, ∀ i : Int, v ≠ .int i := fun v hv i e => by
    obtain ⟨p, z⟩ := h v hv
    rw [e] at z
    cases z
  cases ps with
  | nil => exact absurd rfl hne
  | cons a t => exact ⟨_, _, rfl, hv _ List.mem_cons_self, hv⟩
theorem bat_ref {H : Hp} {rs : List V} {s : Spc} (h : Paired (BAt H) rs s) : ∀ v ∈ rs, ∃ p, v = .ref p := fun v hv => by
  obtain ⟨k, hk⟩ := List.mem_iff_getElem?.mp hv
  obtain ⟨b, _, p, vs, e, _⟩ := pget' h hk
  exact ⟨p, e⟩
/-- what changes are inner lists of rs alone -/
def KeepB (rs : List V) (H H' : Hp) : Prop := ∀ b o, H b = some o → V.ref b ∉ rs → H' b = some o
theorem KeepB.trans {rs : List V} {H H1 H2 : Hp} (a : KeepB rs H H1) (b : KeepB rs H1 H2) : KeepB rs H H2 := fun c o h n => b c o (a c o h n) n
theorem KeepB.of {rs : List V} {H H' : Hp} (a : Same H H') : KeepB rs H H' := fun c o h _ => a c o h
theorem KeepB.tups {rs : List V} {H H' : Hp} {s : Spc} (k : KeepB rs H H') (h : Paired (BAt H) rs s) : Tups H H' := fun b o xs e => k b _ e fun z => by
  obtain ⟨i, hi⟩ := List.mem_iff_getElem?.mp z
  obtain ⟨y, _, p, vs, e1, e2, _⟩ := pget' h hi
  injection e1 with e1
  rw [e1, e2] at e
  cases e
/-- the outer list is none of its inner ones -/
theorem SpAt.out {H : Hp} {l : Addr} {rs : List V} {s : Spc} (h : SpAt H l rs s) : V.ref l ∉ rs := fun z => by
  obtain ⟨i, hi⟩ := List.mem_iff_getElem?.mp z
  obtain ⟨y, _, p, vs, e1, e2, e3⟩ := pget' h.b hi
  injection e1 with e1
  subst e1
  have q := lst_inj e2 h.l
  subst q
  obtain ⟨j, _, hj⟩ := pget' e3 hi
  rcases hj.kind with z | ⟨p, xs, z, hp⟩
  · cases z
  · injection z with z
    subst z
    exact hp.ne e2 rfl
theorem ReelOk.keepB {R : Addr} {rs : List V} {H H' : Hp} {s : Spc} (h : ReelOk R H) (k : KeepB rs H H') (hb : Paired (BAt H) rs s) (h4 : L4 s) : ReelOk R H' ∧ V.ref R ∉ rs := by
  obtain ⟨g, c, gs, cs, m, st, r⟩ := h
  have no : ∀ {a : Addr} {xs : List V}, H a = some (.lst xs) → (∀ x l, xs = x :: l → ∃ v ∈ xs, ∃ i : Int, v = .int i) → V.ref a ∉ rs := fun {a xs} ha hx z => by
    obtain ⟨i, hi⟩ := List.mem_iff_getElem?.mp z
    obtain ⟨y, hy, p, vs, e1, e2, e3⟩ := pget' hb hi
    injection e1 with e1
    subst e1
    have q := lst_inj ha e2
    subst q
    obtain ⟨x, l, e, _, hv⟩ := notReel_blk e3 (by
      intro z
      have := h4 y (List.mem_of_getElem? hy)
      rw [z] at this
      cases this)
    obtain ⟨v, hv1, j, hj⟩ := hx x l e
    exact hv v hv1 j hj
  have nI : ∀ {a : Addr} {ns : List Int}, H a = some (.lst (ns.map V.int)) → V.ref a ∉ rs := fun {a ns} ha => no ha fun x l e => by
    cases ns with
    | nil => cases e
    | cons n t => exact ⟨_, List.mem_cons_self, n, rfl⟩
  have nR := no r.r fun _ _ _ => ⟨.int m, by simp, m, rfl⟩
  exact ⟨⟨g, c, gs, cs, m, st, ⟨k _ _ r.r nR, k _ _ r.g (nI r.g), k _ _ r.c (nI r.c), r.gl, r.cl, r.g0, r.c0, r.ne, r.s0, r.s1⟩⟩, nR⟩

/-- the inner lists have come since H -/
def Fresh (H : Hp) (rs : List V) : Prop := ∀ p, V.ref p ∈ rs → H p = none
theorem Keep.inner {R : Addr} {rs : List V} {H H1 H2 : Hp} (k : Keep R H H1) (b : KeepB rs H1 H2) (f : Fresh H rs) : Keep R H H2 := fun c o h n => b c o (k c o h n) fun z => by
  rw [f c z] at h
  cases h
theorem _root_.L2.Same.inner {rs : List V} {H H1 H2 : Hp} (k : Same H H1) (b : KeepB rs H1 H2) (f : Fresh H rs) : Same H H2 := fun c o h => b c o (k c o h) fun z => by
  rw [f c z] at h
  cases h
def FcAt (H : Hp) (v : V) (x : Nat × Nat) : Prop := ∃ p, v = .ref p ∧ FT H p [intV x.1, intV x.2]
theorem FcAt.mono {H H' : Hp} {v : V} {x : Nat × Nat} (h : FcAt H v x) (m : Tups H H') : FcAt H' v x := by
  obtain ⟨p, e, h⟩ := h
  exact ⟨p, e, h.mono m⟩
def facesTo (n : Nat) : List (Nat × Nat) := (List.range n).map fun k => (k / 4, k % 4)
theorem facesTo_succ (n : Nat) : facesTo (n + 1) = facesTo n ++ [(n / 4, n % 4)] := by
  unfold facesTo
  rw [List.range_succ, List.map_append]
  rfl
theorem facesTo_nd (n : Nat) : (facesTo n).Nodup := by
  unfold facesTo
  refine List.Pairwise.map _ (fun a b h => ?_) (List.nodup_range (n := n))
  intro e
  injection e with e1 e2
  exact h (by omega)
theorem facesTo_mem {n : Nat} {x : Nat × Nat} (h : x ∈ facesTo (4 * n)) : x.1 < n ∧ x.2 < 4 := by
  unfold facesTo at h
  rw [List.mem_map] at h
  obtain ⟨k, hk, rfl⟩ := h
  rw [List.mem_range] at hk
  show k / 4 < n ∧ k % 4 < 4
  omega
theorem pperm_erase {α : Type} {l : List α} {i : Nat} {x : α} (h : l[i]? = some x) : (x :: l.eraseIdx i).Perm l := by
  induction l generalizing i with
  | nil => simp at h
  | cons y r ih =>
    cases i with
    | zero =>
      have e : y = x := by simpa using h
      subst e
      exact .refl _
    | succ i => exact (List.Perm.swap y x _).trans ((ih (by simpa using h)).cons y)
theorem perase {α β : Type} {F : α → β → Prop} : ∀ {xs : List α} {ys : List β} (i : Nat), Paired F xs ys → Paired F (xs.eraseIdx i) (ys.eraseIdx i)
  | _, _, _, .nil => .nil
  | _, _, 0, .cons _ t => t
  | _, _, i + 1, .cons r t => .cons r (perase i t)
def freeS (n : Nat) : Spc := List.replicate n free4
theorem freeS_get {n b f : Nat} {j : Jn} (h : getJ (freeS n) b f = some j) : j = none := by
  unfold getJ freeS at h
  cases e : (List.replicate n free4)[b]? with
  | none =>
    rw [e] at h
    cases h
  | some l =>
    rw [e] at h
    have el := List.eq_of_mem_replicate (List.mem_of_getElem? e)
    subst el
    have hm := List.mem_of_getElem? (show free4[f]? = some j from h)
    simpa [free4] using hm
theorem freeS_good (n : Nat) : Good (freeS n) := ⟨fun b hb => by rw [List.eq_of_mem_replicate hb]; rfl, fun b f m t e => by
  have := freeS_get e
  cases this⟩
theorem pmonoM {α β : Type} {F G : α → β → Prop} : ∀ {xs : List α} {ys : List β}, Paired F xs ys → (∀ a ∈ xs, ∀ b, F a b → G a b) → Paired G xs ys
  | _, _, .nil, _ => .nil
  | _, _, .cons r t, m => .cons (m _ List.mem_cons_self _ r) (pmonoM t fun a ha => m a (List.mem_cons_of_mem _ ha))
theorem SpAt.fresh {H : Hp} {l p : Addr} {rs : List V} {s : Spc} (h : SpAt H l rs s) (n : H p = none) : V.ref p ∉ rs := fun z => by
  obtain ⟨i, hi⟩ := List.mem_iff_getElem?.mp z
  obtain ⟨y, _, p', vs, e1, e2, _⟩ := pget' h.b hi
  injection e1 with e1
  rw [← e1, n] at e2
  cases e2
theorem SpAt.push {H1 H2 : Hp} {D p : Addr} {rs : List V} {S : Spc} {b : Blk} (h : SpAt H1 D rs S) (s : Same H1 H2) (n : H1 p = none) (hb : BAt H2 (.ref p) b) :
    SpAt (upd H2 D (.lst (rs ++ [.ref p]))) D (rs ++ [.ref p]) (S ++ [b]) := by
  have hD := s _ _ h.l
  have out := h.out
  refine ⟨upd_same, papp (pmonoM h.b fun v hv b z => z.mono (s.tups.trans (tups_set hD)) fun q xs e1 e2 => ?_) (.cons (hb.mono (tups_set hD) fun q xs e1 e2 => ?_) .nil), ?_⟩
  · rw [upd_ne (show q ≠ D from fun z => out (by rw [← z, ← e1]; exact hv))]
    exact s _ _ e2
  · injection e1 with e1
    subst e1
    rw [upd_ne (show p ≠ D from fun z => by rw [z, h.l] at n; cases n)]
    exact e2
  · rw [List.nodup_append]
    refine ⟨h.nd, by simp, fun a ha c hc e => ?_⟩
    rw [List.mem_singleton.mp hc] at e
    rw [e] at ha
    exact h.fresh n ha
theorem Fresh.push {H H1 : Hp} {rs : List V} {p : Addr} (h : Fresh H rs) (s : ∀ o, H p = some o → H1 p = some o) (n : H1 p = none) : Fresh H (rs ++ [.ref p]) := fun q z => by
  rcases List.mem_append.mp z with z | z
  · exact h q z
  · have e := List.mem_singleton.mp z
    injection e with e
    subst e
    cases hq : H q with
    | none => rfl
    | some o =>
      rw [s o hq] at n
      cases n
theorem fdiv_nat (a b : Nat) : (a : Int).fdiv (b : Int) = ((a / b : Nat) : Int) := by
  rw [Int.fdiv_eq_ediv_of_nonneg _ (by omega)]
  rfl
theorem fmod_nat (a b : Nat) : (a : Int).fmod (b : Int) = ((a % b : Nat) : Int) := by
  rw [Int.fmod_eq_emod_of_nonneg _ (by omega)]
  rfl
theorem seqIx_nat {n k : Nat} (h : k < n) : seqIndex? (k : Int) n = some k := by
  show (if (decide ((0 : Int) ≤ if (k : Int) < 0 then (k : Int) + n else k) && decide ((if (k : Int) < 0 then (k : Int) + n else k) < n)) = true then some (if (k : Int) < 0 then (k : Int) + n else k).toNat else none) = some k
  rw [if_neg (show ¬ (k : Int) < 0 by omega), decide_eq_true (show (0 : Int) ≤ k by omega), decide_eq_true (show (k : Int) < n by omega)]
  rfl
/-- a store into another list -/
theorem SpAt.other {H : Hp} {l p : Addr} {rs : List V} {s : Spc} {xs : List V} {o : HO} (h : SpAt H l rs s) (hp : H p = some (.lst xs)) (n1 : p ≠ l) (n2 : V.ref p ∉ rs) : SpAt (upd H p o) l rs s :=
  ⟨by rw [upd_ne n1.symm]; exact h.l, pmonoM h.b fun v hv b z => z.mono (tups_set hp) fun q xs e1 e2 => by
    rw [upd_ne (show q ≠ p from fun z => n2 (by rw [← z, ← e1]; exact hv))]
    exact e2, h.nd⟩
theorem refs_no_int {F : Hp → V → (Nat × Nat) → Prop} {H : Hp} {xs : List V} {fs : List (Nat × Nat)} (h : Paired (F H) xs fs) (hF : ∀ v x, F H v x → ∃ p, v = .ref p) : ∀ v ∈ xs, ∃ p, v = .ref p := fun v hv => by
  obtain ⟨k, hk⟩ := List.mem_iff_getElem?.mp hv
  obtain ⟨y, _, hy⟩ := pget' h hk
  exact hF v y hy
theorem fc_refs {H : Hp} {xs : List V} {fs : List (Nat × Nat)} (h : Paired (FcAt H) xs fs) : ∀ v ∈ xs, ∃ p, v = .ref p := refs_no_int (F := FcAt) h fun v x z => by
  obtain ⟨p, e, _⟩ := z
  exact ⟨p, e⟩
theorem no_int {xs : List V} (h : ∀ v ∈ xs, ∃ p, v = .ref p) : ∀ v ∈ xs, ∀ i : Int, v ≠ .int i := fun v hv i e => by
  obtain ⟨p, z⟩ := h v hv
  rw [e] at z
  cases z
theorem turns_face6 : ∀ f < 4, ∀ a < 4, (allTurns.filter fun t => tf t f == a).length = 6 := by decide +kernel
theorem filter_take_succ {α : Type} {l : List α} {i : Nat} {x : α} {p : α → Bool} (h : l[i]? = some x) : (l.take (i + 1)).filter p = (l.take i).filter p ++ (if p x then [x] else []) := by
  rw [List.take_add_one, h, List.filter_append]
  by_cases hp : p x
  · rw [if_pos hp]
    simp [hp]
  · rw [if_neg hp]
    simp [hp]
theorem tat_refs {H : Hp} {xs : List V} {ts : List Trn} (h : Paired (TAt H) xs ts) : ∀ v ∈ xs, ∃ p, v = .ref p := fun v hv => by
  obtain ⟨k, hk⟩ := List.mem_iff_getElem?.mp hv
  obtain ⟨y, _, p, e, _⟩ := pget' h hk
  exact ⟨p, e⟩
theorem dec_nat (a b : Nat) : decide ((intV a) = (intV b)) = (a == b) := by
  by_cases h : a = b
  · subst h
    simp
  · rw [beq_eq_false_iff_ne.mpr h]
    exact decide_eq_false (fun z => h (by injection z with z; omega))
theorem nodup_ne {α : Type} {l : List α} (h : l.Nodup) {i j : Nat} {x y : α} (hi : l[i]? = some x) (hj : l[j]? = some y) (n : i ≠ j) : x ≠ y := fun e => by
  subst e
  exact n (nd_ix h hi hj)
theorem ReelOk.isNot {R p : Addr} {H H' : Hp} {o : HO} (_ : ReelOk R H) (_ : H p = some o) (n : H' p = none) (h' : ReelOk R H') : p ≠ R := fun z => by
  obtain ⟨g, c, gs, cs, m, st, r⟩ := h'
  rw [z, r.r] at n
  cases n
/-- what was none of the reel's lists is none -/
def Aw (R : Addr) (H H' : Hp) : Prop := ∀ D, H D ≠ none → Away R D H → Away R D H'
theorem _root_.L2.Same.aw {R : Addr} {H H' : Hp} (s : Same H H') : Aw R H H' := fun _ _ z => z.same s
theorem Aw.trans {R : Addr} {H H1 H2 : Hp} (a : Aw R H H1) (k : Keep R H H1) (b : Aw R H1 H2) : Aw R H H2 := fun D n z => b D (fun y => n (k.free y z.ne)) (a D n z)
theorem Aw.set {R p : Addr} {H : Hp} {xs : List V} {o : HO} (hp : H p = some (.lst xs)) (n : NotReel xs) : Aw R H (upd H p o) := fun _ _ z => (z.set hp n).1
theorem Aw.fill {R L : Addr} {H : Hp} {o : HO} (a : Away R L H) : Aw R H (upd H L o) := fun _ _ z => z.fill' a
theorem Aw.keepB {R : Addr} {rs : List V} {H H' : Hp} {s : Spc} (k : KeepB rs H H') (hb : Paired (BAt H) rs s) (h4 : L4 s) : Aw R H H' := fun D _ z => by
  obtain ⟨g, c, gs, cs, m, st, r, q⟩ := z
  have no : ∀ {a : Addr} {xs : List V}, H a = some (.lst xs) → (∀ x l, xs = x :: l → ∃ v ∈ xs, ∃ i : Int, v = .int i) → V.ref a ∉ rs := fun {a xs} ha hx z => by
    obtain ⟨i, hi⟩ := List.mem_iff_getElem?.mp z
    obtain ⟨y, hy, p, vs, e1, e2, e3⟩ := pget' hb hi
    injection e1 with e1
    subst e1
    have q := lst_inj ha e2
    subst q
    obtain ⟨x, l, e, _, hv⟩ := notReel_blk e3 (by
      intro z
      have := h4 y (List.mem_of_getElem? hy)
      rw [z] at this
      cases this)
    obtain ⟨v, hv1, j, hj⟩ := hx x l e
    exact hv v hv1 j hj
  have nI : ∀ {a : Addr} {ns : List Int}, H a = some (.lst (ns.map V.int)) → V.ref a ∉ rs := fun {a ns} ha => no ha fun x l e => by
    cases ns with
    | nil => cases e
    | cons n t => exact ⟨_, List.mem_cons_self, n, rfl⟩
  have nR := no r.r fun _ _ _ => ⟨.int m, by simp, m, rfl⟩
  exact ⟨g, c, gs, cs, m, st, ⟨k _ _ r.r nR, k _ _ r.g (nI r.g), k _ _ r.c (nI r.c), r.gl, r.cl, r.g0, r.c0, r.ne, r.s0, r.s1⟩, q⟩
end Bk

/-! An error that a try keeps as a value: try: .. except X as e: caught = e; and isinstance of it behind the try. -/
namespace Bk
open PySem PySem.Spec PyProof.Rows L2
/-- an error that was caught, held as a value: its class and its own dict -/
def CaO (cls : Value) (d : Option Addr) (a : Addr) : HO := .ext fun h => ∃ (ob : Obj) (fs : Array Value), h.get? a = some ob ∧ Zc cls d ob ∧ ob.data = .fields fs
theorem caO_ok {P : Program} {w : World} {H : Hp} {h : Heap} {a : Addr} {cls : Value} {d : Option Addr} {ob : Obj} {fs : Array Value} (e : h.get? a = some ob) (z : Zc cls d ob) (q : ob.data = .fields fs) : ObjOk P w H h a (CaO cls d a) :=
  ⟨⟨ob, fs, e, z, q⟩, ⟨ob, e⟩, fun _ _ ⟨u, v, k, r⟩ m => ⟨u, v, m u k, r⟩⟩
section
variable {X : Cx} {pins : List (Addr × Obj)} {σ : L2.St} {H : Hp} {s0 s : Shared} {B : Heap}
theorem landedX (I : Inv X pins σ H s0) (nb : ∀ b o, s0.heap.get? b = some o → b ∉ frs X.stack → B.get? b = some o) (stays : B.StaysIn s.heap) (slots : s0.heap.UpToSlots s.heap) (eo : s.os = s0.os) (bare : AllBare s.gens)
    {a : Addr} {cls : Value} {d : Option Addr} {ob : Obj} {fs : Array Value} (ha : s.heap.get? a = some ob) (hz : Zc cls d ob) (hd : ob.data = .fields fs) (fresh : s0.heap.get? a = none) (na : H a = none) : Inv X pins σ (upd H a (CaO cls d a)) s := by
  have other : ∀ b o, s0.heap.get? b = some o → b ≠ a := fun b o e z => by
    rw [z, fresh] at e
    cases e
  have frm : ∀ b o, b ∈ frs X.stack → s0.heap.get? b = some o → ∃ sl, s.heap.get? b = some { o with slots := sl } := fun b o hb e => by
    obtain ⟨_, o2, e2, nofields⟩ := I.stack.mem hb
    obtain rfl : o = o2 := Option.some.inj (e.symm.trans e2)
    exact slots b o e nofields
  have still : ∀ b o, b ∉ frs X.stack → s0.heap.get? b = some o → s.heap.get? b = some o := fun b o hb e => stays b o (nb b o e hb)
  have old : HOk X.prog X.w H s.heap := (I.inGround nb).kept stays
  have up : ∀ {b : Addr} {u : HO}, H b = some u → (upd H a (CaO cls d a)) b = some u := fun {b u} e => by
    rw [upd_ne (ne_of_none e na)]
    exact e
  refine I.call' (ch := []) eo ⟨fun b o e _ hb _ => still b o hb e, fun b o e _ hb _ => frm b o hb e, fun b o e n _ => ?_, fun b o e _ => ?_, fun b xs e => up e, fun b o u e => up e, fun b ps e => ⟨#[], by rw [up e]; simp⟩⟩ (fun b u e => ?_) bare (fun _ z => nomatch z)
  · rw [upd_ne (other b o e)]
    exact n
  · by_cases hb : b ∈ frs X.stack
    · obtain ⟨sl, e2⟩ := frm b o hb e
      exact ⟨_, e2⟩
    · exact ⟨o, still b o hb e⟩
  · by_cases hb : b = a
    · subst hb
      rw [upd_same] at e
      cases e
      exact caO_ok ha hz hd
    · rw [upd_ne hb] at e
      exact (old b u e).stay (fun _ _ _ q => q) (fun _ q => up q) fun _ _ q => up q
theorem suiteX (I : Inv X pins σ H s) (a : Addr) : Inv (X.suite a (X.pn ++ pins)) [] σ H s :=
  ⟨I.ok.suite _ _, I.os, I.bare, I.base, I.loc, I.cell, I.free, I.freeC, fun p hp => I.pin p ((List.append_nil _).subst (motive := fun l => p ∈ l) hp), I.hok, I.len⟩
theorem unsuiteX {a : Addr} {pn : List (Addr × Obj)} (I : Inv (X.suite a (X.pn ++ pins)) pn σ H s) (ok : X.Ok) : Inv X pins σ H s :=
  ⟨ok, I.os, I.bare, I.base, I.loc, I.cell, I.free, I.freeC, fun p hp => I.pin p (List.mem_append.mpr (.inl hp)), I.hok, I.len⟩
end
/-- what the clause «except x as n: m = n» wishes of an error of the body: it is of x, and goes on with it in m's slot -/
def wKeep (K : PySem.W.Frag) (c : Value) (i j : Nat) (D : Ends) : WX := fun cls d σ H =>
  PySem.W.exmOne K cls c = some true ∧ ∀ a, H a = none → D.nx (((σ.set i (some (.ref a))).set j (some (.ref a))).set i none) (upd H a (CaO cls d a))
section
variable {X : Cx} {x n m : Str} {c : Value} {i j : Nat} {body : List Stmt} {np p1 p2 p3 pos pos' : Pos} {tb : WX → TS}
theorem ps_try_keep (hs : X.stack = X.env :: X.outer) (hf : X.env.frame = some X.env.locals) (hN : X.N.Nodup) (hi : X.N[i]? = some n) (hj : X.N[j]? = some m) (hij : i ≠ j) (hln : X.env.kindOf n = some .local) (hlm : X.env.scope.names.lookup m = some .local)
    (hvn : Vis X.env.scope n) (hsw : swapsWith (.Name n p2) (some (.Name m p1)) p3.line X.env = pure false) (hc : Names X x c) (hlen : ∀ {pins : List (Addr × Obj)} {σ : L2.St} {H : Hp} {s : Shared}, Inv X pins σ H s → i < σ.length) (hd1 : (n == ("__debug__" : Str)) = false) (hd2 : (n == ("__classdict__" : Str)) = false)
    (hb : ∀ (W : WX) (pn : List (Addr × Obj)) (xe : Value → Shared → Prop), Takes (X.tr pn xe) W → PassesOwn (model X.prog X.w) X.A X.env xe → PSs (X.tr pn xe) body (tb W)) :
    PS X (.Try body [.ExceptHandler (some (.Name x np)) (some n) [.Assign [.Name m p1] (.Name n p2) p3] pos'] [] [] pos) (fun D σ H => tb (wKeep X.K c i j D) D σ H) := by
  refine ⟨fun pins s σ H D I h => ?_⟩
  have ok := I.ok
  have frames : X.A.frames = some (X.env :: X.outer) := ok.frames.trans (congrArg some hs)
  let caught := [ExceptHandler.ExceptHandler (some (.Name x np)) (some n) [.Assign [.Name m p1] (.Name n p2) p3] pos']
  refine wpAny_Try_except ?_
  refine wpAny_mono ((hb (wKeep X.K c i j D) (X.pn ++ pins) (fun e s1 => wpAny (model X.prog X.w) X.A (noteFrame e X.env) (fun _ s2 => wpAny (model X.prog X.w) X.A (setFlight e none) (fun _ s3 =>
    wpAny (model X.prog X.w) X.A (handleBy e X.env caught) (SP X pins D) X.xe s3) X.xe s2) X.xe s1) (fun u s' thrown => ?_) PassesOwn.looking).run [] s σ H D (I.toTry _) h) (fun f s1 done => ?_) (fun _ _ z => z)
  · obtain ⟨a, B, s0, pn0, σ0, H0, cls, d, rfl, J0, nb, slots, sky, na, eo, bare, hx, goes⟩ := thrown
    have J : Inv X pins σ0 H0 s0 := J0.ofTry ok
    show wpAny (model X.prog X.w) X.A (noteFrame (.ref a) X.env) _ _ _
    refine Sky.land Zc.steady frames hf (hs ▸ (show Sky B X.stack a (Zc cls d) X.env.locals s'.heap from sky)) fun h3 fly3 slots3 => ?_
    obtain ⟨o3, v3, e3, z3, d3⟩ := fly3.there
    have notStack : a ∉ frs (X.env :: X.outer) := fun hm => by
      obtain ⟨_, o, e, nofields⟩ := fly3.2.2.1.mem hm
      obtain rfl : o3 = o := Option.some.inj (e3.symm.trans e)
      exact nofields v3 d3
    have fresh : s0.heap.get? a = none := by
      cases e : s0.heap.get? a with
      | none => rfl
      | some o =>
        have := nb a o e (by rw [hs]; exact notStack)
        rw [fly3.2.1] at this
        cases this
    have J3 : Inv X pins σ0 (upd H0 a (CaO cls d a)) { s' with heap := h3 } := landedX (s := { s' with heap := h3 }) J nb fly3.1 (slots.trans slots3) eo bare e3 z3 d3 fresh na
    refine wpAny_handleBy_cons (codeAny_handlers_test ?_) nofun
    have isOf : PySem.W.Looks (model X.prog X.w) h3 (typeOf (.ref a)) cls := fun A Q E s k q => wpAny_typeOf_ref (k _ _ e3) (z3.1 ▸ q)
    have meets := PySem.W.exm_one (M := model X.prog X.w) J3.kIn isOf hx
    have named : ∀ {Q : Value → Shared → Prop} {E : Value → Shared → Prop}, Q c { s' with heap := h3 } → wpAny (model X.prog X.w) (X.A.mark (some (.ref a))) (eval (.Name x np) X.env) Q E { s' with heap := h3 } := fun {Q E} q => by
      obtain ⟨glob, nodebug, known | ⟨none, boot, notName⟩⟩ := hc
      · exact ld_glob (X := X.suite a (X.pn ++ pins)) (suiteX J3 a) glob known q nodebug
      · exact ld_blt (X := X.suite a (X.pn ++ pins)) (suiteX J3 a) glob none boot q notName nodebug
    refine named (meets.here ?_)
    refine codeAny_handlers_suite_as ?_
    refine HandSPX.lands_againZ fly3 fun h4 fly4 slots4 => ?_
    obtain ⟨o4, v4, e4, z4, d4⟩ := fly4.there
    have J4 : Inv X pins σ0 (upd H0 a (CaO cls d a)) { s' with heap := h4 } := landedX (s := { s' with heap := h4 }) J nb fly4.1 ((slots.trans slots3).trans slots4) eo bare e4 z4 d4 fresh na
    have long := hlen J4
    refine store_ok (X := X.suite a (X.pn ++ pins)) (v := .ref a) (suiteX J4 a) hN hi (.inl hln) rfl (fun s5 S5 => ?_) (.inr hln)
    have run := (pss_one (ps_set (X := X.suite a (X.pn ++ pins)) (i := j) (pos := p3) hN hj (.inl hlm) (pe_var (X := X.suite a (X.pn ++ pins)) (i := i) (pos := p2) hi hvn (hd := hd1) (hcd := hd2)) hsw (.inr hlm))).run [] s5 _ _
      { nx := fun σ1 H1 => σ1 = ((σ0.set i (some (.ref a))).set j (some (.ref a))) ∧ H1 = upd H0 a (CaO cls d a), rt := fun _ _ => False, bk := fun _ _ => False, ct := fun _ _ => False } S5 ⟨.ref a, List.getElem?_set_self long, rfl, rfl⟩
    refine wpAny_mono run (fun f s6 done => ?_) (fun _ _ z => False.elim z)
    cases f with
    | next =>
      obtain ⟨σ6, H6, S6, rfl, rfl⟩ := done
      exact gone_ok (unsuiteX S6 ok) hN hi hln fun s7 J7 => ⟨_, _, J7, goes a na⟩
    | brk =>
      obtain ⟨_, _, _, z⟩ := done
      exact z.elim
    | cont =>
      obtain ⟨_, _, _, z⟩ := done
      exact z.elim
    | ret u =>
      obtain ⟨_, _, _, _, _, z⟩ := done
      exact z.elim
  · cases f with
    | next =>
      obtain ⟨σ1, H1, J1, q⟩ := done
      exact wpAny_execs_nil ⟨σ1, H1, Inv.ofTry J1 ok, q⟩
    | brk =>
      obtain ⟨σ1, H1, J1, q⟩ := done
      exact ⟨σ1, H1, Inv.ofTry J1 ok, q⟩
    | cont =>
      obtain ⟨σ1, H1, J1, q⟩ := done
      exact ⟨σ1, H1, Inv.ofTry J1 ok, q⟩
    | ret u =>
      obtain ⟨v1, σ1, H1, J1, r, q⟩ := done
      exact ⟨v1, σ1, H1, Inv.ofTry J1 ok, r, q⟩
end
end Bk

/-! A class of refusals of the program's own. -/
namespace Bk
open PySem PySem.Spec PyProof.Rows L2
structure ExF (K : PySem.W.Frag) (mg : Str → Option Value) (name : Str) (C : Addr) : Prop where
  g : mg name = some (.ref C)
  x : PySem.W.excIn K C [.type "ValueError", .type "Exception", .type "BaseException", .type "object"] "ValueError.__new__" = true
  k : PySem.W.keepIn K (.ref C) = true
  b : PySem.W.subIn K (.ref C) (.type "BaseException") = some true
  t : PySem.W.typeIn K (.ref C) = some (.type "type")
end Bk

namespace Bk
open PySem PySem.Spec PyProof.Rows L2
theorem cpow {i j : Int} (a : 0 ≤ j := by decide) (b : j ≤ 1000000 := by decide) (c : i.natAbs < 2 ^ 64 := by decide) : CPow i j := ⟨a, b, c⟩
theorem wideM : CMulW ((2 : Int) ^ (64 : Int).toNat) ((2 : Int) ^ (63 : Int).toNat) := wide_mul (a := 65) (b := 64) (by decide +kernel) (by decide +kernel) (by decide) (by decide) (by decide)
theorem M0 : (0 : Int) < 2 ^ (64 : Int).toNat * 2 ^ (63 : Int).toNat - 1 := by decide +kernel
local macro_rules | `(tactic| walk_at "g") => `(tactic| (repeat first | refine ⟨_, rfl, ?_⟩ | refine ⟨cpow, ?_⟩ | refine ⟨wideM, ?_⟩ | refine ⟨_, _, rfl, rfl, ?_⟩ | refine ⟨rfl, ?_⟩))
def topS (i : Nat) : Stmt := PySem.Challenge.pw_blockrooms_k34_whole_surfaces_renamed.main.body.getD i (.Pass ⟨0, 0, 0, 0⟩)
section
variable {P : Program} {w : World} {K : PySem.W.Frag} {mg : Str → Option Value} {base : Heap}
/-! ### _law_reel -/
theorem natAbs_M {x : Int} (h0 : 0 ≤ x) (h1 : x < 2 ^ (64 : Int).toNat * 2 ^ (63 : Int).toNat - 1) : x.natAbs < 2 ^ 127 := by
  have e : (2 : Int) ^ (64 : Int).toNat * 2 ^ (63 : Int).toNat - 1 = 170141183460469231731687303715884105727 := by decide +kernel
  have e2 : (2 : Nat) ^ 127 = 170141183460469231731687303715884105728 := by decide +kernel
  rw [e] at h1
  rw [e2]
  omega
def spReel (K : PySem.W.Frag) : Sp := fun vs H Q _ => ∃ (a : Addr) (ns : List Int), vs = [.ref a] ∧ SqL K H a (ns.map V.int) ∧ ns.length ≤ 63 ∧
  ∀ H' R, Same H H' → H R = none → ReelOk R H' → Q (.ref R) H'
/-! ### _law_draw -/
theorem dp_ints {H : Hp} : ∀ ns : List Int, DpAll K H (ns.map V.int) (ns.map PyData.int)
  | [] => .nil
  | n :: ns => .cons (.int n) (dp_ints ns)
theorem ints_lay : ∀ ns : List Int, PyData.canLayAll0 (ns.map PyData.int) = true ∧ PyData.depthAll (ns.map PyData.int) ≤ 1
  | [] => by simp [PyData.canLayAll0, PyData.depthAll]
  | n :: ns => by
    have h := ints_lay ns
    simp only [List.map_cons, PyData.canLayAll0, PyData.depthAll, PyData.canLay0, PyData.depth, Bool.true_and]
    exact ⟨h.1, by omega⟩
theorem ints_shaped (ns : List Int) : SeqAt.shaped (.list (ns.map PyData.int)) = true := by
  have h := ints_lay ns
  have h2 : PyData.depth (.list (ns.map PyData.int)) ≤ 64 := by
    simp only [PyData.depth]
    omega
  show (PyData.canLay0 (.list (ns.map PyData.int)) && decide (PyData.depth (.list (ns.map PyData.int)) ≤ 64)) = true
  rw [Bool.and_eq_true]
  exact ⟨by simp only [PyData.canLay0]; exact h.1, decide_eq_true h2⟩
def spDraw : Sp := fun vs H Q _ => ∃ (R : Addr) (m : Int), vs = [.ref R, .int m] ∧ 0 < m ∧ m ≤ 1000 ∧ ReelOk R H ∧
  ∀ H' r, Keep R H H' → ReelOk R H' → (∀ D, H D ≠ none → Away R D H → Away R D H') → 0 ≤ r → r < m → Q (.int r) H'
end
end Bk

namespace Bk
open PySem PySem.Spec PyProof.Rows L2
local macro_rules | `(tactic| walk_at "g") => `(tactic| (repeat first | refine ⟨_, rfl, ?_⟩ | refine ⟨cpow, ?_⟩ | refine ⟨wideM, ?_⟩ | refine ⟨_, _, rfl, rfl, ?_⟩ | refine ⟨rfl, ?_⟩))
section
variable {P : Program} {w : World} {K : PySem.W.Frag} {mg : Str → Option Value} {base : Heap}
/-! ### _law_turns -/
def TsAt (H : Hp) (p : Addr) (ts : List Trn) : Prop := ∃ rs, H p = some (.lst rs) ∧ Paired (TAt H) rs ts
def spTurns : Sp := fun vs H Q _ => vs = [] ∧ ∀ H' p, Same H H' → H p = none → TsAt H' p allTurns → Q (.ref p) H'
theorem intV_eq (a b : Nat) : eqV (intV a) (intV b) = (a == b) := by
  show ((a : Int) == (b : Int)) = (a == b)
  by_cases h : a = b
  · subst h
    simp
  · rw [beq_eq_false_iff_ne.mpr h]
    exact beq_eq_false_iff_ne.mpr (by omega)
theorem ne_int (a b : Nat) : (!decide ((V.int (a : Int)) = V.int (b : Int))) = !(a == b) := by
  by_cases h : a = b
  · subst h
    simp
  · rw [beq_eq_false_iff_ne.mpr h]
    rw [decide_eq_false (fun z => h (by injection z with z; omega))]
theorem six_sub {a b c : Nat} (h : (c < 4) ∧ a < 4 ∧ b < 4) (hb : (b == a) = false) (hc : (a == c || b == c) = false) : (6 : Int) - a - b - c = ((6 - a - b - c : Nat) : Int) := by
  simp at hb hc
  omega
theorem bs_lt {a b : Nat} (h : b ∈ bsOf a) : b < 4 ∧ (b == a) = false := by
  unfold bsOf at h
  rw [List.mem_filter, List.mem_range] at h
  exact ⟨h.1, by simpa using h.2⟩
theorem turns_few : ∀ a < 4, ∀ j < 5, (turnsTo a ++ ((bsOf a).take j).flatMap (turnsAB a)).length ≤ 24 := by decide +kernel
theorem bs_len (a : Nat) : (bsOf a).length ≤ 4 := by
  have := List.length_filter_le (fun b => !(b == a)) (List.range 4)
  rw [List.length_range] at this
  exact this
end
end Bk

namespace Bk
open PySem PySem.Spec PyProof.Rows L2
local macro_rules | `(tactic| walk_at "g") => `(tactic| (repeat first | refine ⟨_, rfl, ?_⟩ | refine ⟨cpow, ?_⟩ | refine ⟨wideM, ?_⟩ | refine ⟨_, _, rfl, rfl, ?_⟩ | refine ⟨rfl, ?_⟩))
section
variable {P : Program} {w : World} {K : PySem.W.Frag} {mg : Str → Option Value} {base : Heap}
/-! ### _law_back -/
def spBack : Sp := fun vs H Q _ => ∃ v t, vs = [v] ∧ TAt H v t ∧ t ∈ allTurns ∧ ∀ H' p, Same H H' → H p = none → TAt H' (.ref p) (back t) → Q (.ref p) H'
theorem idx_int {t : Trn} {x : Nat} : (t.map fun c : Nat => (c : Int)).idxOf (x : Int) = t.idxOf x := by
  induction t with
  | nil => rfl
  | cons y r ih =>
    rw [List.map_cons, List.idxOf_cons, List.idxOf_cons, ih]
    by_cases h : y = x
    · subst h
      simp
    · rw [beq_eq_false_iff_ne.mpr h, beq_eq_false_iff_ne.mpr (show (y : Int) ≠ x by omega)]
/-! ### _law_set -/
def spSet : Sp := fun vs H Q _ => ∃ (l : Addr) (rs : List V) (s : Spc) (b f n : Nat) (v : V) (t : Trn), vs = [.ref l, intV b, intV f, intV n, v] ∧ SpAt H l rs s ∧ L4 s ∧ TAt H v t ∧ t ∈ allTurns ∧ b < s.length ∧ f < 4 ∧ n < s.length ∧ s.length ≤ 1000 ∧
  ∀ H', KeepB rs H H' → SpAt H' l rs (joinJ s b f n t) → Q .non H'
theorem plen' {α β : Type} {F : α → β → Prop} {xs : List α} {ys : List β} (h : Paired F xs ys) {i : Nat} (hi : i < ys.length) : ∃ x y, xs[i]? = some x ∧ ys[i]? = some y ∧ F x y := by
  obtain ⟨x, h1, h2⟩ := pget h (List.getElem?_eq_getElem hi)
  exact ⟨x, _, h1, List.getElem?_eq_getElem hi, h2⟩
theorem pset {α β : Type} {F : α → β → Prop} {a : α} {b : β} (r : F a b) : ∀ {xs : List α} {ys : List β} (i : Nat), Paired F xs ys → Paired F (xs.set i a) (ys.set i b)
  | _, _, _, .nil => .nil
  | _, _, 0, .cons _ t => .cons r t
  | _, _, i + 1, .cons q t => .cons q (pset r i t)
/-- a store into one block: the others stand -/
theorem SpAt.set {H : Hp} {l : Addr} {rs : List V} {s : Spc} (h : SpAt H l rs s) {b f : Nat} {p : Addr} {vs : List V} {v : V} {j : Jn} (hb : rs[b]? = some (.ref p)) (hp : H p = some (.lst vs)) (hj : JAt H v j) :
    SpAt (upd H p (.lst (vs.set f v))) l rs (setJ s b f j) ∧ KeepB rs H (upd H p (.lst (vs.set f v))) := by
  have hm := List.mem_of_getElem? hb
  have hpl : l ≠ p := fun z => h.out (by rw [z]; exact hm)
  have tp := tups_set (o := .lst (vs.set f v)) hp
  refine ⟨⟨by rw [upd_ne hpl]; exact h.l, ?_, h.nd⟩, fun c o e n => ?_⟩
  · have hB := h.b
    have hN := h.nd
    have key : ∀ (xs : List V) (ys : Spc) (i : Nat), Paired (BAt H) xs ys → xs.Nodup → (xs[i]? = some (.ref p)) → Paired (BAt (upd H p (.lst (vs.set f v)))) xs (ys.modify i fun l => l.set f j) := by
      intro xs ys i hP
      induction hP generalizing i with
      | nil => intro _ hi; simp at hi
      | @cons a y xs ys r t ih =>
        intro nd hi
        rw [List.nodup_cons] at nd
        cases i with
        | zero =>
          have ea : a = .ref p := by simpa using hi
          subst ea
          rw [List.modify_zero_cons]
          refine .cons ?_ ?_
          · obtain ⟨p', vs', e1, e2, e3⟩ := r
            injection e1 with e1
            subst e1
            have := lst_inj hp e2
            subst this
            exact ⟨p, _, rfl, upd_same, pset (hj.mono tp) f (pmono e3 fun _ _ z => z.mono tp)⟩
          · clear ih
            have nm := nd.1
            have go : ∀ (xs : List V) (ys : Spc), Paired (BAt H) xs ys → V.ref p ∉ xs → Paired (BAt (upd H p (.lst (vs.set f v)))) xs ys := by
              intro xs ys hQ
              induction hQ with
              | nil => intro _; exact .nil
              | cons r t ih =>
                intro hn
                refine .cons (r.mono tp fun q xs e1 e2 => ?_) (ih fun z => hn (List.mem_cons_of_mem _ z))
                rw [upd_ne (fun z => hn (by rw [e1, z]; exact List.mem_cons_self))]
                exact e2
            exact go _ _ t nm
        | succ i =>
          rw [List.modify_succ_cons]
          refine .cons (r.mono tp fun q xs e1 e2 => ?_) (ih i nd.2 (by simpa using hi))
          rw [upd_ne (fun z => nd.1 (by rw [e1, z]; exact List.mem_of_getElem? (show _ = some (V.ref p) by simpa using hi)))]
          exact e2
    exact key rs s b hB hN hb
  · rw [upd_ne (fun z => n (by rw [z]; exact hm))]
    exact e
theorem SpAt.same {H H' : Hp} {l : Addr} {rs : List V} {s : Spc} (h : SpAt H l rs s) (m : Same H H') : SpAt H' l rs s :=
  ⟨m _ _ h.l, pmono h.b fun _ _ z => z.mono m.tups fun _ _ _ e => m _ _ e, h.nd⟩
theorem SpAt.keep {R : Addr} {H H' : Hp} {l : Addr} {rs : List V} {s : Spc} (h : SpAt H l rs s) (m : Keep R H H') (r : ReelOk R H) (h4 : L4 s) (hl : l ≠ R) : SpAt H' l rs s := by
  have nR := (r.keepB (KeepB.of (Same.refl H)) h.b h4).2
  have tp := m.tups r
  refine ⟨m _ _ h.l hl, ?_, h.nd⟩
  have hb := h.b
  have go : ∀ (xs : List V) (ys : Spc), Paired (BAt H) xs ys → V.ref R ∉ xs → Paired (BAt H') xs ys := by
    intro xs ys hQ
    induction hQ with
    | nil => intro _; exact .nil
    | cons r t ih =>
      intro hn
      refine .cons (r.mono tp fun q xs e1 e2 => m _ _ e2 fun z => hn (by rw [e1, z]; exact List.mem_cons_self)) (ih fun z => hn (List.mem_cons_of_mem _ z))
  exact go _ _ hb nR
theorem SpAt.at {H : Hp} {l : Addr} {rs : List V} {s : Spc} (h : SpAt H l rs s) {b : Nat} (hb : b < s.length) : ∃ p vs, rs[b]? = some (.ref p) ∧ H p = some (.lst vs) ∧ Paired (JAt H) vs (s[b]?.getD []) := by
  obtain ⟨x, y, h1, h2, p, vs, rfl, h3, h4⟩ := plen' h.b hb
  exact ⟨p, vs, h1, h3, by rw [h2]; exact h4⟩
theorem blk_len {s : Spc} (h : L4 s) {b : Nat} (hb : b < s.length) : (s[b]?.getD []).length = 4 := by
  rw [List.getElem?_eq_getElem hb]
  exact h _ (List.getElem_mem hb)
theorem ixN_lt {n k : Nat} (h : k < n) : ixN n (k : Int) = some k := by
  unfold ixN
  rw [if_pos (by omega), if_pos (by omega)]
  rfl
end
end Bk

namespace Bk
open PySem PySem.Spec PyProof.Rows L2
local macro_rules | `(tactic| walk_at "g") => `(tactic| (repeat first | refine ⟨_, rfl, ?_⟩ | refine ⟨cpow, ?_⟩ | refine ⟨wideM, ?_⟩ | refine ⟨_, _, rfl, rfl, ?_⟩ | refine ⟨rfl, ?_⟩))
section
variable {P : Program} {w : World} {K : PySem.W.Frag} {mg : Str → Option Value} {base : Heap}
/-! ### _law_any -/
/-- what a maker of spaces tells: a new one -/
def MadeS (R : Addr) (H : Hp) (many : Nat) (Q : VK) : Prop := ∀ H' l rs S, Keep R H H' → ReelOk R H' → Aw R H H' → H l = none → SpAt H' l rs S → Fresh H rs → Good S → S.length = many → Q (.ref l) H'
def spAny : Sp := fun vs H Q _ => ∃ (R : Addr) (many : Nat), vs = [.ref R, intV many] ∧ 1 ≤ many ∧ many ≤ 20 ∧ ReelOk R H ∧ MadeS R H many Q
theorem flat4 : (List.replicate (4 : Int).toNat [V.non]).flatten = [V.non, .non, .non, .non] := rfl
end
end Bk

namespace Bk
open PySem PySem.Spec PyProof.Rows L2
local macro_rules | `(tactic| walk_at "g") => `(tactic| (repeat first | refine ⟨_, rfl, ?_⟩ | refine ⟨cpow, ?_⟩ | refine ⟨wideM, ?_⟩ | refine ⟨_, _, rfl, rfl, ?_⟩ | refine ⟨rfl, ?_⟩))
section
variable {P : Program} {w : World} {K : PySem.W.Frag} {mg : Str → Option Value} {base : Heap}
/-! ### _law_ball -/
theorem JAt.isN {H : Hp} {v : V} {j : Jn} (h : JAt H v j) : decide (v = .non) = j.isNone := by
  cases j with
  | none =>
    rw [show v = .non from h]
    rfl
  | some k =>
    obtain ⟨p, q, e, _⟩ := h
    rw [e]
    exact decide_eq_false (fun z => by cases z)
/-- what stands at a face, as it stands -/
theorem SpAt.face {H : Hp} {l : Addr} {rs : List V} {s : Spc} (h : SpAt H l rs s) {b f : Nat} {j : Jn} (e : getJ s b f = some j) : ∃ p vs v, rs[b]? = some (.ref p) ∧ H p = some (.lst vs) ∧ vs[f]? = some v ∧ JAt H v j := by
  unfold getJ at e
  cases hs : s[b]? with
  | none =>
    rw [hs] at e
    cases e
  | some y =>
    rw [hs] at e
    obtain ⟨x, h1, p, vs, rfl, h3, h4⟩ := pget h.b hs
    obtain ⟨v, h5, h6⟩ := pget h4 (show y[f]? = some j from e)
    exact ⟨p, vs, v, h1, h3, h5, h6⟩
def isFr (s : Spc) (k : Nat) : Bool := (getJ s (k / 4) (k % 4)) == some none
theorem getJ_push {s : Spc} {b : Blk} {x f : Nat} (h : x < s.length) : getJ (s ++ [b]) x f = getJ s x f := by
  unfold getJ
  rw [List.getElem?_append_left h]
theorem getJ_last {s : Spc} {b : Blk} {f : Nat} : getJ (s ++ [b]) s.length f = b[f]? := by
  unfold getJ
  rw [List.getElem?_append_right (Nat.le_refl _), Nat.sub_self]
  rfl
theorem Good.push {s : Spc} (h : Good s) : Good (s ++ [free4]) := by
  have l4 : L4 (s ++ [free4]) := fun b hb => by
    rcases List.mem_append.mp hb with z | z
    · exact h.l4 b z
    · rw [List.mem_singleton.mp z]
      rfl
  refine ⟨l4, fun b f n t e => ?_⟩
  by_cases hb : b < s.length
  · rw [getJ_push hb] at e
    obtain ⟨q1, q2, q3⟩ := h.both b f n t e
    exact ⟨q1, q2, by rw [getJ_push (h.lt e)]; exact q3⟩
  · have hl := (l4.of e).1
    rw [List.length_append] at hl
    have eb : b = s.length := by
      have : b < s.length + 1 := hl
      omega
    rw [eb, getJ_last] at e
    have hm := List.mem_of_getElem? e
    simp [free4] at hm
theorem free4_get {f : Nat} (h : f < 4) : free4[f]? = some none := by
  match f, h with
  | 0, _ => rfl
  | 1, _ => rfl
  | 2, _ => rfl
  | 3, _ => rfl
end
end Bk

namespace Bk
open PySem PySem.Spec PyProof.Rows L2
local macro_rules | `(tactic| walk_at "g") => `(tactic| (repeat first | refine ⟨_, rfl, ?_⟩ | refine ⟨cpow, ?_⟩ | refine ⟨wideM, ?_⟩ | refine ⟨_, _, rfl, rfl, ?_⟩ | refine ⟨rfl, ?_⟩))
section
variable {P : Program} {w : World} {K : PySem.W.Frag} {mg : Str → Option Value} {base : Heap}
/-! ### _law_doubled -/
def shJ (m : Nat) : Jn → Jn
  | none => none
  | some (n, t) => some (n + m, t)
def shB (m : Nat) (b : Blk) : Blk := b.map (shJ m)
def shS (m : Nat) (s : Spc) : Spc := s.map (shB m)
theorem getJ_sh {m : Nat} {s : Spc} {b f : Nat} : getJ (shS m s) b f = (getJ s b f).map (shJ m) := by
  unfold getJ shS
  rw [List.getElem?_map]
  cases s[b]? with
  | none => rfl
  | some l =>
    show (shB m l)[f]? = (l[f]?).map (shJ m)
    exact List.getElem?_map
theorem getJ_left {s u : Spc} {b f : Nat} (h : b < s.length) : getJ (s ++ u) b f = getJ s b f := by
  unfold getJ
  rw [List.getElem?_append_left h]
theorem getJ_right {s u : Spc} {b f : Nat} : getJ (s ++ u) (s.length + b) f = getJ u b f := by
  unfold getJ
  rw [List.getElem?_append_right (Nat.le_add_right _ _), Nat.add_sub_cancel_left]
theorem Good.twice {s : Spc} (h : Good s) {u : Spc} (hu : Good u) : Good (s ++ shS s.length u) := by
  have l4 : L4 (s ++ shS s.length u) := fun b hb => by
    rcases List.mem_append.mp hb with z | z
    · exact h.l4 b z
    · obtain ⟨c, hc, rfl⟩ := List.mem_map.mp z
      unfold shB
      rw [List.length_map]
      exact hu.l4 c hc
  refine ⟨l4, fun b f n t e => ?_⟩
  by_cases hb : b < s.length
  · rw [getJ_left hb] at e
    obtain ⟨q1, q2, q3⟩ := h.both b f n t e
    exact ⟨q1, q2, by rw [getJ_left (h.lt e)]; exact q3⟩
  · obtain ⟨c, rfl⟩ : ∃ c, b = s.length + c := ⟨b - s.length, by omega⟩
    rw [getJ_right, getJ_sh] at e
    cases hj : getJ u c f with
    | none =>
      rw [hj] at e
      cases e
    | some j =>
      rw [hj] at e
      cases j with
      | none => cases e
      | some k =>
        obtain ⟨n', t'⟩ := k
        have e1 : (n' + s.length, t') = (n, t) := Option.some.inj (Option.some.inj e)
        injection e1 with e1 e2
        subst e2
        obtain ⟨q1, q2, q3⟩ := hu.both c f n' t' hj
        refine ⟨q1, fun z => ?_, ?_⟩
        · injection z with z1 z2
          exact q2 (Prod.ext (by show n' = c; omega) z2)
        · rw [← e1, Nat.add_comm n', getJ_right, getJ_sh, q3]
          show some (some (c + s.length, back t')) = _
          rw [Nat.add_comm c]
theorem JAt.sh {H : Hp} {m : Nat} {n : Nat} {t : Trn} {p q : Addr} (h1 : FT H p [intV (n + m), .ref q]) (h2 : FT H q (trnV t)) : JAt H (.ref p) (shJ m (some (n, t))) := ⟨p, q, rfl, h1, h2⟩
abbrev id4 : Trn := [0, 1, 2, 3]
theorem id4_mem : id4 ∈ allTurns := by decide +kernel
theorem tf_id4 {f : Nat} (h : f < 4) : tf id4 f = f := by
  match f, h with
  | 0, _ => rfl
  | 1, _ => rfl
  | 2, _ => rfl
  | 3, _ => rfl
def spDoubled : Sp := fun vs H Q _ => ∃ (l : Addr) (rs : List V) (S : Spc), vs = [.ref l] ∧ SpAt H l rs S ∧ Good S ∧ S.length ≤ 20 ∧
  ∀ H' l' rs' S', Same H H' → H l' = none → SpAt H' l' rs' S' → Fresh H rs' → Good S' → S'.length = 2 * S.length → Q (.ref l') H'
end
end Bk

namespace Bk
open PySem PySem.Spec PyProof.Rows L2
/-! ### data: lists and tuples as they stand, apart from the reel -/
mutual
inductive Dq (N : Addr → Prop) (H : Hp) : V → PyData → Prop
  | non : Dq N H .non .none
  | bl (b : Bool) : Dq N H (.bl b) (.bool b)
  | int (i : Int) : Dq N H (.int i) (.int i)
  | str (x : Str) : Dq N H (.str x) (.str x)
  | lst {a : Addr} {xs : List V} {ds : List PyData} : H a = some (.lst xs) → ¬ N a → Dqs N H xs ds → Dq N H (.ref a) (.list ds)
  | tup {a : Addr} {xs : List V} {ds : List PyData} : FT H a xs → Dqs N H xs ds → Dq N H (.ref a) (.tuple ds)
inductive Dqs (N : Addr → Prop) (H : Hp) : List V → List PyData → Prop
  | nil : Dqs N H [] []
  | cons {v : V} {vs : List V} {d : PyData} {ds : List PyData} : Dq N H v d → Dqs N H vs ds → Dqs N H (v :: vs) (d :: ds)
end
mutual
theorem Dq.mono {N N' : Addr → Prop} {H H' : Hp} (m : Tups H H') (n : ∀ a, N' a → N a) (k : ∀ a xs, H a = some (.lst xs) → ¬ N a → H' a = some (.lst xs)) : ∀ {d : PyData} {v : V}, Dq N H v d → Dq N' H' v d
  | .none, _, h => by
    cases h
    exact .non
  | .bool b, _, h => by
    cases h
    exact .bl b
  | .int i, _, h => by
    cases h
    exact .int i
  | .str x, _, h => by
    cases h
    exact .str x
  | .list ds, _, h => by
    cases h with
    | lst h1 h2 h3 => exact .lst (k _ _ h1 h2) (fun z => h2 (n _ z)) (Dqs.mono m n k h3)
  | .tuple ds, _, h => by
    cases h with
    | tup h1 h2 => exact .tup (h1.mono m) (Dqs.mono m n k h2)
  | .dict _, _, h => by cases h
theorem Dqs.mono {N N' : Addr → Prop} {H H' : Hp} (m : Tups H H') (n : ∀ a, N' a → N a) (k : ∀ a xs, H a = some (.lst xs) → ¬ N a → H' a = some (.lst xs)) : ∀ {ds : List PyData} {vs : List V}, Dqs N H vs ds → Dqs N' H' vs ds
  | [], _, h => by
    cases h
    exact .nil
  | d :: ds, _, h => by
    cases h with
    | cons h1 h2 => exact .cons (Dq.mono m n k h1) (Dqs.mono m n k h2)
end
theorem Dq.weak {N N' : Addr → Prop} {H : Hp} {v : V} {d : PyData} (h : Dq N H v d) (n : ∀ a, N' a → N a) : Dq N' H v d := h.mono (Tups.refl _) n fun _ _ e _ => e
theorem Dqs.weak {N N' : Addr → Prop} {H : Hp} {v : List V} {d : List PyData} (h : Dqs N H v d) (n : ∀ a, N' a → N a) : Dqs N' H v d := h.mono (Tups.refl _) n fun _ _ e _ => e
theorem Dq.same {N : Addr → Prop} {H H' : Hp} {v : V} {d : PyData} (h : Dq N H v d) (s : Same H H') : Dq N H' v d := h.mono s.tups (fun _ z => z) fun a xs e _ => s a _ e
theorem Dqs.same {N : Addr → Prop} {H H' : Hp} {v : List V} {d : List PyData} (h : Dqs N H v d) (s : Same H H') : Dqs N H' v d := h.mono s.tups (fun _ z => z) fun a xs e _ => s a _ e
theorem Dq.keep {N : Addr → Prop} {R : Addr} {H H' : Hp} {v : V} {d : PyData} (h : Dq N H v d) (k : Keep R H H') (r : ReelOk R H) (n : N R) : Dq N H' v d := h.mono (k.tups r) (fun _ z => z) fun a xs e m => k a _ e fun z => m (by rw [z]; exact n)
theorem Dqs.keep {N : Addr → Prop} {R : Addr} {H H' : Hp} {v : List V} {d : List PyData} (h : Dqs N H v d) (k : Keep R H H') (r : ReelOk R H) (n : N R) : Dqs N H' v d := h.mono (k.tups r) (fun _ z => z) fun a xs e m => k a _ e fun z => m (by rw [z]; exact n)
/-- a list that they avoid is filled -/
theorem Dqs.fill {N : Addr → Prop} {H : Hp} {D : Addr} {xs : List V} {o : HO} {v : List V} {d : List PyData} (h : Dqs N H v d) (hD : H D = some (.lst xs)) (n : N D) : Dqs N (upd H D o) v d := h.mono (tups_set hD) (fun _ z => z) fun a ys e m => by
  rw [upd_ne (show a ≠ D from fun z => m (by rw [z]; exact n))]
  exact e
theorem Dq.fill {N : Addr → Prop} {H : Hp} {D : Addr} {xs : List V} {o : HO} {v : V} {d : PyData} (h : Dq N H v d) (hD : H D = some (.lst xs)) (n : N D) : Dq N (upd H D o) v d := h.mono (tups_set hD) (fun _ z => z) fun a ys e m => by
  rw [upd_ne (show a ≠ D from fun z => m (by rw [z]; exact n))]
  exact e
mutual
theorem Dq.dp {K : PySem.W.Frag} {N : Addr → Prop} {H : Hp} : ∀ {d : PyData} {v : V}, Dq N H v d → Dp K H v d
  | .none, _, h => by
    cases h
    exact .non
  | .bool b, _, h => by
    cases h
    exact .bl b
  | .int i, _, h => by
    cases h
    exact .int i
  | .str x, _, h => by
    cases h
    exact .str x
  | .list ds, _, h => by
    cases h with
    | lst h1 h2 h3 => exact .lst (.inl (.inl h1)) (Dqs.dp h3)
  | .tuple ds, _, h => by
    cases h with
    | tup h1 h2 => exact .tup h1.sqt (Dqs.dp h2)
  | .dict _, _, h => by cases h
theorem Dqs.dp {K : PySem.W.Frag} {N : Addr → Prop} {H : Hp} : ∀ {ds : List PyData} {vs : List V}, Dqs N H vs ds → DpAll K H vs ds
  | [], _, h => by
    cases h
    exact .nil
  | d :: ds, _, h => by
    cases h with
    | cons h1 h2 => exact .cons (Dq.dp h1) (Dqs.dp h2)
end
theorem Dqs.len {N : Addr → Prop} {H : Hp} : ∀ {ds : List PyData} {vs : List V}, Dqs N H vs ds → vs.length = ds.length
  | [], _, h => by
    cases h
    rfl
  | d :: ds, _, h => by
    cases h with
    | cons h1 h2 =>
      rw [List.length_cons, List.length_cons, h2.len]
theorem Dqs.get {N : Addr → Prop} {H : Hp} : ∀ {ds : List PyData} {vs : List V} {i : Nat} {v : V}, Dqs N H vs ds → vs[i]? = some v → ∃ d, ds[i]? = some d ∧ Dq N H v d
  | [], _, i, v, h, e => by
    cases h
    simp at e
  | d :: ds, _, i, v, h, e => by
    cases h with
    | cons h1 h2 =>
      cases i with
      | zero =>
        have e' := Option.some.inj (show some _ = some v from e)
        subst e'
        exact ⟨d, rfl, h1⟩
      | succ i =>
        have q := Dqs.get (i := i) h2 (show _ = some v from e)
        exact q
theorem Dqs.get' {N : Addr → Prop} {H : Hp} : ∀ {ds : List PyData} {vs : List V} {i : Nat} {d : PyData}, Dqs N H vs ds → ds[i]? = some d → ∃ v, vs[i]? = some v ∧ Dq N H v d
  | [], _, i, v, h, e => by simp at e
  | d :: ds, _, i, v, h, e => by
    cases h with
    | cons h1 h2 =>
      cases i with
      | zero =>
        have e' := Option.some.inj (show some d = some v from e)
        subst e'
        exact ⟨_, rfl, h1⟩
      | succ i =>
        have q := Dqs.get' (i := i) h2 (show _ = some v from e)
        exact q
theorem Dqs.snoc {N : Addr → Prop} {H : Hp} {v : V} {d : PyData} (h : Dq N H v d) : ∀ {ds : List PyData} {vs : List V}, Dqs N H vs ds → Dqs N H (vs ++ [v]) (ds ++ [d])
  | [], _, k => by
    cases k
    exact .cons h .nil
  | d :: ds, _, k => by
    cases k with
    | cons h1 h2 => exact .cons h1 (h2.snoc h)

/-! ### lists for tuples: what a mixture keeps -/
mutual
def norm : PyData → PyData
  | .list ds => .list (norms ds)
  | .tuple ds => .list (norms ds)
  | .none => .none
  | .bool b => .bool b
  | .int i => .int i
  | .str x => .str x
  | .dict k => .dict k
def norms : List PyData → List PyData
  | [] => []
  | d :: ds => norm d :: norms ds
end
theorem norms_map : ∀ ds : List PyData, norms ds = ds.map norm
  | [] => by simp only [norms, List.map_nil]
  | d :: ds => by simp only [norms, List.map_cons, norms_map ds]
mutual
theorem norm_same (B : Nat) : ∀ d : PyData, (norm d).bulk = d.bulk ∧ (norm d).depth = d.depth ∧ (norm d).leavesShort B = d.leavesShort B ∧ (norm d).showable = d.showable ∧ (norm d).hasDict = d.hasDict
  | .list ds => by
    have h := norms_same B ds
    simp only [norm, PyData.bulk, PyData.depth, PyData.leavesShort, PyData.showable, PyData.hasDict]
    exact ⟨h.1, by rw [h.2.1], h.2.2.1, h.2.2.2.1, h.2.2.2.2⟩
  | .tuple ds => by
    have h := norms_same B ds
    simp only [norm, PyData.bulk, PyData.depth, PyData.leavesShort, PyData.showable, PyData.hasDict]
    exact ⟨h.1, by rw [h.2.1], h.2.2.1, h.2.2.2.1, h.2.2.2.2⟩
  | .none => by simp only [norm, and_self]
  | .bool b => by simp only [norm, and_self]
  | .int i => by simp only [norm, and_self]
  | .str x => by simp only [norm, and_self]
  | .dict k => by simp only [norm, and_self]
theorem norms_same (B : Nat) : ∀ ds : List PyData, PyData.bulkAll (norms ds) = PyData.bulkAll ds ∧ PyData.depthAll (norms ds) = PyData.depthAll ds ∧ PyData.leavesShortAll B (norms ds) = PyData.leavesShortAll B ds ∧ PyData.showableAll (norms ds) = PyData.showableAll ds ∧ PyData.hasDictAll (norms ds) = PyData.hasDictAll ds
  | [] => by simp only [norms, and_self]
  | d :: ds => by
    have h1 := norm_same B d
    have h2 := norms_same B ds
    simp only [norms, PyData.bulkAll, PyData.depthAll, PyData.leavesShortAll, PyData.showableAll, PyData.hasDictAll]
    exact ⟨by rw [h1.1, h2.1], by rw [h1.2.1, h2.2.1], by rw [h1.2.2.1, h2.2.2.1], by rw [h1.2.2.2.1, h2.2.2.2.1], by rw [h1.2.2.2.2, h2.2.2.2.2]⟩
end
def isSeqD : PyData → Bool
  | .list _ => true
  | .tuple _ => true
  | _ => false
def tyD : PyData → String
  | .list _ => "list"
  | .tuple _ => "tuple"
  | .none => "NoneType"
  | .bool _ => "bool"
  | .int _ => "int"
  | .str _ => "str"
  | .dict _ => "dict"
theorem Dq.ty {K : PySem.W.Frag} {N : Addr → Prop} {H : Hp} {v : V} {d : PyData} (h : Dq N H v d) : TyX K H v (.type (tyD d)) := by
  cases d with
  | none =>
    cases h
    exact .base .non
  | bool b =>
    cases h
    exact .base (.bl b)
  | int i =>
    cases h
    exact .base (.int i)
  | str x =>
    cases h
    exact .base (.str x)
  | list ds =>
    cases h with
    | lst h1 _ _ => exact .base (.lst h1)
  | tuple ds =>
    cases h with
    | tup h1 _ =>
      obtain ⟨o, _, h1⟩ := h1
      exact .fTuple h1
  | dict k => cases h
/-! data of tuples alone leans on tuples alone -/
mutual
def tupled : PyData → Bool
  | .list _ => false
  | .tuple ds => tupleds ds
  | .dict _ => false
  | .none => true
  | .bool _ => true
  | .int _ => true
  | .str _ => true
def tupleds : List PyData → Bool
  | [] => true
  | d :: ds => tupled d && tupleds ds
end
mutual
theorem Dq.monoT {N N' : Addr → Prop} {H H' : Hp} (m : Tups H H') : ∀ {d : PyData} {v : V}, tupled d = true → Dq N H v d → Dq N' H' v d
  | .none, _, _, h => by
    cases h
    exact .non
  | .bool b, _, _, h => by
    cases h
    exact .bl b
  | .int i, _, _, h => by
    cases h
    exact .int i
  | .str x, _, _, h => by
    cases h
    exact .str x
  | .list ds, _, e, _ => by simp only [tupled] at e; cases e
  | .tuple ds, _, e, h => by
    cases h with
    | tup h1 h2 => exact .tup (h1.mono m) (Dqs.monoT m (by simpa only [tupled] using e) h2)
  | .dict _, _, _, h => by cases h
theorem Dqs.monoT {N N' : Addr → Prop} {H H' : Hp} (m : Tups H H') : ∀ {ds : List PyData} {vs : List V}, tupleds ds = true → Dqs N H vs ds → Dqs N' H' vs ds
  | [], _, _, h => by
    cases h
    exact .nil
  | d :: ds, _, e, h => by
    simp only [tupleds, Bool.and_eq_true] at e
    cases h with
    | cons h1 h2 => exact .cons (Dq.monoT m e.1 h1) (Dqs.monoT m e.2 h2)
end
end Bk

namespace Bk
open PySem PySem.Spec PyProof.Rows L2
local macro_rules | `(tactic| walk_at "g") => `(tactic| (repeat first | refine ⟨_, rfl, ?_⟩ | refine ⟨cpow, ?_⟩ | refine ⟨wideM, ?_⟩ | refine ⟨_, _, rfl, rfl, ?_⟩ | refine ⟨rfl, ?_⟩))
section
variable {P : Program} {w : World} {K : PySem.W.Frag} {mg : Str → Option Value} {base : Heap}
/-! ### _law_blocks -/
theorem Fresh.keep {R : Addr} {H H1 : Hp} {rs : List V} (f : Fresh H1 rs) (k : Keep R H H1) (r : ReelOk R H1) : Fresh H rs := fun p z => by
  have n := f p z
  exact k.free n (fun e => by
    obtain ⟨g, c, gs, cs, m, st, q⟩ := r
    rw [e, q.r] at n
    cases n)
theorem Keep.free' {R : Addr} {H H1 : Hp} (k : Keep R H H1) (r : ReelOk R H1) {p : Addr} (n : H1 p = none) : H p = none := k.free n (fun e => by
  obtain ⟨g, c, gs, cs, m, st, q⟩ := r
  rw [e, q.r] at n
  cases n)
theorem and_way {c d : Bool} {A B X : Prop} (hx : (if d = true then A else B) → X) (h1 : c = true → d = true → A) (h2 : ¬ (c = true ∧ d = true) → B) : if c = true then X else B := by
  by_cases hc : c = true
  · rw [if_pos hc]
    refine hx ?_
    by_cases hd : d = true
    · rw [if_pos hd]
      exact h1 hc hd
    · rw [if_neg hd]
      exact h2 fun z => hd z.2
  · rw [if_neg hc]
    exact h2 fun z => hc z.1
def spBlocks : Sp := fun vs H Q _ => ∃ (R : Addr) (most : Nat), vs = [.ref R, intV most] ∧ 1 ≤ most ∧ most ≤ 20 ∧ ReelOk R H ∧
  ∀ H' l rs S, Keep R H H' → ReelOk R H' → Aw R H H' → H l = none → SpAt H' l rs S → Fresh H rs → Good S → 1 ≤ S.length → S.length ≤ most → Q (.ref l) H'
end
end Bk

namespace Bk
open PySem PySem.Spec PyProof.Rows L2
local macro_rules | `(tactic| walk_at "g") => `(tactic| (repeat first | refine ⟨_, rfl, ?_⟩ | refine ⟨cpow, ?_⟩ | refine ⟨wideM, ?_⟩ | refine ⟨_, _, rfl, rfl, ?_⟩ | refine ⟨rfl, ?_⟩))
section
variable {P : Program} {w : World} {K : PySem.W.Frag} {mg : Str → Option Value} {base : Heap}
/-! ### _law_shut -/
def intD (n : Nat) : PyData := .int (n : Int)
def jD : Jn → PyData
  | none => .none
  | some (n, t) => .tuple [intD n, .tuple (t.map intD)]
def shutD (S : Spc) : PyData := .tuple (S.map fun b => .tuple (b.map jD))
theorem dqs_ints {N : Addr → Prop} {H : Hp} : ∀ t : Trn, Dqs N H (trnV t) (t.map intD)
  | [] => .nil
  | n :: t => .cons (.int (n : Int)) (dqs_ints t)
theorem JAt.dq {N : Addr → Prop} {H : Hp} {v : V} {j : Jn} (h : JAt H v j) : Dq N H v (jD j) := by
  cases j with
  | none =>
    rw [show v = .non from h]
    exact .non
  | some k =>
    obtain ⟨n, t⟩ := k
    obtain ⟨p, q, rfl, h1, h2⟩ := h
    exact .tup h1 (.cons (.int (n : Int)) (.cons (.tup h2 (dqs_ints t)) .nil))
theorem jats_dqs {N : Addr → Prop} {H : Hp} : ∀ {vs : List V} {b : Blk}, Paired (JAt H) vs b → Dqs N H vs (b.map jD)
  | _, _, .nil => .nil
  | _, _, .cons r t => .cons r.dq (jats_dqs t)
theorem j_tupled (j : Jn) : tupled (jD j) = true := by
  cases j with
  | none => simp only [jD, tupled]
  | some k =>
    obtain ⟨n, t⟩ := k
    have h : tupleds (t.map intD) = true := by
      induction t with
      | nil => simp only [List.map_nil, tupleds]
      | cons x r ih => simp only [List.map_cons, tupleds, intD, tupled, Bool.true_and, ih]
    simp only [jD, tupled, tupleds, intD, h, Bool.and_self]
theorem js_tupled : ∀ b : Blk, tupleds (b.map jD) = true
  | [] => by simp only [List.map_nil, tupleds]
  | j :: b => by simp only [List.map_cons, tupleds, j_tupled j, js_tupled b, Bool.and_self]
theorem blks_tupled : ∀ S : Spc, tupleds (S.map fun b => .tuple (b.map jD)) = true
  | [] => by simp only [List.map_nil, tupleds]
  | b :: S => by simp only [List.map_cons, tupleds, tupled, js_tupled b, blks_tupled S, Bool.and_self]
def spShut : Sp := fun vs H Q _ => ∃ (l : Addr) (rs : List V) (S : Spc), vs = [.ref l] ∧ SpAt H l rs S ∧ S.length ≤ 40 ∧ ∀ H' v, Same H H' → (∀ N, Dq N H' v (shutD S)) → Q v H'
theorem item_le : ∀ {ds : List PyData} {i : Nat} {d : PyData}, ds[i]? = some d → d.bulk ≤ PyData.bulkAll ds ∧ d.depth ≤ PyData.depthAll ds ∧ i < PyData.bulkAll ds
  | [], i, d, e => by simp at e
  | x :: xs, 0, d, e => by
    have e' := Option.some.inj (show some x = some d from e)
    subst e'
    simp only [PyData.bulkAll, PyData.depthAll]
    omega
  | x :: xs, i + 1, d, e => by
    have h := item_le (ds := xs) (i := i) (d := d) e
    simp only [PyData.bulkAll, PyData.depthAll]
    omega
theorem kit_seq {K : PySem.W.Frag} (d : PyData) : PySem.W.kitAny K (.type (tyD d)) [.type "list", .type "tuple"] = some (isSeqD d) := by
  have go : ∀ (a : String) (b1 b2 r : Bool), kitB a "list" = some b1 → kitB a "tuple" = some b2 → (b1 = false → b2 = r) → (b1 = true → r = true) → PySem.W.kitAny K (.type a) [.type "list", .type "tuple"] = some r := fun a b1 b2 r h1 h2 h3 h4 =>
    kitAny_cons (kit_ty h1) (fun e => by
      have e2 := h3 e
      subst e2
      exact kitAny_cons (kit_ty h2) (fun z => by rw [z]; rfl) fun z => z) h4
  cases d with
  | none => exact go "NoneType" false false _ (by decide +kernel) (by decide +kernel) (fun _ => rfl) (fun z => by cases z)
  | bool b => exact go "bool" false false _ (by decide +kernel) (by decide +kernel) (fun _ => rfl) (fun z => by cases z)
  | int i => exact go "int" false false _ (by decide +kernel) (by decide +kernel) (fun _ => rfl) (fun z => by cases z)
  | str x => exact go "str" false false _ (by decide +kernel) (by decide +kernel) (fun _ => rfl) (fun z => by cases z)
  | list ds => exact go "list" true false _ (by decide +kernel) (by decide +kernel) (fun z => by cases z) (fun _ => rfl)
  | tuple ds => exact go "tuple" false true _ (by decide +kernel) (by decide +kernel) (fun _ => rfl) (fun z => by cases z)
  | dict k => exact go "dict" false false _ (by decide +kernel) (by decide +kernel) (fun _ => rfl) (fun z => by cases z)
theorem norms_len : ∀ ds : List PyData, (norms ds).length = ds.length := fun ds => by rw [norms_map, List.length_map]
end
end Bk

namespace Bk
open PySem PySem.Spec PyProof.Rows L2
/-! ### places in a text -/
def stAt (l : List Stmt) (i : Nat) : Stmt := l.getD i (.Pass ⟨0, 0, 0, 0⟩)
def forBody (s : Stmt) : List Stmt := match s with
  | .For _ _ b _ _ => b
  | _ => []
def lcScope (s : Stmt) : Scope := match s with
  | .Assign _ (.ListComp _ _ sc _) _ => sc
  | _ => { kind := .function, names := [], isGenerator := false, isCoroutine := false }
def numT (n : Nat) : Str := Str.ofString (toString (n : Int))
def Jb (j : Jn) : Prop := ∀ n t, j = some (n, t) → n < 64 ∧ t.length = 4 ∧ ∀ x ∈ t, x < 4
theorem num_len : ∀ n < 64, (numT n).length ≤ 2 := by decide +kernel
theorem num_log {n : Nat} (h : n < 64) : (n : Int).natAbs.log2 < 1920 := by
  have h1 : ∀ n : Nat, n < 64 → n.log2 < 1920 := by decide +kernel
  rw [Int.natAbs_natCast]
  exact h1 n h
def Sb (S : Spc) : Prop := S.length ≤ 40 ∧ ∀ b ∈ S, b.length = 4 ∧ ∀ j ∈ b, Jb j
theorem Good.sb {S : Spc} (h : Good S) (hl : S.length ≤ 40) : Sb S := by
  refine ⟨hl, fun b hb => ⟨h.l4 b hb, fun j hj n t e => ?_⟩⟩
  subst e
  obtain ⟨i, hi⟩ := List.mem_iff_getElem?.mp hb
  obtain ⟨f, hf⟩ := List.mem_iff_getElem?.mp hj
  have g : getJ S i f = some (some (n, t)) := by
    unfold getJ
    rw [hi]
    exact hf
  have ht := (h.both _ _ _ _ g).1
  have h4 := turns4 t ht
  have := h.lt g
  exact ⟨by omega, h4.1, h4.2.1⟩
/-! ### data by their norms -/
theorem Dq.seq {K : PySem.W.Frag} {N : Addr → Prop} {H : Hp} {v : V} {d : PyData} {es : List PyData} (h : Dq N H v d) (e : norm d = .list es) : ∃ a xs ds, v = .ref a ∧ (SqL K H a xs ∨ SqT K H a xs) ∧ (∀ o, H a = some o → True) ∧ Dqs N H xs ds ∧ norms ds = es := by
  cases d with
  | list ds =>
    cases h with
    | lst h1 h2 h3 => exact ⟨_, _, ds, rfl, .inl (.inl (.inl h1)), fun _ _ => trivial, h3, by simpa only [norm, PyData.list.injEq] using e⟩
  | tuple ds =>
    cases h with
    | tup h1 h2 => exact ⟨_, _, ds, rfl, .inr h1.sqt, fun _ _ => trivial, h2, by simpa only [norm, PyData.list.injEq] using e⟩
  | none => simp only [norm] at e; cases e
  | bool b => simp only [norm] at e; cases e
  | int i => simp only [norm] at e; cases e
  | str x => simp only [norm] at e; cases e
  | dict k => simp only [norm] at e; cases e
theorem Dq.isInt {N : Addr → Prop} {H : Hp} {v : V} {d : PyData} {i : Int} (h : Dq N H v d) (e : norm d = .int i) : v = .int i := by
  cases h with
  | int j => simp only [norm, PyData.int.injEq] at e; rw [e]
  | non => simp only [norm] at e; cases e
  | bl b => simp only [norm] at e; cases e
  | str x => simp only [norm] at e; cases e
  | lst _ _ _ => simp only [norm] at e; cases e
  | tup _ _ => simp only [norm] at e; cases e
theorem Dq.isNon {N : Addr → Prop} {H : Hp} {v : V} {d : PyData} (h : Dq N H v d) (e : norm d = .none) : v = .non := by
  cases h with
  | non => rfl
  | int j => simp only [norm] at e; cases e
  | bl b => simp only [norm] at e; cases e
  | str x => simp only [norm] at e; cases e
  | lst _ _ _ => simp only [norm] at e; cases e
  | tup _ _ => simp only [norm] at e; cases e
def nJ (j : Jn) : PyData := norm (jD j)
theorem nJ_some (n : Nat) (t : Trn) : nJ (some (n, t)) = .list [intD n, .list (t.map intD)] := by
  have h : norms (t.map intD) = t.map intD := by
    rw [norms_map, List.map_map]
    exact List.map_congr_left fun x _ => by simp only [Function.comp, intD, norm]
  simp only [nJ, jD, norm, norms, h, intD]
theorem nJ_none : nJ none = .none := by simp only [nJ, jD, norm]
theorem norms_inv : ∀ {ds : List PyData} {e : PyData} {es : List PyData}, norms ds = e :: es → ∃ d ds', ds = d :: ds' ∧ norm d = e ∧ norms ds' = es
  | [], _, _, h => by
    simp only [norms] at h
    cases h
  | d :: ds, e, es, h => by
    simp only [norms, List.cons.injEq] at h
    exact ⟨d, ds, rfl, h.1, h.2⟩
theorem norms_nil_inv : ∀ {ds : List PyData}, norms ds = [] → ds = []
  | [], _ => rfl
  | d :: ds, h => by
    simp only [norms] at h
    cases h
theorem Dqs.uncons {N : Addr → Prop} {H : Hp} {xs : List V} {d : PyData} {ds : List PyData} (h : Dqs N H xs (d :: ds)) : ∃ v vs, xs = v :: vs ∧ Dq N H v d ∧ Dqs N H vs ds := by
  cases h with
  | cons h1 h2 => exact ⟨_, _, rfl, h1, h2⟩
theorem Dqs.pair {N : Addr → Prop} {H : Hp} {xs : List V} {ds : List PyData} {e1 e2 : PyData} (h : Dqs N H xs ds) (e : norms ds = [e1, e2]) :
    ∃ v1 v2 d1 d2, xs = [v1, v2] ∧ Dq N H v1 d1 ∧ norm d1 = e1 ∧ Dq N H v2 d2 ∧ norm d2 = e2 := by
  obtain ⟨d1, r, rfl, n1, e⟩ := norms_inv e
  obtain ⟨d2, r2, rfl, n2, e⟩ := norms_inv e
  obtain rfl := norms_nil_inv e
  obtain ⟨v1, w1, rfl, h1, h⟩ := h.uncons
  obtain ⟨v2, w2, rfl, h2, h⟩ := h.uncons
  cases h
  exact ⟨v1, v2, d1, d2, rfl, h1, n1, h2, n2⟩
def nB (b : Blk) : PyData := .list (b.map nJ)
def nS (S : Spc) : PyData := .list (S.map nB)
theorem norm_at {ds : List PyData} {α : Type} {l : List α} {f : α → PyData} {i : Nat} {d : PyData} (e : norms ds = l.map f) (h : ds[i]? = some d) : ∃ x, l[i]? = some x ∧ norm d = f x := by
  have z : (norms ds)[i]? = some (norm d) := by rw [norms_map, List.getElem?_map, h]; rfl
  rw [e, List.getElem?_map] at z
  cases hx : l[i]? with
  | none =>
    rw [hx] at z
    cases z
  | some x =>
    rw [hx] at z
    exact ⟨x, rfl, (Option.some.inj z).symm⟩
theorem norm_len {ds : List PyData} {α : Type} {l : List α} {f : α → PyData} (e : norms ds = l.map f) : ds.length = l.length := by
  rw [← norms_len, e, List.length_map]
theorem norm_jD (j : Jn) : norm (jD j) = nJ j := rfl
theorem norm_blk (b : Blk) : norms (b.map jD) = b.map nJ := by
  rw [norms_map, List.map_map]
  rfl
theorem norm_shut (S : Spc) : norm (shutD S) = nS S := by
  have h : norms (S.map fun b => PyData.tuple (b.map jD)) = S.map nB := by
    rw [norms_map, List.map_map]
    refine List.map_congr_left fun b _ => ?_
    show norm (PyData.tuple (b.map jD)) = nB b
    simp only [norm, norm_blk, nB]
  simp only [shutD, norm, h, nS]
theorem norm_open (S : Spc) : norm (.list (S.map fun b => PyData.list (b.map jD))) = nS S := by
  have h : norms (S.map fun b => PyData.list (b.map jD)) = S.map nB := by
    rw [norms_map, List.map_map]
    refine List.map_congr_left fun b _ => ?_
    show norm (PyData.list (b.map jD)) = nB b
    simp only [norm, norm_blk, nB]
  simp only [norm, h, nS]
/-- what data of ints and nothing else is: small -/
structure Tiny (d : PyData) (b k : Nat) : Prop where
  b : d.bulk ≤ b
  k : d.depth ≤ k
  s : d.showable = true
  h : d.hasDict = false
  l : d.leavesShort 8 = true
theorem ints_tiny : ∀ {t : Trn}, (∀ x ∈ t, x < 64) → PyData.bulkAll (t.map intD) = t.length ∧ PyData.depthAll (t.map intD) = 0 ∧ PyData.showableAll (t.map intD) = true ∧ PyData.hasDictAll (t.map intD) = false ∧ PyData.leavesShortAll 8 (t.map intD) = true
  | [], _ => by simp [PyData.bulkAll, PyData.depthAll, PyData.showableAll, PyData.hasDictAll, PyData.leavesShortAll]
  | x :: t, h => by
    obtain ⟨h1, h2, h3, h4, h5⟩ := ints_tiny (t := t) fun y hy => h y (List.mem_cons_of_mem _ hy)
    have hx := h x List.mem_cons_self
    have e1 : (intD x).showable = true := by
      simp only [intD, PyData.showable, decide_eq_true_eq]
      exact num_log hx
    have e2 : (intD x).leavesShort 8 = true := by
      simp only [intD, PyData.leavesShort, decide_eq_true_eq]
      exact Nat.le_trans (num_len x hx) (by decide)
    simp only [List.map_cons, PyData.bulkAll, PyData.depthAll, PyData.showableAll, PyData.hasDictAll, PyData.leavesShortAll, h1, h2, h3, h4, h5, e1, e2, List.length_cons]
    refine ⟨?_, ?_, rfl, ?_, rfl⟩
    · simp only [intD, PyData.bulk]
      omega
    · simp only [intD, PyData.depth]
      rfl
    · simp only [intD, PyData.hasDict]
      rfl
theorem j_tiny {j : Jn} (h : Jb j) : Tiny (jD j) 7 2 := by
  cases j with
  | none => exact ⟨by simp only [jD, PyData.bulk]; omega, by simp only [jD, PyData.depth]; omega, by simp only [jD, PyData.showable], by simp only [jD, PyData.hasDict], by simp only [jD, PyData.leavesShort]⟩
  | some k =>
    obtain ⟨n, t⟩ := k
    obtain ⟨hn, ht, hx⟩ := h n t rfl
    obtain ⟨h1, h2, h3, h4, h5⟩ := ints_tiny (t := t) fun y hy => Nat.lt_of_lt_of_le (hx y hy) (by decide)
    obtain ⟨g1, g2, g3, g4, g5⟩ := ints_tiny (t := [n]) fun y hy => by rw [List.mem_singleton.mp hy]; exact hn
    simp only [List.map_cons, List.map_nil, PyData.bulkAll, PyData.depthAll, PyData.showableAll, PyData.hasDictAll, PyData.leavesShortAll, Bool.and_true, Bool.or_false] at g1 g2 g3 g4 g5
    refine ⟨?_, ?_, ?_, ?_, ?_⟩
    · simp only [jD, PyData.bulk, PyData.bulkAll, h1, ht]
      simp only [intD, PyData.bulk]
      omega
    · simp only [jD, PyData.depth, PyData.depthAll, h2]
      simp only [intD, PyData.depth]
      omega
    · simp only [jD, PyData.showable, PyData.showableAll, h3, g3]
      rfl
    · simp only [jD, PyData.hasDict, PyData.hasDictAll, h4, g4]
      rfl
    · simp only [jD, PyData.leavesShort, PyData.leavesShortAll, h5, g5]
      rfl
theorem js_tiny : ∀ {b : Blk}, (∀ j ∈ b, Jb j) → PyData.bulkAll (b.map jD) ≤ 8 * b.length ∧ PyData.depthAll (b.map jD) ≤ 2 ∧ PyData.showableAll (b.map jD) = true ∧ PyData.hasDictAll (b.map jD) = false ∧ PyData.leavesShortAll 8 (b.map jD) = true
  | [], _ => by simp [PyData.bulkAll, PyData.depthAll, PyData.showableAll, PyData.hasDictAll, PyData.leavesShortAll]
  | j :: b, h => by
    obtain ⟨h1, h2, h3, h4, h5⟩ := js_tiny (b := b) fun y hy => h y (List.mem_cons_of_mem _ hy)
    obtain ⟨g1, g2, g3, g4, g5⟩ := j_tiny (h j List.mem_cons_self)
    simp only [List.map_cons, PyData.bulkAll, PyData.depthAll, PyData.showableAll, PyData.hasDictAll, PyData.leavesShortAll, h3, h4, h5, g3, g4, g5, List.length_cons]
    exact ⟨by omega, by omega, rfl, rfl, rfl⟩
theorem bs_tiny : ∀ {S : Spc}, (∀ b ∈ S, b.length = 4 ∧ ∀ j ∈ b, Jb j) → PyData.bulkAll (S.map fun b => PyData.tuple (b.map jD)) ≤ 33 * S.length ∧ PyData.depthAll (S.map fun b => PyData.tuple (b.map jD)) ≤ 3 ∧ PyData.showableAll (S.map fun b => PyData.tuple (b.map jD)) = true ∧
    PyData.hasDictAll (S.map fun b => PyData.tuple (b.map jD)) = false ∧ PyData.leavesShortAll 8 (S.map fun b => PyData.tuple (b.map jD)) = true
  | [], _ => by simp [PyData.bulkAll, PyData.depthAll, PyData.showableAll, PyData.hasDictAll, PyData.leavesShortAll]
  | b :: S, h => by
    obtain ⟨h1, h2, h3, h4, h5⟩ := bs_tiny (S := S) fun y hy => h y (List.mem_cons_of_mem _ hy)
    obtain ⟨l4, hj⟩ := h b List.mem_cons_self
    obtain ⟨g1, g2, g3, g4, g5⟩ := js_tiny hj
    simp only [List.map_cons, PyData.bulkAll, PyData.depthAll, PyData.showableAll, PyData.hasDictAll, PyData.leavesShortAll, PyData.bulk, PyData.depth, PyData.showable, PyData.hasDict, PyData.leavesShort, h3, h4, h5, g3, g4, g5, List.length_cons]
    exact ⟨by omega, by omega, rfl, rfl, rfl⟩
theorem shut_tiny {S : Spc} (h : Sb S) : Tiny (shutD S) 1320 4 := by
  obtain ⟨h1, h2, h3, h4, h5⟩ := bs_tiny h.2
  have hl := h.1
  exact ⟨by simp only [shutD, PyData.bulk]; omega, by simp only [shutD, PyData.depth]; omega, by simpa only [shutD, PyData.showable] using h3, by simpa only [shutD, PyData.hasDict] using h4, by simpa only [shutD, PyData.leavesShort] using h5⟩
/-- a mixture is as tiny -/
theorem Tiny.mix {d d' : PyData} {b k : Nat} (h : Tiny d b k) (e : norm d' = norm d) : Tiny d' b k := by
  obtain ⟨a1, a2, a3, a4, a5⟩ := norm_same 8 d
  obtain ⟨b1, b2, b3, b4, b5⟩ := norm_same 8 d'
  rw [e] at b1 b2 b3 b4 b5
  exact ⟨by rw [← b1, a1]; exact h.b, by rw [← b2, a2]; exact h.k, by rw [← b4, a4]; exact h.s, by rw [← b5, a5]; exact h.h, by rw [← b3, a3]; exact h.l⟩
theorem Tiny.shown {d : PyData} {b k : Nat} (h : Tiny d b k) (hb : b ≤ 100000) : d.shown.length ≤ sizeLine := by
  have h1 := PyData.shown_le_bulk 8 (by decide) d h.l
  have h2 := h.b
  have h3 : sizeLine = 16777216 := by decide +kernel
  omega
/-- a space of lists, as data -/
theorem SpAt.dq {H : Hp} {l : Addr} {rs : List V} {S : Spc} (h : SpAt H l rs S) : Dq (fun _ => False) H (.ref l) (.list (S.map fun b => .list (b.map jD))) := by
  have go : ∀ {rs : List V} {S : Spc}, Paired (BAt H) rs S → Dqs (fun _ => False) H rs (S.map fun b => .list (b.map jD)) := by
    intro rs S hp
    induction hp with
    | nil => exact .nil
    | cons r t ih =>
      obtain ⟨p, vs, rfl, h1, h2⟩ := r
      exact .cons (.lst h1 (fun z => z) (jats_dqs h2)) ih
  exact .lst h.l (fun z => z) (go h.b)
theorem Sb.set {S : Spc} (h : Sb S) (b f : Nat) {j : Jn} (hj : Jb j) : Sb (setJ S b f j) := by
  refine ⟨by rw [setJ_len]; exact h.1, fun c hc => ?_⟩
  obtain ⟨i, hi⟩ := List.mem_iff_getElem?.mp hc
  unfold setJ at hi
  rw [List.getElem?_modify] at hi
  cases hs : S[i]? with
  | none =>
    rw [hs] at hi
    cases hi
  | some m =>
    rw [hs] at hi
    obtain ⟨m4, mj⟩ := h.2 m (List.mem_of_getElem? hs)
    have e : (if b = i then List.set m f j else m) = c := Option.some.inj hi
    by_cases hb : b = i
    · rw [if_pos hb] at e
      subst e
      refine ⟨by rw [List.length_set]; exact m4, fun x hx => ?_⟩
      rcases List.mem_or_eq_of_mem_set hx with z | z
      · exact mj x z
      · rw [z]
        exact hj
    · rw [if_neg hb] at e
      subst e
      exact ⟨m4, mj⟩
theorem jb_none : Jb none := fun _ _ e => by cases e
theorem eqv_nil (ns : List Int) : PyData.eqv (.list (ns.map PyData.int)) (.list []) = ns.isEmpty := by
  cases ns with
  | nil => rfl
  | cons x r => rfl
end Bk

namespace Bk
open PySem PySem.Spec PyProof.Rows L2
/-! ### sorted(t), t a tuple of ints -/
section
variable {prog : Program} {w : World} {A : Around} {E : Value → Shared → Prop} {s : Shared}
theorem gather_tuple {l : Addr} {vs : List Value} {Q : List Value → Shared → Prop} (ht : s.heap.IsTuple l vs.toArray)
    (h : Q vs { s with heap := (s.heap.push (seqObj "list" #[] 0)).update s.heap.objs.size (Obj.mapSeq (· ++ vs.toArray)) }) (hz : vs.length ≤ sizeLine) : wpAny (model prog w) A (collect (.ref l)) Q E s := by
  obtain ⟨o, ho, hc, n, hd⟩ := ht
  have ho' := Heap.get?_push_of_some (seqObj "list" #[] 0) ho
  have hn : (s.heap.push (seqObj "list" #[] 0)).get? s.heap.objs.size = some (seqObj "list" #[] 0) := Heap.get?_push_size _ rfl
  unfold collect
  refine wpAny_bind (wpAny_runValue (codeAny_builtin entry_proto_collect' ?_))
  show wpAny _ _ (do again (.builtin "list.__iadd__" ⟨[← newList [], .ref l], []⟩)) _ _ s
  refine wpAny_bind (wpAny_newList (wpAny_pure ⟨Code.quiet_builtin _ (by decide +kernel), codeAny_builtin entry_list_iadd' ?_⟩))
  show wpAny _ _ (Builtin.List.listExtendWith (.ref s.heap.objs.size) (.ref l) (.ref s.heap.objs.size)) _ _ { s with heap := s.heap.push (seqObj "list" #[] 0) }
  unfold Builtin.List.listExtendWith
  refine wpAny_bind (wpAny_typeOf (T := "tuple") ⟨o, ho', hc⟩ ?_)
  rw [if_pos (by simp)]
  refine wpAny_bind (listItems_at ho' hd (wpAny_bind (listItems_at hn rfl ?_)))
  rw [if_neg (by simp)]
  refine wpAny_bind (listUpdate_at hn rfl (wpAny_pure ?_) (Nat.zero_le _) (by
    show (#[] ++ vs.toArray).size ≤ sizeLine + 1
    simp only [Array.size_append, List.size_toArray, List.length_nil]
    omega))
  refine wpAny_bind (wpAny_load (get?_update_seq hn _) ?_)
  have e : ((#[] : Array Value) ++ vs.toArray).toList = vs := by simp
  show wpAny _ _ (pure ((#[] : Array Value) ++ vs.toArray).toList) Q E _
  rw [e]
  exact wpAny_pure h
theorem sort_tuple {l : Addr} {vs : List Value} {ns : List Int} {Q : Value → Shared → Prop} (ht : s.heap.IsTuple l vs.toArray) (hI : IntsAre vs ns) (h64 : vs.length < 64)
    (h : ∀ (out : Array Value) (ns' : List Int), IntsAre out.toList ns' → ns'.Perm ns → ns'.Pairwise (· ≤ ·) → Q (.ref (s.heap.objs.size + 1)) { s with heap := sortedAll s.heap vs out }) : wpAny (model prog w) A (call (.builtin "sorted") [.ref l]) Q E s := by
  refine Calls.call_function_entry kind_sorted plain_sorted entry_sorted (args_sorted1 _) ?_
  unfold Builtin.«sorted»
  have hz : vs.length ≤ sizeLine := small64 h64
  refine wpAny_bind (m := checkCount "sorted" 1 1 _) (wpAny_pure (wpAny_bind (gather_tuple ht (wpAny_bind (wpAny_newList ?_)) hz)))
  have size1 : ((s.heap.push (seqObj "list" #[] 0)).update s.heap.objs.size (Obj.mapSeq (· ++ vs.toArray))).objs.size = s.heap.objs.size + 1 := by rw [Heap.size_update, size_push']
  have at1 : (((s.heap.push (seqObj "list" #[] 0)).update s.heap.objs.size (Obj.mapSeq (· ++ vs.toArray))).push (seqObj "list" vs.toArray 0)).get? (s.heap.objs.size + 1) = some (seqObj "list" vs.toArray 0) := by
    rw [← size1]
    exact Heap.get?_push_size _ rfl
  show wpAny _ _ _ _ _ { s with heap := ((s.heap.push (seqObj "list" #[] 0)).update s.heap.objs.size (Obj.mapSeq (· ++ vs.toArray))).push (seqObj "list" vs.toArray 0) }
  rw [size1]
  exact wpAny_bind (wpAny_holding (wpAny_call_entry slot_list_sort ⟨_, at1, rfl⟩ entry_list_sort (list_sort_tree at1 hI h64 fun out ns' a1 a2 a3 => ⟨_, rfl, wpAny_pure ⟨_, rfl, h out ns' a1 a2 a3⟩⟩) (args_list_sort _)))
end
section
variable {X : Cx} (K : PySem.W.Frag)
def rSortX (K : PySem.W.Frag) : List V → Hp → VK → Prop := fun vs H Q => ∃ (a : Addr) (ns : List Int), vs = [V.ref a] ∧ (SqL K H a (ns.map V.int) ∨ SqT K H a (ns.map V.int)) ∧ ns.length < 64 ∧
  ∀ (ns' : List Int) (p : Addr), ns'.Perm ns → ns'.Pairwise (· ≤ ·) → H p = none → Q (.ref p) (upd H p (.lst (ns'.map V.int)))
theorem kSorted (h : X.K = K) : CallR X (.builtin "sorted") (rSortX K) := by
  subst h
  rintro pins s σ H vs us Q I r ⟨a, ns, rfl, hq, h64, q⟩
  rcases hq with hq | hq
  · exact cr_sorted pins s σ H _ us Q I r ⟨a, ns, rfl, hq, h64, q⟩
  obtain ⟨its, rv, pt, _⟩ := I.tuple hq
  obtain ⟨u, rfl, rx⟩ := vals1 r
  cases rx
  have hi := rv.ints
  refine sort_tuple pt hi (by rw [hi.length]; exact h64) fun out ns' h1 h2 h3 => ?_
  obtain ⟨ep, he⟩ := sortedAll_at s.heap its out
  have hlen : (ns'.map V.int).length ≤ sizeLine := by
    rw [List.length_map, h2.length_eq]
    exact small64 h64
  exact ⟨.ref (s.heap.objs.size + 1), upd H (s.heap.objs.size + 1) (.lst (ns'.map V.int)), I.laid (t' := s.toks) (fun _ _ => sortedAll_old) (Nat.le_succ _) ⟨hlen, out.toList, ep, vals_of_ints h1, he⟩, rfl, q ns' _ h2 h3 (I.hok.fresh (Nat.le_succ _))⟩
end
end Bk

namespace Bk
open PySem PySem.Spec PyProof.Rows L2
local macro_rules | `(tactic| walk_at "g") => `(tactic| (repeat first | refine ⟨_, rfl, ?_⟩ | refine ⟨cpow, ?_⟩ | refine ⟨wideM, ?_⟩ | refine ⟨_, _, rfl, rfl, ?_⟩ | refine ⟨rfl, ?_⟩))
def isIntD : PyData → Bool
  | .int _ => true
  | _ => false
theorem perm_same {a b : List Int} (hp : a.Perm b) (ha : a.Pairwise (· ≤ ·)) (hb : b.Pairwise (· ≤ ·)) : a = b := hp.eq_of_pairwise (fun x y _ _ h1 h2 => Int.le_antisymm h1 h2) ha hb
theorem range_up (m : Nat) : ((List.range m).map fun k : Nat => (k : Int)).Pairwise (· ≤ ·) := by
  rw [List.pairwise_map]
  exact List.pairwise_le_range.imp fun h => by omega
theorem turn_perm : ∀ t ∈ allTurns, t.Perm (List.range 4) := by decide +kernel
theorem intD_map (t : Trn) : t.map intD = (t.map fun c : Nat => (c : Int)).map PyData.int := by
  rw [List.map_map]
  rfl
theorem intV_map (t : Trn) : trnV t = (t.map fun c : Nat => (c : Int)).map V.int := by
  unfold trnV
  rw [List.map_map]
  rfl
/-- the values of data of ints -/
theorem Dqs.ints {N : Addr → Prop} {H : Hp} : ∀ {t : Trn} {vs : List V} {ds : List PyData}, Dqs N H vs ds → norms ds = t.map intD → vs = trnV t
  | [], vs, ds, h, e => by
    obtain rfl := norms_nil_inv e
    cases h
    rfl
  | n :: t, vs, ds, h, e => by
    obtain ⟨d, ds', rfl, e1, e2⟩ := norms_inv (show norms ds = intD n :: t.map intD from e)
    obtain ⟨v, vs', rfl, h1, h2⟩ := h.uncons
    have ev := h1.isInt (i := (n : Int)) e1
    have ih := h2.ints (t := t) e2
    rw [ev, ih]
    rfl
section
variable {P : Program} {w : World} {K : PySem.W.Frag} {mg : Str → Option Value} {base : Heap}
theorem kit_one {d : PyData} {s : String} {b : Bool} (h : ∀ a, a = tyD d → kitB a s = some b) : PySem.W.kitOne K (.type (tyD d)) (.type s) = some b := kit_ty (h _ rfl)
theorem kit_int (d : PyData) : PySem.W.kitOne K (.type (tyD d)) (.type "int") = some (isIntD d || tyD d == "bool") := by
  cases d with
  | none => exact kit_ty (a := "NoneType") (b := "int") (show kitB "NoneType" "int" = some false by decide +kernel)
  | bool b => exact kit_ty (a := "bool") (b := "int") (show kitB "bool" "int" = some true by decide +kernel)
  | int i => exact kit_ty (a := "int") (b := "int") (show kitB "int" "int" = some true by decide +kernel)
  | str x => exact kit_ty (a := "str") (b := "int") (show kitB "str" "int" = some false by decide +kernel)
  | list ds => exact kit_ty (a := "list") (b := "int") (show kitB "list" "int" = some false by decide +kernel)
  | tuple ds => exact kit_ty (a := "tuple") (b := "int") (show kitB "tuple" "int" = some false by decide +kernel)
  | dict k => exact kit_ty (a := "dict") (b := "int") (show kitB "dict" "int" = some false by decide +kernel)
theorem kit_bool (d : PyData) : PySem.W.kitOne K (.type (tyD d)) (.type "bool") = some (tyD d == "bool") := by
  cases d with
  | none => exact kit_ty (a := "NoneType") (b := "bool") (show kitB "NoneType" "bool" = some false by decide +kernel)
  | bool b => exact kit_ty (a := "bool") (b := "bool") (show kitB "bool" "bool" = some true by decide +kernel)
  | int i => exact kit_ty (a := "int") (b := "bool") (show kitB "int" "bool" = some false by decide +kernel)
  | str x => exact kit_ty (a := "str") (b := "bool") (show kitB "str" "bool" = some false by decide +kernel)
  | list ds => exact kit_ty (a := "list") (b := "bool") (show kitB "list" "bool" = some false by decide +kernel)
  | tuple ds => exact kit_ty (a := "tuple") (b := "bool") (show kitB "tuple" "bool" = some false by decide +kernel)
  | dict k => exact kit_ty (a := "dict") (b := "bool") (show kitB "dict" "bool" = some false by decide +kernel)
theorem whole_b (d : PyData) : ((isIntD d || tyD d == "bool") = true → (!(tyD d == "bool")) = isIntD d) ∧ ((isIntD d || tyD d == "bool") = false → isIntD d = false) := by
  cases d <;> simp [isIntD, tyD]
/-! ### is_whole, is_listed, is_below, is_order, is_turn -/
abbrev sis_whole : Stmt := topS 11
abbrev Nis_whole : List Str := ["thing"]
theorem scis_whole : FnScope Nis_whole ["thing"] (defScope sis_whole) := ⟨rfl, rfl, rfl, by decide +kernel, rfl, by decide +kernel, by decide +kernel⟩
def spWhole : Sp := fun vs H Q _ => ∃ (N : Addr → Prop) (v : V) (d : PyData), vs = [v] ∧ Dq N H v d ∧ Q (.bl (isIntD d)) H
theorem okis_whole {f : Addr} {fd : FuncData} (F : Fun K "is_whole" "is_whole" sis_whole f fd) (m_isinstance : mg "isinstance" = none) (m_int : mg "int" = none) (m_bool : mg "bool" = none) : FnOk P w K mg base CX0 1 f fd ["thing"] spWhole := by
  refine F.ok scis_whole (fun vs H Q E h => ?_) (fun cdv A outer s H vs Q E hr h => ?_)
  · obtain ⟨N, v, d, rfl, _⟩ := h
    rfl
  · obtain ⟨N, v, d, rfl, hd, q⟩ := h
    have nd := scis_whole.nd
    refine ⟨_, (pss_one (ps_ret (pe_and (pe_callB (kIsi K rfl) (by rfl) m_isinstance (by decide +kernel) (pa_cons (pv 0) (pa_cons (pe_bltn (v := .ty "int") (by rfl) m_int (by decide +kernel) rfl) pa_nil))) (pe_one (pe_not (pe_callB (kIsi K rfl) (by rfl) m_isinstance (by decide +kernel) (pa_cons (pv 0) (pa_cons (pe_bltn (v := .ty "bool") (by rfl) m_bool (by decide +kernel) rfl) pa_nil)))))))), ?_⟩
    refine ⟨v, rfl, v, .ty "int", _, .type "int", _, rfl, .ty _, hd.ty, kit_int d, _, rfl, ?_⟩
    obtain ⟨w1, w2⟩ := whole_b d
    refine ite2 (fun e => ?_) (fun e => ?_)
    · refine ⟨v, rfl, v, .ty "bool", _, .type "bool", _, rfl, .ty _, hd.ty, kit_bool d, _, rfl, ?_⟩
      rw [w1 e]
      exact q
    · rw [w2 (by simpa using e)] at q
      exact q
abbrev sis_listed : Stmt := topS 12
abbrev Nis_listed : List Str := ["thing"]
theorem scis_listed : FnScope Nis_listed ["thing"] (defScope sis_listed) := ⟨rfl, rfl, rfl, by decide +kernel, rfl, by decide +kernel, by decide +kernel⟩
def spListed : Sp := fun vs H Q _ => ∃ (N : Addr → Prop) (v : V) (d : PyData), vs = [v] ∧ Dq N H v d ∧ ∀ H', Same H H' → Q (.bl (isSeqD d)) H'
theorem okis_listed {f : Addr} {fd : FuncData} (F : Fun K "is_listed" "is_listed" sis_listed f fd) (m_isinstance : mg "isinstance" = none) (m_list : mg "list" = none) (m_tuple : mg "tuple" = none) : FnOk P w K mg base CX0 1 f fd ["thing"] spListed := by
  refine F.ok scis_listed (fun vs H Q E h => ?_) (fun cdv A outer s H vs Q E hr h => ?_)
  · obtain ⟨N, v, d, rfl, _⟩ := h
    rfl
  · obtain ⟨N, v, d, rfl, hd, q⟩ := h
    have nd := scis_listed.nd
    refine ⟨_, (pss_one (ps_ret (pe_callB (kIsiT K rfl) (by rfl) m_isinstance (by decide +kernel) (pa_cons (pv 0) (pa_cons (pe_tup (pa_cons (pe_bltn (v := .ty "list") (by rfl) m_list (by decide +kernel) rfl) (pa_cons (pe_bltn (v := .ty "tuple") (by rfl) m_tuple (by decide +kernel) rfl) pa_nil))) pa_nil))))), ?_⟩
    refine ⟨v, rfl, Nat.le_of_lt (small1000 (by show 2 ≤ 1000; decide)), fun tp ntp => ?_⟩
    have s1 : Same H (upd H tp (.tup [.ty "list", .ty "tuple"])) := same_new ntp
    exact ⟨v, tp, _, _, _, isSeqD d, rfl, upd_same, .cons (.ty _) (.cons (.ty _) .nil), (hd.same s1).ty, kit_seq d, q _ s1⟩
abbrev sis_below : Stmt := topS 13
abbrev Nis_below : List Str := ["thing", "many"]
theorem scis_below : FnScope Nis_below ["thing", "many"] (defScope sis_below) := ⟨rfl, rfl, rfl, by decide +kernel, rfl, by decide +kernel, by decide +kernel⟩
def spBelow : Sp := fun vs H Q _ => ∃ (i : Int) (m : Nat), vs = [.int i, intV m] ∧ Q (.bl (decide (0 ≤ i) && decide (i < m))) H
theorem okis_below {f fW : Addr} {fd fdW : FuncData} (F : Fun K "is_below" "is_below" sis_below f fd) (Fis_whole : Fun K "is_whole" "is_whole" sis_whole fW fdW) (gis_whole : mg "is_whole" = some (.ref fW)) (bis_whole : Binds K fdW ["thing"] [])
    (Gis_whole : FnOk P w K mg base CX0 1 fW fdW ["thing"] spWhole) : FnOk P w K mg base CX0 2 f fd ["thing", "many"] spBelow := by
  refine F.ok scis_below (fun vs H Q E h => ?_) (fun cdv A outer s H vs Q E hr h => ?_)
  · obtain ⟨i, m, rfl, _⟩ := h
    rfl
  · obtain ⟨i, m, rfl, q⟩ := h
    have nd := scis_below.nd
    refine ⟨_, (pss_one (ps_ret (pe_and (pe_call Gis_whole (hr.mono (by first | decide | omega)) (by rfl) gis_whole Fis_whole.kp bis_whole .nil pass0 (pa_cons (pv 0) pa_nil)) (pe_one (pe_chain op_le op_lt pe_int (pv 0) (pv 1)))))), ?_⟩
    refine ⟨.int i, rfl, fun _ => False, .int i, .int i, rfl, .int i, _, rfl, iteT ?_⟩
    refine ⟨.int i, rfl, _, _, rfl, rfl, _, rfl, ite2 (fun e => ?_) (fun e => ?_)⟩
    · refine ⟨intV m, rfl, _, _, rfl, rfl, ?_⟩
      rw [e, Bool.true_and] at q
      exact q
    · have e' : decide ((0 : Int) ≤ i) = false := by simpa using e
      rw [e', Bool.false_and] at q
      exact q
abbrev sis_order : Stmt := topS 14
abbrev Nis_order : List Str := ["thing", "many", "part"]
theorem scis_order : FnScope Nis_order ["thing", "many"] (defScope sis_order) := ⟨rfl, rfl, rfl, by decide +kernel, rfl, by decide +kernel, by decide +kernel⟩
def spOrder : Sp := fun vs H Q _ => ∃ (N : Addr → Prop) (v : V) (d : PyData) (t : Trn) (m : Nat), vs = [v, intV m] ∧ Dq N H v d ∧ norm d = .list (t.map intD) ∧ t.Perm (List.range m) ∧ m ≤ 60 ∧ ∀ H', Same H H' → Q (.bl true) H'
theorem okis_order {f fW fL : Addr} {fd fdW fdL : FuncData} (F : Fun K "is_order" "is_order" sis_order f fd) (Fis_whole : Fun K "is_whole" "is_whole" sis_whole fW fdW) (gis_whole : mg "is_whole" = some (.ref fW)) (bis_whole : Binds K fdW ["thing"] [])
    (Gis_whole : FnOk P w K mg base CX0 1 fW fdW ["thing"] spWhole) (Fis_listed : Fun K "is_listed" "is_listed" sis_listed fL fdL) (gis_listed : mg "is_listed" = some (.ref fL)) (bis_listed : Binds K fdL ["thing"] []) (Gis_listed : FnOk P w K mg base CX0 1 fL fdL ["thing"] spListed)
    (m_all : mg "all" = none) (m_sorted : mg "sorted" = none) (m_list : mg "list" = none) (m_range : mg "range" = none) : FnOk P w K mg base CX0 2 f fd ["thing", "many"] spOrder := by
  refine F.ok scis_order (fun vs H Q E h => ?_) (fun cdv A outer s H vs Q E hr h => ?_)
  · obtain ⟨N, v, d, t, m, rfl, _⟩ := h
    rfl
  · obtain ⟨N, v, d, t, m, rfl, hd, hn, hp, hm, q⟩ := h
    have nd := scis_order.nd
    refine ⟨_, (pss_one (ps_ret (pe_and (pe_call Gis_listed (hr.mono (by first | decide | omega)) (by rfl) gis_listed Fis_listed.kp bis_listed .nil pass0 (pa_cons (pv 0) pa_nil)) (pe_and (pe_callB (kAll K rfl rfl) (by rfl) m_all (by decide +kernel) (pa_cons (pe_lc (own := [("part", 2)]) (g := gName 2) (tt := tYes) rfl nd (kPiS K rfl (pv 0)) (blkOk_by (own := [("part", 2)]) (N := Nis_order) (sc := defScope sis_order) (by decide +kernel)) (fun _ _ _ _ _ => (pg_name (i := 2) nd rfl (Or.inl rfl))) (fun _ _ _ _ _ => pts_nil) (fun _ _ _ _ _ => (pe_call Gis_whole (hr.mono (by first | decide | omega)) (by rfl) gis_whole Fis_whole.kp bis_whole .nil pass0 (pa_cons (pv 2) pa_nil)))) pa_nil)) (pe_one (pe_cmpR (kEqD K rfl hr.units) (pe_callB (kSorted K rfl) (by rfl) m_sorted (by decide +kernel) (pa_cons (pv 0) pa_nil)) (pe_listRg rfl (by rfl) m_list (prg_1 (by rfl) m_range (pv 1))) (nomark _))))))), ?_⟩
    have sq : isSeqD d = true := by
      cases d <;> first | rfl | (simp only [norm] at hn; cases hn)
    have lt : t.length = m := by rw [hp.length_eq, List.length_range]
    refine ⟨v, rfl, N, v, d, rfl, hd, fun H1 s1 => ?_⟩
    rw [sq]
    refine ⟨_, rfl, iteT ?_⟩
    obtain ⟨a, xs, ds, rfl, hq, _, hds, en⟩ := (hd.same s1).seq (K := K) hn
    have ex := hds.ints en
    refine ⟨.ref a, rfl, a, xs, rfl, hq, fun J C hJ hC => ?_⟩
    intro D nD
    refine lc_seq (xs := xs) hJ (fun i H2 => H2 = upd H1 D (.lst ((List.replicate i true).map V.bl))) rfl ?_ ?_ ?_
    · rintro i H2 rfl
      exact SeqIt.mono K hJ (fun o e => same_new nD _ _ e) hC
    · rintro i x H2 hx rfl
      have hi : i < m := by
        have := (List.getElem?_eq_some_iff.mp hx).1
        rw [ex] at this
        unfold trnV at this
        rw [List.length_map] at this
        omega
      rw [ex] at hx
      unfold trnV at hx
      rw [List.getElem?_map] at hx
      cases hc : t[i]? with
      | none =>
        rw [hc] at hx
        cases hx
      | some c =>
        rw [hc] at hx
        have e2 : intV c = x := Option.some.inj hx
        subst e2
        refine ⟨rfl, intV c, rfl, fun _ => False, intV c, .int (c : Int), rfl, .int _, _, upd_same, small1000 (by rw [List.length_map, List.length_replicate]; omega), ?_⟩
        rw [upd_upd, List.replicate_succ', List.map_append]
        rfl
    · rintro H2 rfl
      refine ⟨D, _, rfl, .inl (.inl upd_same), _, rfl, ?_⟩
      have eall : (List.replicate xs.length true).all id = true := by
        rw [List.all_eq_true]
        intro y hy
        rw [List.eq_of_mem_replicate hy]
        rfl
      rw [eall]
      have s2 : Same H1 (upd H1 D (.lst ((List.replicate xs.length true).map V.bl))) := same_new nD
      generalize upd H1 D (.lst ((List.replicate xs.length true).map V.bl)) = H2 at s2 ⊢
      refine iteT ?_
      rw [ex, intV_map] at hq
      refine ⟨.ref a, rfl, a, _, rfl, hq.imp (fun z => s2.seq z) (fun z => s2.sqt z), by rw [List.length_map]; omega, fun ns p p1 p2 np => ?_⟩
      have s3 : Same H2 (upd H2 p (.lst (ns.map V.int))) := same_new np
      have h3 : (upd H2 p (.lst (ns.map V.int))) p = some (.lst (ns.map V.int)) := upd_same
      generalize upd H2 p (.lst (ns.map V.int)) = H3 at s3 h3 ⊢
      refine ⟨intV m, rfl, m, rfl, .of_le (by decide) (by omega) (by decide) (by omega), fun q2 nq2 => ?_⟩
      have er : rgV 0 (m : Int) = ((List.range m).map fun k : Nat => (k : Int)).map V.int := by
        unfold rgV
        rw [show ((m : Int) - 0).toNat = m by omega, List.map_map]
        exact List.map_congr_left fun x _ => by
          show V.int (0 + (x : Int)) = V.int (x : Int)
          rw [Int.zero_add]
      rw [er]
      have s4 : Same H3 (upd H3 q2 (.lst (((List.range m).map fun k : Nat => (k : Int)).map V.int))) := same_new nq2
      have en2 : ns = (List.range m).map fun k : Nat => (k : Int) := perm_same (p1.trans (hp.map _)) p2 (range_up m)
      refine ⟨.list (ns.map PyData.int), .list (((List.range m).map fun k : Nat => (k : Int)).map PyData.int), .lst (.inl (.inl (s4 _ _ h3))) (dp_ints _), .lst (.inl (.inl upd_same)) (dp_ints _), ints_shaped _, ints_shaped _, ?_⟩
      rw [en2, SeqAt.eqv_refl _ (by have := ints_lay ((List.range m).map fun k : Nat => (k : Int)); simp only [PyData.canLay0]; exact this.1)]
      exact q _ (((s1.trans s2).trans s3).trans s4)
abbrev sis_turn : Stmt := topS 15
abbrev Nis_turn : List Str := ["thing"]
theorem scis_turn : FnScope Nis_turn ["thing"] (defScope sis_turn) := ⟨rfl, rfl, rfl, by decide +kernel, rfl, by decide +kernel, by decide +kernel⟩
def spTurn : Sp := fun vs H Q _ => ∃ (N : Addr → Prop) (v : V) (d : PyData) (t : Trn), vs = [v] ∧ Dq N H v d ∧ norm d = .list (t.map intD) ∧ t ∈ allTurns ∧ ∀ H', Same H H' → Q (.bl true) H'
theorem okis_turn {f fO : Addr} {fd fdO : FuncData} (F : Fun K "is_turn" "is_turn" sis_turn f fd) (Fis_order : Fun K "is_order" "is_order" sis_order fO fdO) (gis_order : mg "is_order" = some (.ref fO)) (bis_order : Binds K fdO ["thing", "many"] [])
    (Gis_order : FnOk P w K mg base CX0 2 fO fdO ["thing", "many"] spOrder) : FnOk P w K mg base CX0 3 f fd ["thing"] spTurn := by
  refine F.ok scis_turn (fun vs H Q E h => ?_) (fun cdv A outer s H vs Q E hr h => ?_)
  · obtain ⟨N, v, d, t, rfl, _⟩ := h
    rfl
  · obtain ⟨N, v, d, t, rfl, hd, hn, ht, q⟩ := h
    have nd := scis_turn.nd
    refine ⟨_, (pss_one (ps_ret (pe_call Gis_order (hr.mono (by first | decide | omega)) (by rfl) gis_order Fis_order.kp bis_order .nil pass0 (pa_cons (pv 0) (pa_cons pe_int pa_nil))))), ?_⟩
    exact ⟨v, rfl, N, v, d, t, 4, rfl, hd, hn, turn_perm t ht, by decide, q⟩
/-! ### contrary -/
abbrev scontrary : Stmt := topS 16
abbrev Ncontrary : List Str := ["turn", "corner"]
theorem sccontrary : FnScope Ncontrary ["turn"] (defScope scontrary) := ⟨rfl, rfl, rfl, by decide +kernel, rfl, by decide +kernel, by decide +kernel⟩
theorem okcontrary {f : Addr} {fd : FuncData} (F : Fun K "contrary" "contrary" scontrary f fd) (m_range : mg "range" = none) (m_tuple : mg "tuple" = none) : FnOk P w K mg base CX0 1 f fd ["turn"] spBack := by
  refine F.ok sccontrary (fun vs H Q E h => ?_) (fun cdv A outer s H vs Q E hr h => ?_)
  · obtain ⟨v, t, rfl, _⟩ := h
    rfl
  · obtain ⟨v, t, rfl, ⟨p, rfl, hp⟩, ht, q⟩ := h
    have nd := sccontrary.nd
    refine ⟨_, (pss_one (ps_ret (pe_callTy (kTupleF K rfl) (by rfl) m_tuple (by decide +kernel) (pa_cons (pe_lc (own := [("corner", 1)]) (g := gName 1) (tt := tYes) rfl nd (pi_range1 (by rfl) m_range (pa_cons pe_int pa_nil)) (blkOk_by (own := [("corner", 1)]) (N := Ncontrary) (sc := defScope scontrary) (by decide +kernel)) (fun _ _ _ _ _ => (pg_name (i := 1) nd rfl (Or.inl rfl))) (fun _ _ _ _ _ => pts_nil) (fun _ _ _ _ _ => (pe_bmF PySem.F.plainAttrs_tuple PySem.F.slot_tuple_index PySem.F.type_tuple_index (kTupIx K rfl) (pv 0) (pa_cons (pv 1) pa_nil)))) pa_nil)))), ?_⟩
    refine ⟨4, rfl, by decide, by decide, fun D nD => ?_⟩
    refine lc_range (lo := 0) (n := 4) (fun i H2 => H2 = upd H D (.lst (((List.range i).map fun c => t.idxOf c).map intV))) rfl ?_ ?_
    · rintro c H2 hc rfl
      rw [Int.zero_add]
      refine ⟨rfl, ?_⟩
      refine ⟨.ref p, rfl, ⟨p, _, rfl, hp.mono (same_new nD).tups⟩, ?_⟩
      walk_at "g"
      have t4 := turns4 t ht
      have hm : (c : Int) ∈ t.map fun c : Nat => (c : Int) := List.mem_map_of_mem (List.mem_of_getElem? (t4.2.2.2.1 c hc))
      refine ⟨p, t.map fun c : Nat => (c : Int), c, rfl, rfl, ?_, hm, ?_⟩
      · rw [← intV_map]
        exact (hp.mono (same_new nD).tups).sqt
      rw [idx_int]
      refine ⟨_, upd_same, small1000 (by rw [List.length_map, List.length_map, List.length_range]; omega), ?_⟩
      rw [upd_upd, List.range_succ, List.map_append, List.map_append]
      rfl
    · rintro H2 rfl
      refine ⟨D, _, rfl, .inl ⟨.inl (.inl upd_same), fun p2 o2 np2 d2 => ?_⟩⟩
      exact q _ p2 ((same_new nD).trans (same_new np2)) ((same_new nD).free np2) ⟨p2, rfl, FT.new d2⟩
end
end Bk

namespace Bk
open PySem PySem.Spec PyProof.Rows L2
local macro_rules | `(tactic| walk_at "g") => `(tactic| (repeat first | refine ⟨_, rfl, ?_⟩ | refine ⟨cpow, ?_⟩ | refine ⟨wideM, ?_⟩ | refine ⟨_, _, rfl, rfl, ?_⟩ | refine ⟨rfl, ?_⟩))
def Jok (m : Nat) (j : Jn) : Prop := ∀ n t, j = some (n, t) → n < m ∧ t ∈ allTurns
/-- blocks and spaces of tuples, as they stand -/
def BT (H : Hp) (v : V) (b : Blk) : Prop := ∃ p vs, v = .ref p ∧ FT H p vs ∧ Paired (JAt H) vs b
def ST (H : Hp) (v : V) (S : Spc) : Prop := ∃ p rs, v = .ref p ∧ FT H p rs ∧ Paired (BT H) rs S
theorem BT.mono {H H' : Hp} {v : V} {b : Blk} (h : BT H v b) (m : Tups H H') : BT H' v b := by
  obtain ⟨p, vs, e, h1, h2⟩ := h
  exact ⟨p, vs, e, h1.mono m, pmono h2 fun _ _ z => z.mono m⟩
theorem ST.mono {H H' : Hp} {v : V} {S : Spc} (h : ST H v S) (m : Tups H H') : ST H' v S := by
  obtain ⟨p, vs, e, h1, h2⟩ := h
  exact ⟨p, vs, e, h1.mono m, pmono h2 fun _ _ z => z.mono m⟩
theorem BT.dq {N : Addr → Prop} {H : Hp} {v : V} {b : Blk} (h : BT H v b) : Dq N H v (.tuple (b.map jD)) := by
  obtain ⟨p, vs, rfl, h1, h2⟩ := h
  exact .tup h1 (jats_dqs h2)
theorem bts_dqs {N : Addr → Prop} {H : Hp} : ∀ {rs : List V} {S : Spc}, Paired (BT H) rs S → Dqs N H rs (S.map fun b => .tuple (b.map jD))
  | _, _, .nil => .nil
  | _, _, .cons r t => .cons r.dq (bts_dqs t)
theorem ST.dq {N : Addr → Prop} {H : Hp} {v : V} {S : Spc} (h : ST H v S) : Dq N H v (shutD S) := by
  obtain ⟨p, vs, rfl, h1, h2⟩ := h
  exact .tup h1 (bts_dqs h2)
theorem Good.jok {S : Spc} (h : Good S) {b : Blk} (hb : b ∈ S) : ∀ j ∈ b, Jok S.length j := fun j hj n t e => by
  subst e
  obtain ⟨i, hi⟩ := List.mem_iff_getElem?.mp hb
  obtain ⟨f, hf⟩ := List.mem_iff_getElem?.mp hj
  have g : getJ S i f = some (some (n, t)) := by
    unfold getJ
    rw [hi]
    exact hf
  exact ⟨h.lt g, (h.both _ _ _ _ g).1⟩
theorem ST.face {H : Hp} {v : V} {S : Spc} (h : ST H v S) {b f : Nat} {j : Jn} (e : getJ S b f = some j) : ∃ p rs q vs x, v = .ref p ∧ FT H p rs ∧ rs[b]? = some (.ref q) ∧ FT H q vs ∧ vs[f]? = some x ∧ JAt H x j := by
  obtain ⟨p, rs, rfl, h1, h2⟩ := h
  unfold getJ at e
  cases hs : S[b]? with
  | none =>
    rw [hs] at e
    cases e
  | some y =>
    rw [hs] at e
    obtain ⟨x, g1, q, vs, rfl, g3, g4⟩ := pget h2 hs
    obtain ⟨z, g5, g6⟩ := pget g4 (show y[f]? = some j from e)
    exact ⟨p, rs, q, vs, z, rfl, h1, g1, g3, g5, g6⟩
theorem jD_lay (j : Jn) : (jD j).canLay0 = true ∧ (jD j).depth ≤ 3 := by
  cases j with
  | none => simp [jD, PyData.canLay0, PyData.depth]
  | some k =>
    obtain ⟨n, t⟩ := k
    have h : PyData.canLayAll0 (t.map intD) = true ∧ PyData.depthAll (t.map intD) ≤ 1 := by
      rw [intD_map]
      exact ints_lay _
    have h2 := h.2
    have e : PyData.depth (intD n) = 0 := by simp only [intD, PyData.depth]
    have e2 : PyData.canLay0 (intD n) = true := by simp only [intD, PyData.canLay0]
    constructor
    · simp only [jD, PyData.canLay0, PyData.canLayAll0, e2, h.1, Bool.and_self]
    · have e3 : (jD (some (n, t))).depth = PyData.depth (.tuple [intD n, .tuple (t.map intD)]) := rfl
      rw [e3]
      simp only [PyData.depth, PyData.depthAll, e]
      generalize PyData.depthAll (t.map intD) = z at h2 ⊢
      omega
section
variable {P : Program} {w : World} {K : PySem.W.Frag} {mg : Str → Option Value} {base : Heap}
/-! ### _joining_of -/
abbrev s_joining_of : Stmt := topS 19
abbrev N_joining_of : List Str := ["joining", "many", "other", "turn"]
theorem sc_joining_of : FnScope N_joining_of ["joining", "many"] (defScope s_joining_of) := ⟨rfl, rfl, rfl, by decide +kernel, rfl, by decide +kernel, by decide +kernel⟩
def spJoining : Sp := fun vs H Q _ => ∃ (N : Addr → Prop) (v : V) (d : PyData) (j : Jn) (m : Nat), vs = [v, intV m] ∧ Dq N H v d ∧ norm d = nJ j ∧ Jok m j ∧ ∀ H' v', Same H H' → JAt H' v' j → Q v' H'
theorem ok_joining_of {f fL fB fT : Addr} {fd fdL fdB fdT : FuncData} (F : Fun K "_joining_of" "_joining_of" s_joining_of f fd) (Fis_listed : Fun K "is_listed" "is_listed" sis_listed fL fdL) (gis_listed : mg "is_listed" = some (.ref fL)) (bis_listed : Binds K fdL ["thing"] []) (Gis_listed : FnOk P w K mg base CX0 1 fL fdL ["thing"] spListed)
    (Fis_below : Fun K "is_below" "is_below" sis_below fB fdB) (gis_below : mg "is_below" = some (.ref fB)) (bis_below : Binds K fdB ["thing", "many"] []) (Gis_below : FnOk P w K mg base CX0 2 fB fdB ["thing", "many"] spBelow)
    (Fis_turn : Fun K "is_turn" "is_turn" sis_turn fT fdT) (gis_turn : mg "is_turn" = some (.ref fT)) (bis_turn : Binds K fdT ["thing"] []) (Gis_turn : FnOk P w K mg base CX0 3 fT fdT ["thing"] spTurn)
    (m_len : mg "len" = none) (m_tuple : mg "tuple" = none) : FnOk P w K mg base CX0 4 f fd ["joining", "many"] spJoining := by
  refine F.ok sc_joining_of (fun vs H Q E h => ?_) (fun cdv A outer s H vs Q E hr h => ?_)
  · obtain ⟨N, v, d, j, m, rfl, _⟩ := h
    rfl
  · obtain ⟨N, v, d, j, m, rfl, hd, hn, hj, q⟩ := h
    have nd := sc_joining_of.nd
    refine ⟨_, (pss_cons (ps_if (pt_cmpR op_isN (pv 0) pe_non (nomark _)) (pss_one (ps_ret pe_non)) pss_nil)
      (pss_cons (ps_if (pw_or (pt_not (pt_val (pe_call Gis_listed (hr.mono (by first | decide | omega)) (by rfl) gis_listed Fis_listed.kp bis_listed .nil pass0 (pa_cons (pv 0) pa_nil)))) (pw_or1 (pt_cmpR op_ne (pe_callB (kLen K rfl) (by rfl) m_len (by decide +kernel) (pa_cons (pv 0) pa_nil)) pe_int (nomark _)))).pt (pss_one ps_never) pss_nil)
      (pss_cons (ps_asg (pv 0) (kPgS K rfl (pg_tup (n := 2) rfl (pgs_cons (pg_name (i := 2) nd rfl (.inl rfl)) (pgs_cons (pg_name (i := 3) nd rfl (.inl rfl)) pgs_nil))) (pg_unl (n := 2) rfl (pgs_cons (pg_name (i := 2) nd rfl (.inl rfl)) (pgs_cons (pg_name (i := 3) nd rfl (.inl rfl)) pgs_nil)))))
      (pss_cons (ps_if (pw_or (pt_not (pt_val (pe_call Gis_below (hr.mono (by first | decide | omega)) (by rfl) gis_below Fis_below.kp bis_below .nil pass0 (pa_cons (pv 2) (pa_cons (pv 1) pa_nil))))) (pw_or1 (pt_not (pt_val (pe_call Gis_turn (hr.mono (by first | decide | omega)) (by rfl) gis_turn Fis_turn.kp bis_turn .nil pass0 (pa_cons (pv 3) pa_nil)))))).pt (pss_one ps_never) pss_nil)
      (pss_one (ps_ret (pe_tupF (pa_cons (pv 2) (pa_cons (pe_callTy (kTupleF K rfl) (by rfl) m_tuple (by decide +kernel) (pa_cons (pv 3) pa_nil)) pa_nil))))))))), ?_⟩
    refine ⟨v, rfl, rfl, _, rfl, ?_⟩
    cases j with
    | none =>
      rw [nJ_none] at hn
      have ev := hd.isNon hn
      subst ev
      exact iteT (q H .non (Same.refl H) rfl)
    | some k =>
      obtain ⟨n, t⟩ := k
      obtain ⟨hnm, ht⟩ := hj n t rfl
      rw [nJ_some] at hn
      have sq : isSeqD d = true := by
        cases d <;> first | rfl | (simp only [norm] at hn; cases hn)
      obtain ⟨a, xs, ds, rfl, hq, _, hds, en⟩ := hd.seq (K := K) hn
      obtain ⟨v1, v2, d1, d2, rfl, h1, en1, h2, en2⟩ := hds.pair en
      have e1 := h1.isInt (i := (n : Int)) en1
      subst e1
      refine iteF ?_
      refine ⟨.ref a, rfl, N, .ref a, d, rfl, hd, fun H1 s1 => ?_⟩
      rw [sq]
      have hq1 : SqL K H1 a [V.int (n : Int), v2] ∨ SqT K H1 a [V.int (n : Int), v2] := hq.imp (fun z => s1.seq z) (fun z => s1.sqt z)
      refine ⟨_, rfl, iteF ⟨.ref a, rfl, a, _, rfl, hq1, rfl, _, rfl, iteNS rfl ?_⟩⟩
      refine ⟨.ref a, rfl, a, _, rfl, hq1, rfl, _, _, rfl, _, _, rfl, rfl, ?_⟩
      refine ⟨.int (n : Int), rfl, intV m, rfl, (n : Int), m, rfl, ?_⟩
      rw [decide_eq_true (show (0 : Int) ≤ (n : Int) by omega), decide_eq_true (show (n : Int) < (m : Int) by omega)]
      refine ⟨_, rfl, iteF ⟨v2, rfl, N, v2, d2, t, rfl, h2.same s1, en2, ht, fun H2 s2 => ⟨_, rfl, iteF ?_⟩⟩⟩
      have h22 := h2.same (s1.trans s2)
      obtain ⟨a2, xs2, ds2, rfl, hq2, _, hds2, en3⟩ := h22.seq (K := K) en2
      have ex := hds2.ints en3
      subst ex
      have fin : ∀ H3 p2, Same H2 H3 → FT H3 p2 (trnV t) → [V.int (n : Int), V.ref p2].length ≤ sizeLine ∧ ∀ p o, H3 p = none → o.dict = none → Q (.ref p) (upd H3 p (.frz o (.tup [V.int (n : Int), V.ref p2]))) := fun H3 p2 s3 f3 => by
        refine ⟨Nat.le_of_lt (small1000 (by show 2 ≤ 1000; decide)), fun p o np dn => ?_⟩
        exact q _ _ (((s1.trans s2).trans s3).trans (same_new np)) ⟨p, p2, rfl, FT.new dn, f3.mono (same_new np).tups⟩
      refine ⟨.int (n : Int), rfl, .ref a2, rfl, a2, trnV t, rfl, ?_⟩
      cases h22 with
      | lst g1 g2 g3 =>
        have e := g3.ints (by simpa only [norm, PyData.list.injEq] using en2)
        subst e
        exact .inl ⟨.inl (.inl g1), fun p2 o2 np2 dn2 => fin _ p2 (same_new np2) (FT.new dn2)⟩
      | tup g1 g2 =>
        have e := g2.ints (by simpa only [norm, PyData.list.injEq] using en2)
        subst e
        exact .inr ⟨g1.sqt, fin _ a2 (Same.refl _) g1⟩
/-! ### _block_of -/
abbrev s_block_of : Stmt := topS 18
abbrev N_block_of : List Str := ["faces", "many", "joining"]
theorem sc_block_of : FnScope N_block_of ["faces", "many"] (defScope s_block_of) := ⟨rfl, rfl, rfl, by decide +kernel, rfl, by decide +kernel, by decide +kernel⟩
def spBlockOf : Sp := fun vs H Q _ => ∃ (N : Addr → Prop) (v : V) (d : PyData) (b : Blk) (m : Nat), vs = [v, intV m] ∧ Dq N H v d ∧ norm d = nB b ∧ b.length = 4 ∧ (∀ j ∈ b, Jok m j) ∧ ∀ H' v', Same H H' → BT H' v' b → Q v' H'
theorem ok_block_of {f fL fJ : Addr} {fd fdL fdJ : FuncData} (F : Fun K "_block_of" "_block_of" s_block_of f fd) (Fis_listed : Fun K "is_listed" "is_listed" sis_listed fL fdL) (gis_listed : mg "is_listed" = some (.ref fL)) (bis_listed : Binds K fdL ["thing"] []) (Gis_listed : FnOk P w K mg base CX0 1 fL fdL ["thing"] spListed)
    (F_joining_of : Fun K "_joining_of" "_joining_of" s_joining_of fJ fdJ) (g_joining_of : mg "_joining_of" = some (.ref fJ)) (b_joining_of : Binds K fdJ ["joining", "many"] []) (G_joining_of : FnOk P w K mg base CX0 4 fJ fdJ ["joining", "many"] spJoining)
    (m_len : mg "len" = none) (m_tuple : mg "tuple" = none) : FnOk P w K mg base CX0 5 f fd ["faces", "many"] spBlockOf := by
  refine F.ok sc_block_of (fun vs H Q E h => ?_) (fun cdv A outer s H vs Q E hr h => ?_)
  · obtain ⟨N, v, d, b, m, rfl, _⟩ := h
    rfl
  · obtain ⟨N, v, d, b, m, rfl, hd, hn, h4, hj, q⟩ := h
    have nd := sc_block_of.nd
    refine ⟨_, (pss_cons (ps_if (pw_or (pt_not (pt_val (pe_call Gis_listed (hr.mono (by first | decide | omega)) (by rfl) gis_listed Fis_listed.kp bis_listed .nil pass0 (pa_cons (pv 0) pa_nil)))) (pw_or1 (pt_cmpR op_ne (pe_callB (kLen K rfl) (by rfl) m_len (by decide +kernel) (pa_cons (pv 0) pa_nil)) pe_int (nomark _)))).pt (pss_one ps_never) pss_nil)
      (pss_one (ps_ret (pe_callTy (kTupleF K rfl) (by rfl) m_tuple (by decide +kernel) (pa_cons (pe_lc (own := [("joining", 2)]) (g := gName 2) (tt := tYes) rfl nd (kPiS K rfl (pv 0)) (blkOk_by (own := [("joining", 2)]) (N := N_block_of) (sc := defScope s_block_of) (by decide +kernel)) (fun _ _ _ _ _ => (pg_name (i := 2) nd rfl (Or.inl rfl))) (fun _ _ _ _ _ => pts_nil) (fun _ _ _ _ _ => (pe_call G_joining_of (hr.mono (by first | decide | omega)) (by rfl) g_joining_of F_joining_of.kp b_joining_of .nil pass0 (pa_cons (pv 2) (pa_cons (pv 1) pa_nil))))) pa_nil))))), ?_⟩
    have sq : isSeqD d = true := by
      cases d <;> first | rfl | (simp only [norm, nB] at hn; cases hn)
    obtain ⟨a, xs, ds, rfl, hq, _, hds, en⟩ := hd.seq (K := K) hn
    have lx : xs.length = 4 := by rw [hds.len, norm_len en, h4]
    refine ⟨.ref a, rfl, N, .ref a, d, rfl, hd, fun H1 s1 => ?_⟩
    rw [sq]
    have hq1 : SqL K H1 a xs ∨ SqT K H1 a xs := hq.imp (fun z => s1.seq z) (fun z => s1.sqt z)
    refine ⟨_, rfl, iteF ⟨.ref a, rfl, a, _, rfl, hq1, rfl, _, rfl, iteNS (by rw [lx]; rfl) ?_⟩⟩
    refine ⟨.ref a, rfl, a, xs, rfl, hq1, fun J C hJ hC => ?_⟩
    intro D nD
    refine lc_seq (xs := xs) hJ (fun i H2 => ∃ ws, H2 D = some (.lst ws) ∧ Paired (JAt H2) ws (b.take i) ∧ Same H1 H2) ⟨[], upd_same, .nil, same_new nD⟩ ?_ ?_ ?_
    · rintro i H2 ⟨ws, h2, t2, s2⟩
      exact SeqIt.mono K hJ (fun o e => s2 _ _ e) hC
    · rintro i x H2 hx ⟨ws, h2, t2, s2⟩
      obtain ⟨di, hdi, hxi⟩ := hds.get hx
      obtain ⟨j, hji, ej⟩ := norm_at en hdi
      refine ⟨rfl, x, rfl, intV m, rfl, N, x, di, j, m, rfl, hxi.same (s1.trans s2), ej, hj j (List.mem_of_getElem? hji), fun H3 v3 s3 j3 => ?_⟩
      have h3 := s3 _ _ h2
      refine ⟨ws, h3, small1000 (by rw [plen t2, List.length_take]; omega), ws ++ [v3], upd_same, ?_, same_fill (s2.trans s3) nD⟩
      rw [List.take_add_one, hji]
      exact papp (pmono t2 fun _ _ z => z.mono (s3.tups.trans (tups_set h3))) (.cons (j3.mono (tups_set h3)) .nil)
    · rintro H2 ⟨ws, h2, t2, s2⟩
      rw [lx, ← h4, List.take_length] at t2
      refine ⟨D, ws, rfl, .inl ⟨.inl (.inl h2), fun p o np dn => ?_⟩⟩
      exact q _ _ ((s1.trans s2).trans (same_new np)) ⟨p, ws, rfl, FT.new dn, pmono t2 fun _ _ z => z.mono (same_new np).tups⟩
end
end Bk

namespace Bk
open PySem PySem.Spec PyProof.Rows L2
local macro_rules | `(tactic| walk_at "g") => `(tactic| (repeat first | refine ⟨_, rfl, ?_⟩ | refine ⟨cpow, ?_⟩ | refine ⟨wideM, ?_⟩ | refine ⟨_, _, rfl, rfl, ?_⟩ | refine ⟨rfl, ?_⟩))
theorem jD_shaped (j : Jn) : SeqAt.shaped (jD j) = true := by
  obtain ⟨h1, h2⟩ := jD_lay j
  show ((jD j).canLay0 && decide ((jD j).depth ≤ 64)) = true
  rw [h1, decide_eq_true (by omega)]
  rfl
theorem tints_shaped (ns : List Int) : SeqAt.shaped (.tuple (ns.map PyData.int)) = true := by
  have h := ints_lay ns
  have h2 : PyData.depth (.tuple (ns.map PyData.int)) ≤ 64 := by
    simp only [PyData.depth]
    omega
  show (PyData.canLay0 (.tuple (ns.map PyData.int)) && decide (PyData.depth (.tuple (ns.map PyData.int)) ≤ 64)) = true
  rw [Bool.and_eq_true]
  exact ⟨by simp only [PyData.canLay0]; exact h.1, decide_eq_true h2⟩
theorem pair_eqv (a b c d : Nat) : PyData.eqv (.tuple [intD a, intD b]) (.tuple [intD c, intD d]) = decide ((a, b) = (c, d)) := by
  have e : PyData.eqv (.tuple [intD a, intD b]) (.tuple [intD c, intD d]) = (((a : Int) == (c : Int)) && (((b : Int) == (d : Int)) && true)) := by simp only [intD, PyData.eqv, PyData.eqvAll]
  rw [e]
  by_cases h : ((a, b) : Nat × Nat) = (c, d)
  · injection h with h1 h2
    subst h1 h2
    simp
  · rw [decide_eq_false h]
    by_cases h1 : a = c
    · have h2 : b ≠ d := fun z => h (by rw [h1, z])
      rw [show ((b : Int) == (d : Int)) = false from beq_eq_false_iff_ne.mpr (by omega)]
      simp
    · rw [show ((a : Int) == (c : Int)) = false from beq_eq_false_iff_ne.mpr (by omega)]
      simp
section
variable {P : Program} {w : World} {K : PySem.W.Frag} {mg : Str → Option Value} {base : Heap}
/-! ### _goes_both_ways -/
abbrev s_goes_both_ways : Stmt := topS 20
abbrev N_goes_both_ways : List Str := ["space", "block", "face", "joining", "other", "turn", "across"]
theorem sc_goes_both_ways : FnScope N_goes_both_ways ["space", "block", "face"] (defScope s_goes_both_ways) := ⟨rfl, rfl, rfl, by decide +kernel, rfl, by decide +kernel, by decide +kernel⟩
def spGoes : Sp := fun vs H Q _ => ∃ (v : V) (S : Spc) (b f : Nat), vs = [v, intV b, intV f] ∧ ST H v S ∧ Good S ∧ b < S.length ∧ f < 4 ∧ ∀ H', Same H H' → Q (.bl true) H'
theorem ok_goes_both_ways {f fC : Addr} {fd fdC : FuncData} (F : Fun K "_goes_both_ways" "_goes_both_ways" s_goes_both_ways f fd) (Fcontrary : Fun K "contrary" "contrary" scontrary fC fdC) (gcontrary : mg "contrary" = some (.ref fC)) (bcontrary : Binds K fdC ["turn"] [])
    (Gcontrary : FnOk P w K mg base CX0 1 fC fdC ["turn"] spBack) : FnOk P w K mg base CX0 2 f fd ["space", "block", "face"] spGoes := by
  refine F.ok sc_goes_both_ways (fun vs H Q E h => ?_) (fun cdv A outer s H vs Q E hr h => ?_)
  · obtain ⟨v, S, b, f, rfl, _⟩ := h
    rfl
  · obtain ⟨v, S, b, f, rfl, hv, hG, hb, hf, q⟩ := h
    have nd := sc_goes_both_ways.nd
    refine ⟨_, (pss_cons (ps_set (i := 3) nd rfl (.inl rfl) (pe_ix (kIxT K rfl) (pe_ix (kIxT K rfl) (pv 0) (pv 1) (fun _ _ => rfl)) (pv 2) (fun _ _ => rfl)))
      (pss_cons (ps_if (pt_cmpR op_isN (pv 3) pe_non (nomark _)) (pss_one (ps_ret pe_bl)) pss_nil)
      (pss_cons (ps_asg (pv 3) (kPgT K rfl (pg_tup (n := 2) rfl (pgs_cons (pg_name (i := 4) nd rfl (.inl rfl)) (pgs_cons (pg_name (i := 5) nd rfl (.inl rfl)) pgs_nil)))))
      (pss_cons (ps_set (i := 6) nd rfl (.inl rfl) (pe_ix (kIxT K rfl) (pv 5) (pv 2) (fun _ _ => rfl)))
      (pss_cons (ps_if (pt_cmpR (kEqD K rfl hr.units) (pe_tupF (pa_cons (pv 4) (pa_cons (pv 6) pa_nil))) (pe_tupF (pa_cons (pv 1) (pa_cons (pv 2) pa_nil))) (nomark _)) (pss_one (ps_ret pe_bl)) pss_nil)
      (pss_one (ps_ret (pe_cmpR (kEqD K rfl hr.units) (pe_ix (kIxT K rfl) (pe_ix (kIxT K rfl) (pv 0) (pv 4) (fun _ _ => rfl)) (pv 6) (fun _ _ => rfl)) (pe_tupF (pa_cons (pv 1) (pa_cons (pe_call Gcontrary (hr.mono (by first | decide | omega)) (by rfl) gcontrary Fcontrary.kp bcontrary .nil pass0 (pa_cons (pv 5) pa_nil)) pa_nil))) (nomark _))))))))), ?_⟩
    obtain ⟨j, hj⟩ := hG.l4.get hb hf
    obtain ⟨p, rs, pb, vb, x, rfl, f1, g1, f2, g2, jx⟩ := hv.face hj
    refine ⟨.ref p, rfl, intV b, rfl, p, rs, b, .ref pb, rfl, rfl, f1.sqt, atI_nat g1, intV f, rfl, pb, vb, f, x, rfl, rfl, f2.sqt, atI_nat g2, ?_⟩
    refine ⟨x, rfl, rfl, ?_⟩
    rw [jx.isN]
    refine ⟨_, rfl, ?_⟩
    cases j with
    | none => exact iteT (q H (Same.refl H))
    | some k =>
      obtain ⟨n, t⟩ := k
      obtain ⟨ht, hne, hbk⟩ := hG.both _ _ _ _ hj
      have htf := tf_lt t ht f hf
      obtain ⟨pj, pq, rfl, f3, f4⟩ := jx
      refine iteF ?_
      refine ⟨.ref pj, rfl, pj, _, rfl, f3.sqt, rfl, _, _, rfl, _, _, rfl, rfl, ?_⟩
      refine ⟨.ref pq, rfl, intV f, rfl, pq, trnV t, f, intV (tf t f), rfl, rfl, f4.sqt, atI_nat (by unfold trnV; rw [List.getElem?_map, htf.2]; rfl), ?_⟩
      refine ⟨intV n, rfl, intV (tf t f), rfl, Nat.le_of_lt (small1000 (by show 2 ≤ 1000; decide)), fun p1 o1 np1 dn1 => ?_⟩
      have s1 : Same H (upd H p1 (.frz o1 (.tup [intV n, intV (tf t f)]))) := same_new np1
      have ft1 : FT (upd H p1 (.frz o1 (.tup [intV n, intV (tf t f)]))) p1 [intV n, intV (tf t f)] := FT.new dn1
      generalize upd H p1 (.frz o1 (.tup [intV n, intV (tf t f)])) = H1 at s1 ft1 ⊢
      refine ⟨intV b, rfl, intV f, rfl, Nat.le_of_lt (small1000 (by show 2 ≤ 1000; decide)), fun p2 o2 np2 dn2 => ?_⟩
      have s2 : Same H1 (upd H1 p2 (.frz o2 (.tup [intV b, intV f]))) := same_new np2
      have ft2 : FT (upd H1 p2 (.frz o2 (.tup [intV b, intV f]))) p2 [intV b, intV f] := FT.new dn2
      generalize upd H1 p2 (.frz o2 (.tup [intV b, intV f])) = H2 at s2 ft2 ⊢
      refine ⟨.tuple [intD n, intD (tf t f)], .tuple [intD b, intD f], .tup (ft1.mono s2.tups).sqt (.cons (.int _) (.cons (.int _) .nil)), .tup ft2.sqt (.cons (.int _) (.cons (.int _) .nil)), tints_shaped [n, tf t f], tints_shaped [b, f], ?_⟩
      rw [pair_eqv, decide_eq_false hne]
      refine ⟨_, rfl, iteF ?_⟩
      have s12 := s1.trans s2
      have hv2 : ST H2 (.ref p) S := hv.mono s12.tups
      obtain ⟨p', rs', pn, vn, x2, ep, f5, g3, f6, g4, jx2⟩ := hv2.face hbk
      cases ep
      refine ⟨.ref p, rfl, intV n, rfl, p, rs', n, .ref pn, rfl, rfl, f5.sqt, atI_nat g3, intV (tf t f), rfl, pn, vn, (tf t f : Nat), x2, rfl, rfl, f6.sqt, atI_nat g4, ?_⟩
      refine ⟨intV b, rfl, .ref pq, rfl, .ref pq, t, rfl, ⟨pq, rfl, f4.mono s12.tups⟩, ht, fun H3 p3 s3 n3 T3 => ⟨Nat.le_of_lt (small1000 (by show 2 ≤ 1000; decide)), fun p4 o4 np4 dn4 => ?_⟩⟩
      obtain ⟨p3', e3, T3⟩ := T3
      cases e3
      have s4 : Same H3 (upd H3 p4 (.frz o4 (.tup [intV b, .ref p3]))) := same_new np4
      have j4 : JAt (upd H3 p4 (.frz o4 (.tup [intV b, .ref p3]))) (.ref p4) (some (b, back t)) := ⟨p4, p3, rfl, FT.new dn4, T3.mono s4.tups⟩
      have j5 := jx2.mono (s3.trans s4).tups
      refine ⟨jD (some (b, back t)), jD (some (b, back t)), (j5.dq (N := fun _ => False)).dp, (j4.dq (N := fun _ => False)).dp, jD_shaped _, jD_shaped _, ?_⟩
      rw [SeqAt.eqv_refl _ (jD_lay _).1]
      exact q _ ((s12.trans s3).trans s4)
/-! ### space_of -/
abbrev sspace_of : Stmt := topS 17
abbrev Nspace_of : List Str := ["blocks", "space", "block", "face", "faces"]
theorem scspace_of : FnScope Nspace_of ["blocks"] (defScope sspace_of) := ⟨rfl, rfl, rfl, by decide +kernel, rfl, by decide +kernel, by decide +kernel⟩
def spSpace : Sp := fun vs H Q _ => ∃ (N : Addr → Prop) (v : V) (d : PyData) (S : Spc), vs = [v] ∧ Dq N H v d ∧ norm d = nS S ∧ Good S ∧ 1 ≤ S.length ∧ S.length ≤ 100 ∧ ∀ H' v', Same H H' → ST H' v' S → Q v' H'
theorem okspace_of {f fL fB fG : Addr} {fd fdL fdB fdG : FuncData} (F : Fun K "space_of" "space_of" sspace_of f fd) (Fis_listed : Fun K "is_listed" "is_listed" sis_listed fL fdL) (gis_listed : mg "is_listed" = some (.ref fL)) (bis_listed : Binds K fdL ["thing"] []) (Gis_listed : FnOk P w K mg base CX0 1 fL fdL ["thing"] spListed)
    (F_block_of : Fun K "_block_of" "_block_of" s_block_of fB fdB) (g_block_of : mg "_block_of" = some (.ref fB)) (b_block_of : Binds K fdB ["faces", "many"] []) (G_block_of : FnOk P w K mg base CX0 5 fB fdB ["faces", "many"] spBlockOf)
    (F_goes_both_ways : Fun K "_goes_both_ways" "_goes_both_ways" s_goes_both_ways fG fdG) (g_goes_both_ways : mg "_goes_both_ways" = some (.ref fG)) (b_goes_both_ways : Binds K fdG ["space", "block", "face"] []) (G_goes_both_ways : FnOk P w K mg base CX0 2 fG fdG ["space", "block", "face"] spGoes)
    (m_len : mg "len" = none) (m_tuple : mg "tuple" = none) (m_range : mg "range" = none) : FnOk P w K mg base CX0 6 f fd ["blocks"] spSpace := by
  refine F.ok scspace_of (fun vs H Q E h => ?_) (fun cdv A outer s H vs Q E hr h => ?_)
  · obtain ⟨N, v, d, S, rfl, _⟩ := h
    rfl
  · obtain ⟨N, v, d, S, rfl, hd, hn, hG, hl1, hl2, q⟩ := h
    have nd := scspace_of.nd
    refine ⟨_, (pss_cons (ps_if (pw_or (pt_not (pt_val (pe_call Gis_listed (hr.mono (by first | decide | omega)) (by rfl) gis_listed Fis_listed.kp bis_listed .nil pass0 (pa_cons (pv 0) pa_nil)))) (pw_or1 (pt_not (pt_truth (pv 0) (by intro _; rfl))))).pt (pss_one ps_never) pss_nil)
      (pss_cons (ps_set (i := 1) nd rfl (.inl rfl) (pe_callTy (kTupleF K rfl) (by rfl) m_tuple (by decide +kernel) (pa_cons (pe_lc (own := [("faces", 4)]) (g := gName 4) (tt := tYes) rfl nd (kPiS K rfl (pv 0)) (blkOk_by (own := [("faces", 4)]) (N := Nspace_of) (sc := defScope sspace_of) (by decide +kernel)) (fun _ _ _ _ _ => (pg_name (i := 4) nd rfl (Or.inl rfl))) (fun _ _ _ _ _ => pts_nil) (fun _ _ _ _ _ => (pe_call G_block_of (hr.mono (by first | decide | omega)) (by rfl) g_block_of F_block_of.kp b_block_of .nil pass0 (pa_cons (pv 4) (pa_cons (pe_callB (kLen K rfl) (by rfl) m_len (by decide +kernel) (pa_cons (pv 0) pa_nil)) pa_nil))))) pa_nil)))
      (pss_cons (ps_for PassesOwn.never rfl (pi_range1 (by rfl) m_range (pa_cons (pe_callB (kLen K rfl) (by rfl) m_len (by decide +kernel) (pa_cons (pv 1) pa_nil)) pa_nil)) (pg_name (i := 2) nd rfl (.inl rfl)) (pss_one (ps_for PassesOwn.never rfl (pi_range1 (by rfl) m_range (pa_cons pe_int pa_nil)) (pg_name (i := 3) nd rfl (.inl rfl)) (pss_one (ps_if (pt_not (pt_val (pe_call G_goes_both_ways (hr.mono (by first | decide | omega)) (by rfl) g_goes_both_ways F_goes_both_ways.kp b_goes_both_ways .nil pass0 (pa_cons (pv 1) (pa_cons (pv 2) (pa_cons (pv 3) pa_nil)))))) (pss_one ps_never) pss_nil)))))
      (pss_one (ps_ret (pv 1)))))), ?_⟩
    have sq : isSeqD d = true := by
      cases d <;> first | rfl | (simp only [norm, nS] at hn; cases hn)
    obtain ⟨a, xs, ds, rfl, hq, _, hds, en⟩ := hd.seq (K := K) hn
    have lx : xs.length = S.length := by rw [hds.len, norm_len en]
    have xe : xs.isEmpty = false := by
      cases xs with
      | nil =>
        have : 0 = S.length := lx
        omega
      | cons x r => rfl
    refine ⟨.ref a, rfl, N, .ref a, d, rfl, hd, fun H1 s1 => ?_⟩
    rw [sq]
    have hq1 : SqL K H1 a xs ∨ SqT K H1 a xs := hq.imp (fun z => s1.seq z) (fun z => s1.sqt z)
    have tru : TruV K (.ref a) H1 true := by
      rcases hq1 with z | z
      · exact .inl ⟨xs, z, by rw [xe]; rfl⟩
      · exact .inr (.inl ⟨xs, z, by rw [xe]; rfl⟩)
    refine ⟨_, rfl, iteF ⟨.ref a, rfl, true, tru, iteF ?_⟩⟩
    refine ⟨.ref a, rfl, a, xs, rfl, hq1, fun J C hJ hC => ?_⟩
    intro D nD
    refine lc_seq (xs := xs) hJ (fun i H2 => ∃ ws, H2 D = some (.lst ws) ∧ Paired (BT H2) ws (S.take i) ∧ Same H1 H2) ⟨[], upd_same, .nil, same_new nD⟩ ?_ ?_ ?_
    · rintro i H2 ⟨ws, h2, t2, s2⟩
      exact SeqIt.mono K hJ (fun o e => s2 _ _ e) hC
    · rintro i x H2 hx ⟨ws, h2, t2, s2⟩
      obtain ⟨di, hdi, hxi⟩ := hds.get hx
      obtain ⟨b, hbi, eb⟩ := norm_at en hdi
      have hbm := List.mem_of_getElem? hbi
      have hi : i < S.length := (List.getElem?_eq_some_iff.mp hbi).1
      refine ⟨rfl, x, rfl, .ref a, rfl, a, xs, rfl, hq1.imp (fun z => s2.seq z) (fun z => s2.sqt z), ?_⟩
      refine ⟨N, x, di, b, S.length, (by rw [lx]; rfl), hxi.same (s1.trans s2), eb, hG.l4 b hbm, hG.jok hbm, fun H3 v3 s3 j3 => ?_⟩
      have h3 := s3 _ _ h2
      refine ⟨ws, h3, small1000 (by rw [plen t2, List.length_take]; omega), ws ++ [v3], upd_same, ?_, same_fill (s2.trans s3) nD⟩
      rw [List.take_add_one, hbi]
      exact papp (pmono t2 fun _ _ z => z.mono (s3.tups.trans (tups_set h3))) (.cons (j3.mono (tups_set h3)) .nil)
    · rintro H2 ⟨ws, h2, t2, s2⟩
      rw [lx, List.take_length] at t2
      refine ⟨D, ws, rfl, .inl ⟨.inl (.inl h2), fun p o np dn => ?_⟩⟩
      have s3 : Same H2 (upd H2 p (.frz o (.tup ws))) := same_new np
      have st : ST (upd H2 p (.frz o (.tup ws))) (.ref p) S := ⟨p, ws, rfl, FT.new dn, pmono t2 fun _ _ z => z.mono s3.tups⟩
      have ftp : FT (upd H2 p (.frz o (.tup ws))) p ws := FT.new dn
      generalize upd H2 p (.frz o (.tup ws)) = H3 at s3 st ftp ⊢
      have s13 := (s1.trans s2).trans s3
      have lw : ws.length = S.length := plen t2
      refine ⟨.ref p, rfl, p, ws, rfl, .inr ftp.sqt, _, rfl, by rw [lw]; omega, by rw [lw]; omega, ?_⟩
      rw [lw, Int.toNat_natCast]
      refine for_range (lo := 0) (n := S.length) (fun b σ H4 => ∃ y2 y3, σ = [some (.ref a), some (.ref p), y2, y3, none] ∧ Same H3 H4) ⟨none, none, rfl, Same.refl _⟩ ?_ ?_
      · rintro b σ H4 hb ⟨y2, y3, rfl, s4⟩
        rw [Int.zero_add]
        refine ⟨4, rfl, by decide, by decide, ?_⟩
        refine for_range (lo := 0) (n := 4) (fun f σ H5 => ∃ y3, σ = [some (.ref a), some (.ref p), some (intV b), y3, none] ∧ Same H3 H5) ⟨y3, rfl, s4⟩ ?_ ?_
        · rintro f σ H5 hf ⟨y3, rfl, s5⟩
          rw [Int.zero_add]
          refine ⟨.ref p, rfl, intV b, rfl, intV f, rfl, .ref p, S, b, f, rfl, st.mono s5.tups, hG, hb, hf, fun H6 s6 => ⟨_, rfl, iteF ?_⟩⟩
          exact ⟨_, rfl, s5.trans s6⟩
        · rintro σ H5 ⟨y3, rfl, s5⟩
          exact ⟨_, _, rfl, s5⟩
      · rintro σ H4 ⟨y2, y3, rfl, s4⟩
        exact ⟨.ref p, rfl, q H4 _ (s13.trans s4) (st.mono s4.tups)⟩
end
end Bk

namespace Bk
open PySem PySem.Spec PyProof.Rows L2
/-! ### defs that show things: no other showing is under way around them -/
section
variable {P : Program} {w : World} {K : PySem.W.Frag} {mg : Str → Option Value} {base : Heap}
structure FnG (P : Program) (w : World) (K : PySem.W.Frag) (mg : Str → Option Value) (base : Heap) (k : Nat) (f : Addr) (fd : FuncData) (ps : List Str) (sp : Sp) : Prop where
  len : ∀ vs H Q E, sp vs H Q E → vs.length = ps.length
  go : ∀ (A : Around) (outer : List Env) (s : Shared) (H : Hp) (args : Args) (us : List Value) (vs : List V) (Q : VK) (E : XK), A.guards = some [] → Room k A → Env0 P w K mg base A outer s H → BindsTo s fd args (ps.zip us) →
    Vals vs us → sp vs H Q E → codeAny (model P w) A (.call (.ref f) args) (CR CX0 outer P w H s Q E) s
theorem fnG_of {x qual : Str} {st : Stmt} {f : Addr} {fd : FuncData} {N ps : List Str} {k : Nat} {sp : Sp} (F : Fun K x qual st f fd) (S : FnScope N ps (defScope st)) (len : ∀ vs H Q E, sp vs H Q E → vs.length = ps.length)
    (body : ∀ (cdv : Value) (A : Around) (outer : List Env) (s : Shared) (H : Hp) (vs : List V) (Q : VK) (E : XK), A.guards = some [] → Room k (A.deeper (envOfC qual (defScope st) s.heap.objs.size f cdv)) → sp vs H Q E →
      ∃ t, PSs (cxOf CX0 P w K mg base N qual (defScope st) f cdv A outer s H E).nox (defBody st) t ∧ t { nx := fun _ H' => Q .non H', rt := Q } (start N vs) H) : FnG P w K mg base (k + 1) f fd ps sp := by
  obtain ⟨oc, od, kV, doc, pm, an, cdv, ct, osl, rfl, lk, hcd⟩ := F.ex
  refine ⟨len, fun A outer s H args us vs Q E hg hr e0 hb r hsp => ?_⟩
  obtain ⟨t, ht, hq⟩ := body cdv A outer s H vs Q E hg (hr.deeper _) hsp
  have up : ∀ b o, base.get? b = some o → s.heap.get? b = some o := fun b o e => (e0.bs b o e).1
  refine Att.call_fn (e0.mod.kin.keeps up) (e0.mod.nolimit.keeps up) lk hcd hr.depth hb ?_ (fun s1 x => ?_) S.co S.gen S.kind
  · rw [List.all_eq_true]
    rintro ⟨n, v⟩ hy
    rcases S.par n (List.of_mem_zip hy).1 with q | q
    · show ((defScope st).names.lookup n == some .local || (defScope st).names.lookup n == some .cell) = true
      rw [q]
      rfl
    · show ((defScope st).names.lookup n == some .local || (defScope st).names.lookup n == some .cell) = true
      rw [q]
      rfl
  · have I := inv_start (CX := CX0) (P := P) (E := E) S hr.hd e0 (len _ _ _ _ hsp) r x
    refine wpAny_mono (ht.nox.run [] s1 (start N vs) H _ I hq) (fun fl s' hs => ?_) fun _ _ z => z
    cases fl with
    | ret u =>
      obtain ⟨v, σ', H', J, rv, z⟩ := hs
      exact ⟨v, H', J.os, J.bare, J.base, J.hok, rv, z⟩
    | next =>
      obtain ⟨σ', H', J, z⟩ := hs
      exact ⟨V.non, H', J.os, J.bare, J.base, J.hok, rfl, z⟩
    | brk =>
      obtain ⟨_, _, _, z⟩ := hs
      exact z.elim
    | cont =>
      obtain ⟨_, _, _, z⟩ := hs
      exact z.elim
/-- the same called within another -/
theorem FnG.ok {k : Nat} {f : Addr} {fd : FuncData} {ps : List Str} {sp : Sp} (F : FnOk P w K mg base CX0 k f fd ps sp) : FnG P w K mg base k f fd ps sp := ⟨F.len, fun A outer s H args us vs Q E _ => F.run A outer s H args us vs Q E⟩
/-! ### repr of data -/
def rRepr : List V → Hp → VK → Prop := fun xs H Q => ∃ N v d es, xs = [v] ∧ Dq N H v d ∧ norm d = .list es ∧ d.showable = true ∧ d.hasDict = false ∧ d.depth ≤ 60 ∧ d.shown.length ≤ sizeLine ∧ Q (.str d.shown) H
theorem kRepr {X : Cx} {k : Nat} (hr : Room k X.A) (hg : X.A.guards = some []) : CallR X (.builtin "repr") rRepr := by
  rintro pins s σ H _ us Q I r ⟨N, v, d, es, rfl, hd, hn, h1, h2, h3, h4, q⟩
  obtain ⟨u, rfl, rx⟩ := vals1 r
  obtain ⟨as, rd⟩ := Dp.reads I d v u hd.dp rx
  obtain ⟨a, _, _, rfl, _⟩ := hd.seq (K := X.K) hn
  cases rx
  have hu := hr.units
  exact repr_of_reads' rd h1 (fun z => by rw [h2] at z; cases z) hg (by omega) (fun _ _ e => e) (fun h' t tk hk => ⟨.str d.shown, H, I.kept hk, ⟨t, rfl⟩, q⟩) h4
/-! ### the law called -/
/-- the heap ahead of the law's call: at most the script is told -/
theorem go_law {mb : Str → Option Value} {k : Nat} {fa a : Addr} {fd : FuncData} {x : Str} {sp : Sp} {s₁ : Shared} {vs : List Value} {ns : List Int}
    (KX : K.In s₁.heap) (h1 : s₁.heap.Ns mainGlobals mg) (h2 : s₁.heap.Ns builtinsNs mb) (h3 : ∀ x : Str, x ≠ "__name__" → mb x = bootBuiltins x) (h4 : s₁.heap.NoLimit) (h5 : s₁.gens = #[])
    (ha : s₁.heap.get? a = some { cls := .type "list", data := .seq vs.toArray }) (hi : IntsAre vs ns) (hl : ns.length ≤ sizeLine) (hr : Room k callerA)
    (F : ∀ base : Heap, K.In base → base.Ns mainGlobals mg → FnG P w K mg base k fa fd [x] sp) (hb : ∀ (s : Shared) (u : Value), BindsTo s fd ⟨[u], []⟩ [(x, u)])
    (hsp : ∀ H : Hp, Only H → SqL K H a (ns.map V.int) → sp [.ref a] H (fun v _ => v = .bl true) fun _ _ _ => False) :
    codeAny (model P w) callerA (.call (.ref fa) ⟨[.ref a], []⟩) (fun r s' => r = .ok (.ret (.bool true)) ∧ OldK s₁.heap s'.heap ∧ s'.os = s₁.os ∧ AllBare s'.gens) s₁ := by
  have rv := vals_ints hi
  have start : ∀ H : Hp, Only H → SqL K H a (ns.map V.int) → HOk P w H s₁.heap → (∀ b u, H b = some u → b = a ∧ K.lookup a = none) →
      codeAny (model P w) callerA (.call (.ref fa) ⟨[.ref a], []⟩) (fun r s' => r = .ok (.ret (.bool true)) ∧ OldK s₁.heap s'.heap ∧ s'.os = s₁.os ∧ AllBare s'.gens) s₁ := by
    intro H only hS ok told
    have none_at : ∀ {b : Addr} {o : Obj}, s₁.heap.get? b = some o → (b = a → K.lookup a = none → False) → (hidT s₁.heap H).get? b = some o := fun {b o} e n => hidT_get e (by
      cases z : H b with
      | none => rfl
      | some u => exact (n (told b u z).1 (told b u z).2).elim)
    have dicts : ∀ {b : Addr} {m : Str → Option Value}, s₁.heap.Ns b m → (hidT s₁.heap H).Ns b m := fun {b m} ⟨o, es, ep, e, d, r⟩ => ⟨o, es, ep, none_at e (fun z _ => by
      subst z
      rw [ha] at e
      cases e
      have d' : Data.seq vs.toArray _ = Data.dict es ep := d
      cases d'), d, r⟩
    have kb : K.In (hidT s₁.heap H) := fun b o e => none_at (KX b o e) fun z n => by
      subst z
      rw [n] at e
      cases e
    have md : Mod K mg (hidT s₁.heap H) := ⟨kb, dicts h1, ⟨mb, dicts h2, h3⟩, let ⟨mc, z1, z2⟩ := h4; ⟨mc, dicts z1, z2⟩⟩
    have e0 : Env0 P w K mg (hidT s₁.heap H) callerA [] s₁ H := ⟨rfl, md, fun b o e => of_hidT e, Nat.le_of_eq (hidT_size _ _), trivial, fun b z => (by cases z), ok, .of_eq h5⟩
    refine codeAny_mono ((F _ kb (dicts h1)).go callerA [] s₁ H ⟨[.ref a], []⟩ [.ref a] [.ref a] _ _ rfl hr e0 (hb s₁ (.ref a)) (.cons rfl .nil) (hsp H only hS)) fun r s' h => ?_
    match r, h with
    | .ok (.ret u), h =>
      obtain ⟨v, H', os, bare, un, ok', r', q⟩ := h
      obtain rfl : v = .bl true := q
      obtain rfl : u = Value.bool true := r'
      refine ⟨rfl, OldK.of_keep fun b o e => ?_, os, bare⟩
      cases z : H b with
      | none => exact un.keep b o e z (fun z => by cases z) (by simp)
      | some u =>
        obtain y | ⟨ob, xs, y⟩ := only b
        · rw [z] at y
          cases y
        · have c1 := (ok b _ y).1
          rw [e] at c1
          cases c1
          exact (ok' b _ (un.frzs b _ _ y)).1
  cases hk : K.lookup a with
  | some o =>
    have e := KX a o hk
    rw [ha] at e
    cases e
    have hn := hi.length
    exact start (fun _ => none) (fun _ => .inl rfl) (.inr ⟨_, vs.toArray, _, hk, rfl, rfl, rfl, by rw [List.size_toArray, hn]; exact hl, by simpa using rv⟩) (fun b u z => by cases z) fun b u z => by cases z
  | none =>
    let ob : Obj := { cls := .type "list", data := .seq vs.toArray }
    have at_ : ∀ b u, (fun b => if b = a then some (HO.frz ob (.lst (ns.map V.int))) else none) b = some u → b = a ∧ u = HO.frz ob (.lst (ns.map V.int)) := fun b u z => by
      by_cases c : b = a
      · exact ⟨c, (Option.some.inj ((if_pos c).symm.trans z)).symm⟩
      · cases (if_neg c).symm.trans z
    refine start (fun b => if b = a then some (HO.frz ob (.lst (ns.map V.int))) else none) (fun b => ?_) (.inl (.inr ⟨ob, if_pos rfl⟩)) (fun b u z => ?_) fun b u z => ⟨(at_ b u z).1, hk⟩
    · by_cases c : b = a
      · exact .inr ⟨_, _, if_pos c⟩
      · exact .inl (if_neg c)
    · obtain ⟨rfl, rfl⟩ := at_ b u z
      exact ⟨ha, by rw [List.length_map]; exact hl, vs, _, rv, ha⟩
end
theorem walk_G {l : PySem.W.OpenLaw} {n k : Nat} {q : Program} {loose : List Str} {XP : (Str → Option Value) → Heap → Prop} {YP : World → Heap → Prop} {d : DefRec} {K : Params → PySem.W.Frag} {sp : PySem.W.Frag → Sp} {x : Str}
    (hn : l.most = some n) (hn2 : n ≤ sizeLine) (hdf : d.params.defaults = []) (hr : Room k callerA) (hY : ∀ (w : World) (h : Heap), YP w h → (K w.params).In h)
    (F : ∀ (w : World) (mg : Str → Option Value) (fa : Addr) (h : Heap), (K w.params).In h → h.Ns mainGlobals mg → mg d.name = some (.ref fa) →
      ∃ fd : FuncData, (∀ (s : Shared) (u : Value), BindsTo s fd ⟨[u], []⟩ [(x, u)]) ∧ ∀ base : Heap, (K w.params).In base → base.Ns mainGlobals mg → FnG l.prog w (K w.params) mg base k fa fd [x] (sp (K w.params)))
    (hsp : ∀ (K : PySem.W.Frag) (H : Hp) (a : Addr) (ns : List Int), ns.length ≤ n → Only H → SqL K H a (ns.map V.int) → sp K [.ref a] H (fun v _ => v = .bl true) fun _ _ _ => False) :
    PySem.W.WalkO q loose XP YP l.row.toRowW d [] (fun f vs => PySem.call f vs) := by
  refine Att.attach_call hn hdf fun w s₀ s₁ mg mb fa o pm cd doc a vs ns G Y ho hd hcd hmg hobj hints hlen hg => ?_
  obtain ⟨fd, hb, hF⟩ := F w mg fa _ (hY w _ Y) G.T.g hmg
  exact go_law (hY w _ Y) G.T.g G.T.b G.T.builtins G.T.nolimit hg hobj hints (Nat.le_trans hlen hn2) hr hF hb fun H z1 z2 => hsp _ H a ns hlen z1 z2
end Bk

namespace Bk
open PySem PySem.Spec PyProof.Rows L2
/-! ### the call of a def that shows things -/
theorem pe_callG {X : Cx} {j : Nat} {a : Addr} {fn : FuncData} {names : List Str} {sq : Sp} {y : Str} {q q' : Pos} {e1 : Expr} {rest : List Expr} {tt : TA}
    (F : FnG X.prog X.w X.K X.mg X.base j a fn names sq) (hg : X.A.guards = some []) (room : Room j X.A) (gl : Gl X y) (at_ : X.mg y = some (.ref a))
    (kp : PySem.W.keepIn X.K (.ref a) = true) (bs : Binds X.K fn names []) (args : PA X (e1 :: rest) tt)
    (nd : (y == ("__debug__" : Str)) = false := by decide)
    (hs : starEach (e1 :: rest) X.env = (false, eval e1 X.env) :: starEach rest X.env := by rfl)
    (hp : (backTo q' (starEach rest X.env)).any (·.1) = false := by rfl) :
    PE X (.Call (.Name y q) (e1 :: rest) [] q') (tCall sq [] E0 tt) := by
  constructor
  intro pins s σ H Q I hq
  refine wpAny_Call_Name_kw (ld_glob I gl at_ ?_ nd)
  have ran := args.run q' pins s σ H _ I hq
  refine PySem.W.callWith_K (h₀ := X.base) I.ok.mod.kin kp (thn ran ?_) hs hp
  rintro us s1 ⟨vs, H1, I1, r, z⟩
  refine ⟨I1.kIn, wpAny_call ?_⟩
  have rr : Vals (vs ++ []) (us ++ []) := r.append Paired.nil
  have len : (us ++ []).length = names.length := (rr.length.symm).trans (F.len _ _ _ _ z)
  have run := F.go X.A X.stack s1 H1 ⟨us, []⟩ (us ++ []) (vs ++ []) Q E0 hg room I1.env0 (bs s1 us I1.kIn len) rr z
  refine codeAny_mono run ?_
  rintro (e | fl) s2 h2
  · exact h2.elim
  · match fl, h2 with
    | .ret u, h2 => exact I1.after h2
end Bk

namespace Bk
open PySem PySem.Spec PyProof.Rows L2 RZ
local macro_rules | `(tactic| walk_at "g") => `(tactic| (repeat first | refine ⟨_, rfl, ?_⟩ | refine ⟨cpow, ?_⟩ | refine ⟨wideM, ?_⟩ | refine ⟨_, _, rfl, rfl, ?_⟩ | refine ⟨rfl, ?_⟩))
/-! ### two walked at once -/
structure ZipIt (a b : Addr) (xs ys : List V) (J : It) (G : Hp → Prop) : Prop where
  walk : Walk J (min xs.length ys.length) G (YPair (fun i => xs[i]?) (fun i => ys[i]?))
  stay : ∀ H H' : Hp, (∀ o, H a = some o → H' a = some o) → (∀ o, H b = some o → H' b = some o) → G H → G H'
theorem sqL_at {K : PySem.W.Frag} {H H' : Hp} {a : Addr} {xs : List V} (m : ∀ o, H a = some o → H' a = some o) (c : SqL K H a xs) : SqL K H' a xs := by
  rcases c with (c | ⟨o, c⟩) | c
  · exact .inl (.inl (m _ c))
  · exact .inl (.inr ⟨o, m _ c⟩)
  · exact .inr c
theorem sqT_at {K : PySem.W.Frag} {H H' : Hp} {a : Addr} {xs : List V} (m : ∀ o, H a = some o → H' a = some o) (c : SqT K H a xs) : SqT K H' a xs := by
  rcases c with (c | ⟨o, c⟩) | c
  · exact .inl (.inl (m _ c))
  · exact .inl (.inr ⟨o, m _ c⟩)
  · exact .inr c
theorem walk_zipT {K : PySem.W.Frag} {a b : Addr} {xs ys : List V} : Walk (ItzT K a b) (min xs.length ys.length) (fun H => SqT K H a xs ∧ SqT K H b ys) (YPair (fun i => xs[i]?) (fun i => ys[i]?)) := by
  refine ⟨fun i _ hi q => ?_, fun _ q => ⟨xs, ys, q.1, q.2, by omega⟩, fun i H v H' _ q y => ?_⟩
  · exact ⟨xs, ys, _, _, q.1, q.2, List.getElem?_eq_getElem (show i < xs.length by omega), List.getElem?_eq_getElem (show i < ys.length by omega)⟩
  · obtain ⟨T, x, z, z1, z2, z3, z4, z5⟩ := y
    exact ⟨T, x, z, z1, z2, z3, z4 xs q.1, z5 ys q.2⟩
def iZipS (K : PySem.W.Frag) (ta : TA) : TI := fun σ H R => ta σ H fun vs H1 => ∃ a b xs ys, vs = [.ref a, .ref b] ∧ ((SqL K H1 a xs ∧ SqL K H1 b ys) ∨ (SqT K H1 a xs ∧ SqT K H1 b ys)) ∧ ∀ J G, ZipIt a b xs ys J G → G H1 → R J H1
/-- what an argument list's reading asks is monotone -/
theorem kPiZ {X : Cx} (K : PySem.W.Frag) {tg l : Expr} {ta : TA} (h : X.K = K) (x : PI X tg l (iZipA X.K ta)) (mono : ∀ σ H (Q Q' : List V → Hp → Prop), ta σ H Q → (∀ vs H', Q vs H' → Q' vs H') → ta σ H Q' := by
    intro σ H Q Q' hq m
    first
      | exact m _ _ hq
      | (obtain ⟨v1, e1, v2, e2, hq⟩ := hq; exact ⟨v1, e1, v2, e2, m _ _ hq⟩)) : PI X tg l (iZipS K ta) := by
  subst h
  refine ⟨fun pins s σ H R I hw => x.run pins s σ H R I (mono σ H _ _ hw fun vs H' hv => ?_)⟩
  obtain ⟨a, b, xs, ys, e, hq, q⟩ := hv
  rcases hq with ⟨q1, q2⟩ | ⟨q1, q2⟩
  · exact ⟨a, b, xs, ys, e, .inl ⟨q1, q2, q _ _ ⟨walk_zip rfl, fun _ _ m1 m2 z => ⟨sqL_at m1 z.1, sqL_at m2 z.2⟩⟩ ⟨q1, q2⟩⟩⟩
  · exact ⟨a, b, xs, ys, e, .inr ⟨q1, q2, q _ _ ⟨walk_zipT, fun _ _ m1 m2 z => ⟨sqT_at m1 z.1, sqT_at m2 z.2⟩⟩ ⟨q1, q2⟩⟩⟩
section
variable {P : Program} {w : World} {K : PySem.W.Frag} {mg : Str → Option Value} {base : Heap}
theorem kit_tuple (d : PyData) : PySem.W.kitOne K (.type (tyD d)) (.type "tuple") = some (tyD d == "tuple") := by
  cases d with
  | none => exact kit_ty (a := "NoneType") (b := "tuple") (show kitB "NoneType" "tuple" = some false by decide +kernel)
  | bool b => exact kit_ty (a := "bool") (b := "tuple") (show kitB "bool" "tuple" = some false by decide +kernel)
  | int i => exact kit_ty (a := "int") (b := "tuple") (show kitB "int" "tuple" = some false by decide +kernel)
  | str x => exact kit_ty (a := "str") (b := "tuple") (show kitB "str" "tuple" = some false by decide +kernel)
  | list ds => exact kit_ty (a := "list") (b := "tuple") (show kitB "list" "tuple" = some false by decide +kernel)
  | tuple ds => exact kit_ty (a := "tuple") (b := "tuple") (show kitB "tuple" "tuple" = some true by decide +kernel)
  | dict k => exact kit_ty (a := "dict") (b := "tuple") (show kitB "dict" "tuple" = some false by decide +kernel)
theorem kit_list (d : PyData) : PySem.W.kitOne K (.type (tyD d)) (.type "list") = some (tyD d == "list") := by
  cases d with
  | none => exact kit_ty (a := "NoneType") (b := "list") (show kitB "NoneType" "list" = some false by decide +kernel)
  | bool b => exact kit_ty (a := "bool") (b := "list") (show kitB "bool" "list" = some false by decide +kernel)
  | int i => exact kit_ty (a := "int") (b := "list") (show kitB "int" "list" = some false by decide +kernel)
  | str x => exact kit_ty (a := "str") (b := "list") (show kitB "str" "list" = some false by decide +kernel)
  | list ds => exact kit_ty (a := "list") (b := "list") (show kitB "list" "list" = some true by decide +kernel)
  | tuple ds => exact kit_ty (a := "tuple") (b := "list") (show kitB "tuple" "list" = some false by decide +kernel)
  | dict k => exact kit_ty (a := "dict") (b := "list") (show kitB "dict" "list" = some false by decide +kernel)
theorem kit_str (d : PyData) : PySem.W.kitOne K (.type (tyD d)) (.type "str") = some (tyD d == "str") := by
  cases d with
  | none => exact kit_ty (a := "NoneType") (b := "str") (show kitB "NoneType" "str" = some false by decide +kernel)
  | bool b => exact kit_ty (a := "bool") (b := "str") (show kitB "bool" "str" = some false by decide +kernel)
  | int i => exact kit_ty (a := "int") (b := "str") (show kitB "int" "str" = some false by decide +kernel)
  | str x => exact kit_ty (a := "str") (b := "str") (show kitB "str" "str" = some true by decide +kernel)
  | list ds => exact kit_ty (a := "list") (b := "str") (show kitB "list" "str" = some false by decide +kernel)
  | tuple ds => exact kit_ty (a := "tuple") (b := "str") (show kitB "tuple" "str" = some false by decide +kernel)
  | dict k => exact kit_ty (a := "dict") (b := "str") (show kitB "dict" "str" = some false by decide +kernel)
theorem or_way {c d : Bool} {A B X : Prop} (h1 : (c || d) = true → A) (hx : (if d = true then A else B) → X) (h2 : (c || d) = false → B) : if c = true then A else X := by
  cases c with
  | true => exact iteT (h1 rfl)
  | false =>
    refine iteF (hx ?_)
    cases d with
    | true => exact iteT (h1 rfl)
    | false => exact iteF (h2 rfl)
theorem seq_ty (d : PyData) : (tyD d == "tuple" || tyD d == "list") = isSeqD d := by
  cases d <;> simp [isSeqD, tyD]
theorem scal_ty (d : PyData) : (tyD d == "bool" || tyD d == "str") = true → (∃ b, d = .bool b) ∨ ∃ x, d = .str x := by
  cases d <;> simp [tyD]
end
end Bk

namespace Bk
open PySem PySem.Spec PyProof.Rows L2 RZ
section
variable {X : Cx} (K : PySem.W.Frag)
def rIxE (K : PySem.W.Frag) : R2 := fun x y H Q => rIxL K x y H Q ∨ rIxT K x y H Q
theorem kIxE (h : X.K = K) : IxR X (rIxE K) := h ▸ ix_list.or ix_tup
def rIndexI (K : PySem.W.Frag) : V → List V → Hp → VK → Prop := fun x xs H Q => ∃ p, ∃ ns : List Int, ∃ k : Int, x = .ref p ∧ xs = [.int k] ∧ SqL K H p (ns.map V.int) ∧ k ∈ ns ∧ ns.length ≤ sizeLine ∧ Q (.int (ns.idxOf k : Nat)) H
theorem kIndexI (h : X.K = K) : MtR X "list.index" (rIndexI K) := by
  subst h
  rintro pins s σ H x xs v us Q I rx rs ⟨p, ns, k, rfl, rfl, hq, hk, hz, q⟩
  cases rx
  obtain ⟨u, rfl, ru⟩ := rs.one
  obtain ⟨t, rfl⟩ := ru
  obtain ⟨its, r, pl, _⟩ := I.list hq
  exact SeqAt.list_index_ints pl.isList (intsAre_of r) hz hk ⟨.int _, H, I.tok _, ⟨_, rfl⟩, q⟩
end
theorem fn_or {P : Program} {w : World} {K : PySem.W.Frag} {mg : Str → Option Value} {base : Heap} {CX : CXT} {k : Nat} {f : Addr} {fd : FuncData} {ps : List Str} {sp sp' : Sp} (F : FnOk P w K mg base CX k f fd ps sp) (G : FnOk P w K mg base CX k f fd ps sp') :
    FnOk P w K mg base CX k f fd ps (fun vs H Q E => sp vs H Q E ∨ sp' vs H Q E) :=
  ⟨fun vs H Q E q => q.elim (F.len vs H Q E) (G.len vs H Q E), fun A outer s H args us vs Q E hr he hb hv hs => hs.elim (F.run A outer s H args us vs Q E hr he hb hv) (G.run A outer s H args us vs Q E hr he hb hv)⟩
theorem turn_of {K : PySem.W.Frag} {N : Addr → Prop} {H : Hp} {v : V} {d : PyData} {t : Trn} (h : Dq N H v d) (e : norm d = .list (t.map intD)) : ∃ a, v = .ref a ∧ (H a = some (.lst (trnV t)) ∨ FT H a (trnV t)) := by
  cases d with
  | list ds =>
    cases h with
    | lst h1 h2 h3 =>
      have := h3.ints (t := t) (by simpa only [norm, PyData.list.injEq] using e)
      subst this
      exact ⟨_, rfl, .inl h1⟩
  | tuple ds =>
    cases h with
    | tup h1 h2 =>
      have := h2.ints (t := t) (by simpa only [norm, PyData.list.injEq] using e)
      subst this
      exact ⟨_, rfl, .inr h1⟩
  | none => simp only [norm] at e; cases e
  | bool b => simp only [norm] at e; cases e
  | int i => simp only [norm] at e; cases e
  | str x => simp only [norm] at e; cases e
  | dict k => simp only [norm] at e; cases e
theorem ixE {K : PySem.W.Frag} {a : Addr} {xs : List V} {i : Int} {v : V} {H : Hp} {Q : VK} (h : H a = some (.lst xs) ∨ FT H a xs) (e : atI xs i = some v) (q : Q v H) : rIxE K (.ref a) (.int i) H Q :=
  h.elim (fun h => .inl ⟨a, xs, i, v, rfl, rfl, .inl (.inl h), e, q⟩) fun h => .inr ⟨a, xs, i, v, rfl, rfl, h.sqt, e, q⟩
theorem tupE {K : PySem.W.Frag} {a : Addr} {xs : List V} {H : Hp} {Q : VK} (h : H a = some (.lst xs) ∨ FT H a xs) (q : ∀ H' b, Same H H' → FT H' b xs → Q (.ref b) H') : rTupleF K [.ref a] H Q :=
  h.elim (fun h => ⟨a, xs, rfl, .inl ⟨.inl (.inl h), fun l o n d => q _ _ (same_new n) (FT.new d)⟩⟩) fun h => ⟨a, xs, rfl, .inr ⟨h.sqt, q _ _ (Same.refl _) h⟩⟩
theorem seq_same {a : Addr} {xs : List V} {H H' : Hp} (h : H a = some (.lst xs) ∨ FT H a xs) (s : Same H H') : H' a = some (.lst xs) ∨ FT H' a xs := h.imp (fun z => s _ _ z) fun z => z.mono s.tups
theorem setJ_comm {S : Spc} {b f n g : Nat} {x y : Jn} (h : (n, g) ≠ (b, f)) : setJ (setJ S n g x) b f y = setJ (setJ S b f y) n g x := by
  unfold setJ
  by_cases e : n = b
  · subst e
    rw [List.modify_modify_eq, List.modify_modify_eq]
    congr 1
    funext l
    exact List.set_comm _ _ (fun z => h (by rw [z]))
  · exact List.modify_modify_ne _ _ _ e
theorem join_sym {S : Spc} {b f n : Nat} {t : Trn} (ht : t ∈ allTurns) (hf : f < 4) (h : (n, tf t f) ≠ (b, f)) : joinJ S n (tf t f) b (back t) = joinJ S b f n t := by
  unfold joinJ
  rw [tf_back t ht f hf, back_back t ht]
  exact setJ_comm h
theorem erase_map {l : List Nat} {i : Nat} : (l.map intV).eraseIdx i = (l.eraseIdx i).map intV := by
  induction l generalizing i with
  | nil => rfl
  | cons x r ih =>
    cases i with
    | zero => rfl
    | succ i =>
      show intV x :: (r.map intV).eraseIdx i = intV x :: (r.eraseIdx i).map intV
      rw [ih]
theorem pop_ix {l : List Nat} {r : Int} (e : (l.map intV).length = l.length) (r0 : 0 ≤ r) (r1 : r < l.length) : seqIndex? r (l.map intV).length = some r.toNat := by
  have := seqIx_nat (n := (l.map intV).length) (k := r.toNat) (by rw [e]; omega)
  rw [Int.toNat_of_nonneg r0] at this
  exact this
theorem turn_dq {H : Hp} {a : Addr} {t : Trn} (h : H a = some (.lst (trnV t)) ∨ FT H a (trnV t)) : ∃ dt, Dq (fun _ => False) H (.ref a) dt ∧ norm dt = .list (t.map intD) := by
  have hn : norms (t.map intD) = t.map intD := by
    rw [norms_map, List.map_map]
    exact List.map_congr_left fun x _ => by simp only [Function.comp, intD, norm]
  rcases h with h | h
  · exact ⟨.list (t.map intD), .lst h (fun z => z) (dqs_ints t), by simp only [norm, hn]⟩
  · exact ⟨.tuple (t.map intD), .tup h (dqs_ints t), by simp only [norm, hn]⟩
theorem norm_turn (t : Trn) : norm (.tuple (t.map intD)) = .list (t.map intD) := by
  have hn : norms (t.map intD) = t.map intD := by
    rw [norms_map, List.map_map]
    exact List.map_congr_left fun x _ => by simp only [Function.comp, intD, norm]
  simp only [norm, hn]
theorem ints_shapedD (t : Trn) : SeqAt.shaped (.list (t.map intD)) = true := by
  rw [intD_map]
  exact ints_shaped _
theorem ints_eqv (t : Trn) : PyData.eqv (.list (t.map intD)) (.list (t.map intD)) = true := by
  refine SeqAt.eqv_refl _ ?_
  simp only [PyData.canLay0]
  induction t with
  | nil => rfl
  | cons x r ih => simpa only [List.map_cons, PyData.canLayAll0, intD, PyData.canLay0, Bool.true_and] using ih
mutual
theorem Dq.strong {N N' : Addr → Prop} {H : Hp} (n : ∀ a, N' a → N a ∨ H a = none) : ∀ {d : PyData} {v : V}, Dq N H v d → Dq N' H v d
  | .none, _, h => by
    cases h
    exact .non
  | .bool b, _, h => by
    cases h
    exact .bl b
  | .int i, _, h => by
    cases h
    exact .int i
  | .str x, _, h => by
    cases h
    exact .str x
  | .list ds, _, h => by
    cases h with
    | lst h1 h2 h3 => exact .lst h1 (fun z => (n _ z).elim h2 fun y => by rw [h1] at y; cases y) (Dqs.strong n h3)
  | .tuple ds, _, h => by
    cases h with
    | tup h1 h2 => exact .tup h1 (Dqs.strong n h2)
  | .dict _, _, h => by cases h
theorem Dqs.strong {N N' : Addr → Prop} {H : Hp} (n : ∀ a, N' a → N a ∨ H a = none) : ∀ {ds : List PyData} {vs : List V}, Dqs N H vs ds → Dqs N' H vs ds
  | [], _, h => by
    cases h
    exact .nil
  | d :: ds, _, h => by
    cases h with
    | cons h1 h2 => exact .cons (Dq.strong n h1) (Dqs.strong n h2)
end
/-- tuples of a space, from its data -/
theorem Dq.st {N : Addr → Prop} {H : Hp} {v : V} {S : Spc} (h : Dq N H v (shutD S)) : ST H v S := by
  have jat : ∀ {v : V} {j : Jn}, Dq N H v (jD j) → JAt H v j := by
    intro v j h
    cases j with
    | none => exact h.isNon (by simp only [jD, norm])
    | some k =>
      obtain ⟨n, t⟩ := k
      cases h with
      | tup g1 g2 =>
        obtain ⟨v1, w1, rfl, g3, g4⟩ := g2.uncons
        obtain ⟨v2, w2, rfl, g5, g6⟩ := g4.uncons
        cases g6
        cases g5 with
        | tup k1 k2 =>
          have e1 := g3.isInt (i := (n : Int)) (by simp only [intD, norm])
          subst e1
          have e2 := k2.ints (t := t) (by
            rw [norms_map, List.map_map]
            exact List.map_congr_left fun x _ => by simp only [Function.comp, intD, norm])
          subst e2
          exact ⟨_, _, rfl, g1, k1⟩
  have jats : ∀ {b : Blk} {vs : List V}, Dqs N H vs (b.map jD) → Paired (JAt H) vs b := by
    intro b
    induction b with
    | nil =>
      intro vs h
      cases h
      exact .nil
    | cons j b ih =>
      intro vs h
      obtain ⟨v, w, rfl, g1, g2⟩ := h.uncons
      exact .cons (jat g1) (ih g2)
  have bts : ∀ {S : Spc} {vs : List V}, Dqs N H vs (S.map fun b => .tuple (b.map jD)) → Paired (BT H) vs S := by
    intro S
    induction S with
    | nil =>
      intro vs h
      cases h
      exact .nil
    | cons b S ih =>
      intro vs h
      obtain ⟨v, w, rfl, g1, g2⟩ := h.uncons
      cases g1 with
      | tup k1 k2 => exact .cons ⟨_, _, rfl, k1, jats k2⟩ (ih g2)
  cases h with
  | tup g1 g2 => exact ⟨_, _, rfl, g1, bts g2⟩

theorem seq_of {a rest : TS} {D : Ends} {σ : L2.St} {H : Hp} (I : L2.St → Hp → Prop) (key : ∀ σ' H', I σ' H' → rest D σ' H') (h : ∀ r : TS, (∀ σ' H', I σ' H' → r D σ' H') → tSeq a r D σ H) : tSeq a rest D σ H := h rest key
/-- either reading of an expression -/
theorem pe_or2 {X : Cx} {e : Expr} {t u : TE} (h : PE X e t) (k : PE X e u) : PE X e (fun σ H Q => t σ H Q ∨ u σ H Q) := ⟨fun pins s σ H Q I q => q.elim (h.run pins s σ H Q I) (k.run pins s σ H Q I)⟩
theorem ixS {K : PySem.W.Frag} {a : Addr} {xs : List V} {i : Int} {v : V} {H : Hp} {Q : VK} (h : SqL K H a xs ∨ SqT K H a xs) (e : atI xs i = some v) (q : Q v H) : rIxE K (.ref a) (.int i) H Q :=
  h.elim (fun h => .inl ⟨a, xs, i, v, rfl, rfl, h, e, q⟩) fun h => .inr ⟨a, xs, i, v, rfl, rfl, h, e, q⟩
def rTupI (K : PySem.W.Frag) : V → List V → Hp → VK → Prop := fun x xs H Q => ∃ p, ∃ ns : List Int, ∃ k : Int, x = .ref p ∧ xs = [.int k] ∧ SqT K H p (ns.map V.int) ∧ k ∈ ns ∧ Q (.int (ns.idxOf k : Nat)) H
theorem kTupIxN {X : Cx} (K : PySem.W.Frag) (h : X.K = K) : MtR X "tuple.index" (rTupI K) := kTupIx K h
/-- o.index(e), o a list or a tuple -/
def tIdxE (K : PySem.W.Frag) (to : TE) (t : TA) : TE := fun σ H Q => tBM K "list" (rIndexI K) to t σ H Q ∨ tBMF (rTupI K) to t σ H Q
theorem pe_idxE {X : Cx} {K : PySem.W.Frag} {e : Expr} {to : TE} {t : TA} (h : PE X e (tBM K "list" (rIndexI K) to t)) (k : PE X e (tBMF (rTupI K) to t)) : PE X e (tIdxE K to t) := pe_or2 h k
theorem intV_map' (t : List Nat) : trnV t = (t.map fun c : Nat => (c : Int)).map V.int := by
  rw [List.map_map]
  rfl
theorem idxE {K : PySem.W.Frag} {to : TE} {t : TA} {σ : L2.St} {H : Hp} {Q : VK} (a : Addr) (o : List Nat) (b : Nat) (h1 : ∀ R : VK, R (.ref a) H → to σ H R) (h2 : ∀ R : List V → Hp → Prop, R [intV b] H → t σ H R)
    (ha : H a = some (.lst (trnV o)) ∨ FT H a (trnV o)) (mb : b ∈ o) (lo : o.length ≤ 1000) (q : Q (intV (o.idxOf b)) H) : tIdxE K to t σ H Q := by
  have mi : (b : Int) ∈ o.map fun c : Nat => (c : Int) := List.mem_map_of_mem mb
  have q' : Q (V.int (((o.map fun c : Nat => (c : Int)).idxOf (b : Int) : Nat) : Int)) H := by
    rw [idx_int]
    exact q
  rcases ha with ha | ha
  · refine .inl (h1 _ ⟨.inl ⟨rfl, _, .inl (.inl ha)⟩, h2 _ ⟨a, o.map (fun c : Nat => (c : Int)), b, rfl, rfl, ?_, mi, Nat.le_of_lt (small1000 (by rw [List.length_map]; exact lo)), q'⟩⟩)
    rw [← intV_map']
    exact .inl (.inl ha)
  · refine .inr (h1 _ ⟨⟨a, _, rfl, ha⟩, h2 _ ⟨a, o.map (fun c : Nat => (c : Int)), b, rfl, rfl, ?_, mi, q'⟩⟩)
    rw [← intV_map']
    exact ha.sqt
/-! ### names: an order, and a turn for each block -/
def nT (t : Trn) : PyData := .list (t.map intD)
def trnsD (ts : List Trn) : PyData := .list (ts.map nT)
/-- one of the turns that stand -/
theorem turns_at {K : PySem.W.Frag} {N : Addr → Prop} {H : Hp} {v : V} {d : PyData} {ts : List Trn} (h : Dq N H v d) (e : norm d = trnsD ts) {k : Nat} {t : Trn} (hk : ts[k]? = some t) :
    ∃ a xs x dx, v = .ref a ∧ (SqL K H a xs ∨ SqT K H a xs) ∧ xs.length = ts.length ∧ xs[k]? = some x ∧ Dq N H x dx ∧ norm dx = nT t := by
  obtain ⟨a, xs, ds, rfl, hq, _, hds, en⟩ := h.seq (K := K) e
  have ld : ds.length = ts.length := norm_len en
  obtain ⟨dx, hd⟩ : ∃ dx, ds[k]? = some dx := ⟨_, List.getElem?_eq_getElem (by have := (List.getElem?_eq_some_iff.mp hk).1; omega)⟩
  obtain ⟨x, hx, hxd⟩ := hds.get' hd
  obtain ⟨t', ht', et⟩ := norm_at en hd
  rw [hk] at ht'
  cases ht'
  exact ⟨a, xs, x, dx, rfl, hq, by rw [hds.len, ld], hx, hxd, et⟩
theorem Good.jokAt {S : Spc} (h : Good S) {b f : Nat} {j : Jn} (e : getJ S b f = some j) : Jok S.length j := fun n t z => by
  subst z
  exact ⟨h.lt e, (h.both _ _ _ _ e).1⟩
def tsAt (ts : List Trn) (k : Nat) : Trn := ts[k]?.getD []
def renJ (o : List Nat) (ts : List Trn) (bk : Trn) : Jn → Jn
  | none => none
  | some (n, t) => some (o.idxOf n, bk.map fun c => tf (tsAt ts (o.idxOf n)) (tf t c))
def renB (S : Spc) (o : List Nat) (ts : List Trn) (k : Nat) : Blk := (back (tsAt ts k)).map fun f => renJ o ts (back (tsAt ts k)) ((getJ S (tf o k) f).getD none)
def renS (S : Spc) (o : List Nat) (ts : List Trn) : Spc := (List.range S.length).map (renB S o ts)
structure Names (n : Nat) (o : List Nat) (ts : List Trn) : Prop where
  o : o.Perm (List.range n)
  l : ts.length = n
  t : ∀ t ∈ ts, t ∈ allTurns
theorem Names.lo {n : Nat} {o : List Nat} {ts : List Trn} (h : Names n o ts) : o.length = n := by rw [h.o.length_eq, List.length_range]
theorem Names.at {n : Nat} {o : List Nat} {ts : List Trn} (h : Names n o ts) {k : Nat} (hk : k < n) : o[k]? = some (tf o k) ∧ tf o k < n ∧ ts[k]? = some (tsAt ts k) ∧ tsAt ts k ∈ allTurns := by
  have e1 : o[k]? = some (o[k]'(by rw [h.lo]; exact hk)) := List.getElem?_eq_getElem _
  have e2 : ts[k]? = some (ts[k]'(by rw [h.l]; exact hk)) := List.getElem?_eq_getElem _
  have m1 := h.o.mem_iff.mp (List.mem_of_getElem? e1)
  rw [List.mem_range] at m1
  refine ⟨?_, ?_, ?_, ?_⟩
  · unfold tf
    rw [e1]
    rfl
  · unfold tf
    rw [e1]
    exact m1
  · unfold tsAt
    rw [e2]
    rfl
  · unfold tsAt
    rw [e2]
    exact h.t _ (List.mem_of_getElem? e2)
theorem Names.idx {n : Nat} {o : List Nat} {ts : List Trn} (h : Names n o ts) {b : Nat} (hb : b < n) : b ∈ o ∧ o.idxOf b < n := by
  have m : b ∈ o := h.o.mem_iff.mpr (List.mem_range.mpr hb)
  exact ⟨m, by rw [← h.lo]; exact List.idxOf_lt_length_iff.mpr m⟩
theorem back4 {t : Trn} (ht : t ∈ allTurns) : (back t).length = 4 ∧ (∀ c < 4, (back t)[c]? = some (tf (back t) c) ∧ tf (back t) c < 4) ∧ ∀ c ∈ back t, c < 4 := by
  have hb := back_mem ht
  have h4 := turns4 _ hb
  exact ⟨h4.1, fun c hc => ⟨(tf_lt _ hb c hc).2, (tf_lt _ hb c hc).1⟩, h4.2.1⟩
theorem renB_len {S : Spc} {o : List Nat} {ts : List Trn} {k : Nat} (h : tsAt ts k ∈ allTurns) : (renB S o ts k).length = 4 := by
  unfold renB
  rw [List.length_map, (back4 h).1]
theorem renS_len (S : Spc) (o : List Nat) (ts : List Trn) : (renS S o ts).length = S.length := by
  unfold renS
  rw [List.length_map, List.length_range]
theorem len3 {α : Type} {l : List α} (h : l.length = 3) : ∃ a b c, l = [a, b, c] := by
  match l, h with
  | [a, b, c], _ => exact ⟨a, b, c, rfl⟩
theorem p3 {α β : Type} {F : α → β → Prop} {xs : List α} {a b c : β} (h : Paired F xs [a, b, c]) : ∃ x y z, xs = [x, y, z] ∧ F x a ∧ F y b ∧ F z c := by
  cases h with
  | cons h0 h => cases h with
    | cons h1 h => cases h with
      | cons h2 h => cases h with
        | nil => exact ⟨_, _, _, rfl, h0, h1, h2⟩
theorem tiny3 {d0 d1 d2 : PyData} {b k : Nat} (h0 : Tiny d0 b k) (h1 : Tiny d1 b k) (h2 : Tiny d2 b k) : Tiny (.list [d0, d1, d2]) (b + b + b + 3) (k + 1) := by
  have a0 := h0.b
  have a1 := h1.b
  have a2 := h2.b
  have c0 := h0.k
  have c1 := h1.k
  have c2 := h2.k
  refine ⟨?_, ?_, ?_, ?_, ?_⟩
  · simp only [PyData.bulk, PyData.bulkAll]
    omega
  · simp only [PyData.depth, PyData.depthAll]
    omega
  · simp only [PyData.showable, PyData.showableAll, h0.s, h1.s, h2.s]
    rfl
  · simp only [PyData.hasDict, PyData.hasDictAll, h0.h, h1.h, h2.h]
    rfl
  · simp only [PyData.leavesShort, PyData.leavesShortAll, h0.l, h1.l, h2.l]
    rfl
theorem Tiny.le {d : PyData} {b k b' k' : Nat} (h : Tiny d b k) (hb : b ≤ b') (hk : k ≤ k') : Tiny d b' k' := ⟨Nat.le_trans h.b hb, Nat.le_trans h.k hk, h.s, h.h, h.l⟩
def tupD (t : Trn) : PyData := .tuple (t.map intD)
theorem norm_ints (t : Trn) : norms (t.map intD) = t.map intD := by
  rw [norms_map, List.map_map]
  exact List.map_congr_left fun x _ => by simp only [Function.comp, intD, norm]
theorem norm_tups (ts : List Trn) : norm (.list (ts.map tupD)) = trnsD ts := by
  have h : norms (ts.map tupD) = ts.map nT := by
    rw [norms_map, List.map_map]
    exact List.map_congr_left fun t _ => by simp only [Function.comp, tupD, norm, norm_ints, nT]
  simp only [norm, h, trnsD]
theorem norm_list (t : Trn) : norm (.list (t.map intD)) = .list (t.map intD) := by simp only [norm, norm_ints]
theorem tats_dqs {N : Addr → Prop} {H : Hp} : ∀ {ws : List V} {ts : List Trn}, Paired (TAt H) ws ts → Dqs N H ws (ts.map tupD)
  | _, _, .nil => .nil
  | _, _, .cons r t => by
    obtain ⟨p, rfl, fp⟩ := r
    exact .cons (.tup fp (dqs_ints _)) (tats_dqs t)
theorem order_tiny {o : List Nat} (h : ∀ x ∈ o, x < 64) (l : o.length ≤ 60) : Tiny (.list (o.map intD)) 1320 4 := by
  obtain ⟨h1, h2, h3, h4, h5⟩ := ints_tiny h
  exact ⟨by simp only [PyData.bulk, h1]; omega, by simp only [PyData.depth, h2]; omega, by simpa only [PyData.showable] using h3, by simpa only [PyData.hasDict] using h4, by simpa only [PyData.leavesShort] using h5⟩
theorem turns_tiny0 : ∀ {ts : List Trn}, (∀ t ∈ ts, t ∈ allTurns) → PyData.bulkAll (ts.map tupD) ≤ 5 * ts.length ∧ PyData.depthAll (ts.map tupD) ≤ 1 ∧ PyData.showableAll (ts.map tupD) = true ∧ PyData.hasDictAll (ts.map tupD) = false ∧ PyData.leavesShortAll 8 (ts.map tupD) = true
  | [], _ => by simp [PyData.bulkAll, PyData.depthAll, PyData.showableAll, PyData.hasDictAll, PyData.leavesShortAll]
  | t :: ts, h => by
    obtain ⟨h1, h2, h3, h4, h5⟩ := turns_tiny0 (ts := ts) fun y hy => h y (List.mem_cons_of_mem _ hy)
    have ht := turns4 t (h t List.mem_cons_self)
    obtain ⟨g1, g2, g3, g4, g5⟩ := ints_tiny (t := t) fun x hx => Nat.lt_of_lt_of_le (ht.2.1 x hx) (by decide)
    simp only [List.map_cons, PyData.bulkAll, PyData.depthAll, PyData.showableAll, PyData.hasDictAll, PyData.leavesShortAll, h3, h4, h5, tupD, PyData.bulk, PyData.depth, PyData.showable, PyData.hasDict, PyData.leavesShort, g1, g2, g3, g4, g5, List.length_cons]
    refine ⟨?_, ?_, rfl, rfl, rfl⟩
    · have := ht.1
      omega
    · omega
theorem turns_tiny {ts : List Trn} (h : ∀ t ∈ ts, t ∈ allTurns) (l : ts.length ≤ 60) : Tiny (.list (ts.map tupD)) 1320 4 := by
  obtain ⟨h1, h2, h3, h4, h5⟩ := turns_tiny0 h
  exact ⟨by simp only [PyData.bulk]; omega, by simp only [PyData.depth]; omega, by simpa only [PyData.showable] using h3, by simpa only [PyData.hasDict] using h4, by simpa only [PyData.leavesShort] using h5⟩
theorem ren_sb {S : Spc} {o : List Nat} {ts : List Trn} (hG : Good S) (hn : Names S.length o ts) (hl : S.length ≤ 40) : Sb (renS S o ts) := by
  refine ⟨by rw [renS_len]; exact hl, fun b hb => ?_⟩
  unfold renS at hb
  obtain ⟨k, hk, rfl⟩ := List.mem_map.mp hb
  have hk := List.mem_range.mp hk
  obtain ⟨eo, lo, et, mt⟩ := hn.at hk
  refine ⟨renB_len mt, fun j hj n t e => ?_⟩
  unfold renB at hj
  obtain ⟨f, hf, rfl⟩ := List.mem_map.mp hj
  have f4 := (back4 mt).2.2 f hf
  obtain ⟨x, hx⟩ := hG.l4.get (b := tf o k) (f := f) lo f4
  rw [hx] at e
  cases x with
  | none => cases e
  | some y =>
    obtain ⟨m, u⟩ := y
    obtain ⟨hm, hu⟩ := hG.jokAt hx m u rfl
    obtain ⟨_, im⟩ := hn.idx hm
    obtain ⟨_, _, _, ma⟩ := hn.at im
    cases e
    refine ⟨by omega, by rw [List.length_map, (back4 mt).1], fun z hz => ?_⟩
    obtain ⟨c, hc, rfl⟩ := List.mem_map.mp hz
    exact (tf_lt _ ma _ (tf_lt u hu c ((back4 mt).2.2 c hc)).1).1
theorem Names.lt {n : Nat} {o : List Nat} {ts : List Trn} (h : Names n o ts) : ∀ x ∈ o, x < n := fun x hx => List.mem_range.mp (h.o.mem_iff.mp hx)
end Bk

namespace Bk
open PySem PySem.Spec PyProof.Rows L2 RZ
local macro_rules | `(tactic| walk_at "g") => `(tactic| (repeat first | refine ⟨_, rfl, ?_⟩ | refine ⟨cpow, ?_⟩ | refine ⟨wideM, ?_⟩ | refine ⟨_, _, rfl, rfl, ?_⟩ | refine ⟨rfl, ?_⟩))
section
variable {P : Program} {w : World} {K : PySem.W.Frag} {mg : Str → Option Value} {base : Heap}
/-! ### contrary, of lists too -/
def spBackL : Sp := fun vs H Q _ => ∃ p t, vs = [.ref p] ∧ H p = some (.lst (trnV t)) ∧ t ∈ allTurns ∧ ∀ H' p', Same H H' → H p' = none → TAt H' (.ref p') (back t) → Q (.ref p') H'
theorem okcontraryL {f : Addr} {fd : FuncData} (F : Fun K "contrary" "contrary" scontrary f fd) (m_range : mg "range" = none) (m_tuple : mg "tuple" = none) : FnOk P w K mg base CX0 1 f fd ["turn"] spBackL := by
  refine F.ok sccontrary (fun vs H Q E h => ?_) (fun cdv A outer s H vs Q E hr h => ?_)
  · obtain ⟨p, t, rfl, _⟩ := h
    rfl
  · obtain ⟨p, t, rfl, hp, ht, q⟩ := h
    have nd := sccontrary.nd
    refine ⟨_, (pss_one (ps_ret (pe_callTy (kTupleF K rfl) (by rfl) m_tuple (by decide +kernel) (pa_cons (pe_lc (own := [("corner", 1)]) (g := gName 1) (tt := tYes) rfl nd (pi_range1 (by rfl) m_range (pa_cons pe_int pa_nil)) (blkOk_by (own := [("corner", 1)]) (N := Ncontrary) (sc := defScope scontrary) (by decide +kernel)) (fun _ _ _ _ _ => (pg_name (i := 1) nd rfl (Or.inl rfl))) (fun _ _ _ _ _ => pts_nil) (fun _ _ _ _ _ => (kBM K rfl (pe_bm PySem.F.plainAttrs_list PySem.F.slot_list_index PySem.F.type_list_index (kIndexI K rfl) (pv 0) (pa_cons (pv 1) pa_nil))))) pa_nil)))), ?_⟩
    refine ⟨4, rfl, by decide, by decide, fun D nD => ?_⟩
    have hpD : p ≠ D := ne_of_none hp nD
    refine lc_range (lo := 0) (n := 4) (fun i H2 => H2 = upd H D (.lst (((List.range i).map fun c => t.idxOf c).map intV))) rfl ?_ ?_
    · rintro c H2 hc rfl
      rw [Int.zero_add]
      have t4 := turns4 t ht
      have hm : (c : Int) ∈ t.map fun c : Nat => (c : Int) := List.mem_map_of_mem (List.mem_of_getElem? (t4.2.2.2.1 c hc))
      have h1 : (upd H D (.lst (((List.range c).map fun c => t.idxOf c).map intV))) p = some (.lst (trnV t)) := by
        rw [upd_ne hpD]
        exact hp
      refine ⟨rfl, .ref p, rfl, .inl ⟨rfl, _, .inl (.inl h1)⟩, _, rfl, p, t.map fun c : Nat => (c : Int), c, rfl, rfl, ?_, hm, Nat.le_of_lt (small1000 (by rw [List.length_map]; have := t4.1; omega)), ?_⟩
      · rw [← intV_map]
        exact .inl (.inl h1)
      rw [idx_int]
      refine ⟨_, upd_same, small1000 (by rw [List.length_map, List.length_map, List.length_range]; omega), ?_⟩
      rw [upd_upd, List.range_succ, List.map_append, List.map_append]
      rfl
    · rintro H2 rfl
      refine ⟨D, _, rfl, .inl ⟨.inl (.inl upd_same), fun p2 o2 np2 d2 => ?_⟩⟩
      exact q _ p2 ((same_new nD).trans (same_new np2)) ((same_new nD).free np2) ⟨p2, rfl, FT.new d2⟩
def spBackE : Sp := fun vs H Q E => spBack vs H Q E ∨ spBackL vs H Q E
theorem backE {a : Addr} {t : Trn} {H : Hp} {Q : VK} {E : XK} (h : H a = some (.lst (trnV t)) ∨ FT H a (trnV t)) (ht : t ∈ allTurns) (q : ∀ H' p', Same H H' → H p' = none → TAt H' (.ref p') (back t) → Q (.ref p') H') : spBackE [.ref a] H Q E :=
  h.elim (fun h => .inr ⟨a, t, rfl, h, ht, q⟩) fun h => .inl ⟨_, t, rfl, ⟨a, rfl, h⟩, ht, q⟩
end
end Bk

/-! enumerate(a tuple) -/
namespace Bk
open PySem PySem.Spec PyProof.Rows L2
abbrev en1 (h : Heap) (l : Addr) : Heap := h.push { cls := .type "tuple_iterator", data := .fields #[.ref l, .int 0 0] }
abbrev en2 (h : Heap) (l : Addr) : Heap := (en1 h l).push { cls := .type "enumerate", data := .fields #[.none, .bool false, .ref h.objs.size, rawInt 0, .none, .none] }
theorem meets_enumT (l : Addr) (items : Array Value) :
    Meets (Builtin.«enumerate.__new__» ⟨[.type "enumerate", .ref l], []⟩) (fun _ R s => s.heap.IsTuple l items ∧ R (.ok (.ret (.ref (en1 s.heap l).objs.size))) { s with heap := en2 s.heap l }) :=
  .of_wp fun prog w A R s h => by
    obtain ⟨hp, g, d, tk, os⟩ := s
    obtain ⟨h1, h⟩ := h
    have hsub := sub_enumerate
    have q1 : ∀ {A' : Around} {E : Value → Shared → Prop} {Q : Value → Shared → Prop}, Q (.ref hp.objs.size) ⟨hp.push { cls := .type "tuple_iterator", data := .fields #[.ref l, .int 0 0] }, g, d, tk, os⟩ → wpAny (model prog w) A' (pyIter (.ref l)) Q E ⟨hp, g, d, tk, os⟩ :=
      fun q => (begins_tuple l items).iter prog w _ _ ⟨hp, g, d, tk, os⟩ _ h1 q
    wp_walk using q1
    refine wpAny_stack_any fun st => wpAny_pure ?_
    split
    · rename_i c _ _ _ _ _
      cases (c == Value.type "enumerate")
      · wp_walk using q1
        exact ⟨_, rfl, h⟩
      · wp_walk using q1
        exact ⟨_, rfl, h⟩
    · wp_walk using q1
      exact ⟨_, rfl, h⟩
section
variable {prog : Program} {w : World} {A : Around} {E : Value → Shared → Prop} {s : Shared}
theorem call_enumT {l : Addr} {items : Array Value} {Q : Value → Shared → Prop} (hL : s.heap.IsTuple l items)
    (h : ∀ h', IsEnum h' (s.heap.objs.size + 1) s.heap.objs.size 0 .none → h'.IsTupleIter s.heap.objs.size l 0 → h'.objs.size = s.heap.objs.size + 2 →
      (∀ b o, s.heap.get? b = some o → h'.get? b = some o) → Q (.ref (s.heap.objs.size + 1)) { s with heap := h' }) :
    wpAny (model prog w) A (call (.type "enumerate") [.ref l]) Q E s := by
  refine callType_new F.called_enumerate (by decide) (F.typeCall_enumerate_1 _) (F.newCall_enumerate_1 _) (fun obj => F.args_object_init_2 obj _) F.entry_enumerate_new (meets_enumT l items) ⟨hL, ?_⟩
  have hz : (en1 s.heap l).objs.size = s.heap.objs.size + 1 := Heap.size_push ..
  show _ ∧ _
  have he : IsEnum (en2 s.heap l) (en1 s.heap l).objs.size s.heap.objs.size 0 .none := Heap.get?_push_size _ rfl
  have hit : (en2 s.heap l).IsTupleIter s.heap.objs.size l 0 := ⟨_, Heap.get?_push_of_some _ (Heap.get?_push_size _ rfl), rfl, rfl⟩
  have hz2 : (en2 s.heap l).objs.size = s.heap.objs.size + 2 := by rw [Heap.size_push, hz]
  have hk : ∀ b o, s.heap.get? b = some o → (en2 s.heap l).get? b = some o := fun b o x => Heap.get?_push_of_some _ (Heap.get?_push_of_some _ x)
  rw [hz] at he
  rw [hz]
  exact ⟨⟨_, he, rfl⟩, h _ he hit hz2 hk⟩
end
/-- the tuple at a as it stands at each turn, each item in a new pair -/
def IteT (K : PySem.W.Frag) (a : Addr) : It :=
  ⟨fun i H => ∃ (xs : List V) (x : V), SqT K H a xs ∧ xs[i]? = some x, fun i H v H' => ∃ T x, v = .ref T ∧ H T = none ∧ H' = upd H T (.tup [.int (i : Nat), x]) ∧ ∀ xs, SqT K H a xs → xs[i]? = some x, fun i H => ∃ xs : List V, SqT K H a xs ∧ xs.length = i⟩
theorem turn_enumT {P : Program} {w : World} {K : PySem.W.Frag} {elts : List Expr} {kk : Nat} {tpos : Pos} (a e it : Addr) :
    Turn P w K (.Tuple elts kk tpos) (IteT K a) [e, it] e (fun i h => (∃ old, IsEnum h e it ((i : Nat) : Int) old) ∧ h.IsTupleIter it a i ∧ e ≠ it ∧ e ≠ a ∧ a ≠ it) where
  mem := by simp
  obj := fun i h st b hb => by
    obtain ⟨⟨old, he⟩, ⟨o, ho, hc, hd⟩, _⟩ := st
    have e' : b = e ∨ b = it := by simpa using hb
    rcases e' with z | z
    · rw [z]; exact ⟨_, he, fun v q => nomatch q⟩
    · rw [z]; exact ⟨o, ho, fun v q => by rw [hd] at q; cases q⟩
  keep := fun i h h' st k => let ⟨⟨old, he⟩, hi, hne⟩ := st; ⟨⟨old, k e (by simp) _ he⟩, hi.at fun o q => k it (by simp) o q, hne⟩
  item := by
    intro X hP hw hK hc i pins s σ H E I hf st hg
    subst hP hw hK
    obtain ⟨⟨old, he⟩, hit, hne, hea, hai⟩ := st
    obtain ⟨xs, x, hq, hx⟩ := hg
    obtain ⟨its, rv, p, hz⟩ := I.tuple hq
    obtain ⟨u, hu, ru⟩ := rv.get hx
    have lr := rv.length
    have hel : e < s.heap.objs.size := Heap.lt_size he
    have hil : it < s.heap.objs.size := by obtain ⟨_, q, _⟩ := hit; exact Heap.lt_size q
    have hlt : i < its.toArray.size := by
      have := (List.getElem?_eq_some_iff.mp hu).1
      simpa using this
    refine wpAny_pyNext_enum_itemC (Draws.tuple (prog := X.prog) (w := X.w) (A := X.A.in1) (I.ok.hd hc) it a hai its.toArray) he ⟨hit, p⟩ hlt hne (by simp [hne, hea]) fun u1 h' tk hu1 ho st' hT hsz hk => ?_
    have eu : u1 = u := by
      have q : its[i]? = some u1 := by simpa using hu1
      exact Option.some.inj (q.symm.trans hu)
    subst eu
    refine ⟨_, rfl, wpAny_letOwnedTupleGo_enum (s := { s with heap := h', toks := tk + 1 }) ho fun h'' he' sb => ?_⟩
    have hT2 : h''.get? s.heap.objs.size = some { cls := .type "tuple", data := .seq #[.int i tk, u1] } := (sb.2 _ (Nat.ne_of_gt hel)).trans hT
    have new : ObjOk X.prog X.w (upd H s.heap.objs.size (.tup [.int (i : Nat), x])) h'' s.heap.objs.size (.tup [.int (i : Nat), x]) :=
      ⟨by show 2 ≤ sizeLine; decide, [.int i tk, u1], .cons ⟨_, rfl⟩ (.cons ru .nil), ⟨_, hT2, rfl, _, rfl⟩⟩
    have I1 : Inv X pins σ (upd H s.heap.objs.size (.tup [.int (i : Nat), x])) { s with heap := h'', toks := tk + 1 } :=
      I.turnedNew (ch := [e, it]) (fun b ob hb q => (sb.2 b (fun z => hb (by simp [z]))).trans (hk b ob (fun z => hb (by simp [z])) (fun z => hb (by simp [z])) q)) hf (Nat.le_refl _) new
    refine ⟨.ref s.heap.objs.size, _, I1, rfl, ⟨_, x, rfl, I.hok.fresh (Nat.le_refl _), rfl, fun ys hy => by rw [I.tuple_inj hy hq]; exact hx⟩, ⟨⟨u1, ?_⟩, st'.1.at fun o q => (sb.2 it (Ne.symm hne)).trans q, hne, hea, hai⟩, fun b hb => ?_⟩
    · have e1 : ((i + 1 : Nat) : Int) = (i : Int) + 1 := by omega
      rw [e1]; exact he'
    · have hb' : b < s.heap.objs.size := by
        have e' : b = e ∨ b = it := by simpa using hb
        rcases e' with z | z
        · rw [z]; exact hel
        · rw [z]; exact hil
      rw [upd_ne (Nat.ne_of_lt hb')]
      exact (hf b hb).1
  done := by
    intro X hP hw hK hc i pins s σ H E I hf st hg
    subst hP hw hK
    obtain ⟨⟨old, he⟩, hit, hne, hea, hai⟩ := st
    obtain ⟨xs, hq, hx⟩ := hg
    obtain ⟨its, rv, p, hz⟩ := I.tuple hq
    obtain ⟨f0, f1, f2, f3, f4, f5⟩ := hf it (by simp)
    have hl := rv.length
    have hn : its.toArray.size = i := by simp; omega
    subst hn
    exact wpAny_pyNext_enum_endD (Draws.tuple (prog := X.prog) (w := X.w) (A := X.A.in1) (I.ok.hd hc) it a hai its.toArray) he ⟨hit, p⟩ fun h' eb => ⟨rfl, I.turned (t' := s.toks) (fun b o hb q => eb b o hb q) f0 f1 f3 f4 f5⟩
  self := fun A i s Q E st h => let ⟨⟨_, he⟩, _⟩ := st; wpAny_pyIter_enum he h
def iEnumT (K : PySem.W.Frag) (ta : TA) : TI := fun σ H R => ta σ H fun vs H1 => ∃ a xs, vs = [.ref a] ∧ SqT K H1 a xs ∧ R (IteT K a) H1
theorem pi_enumT {X : Cx} {e : Expr} {ta : TA} {p pos tpos : Pos} {elts : List Expr} {kk : Nat} (hg : Gl X "enumerate") (hm : X.mg "enumerate" = none) (ha : PA X [e] ta) (hs : starEach [e] X.env = [(false, eval e X.env)] := by rfl) :
    PI X (.Tuple elts kk tpos) (.Call (.Name "enumerate" p) [e] [] pos) (iEnumT X.K ta) := by
  refine ⟨fun pins s σ H R I h => ?_⟩
  refine Call_ (ld_blt I hg hm boot_enumerate (PyProof.Rows.callWith_type1 (thn (ha.run pos pins s σ H _ I h) fun us s1 ⟨vs, H1, I1, r1, q1⟩ => ?_) hs rfl))
  obtain ⟨a, xs, ex, hq, q⟩ := q1
  subst ex
  cases r1 with
  | cons r rr =>
    cases rr
    cases r
    obtain ⟨its, rv, p', hz⟩ := I1.tuple hq
    have hal : a < s1.heap.objs.size := by obtain ⟨_, q, _⟩ := p'; exact Heap.lt_size q
    refine call_enumT p' fun h' he hit hsz hk => wpAny_pyIter_enum he ?_
    have I2 : Inv X pins σ H1 { s1 with heap := h' } := I1.kept (t' := s1.toks) hk
    refine ⟨s1.heap.objs.size + 1, [s1.heap.objs.size + 1, s1.heap.objs.size], _, _, H1, rfl, I2, turn_enumT a (s1.heap.objs.size + 1) s1.heap.objs.size, ⟨⟨.none, he⟩, hit, Nat.succ_ne_self _, Nat.ne_of_gt (Nat.lt_succ_of_lt hal), Nat.ne_of_lt hal⟩, fun b hb => ?_, q⟩
    have e' : b = s1.heap.objs.size + 1 ∨ b = s1.heap.objs.size := by simpa using hb
    have hle : s1.heap.objs.size ≤ b := by
      rcases e' with z | z
      · rw [z]; exact Nat.le_add_right _ _
      · rw [z]; exact Nat.le_refl _
    exact I1.fpOk hle (I1.hok.fresh hle)
theorem kPiET {X : Cx} (K : PySem.W.Frag) {tg l : Expr} {ta : TA} (h : X.K = K) (x : PI X tg l (iEnumT X.K ta)) : PI X tg l (iEnumT K ta) := h ▸ x
theorem walk_enumT {K : PySem.W.Frag} {a : Addr} {xs : List V} : Walk (IteT K a) xs.length (fun H => SqT K H a xs) (YPair (fun i => some (.int (i : Nat))) (fun i => xs[i]?)) := by
  refine ⟨fun i _ hi q => ⟨xs, _, q, List.getElem?_eq_getElem hi⟩, fun _ q => ⟨xs, q, rfl⟩, fun i H v H' _ q y => ?_⟩
  obtain ⟨T, x, z1, z2, z3, z4⟩ := y
  exact ⟨T, _, x, z1, z2, z3, rfl, z4 xs q⟩
end Bk

/-! zip(a list, a tuple) -/
namespace Bk
open PySem PySem.Spec PyProof.Rows L2
theorem drawsT {P : Program} {w : World} {A : Around} (hh : A.handled = none) (it l : Addr) (hne : l ≠ it) (its : Array Value) :
    Draws P w A it [it, l] its.size (fun i v => its[i]? = some v) (fun i h => h.IsTupleIter it l i ∧ h.IsTuple l its) where
  live := fun _ _ st => by
    obtain ⟨o, ho, _⟩ := st.1
    exact ⟨o, ho⟩
  frame := fun _ _ _ st hk => by
    obtain ⟨⟨o1, a1, r1⟩, ⟨o2, a2, r2⟩⟩ := st
    exact ⟨⟨o1, hk it (by simp) o1 a1, r1⟩, ⟨o2, hk l (by simp) o2 a2, r2⟩⟩
  item := fun i s Q E hi st hQ => by
    obtain ⟨h1, h2⟩ := st
    refine RZ.nextOf_tuple_item h1 h2 (Array.getElem?_eq_getElem hi) fun h' h1' sb => ?_
    obtain ⟨o2, a2, r2⟩ := h2
    exact hQ _ h' s.toks (Array.getElem?_eq_getElem hi) ⟨h1', ⟨o2, sb.extBut _ _ hne a2, r2⟩⟩ sb
  done := fun s Q E st hE => RZ.nextOf_tuple_end hh st.1 st.2 (Array.getElem?_eq_none (Nat.le_refl _)) hE
/-- a list and a tuple as they stand at each turn, the items in new pairs -/
def ItzM (K : PySem.W.Frag) (a b : Addr) : It :=
  ⟨fun i H => ∃ (xs ys : List V) (x y : V), SqL K H a xs ∧ SqT K H b ys ∧ xs[i]? = some x ∧ ys[i]? = some y,
    fun i H v H' => ∃ T x y, v = .ref T ∧ H T = none ∧ H' = upd H T (.tup [x, y]) ∧ (∀ xs, SqL K H a xs → xs[i]? = some x) ∧ ∀ ys, SqT K H b ys → ys[i]? = some y,
    fun i H => ∃ xs ys : List V, SqL K H a xs ∧ SqT K H b ys ∧ ((i = xs.length ∧ i ≤ ys.length) ∨ (i = ys.length ∧ i ≤ xs.length))⟩
theorem sepM {z TI TO i1 i2 a b : Addr} (D : ZipApart z TI TO i1 i2 a b) : ZipSep2 z TI TO i1 i2 [i1, a] [i2, b] where
  TIz := D.TIz
  TOz := D.TOz
  TITO := D.TITO
  TIi1 := D.TIi1
  mem1 := by simp
  zf1 := by simp [D.i1z.symm, D.l1z.symm]
  Tf1 := by simp [D.TOi1, D.l1TO.symm]
  TIi2 := D.TIi2
  mem2 := by simp
  zf2 := by simp [D.i2z.symm, D.l2z.symm]
  Tf2 := by simp [D.TOi2, D.l2TO.symm]
  sep1_2 := by simp [D.i12, D.l2i1.symm]
  sep2_1 := by simp [D.i12.symm, D.l1i2.symm]
def five (z TI TO i1 i2 : Addr) : List Addr := [z, TI, TO, i1, i2]
theorem five_mem {z TI TO i1 i2 c : Addr} (h : c ∈ five z TI TO i1 i2) : c = z ∨ c = TI ∨ c = TO ∨ c = i1 ∨ c = i2 := by simpa [five] using h
theorem five_out {z TI TO i1 i2 c : Addr} (h : c ∉ five z TI TO i1 i2) : c ≠ z ∧ c ≠ TO ∧ c ≠ i1 ∧ c ≠ i2 := by
  refine ⟨fun e => h ?_, fun e => h ?_, fun e => h ?_, fun e => h ?_⟩ <;> (rw [e]; simp [five])
theorem turn_zipM {P : Program} {w : World} {K : PySem.W.Frag} {elts : List Expr} {kk : Nat} {tpos : Pos} {a b z TI TO i1 i2 : Addr} (D : ZipApart z TI TO i1 i2 a b) :
    Turn P w K (.Tuple elts kk tpos) (ItzM K a b) (five z TI TO i1 i2) z (fun i h => IsZip h z TI TO .none ∧ IsPair h TI (.ref i1) (.ref i2) ∧ (∃ x y, IsPair h TO x y) ∧ h.IsListIter i1 a i ∧ h.IsTupleIter i2 b i) where
  mem := by simp [five]
  obj := fun i h st c hc => by
    obtain ⟨g0, g1, ⟨x, y, g2⟩, ⟨o1, e1, _, d1⟩, ⟨o2, e2, _, d2⟩⟩ := st
    rcases five_mem hc with q | q | q | q | q <;> subst q
    · exact ⟨_, g0, fun v q => nomatch q⟩
    · exact ⟨_, g1, fun v q => nomatch q⟩
    · exact ⟨_, g2, fun v q => nomatch q⟩
    · refine ⟨o1, e1, fun v q => ?_⟩
      rw [d1] at q
      cases q
    · refine ⟨o2, e2, fun v q => ?_⟩
      rw [d2] at q
      cases q
  keep := fun i h h' st k => by
    obtain ⟨g0, g1, ⟨x, y, g2⟩, ⟨o1, e1, r1⟩, ⟨o2, e2, r2⟩⟩ := st
    have m : ∀ c, c = z ∨ c = TI ∨ c = TO ∨ c = i1 ∨ c = i2 → ∀ o, h.get? c = some o → h'.get? c = some o := fun c hc => k c (by simpa [five] using hc)
    exact ⟨m z (by simp) _ g0, m TI (by simp) _ g1, ⟨x, y, m TO (by simp) _ g2⟩, ⟨o1, m i1 (by simp) _ e1, r1⟩, ⟨o2, m i2 (by simp) _ e2, r2⟩⟩
  item := by
    intro X hP hw hK hc i pins s σ H E I hf st hg
    subst hP hw hK
    obtain ⟨g0, g1, ⟨x0, y0, g2⟩, j1, j2⟩ := st
    obtain ⟨xs, ys, x, y, qx, qy, hx, hy⟩ := hg
    obtain ⟨us, rv, pu, _⟩ := I.list qx
    obtain ⟨ws, rw', pw, _⟩ := I.tuple qy
    have lu := rv.length
    have lw := rw'.length
    have hi1 : i < xs.length := (List.getElem?_eq_some_iff.mp hx).1
    have hi2 : i < ys.length := (List.getElem?_eq_some_iff.mp hy).1
    have zl : z < s.heap.objs.size := Heap.lt_size g0
    have hh := I.ok.hd hc
    have d1 := Draws.list (prog := X.prog) (w := X.w) (A := X.A.in1) hh i1 a D.l1i1 us.toArray
    have d2 := drawsT (P := X.prog) (w := X.w) (A := X.A.in1) hh i2 b D.l2i2 ws.toArray
    refine wpAny_pyNext_zipD2_item (i := i) (sepM D) d1 d2 g0 g1 g2 ⟨j1, pu.isList⟩ ⟨j2, pw⟩ (by simp; omega) (by simp; omega) fun u u2 h' tk hu hu2 z' TO' s1' s2' hT hsz hk => ?_
    obtain ⟨v1, hv1, ru⟩ := rv.get hx
    obtain ⟨v2, hv2, ru2⟩ := rw'.get hy
    have eu : u = v1 := by
      have : us[i]? = some u := by simpa using hu
      exact Option.some.inj (this.symm.trans hv1)
    have eu2 : u2 = v2 := by
      have : ws[i]? = some u2 := by simpa using hu2
      exact Option.some.inj (this.symm.trans hv2)
    subst eu eu2
    refine ⟨_, rfl, wpAny_letOwnedTupleGo_zip (s := { s with heap := h', toks := tk }) z' fun h2 z2 sb => ?_⟩
    have hT2 : h2.get? s.heap.objs.size = some { cls := .type "tuple", data := .seq #[u, u2] } := (sb.2 _ (Nat.ne_of_gt zl)).trans hT
    have new : ObjOk X.prog X.w (upd H s.heap.objs.size (.tup [x, y])) h2 s.heap.objs.size (.tup [x, y]) :=
      ⟨(show 2 ≤ sizeLine by decide), [u, u2], .cons ru (.cons ru2 .nil), ⟨_, hT2, rfl, _, rfl⟩⟩
    have J : Inv X pins σ (upd H s.heap.objs.size (.tup [x, y])) { s with heap := h2, toks := tk } :=
      I.turnedNew (t' := tk) (ch := five z TI TO i1 i2) (fun c o hb q => by
        obtain ⟨n1, n2, n3, n4⟩ := five_out hb
        exact (sb.2 c n1).trans (hk c o n1 n2 n3 n4 q)) hf (Nat.le_refl _) new
    refine ⟨.ref s.heap.objs.size, _, J, rfl, ⟨_, x, y, rfl, I.hok.fresh (Nat.le_refl _), rfl, fun l hl => ?_, fun l hl => ?_⟩, ⟨z2, ?_, ⟨u, u2, ?_⟩, ?_, ?_⟩, fun c hcm => ?_⟩
    · rw [I.list_inj hl qx]
      exact hx
    · rw [I.tuple_inj hl qy]
      exact hy
    · exact (sb.2 _ D.TIz).trans (hk _ _ D.TIz D.TITO D.TIi1 D.TIi2 g1)
    · exact (sb.2 _ D.TOz).trans TO'
    · obtain ⟨o1, e1, r1⟩ := s1'.1
      exact ⟨o1, (sb.2 _ D.i1z).trans e1, r1⟩
    · obtain ⟨o2, e2, r2⟩ := s2'.1
      exact ⟨o2, (sb.2 _ D.i2z).trans e2, r2⟩
    · have lt : c < s.heap.objs.size := by
        rcases five_mem hcm with q | q | q | q | q <;> subst q
        · exact zl
        · exact Heap.lt_size g1
        · exact Heap.lt_size g2
        · obtain ⟨_, e1, _⟩ := j1
          exact Heap.lt_size e1
        · obtain ⟨_, e2, _⟩ := j2
          exact Heap.lt_size e2
      rw [upd_ne (Nat.ne_of_lt lt)]
      exact (hf c hcm).1
  done := by
    intro X hP hw hK hc i pins s σ H E I hf st hg
    subst hP hw hK
    obtain ⟨g0, g1, ⟨x0, y0, g2⟩, j1, j2⟩ := st
    obtain ⟨xs, ys, qx, qy, hend⟩ := hg
    obtain ⟨us, rv, pu, _⟩ := I.list qx
    obtain ⟨ws, rw', pw, _⟩ := I.tuple qy
    have lu := rv.length
    have lw := rw'.length
    have hh := I.ok.hd hc
    have d1 := Draws.list (prog := X.prog) (w := X.w) (A := X.A.in1) hh i1 a D.l1i1 us.toArray
    have d2 := drawsT (P := X.prog) (w := X.w) (A := X.A.in1) hh i2 b D.l2i2 ws.toArray
    refine wpAny_pyNext_zipD2_end (i := i) (sepM D) d1 d2 g0 g1 g2 ⟨j1, pu.isList⟩ ⟨j2, pw⟩ (by simp; omega) (by simp; omega) (by simp; omega) fun h' tk hk => ⟨rfl, ?_⟩
    exact I.turnedL (t' := tk) (ch := five z TI TO i1 i2) (fun c o hb q => by
      obtain ⟨n1, n2, n3, n4⟩ := five_out hb
      exact hk c o n1 n2 n3 n4 q) hf
  self := fun A i s Q E st h => wpAny_pyIter_zip st.1 h
abbrev zm1 (h : Heap) (a : Addr) : Heap := h.push { cls := .type "list_iterator", data := .fields #[.ref a, .int 0 0] }
abbrev zm2 (h : Heap) (a b : Addr) : Heap := (zm1 h a).push { cls := .type "tuple_iterator", data := .fields #[.ref b, .int 0 0] }
abbrev zm3 (h : Heap) (a b : Addr) : Heap := (zm2 h a b).push { cls := .type "tuple", data := .seq #[.ref h.objs.size, .ref (zm1 h a).objs.size] }
abbrev zm4 (h : Heap) (a b : Addr) : Heap := (zm3 h a b).push { cls := .type "tuple", data := .seq #[.none, .none] }
abbrev zm5 (h : Heap) (a b : Addr) : Heap := (zm4 h a b).push { cls := .type "zip", data := .fields #[.none, .bool false, .bool false, .ref (zm2 h a b).objs.size, .ref (zm3 h a b).objs.size] }
theorem meets_zipM (a b : Addr) (xs ys : Array Value) :
    Meets (Builtin.«zip.__new__» ⟨[.type "zip", .ref a, .ref b], []⟩) (fun _ R s => s.heap.IsList a xs ∧ s.heap.IsTuple b ys ∧ R (.ok (.ret (.ref (zm4 s.heap a b).objs.size))) { s with heap := zm5 s.heap a b }) :=
  .of_wp fun prog w A R s h => by
    obtain ⟨hp, g, d, tk, os⟩ := s
    obtain ⟨h1, h2, h⟩ := h
    have hsub := sub_zip
    have q1 : Heap.IsList (Shared.heap ⟨hp, g, d, tk, os⟩) a xs := h1
    have q2 : Heap.IsTuple (Shared.heap ⟨hp.push { cls := .type "list_iterator", data := .fields #[.ref a, .int 0 0] }, g, d, tk, os⟩) b ys := Heap.IsTuple.push h2 _
    wp_walk using wpAny_pyIter_list q1, wpAny_pyIter_tuple q2
    exact ⟨_, rfl, h⟩
section
variable {prog : Program} {w : World} {A : Around} {E : Value → Shared → Prop} {s : Shared}
theorem call_zipM {a b : Addr} {xs ys : Array Value} {Q : Value → Shared → Prop} (h1 : s.heap.IsList a xs) (h2 : s.heap.IsTuple b ys)
    (h : ∀ h', IsZip h' (s.heap.objs.size + 4) (s.heap.objs.size + 2) (s.heap.objs.size + 3) .none → IsPair h' (s.heap.objs.size + 2) (.ref s.heap.objs.size) (.ref (s.heap.objs.size + 1)) → IsPair h' (s.heap.objs.size + 3) .none .none →
      h'.IsListIter s.heap.objs.size a 0 → h'.IsTupleIter (s.heap.objs.size + 1) b 0 → (∀ c o, s.heap.get? c = some o → h'.get? c = some o) → Q (.ref (s.heap.objs.size + 4)) { s with heap := h' }) :
    wpAny (model prog w) A (call (.type "zip") [.ref a, .ref b]) Q E s := by
  refine callType_new F.called_zip (by decide) (F.typeCall_zip_2 _ _) (F.newCall_zip_2 _ _) (fun obj => F.args_object_init_3 obj _ _) F.entry_zip_new (meets_zipM a b xs ys) ⟨h1, h2, ?_⟩
  generalize hh : s.heap = hp at h ⊢
  have n1 : (zm1 hp a).objs.size = hp.objs.size + 1 := Heap.size_push ..
  have n2 : (zm2 hp a b).objs.size = hp.objs.size + 2 := (Heap.size_push ..).trans (congrArg (· + 1) n1)
  have n3 : (zm3 hp a b).objs.size = hp.objs.size + 3 := (Heap.size_push ..).trans (congrArg (· + 1) n2)
  have n4 : (zm4 hp a b).objs.size = hp.objs.size + 4 := (Heap.size_push ..).trans (congrArg (· + 1) n3)
  have at5 : (zm5 hp a b).get? (zm4 hp a b).objs.size = some _ := Heap.get?_push_size _ rfl
  have at4 : (zm5 hp a b).get? (zm3 hp a b).objs.size = some _ := Heap.get?_push_of_some _ (Heap.get?_push_size _ rfl)
  have at3 : (zm5 hp a b).get? (zm2 hp a b).objs.size = some _ := Heap.get?_push_of_some _ (Heap.get?_push_of_some _ (Heap.get?_push_size _ rfl))
  have at2 : (zm5 hp a b).get? (zm1 hp a).objs.size = some _ := Heap.get?_push_of_some _ (Heap.get?_push_of_some _ (Heap.get?_push_of_some _ (Heap.get?_push_size _ rfl)))
  have at1 : (zm5 hp a b).get? hp.objs.size = some _ := Heap.get?_push_of_some _ (Heap.get?_push_of_some _ (Heap.get?_push_of_some _ (Heap.get?_push_of_some _ (Heap.get?_push_size _ rfl))))
  show _ ∧ _
  rw [n2, n3, n4] at at5
  rw [n1, n2] at at3
  rw [n3] at at4
  rw [n1] at at2
  rw [n4]
  exact ⟨⟨_, at5, rfl⟩, h _ at5 at3 at4 ⟨_, at1, rfl, rfl⟩ ⟨_, at2, rfl, rfl⟩ fun c o x => by
    refine Heap.get?_push_of_some _ ?_
    refine Heap.get?_push_of_some _ ?_
    refine Heap.get?_push_of_some _ ?_
    exact Heap.get?_push_of_some _ (Heap.get?_push_of_some _ x)⟩
end
/-- zip(a list, a tuple) is walked -/
def iZipM (K : PySem.W.Frag) (ta : TA) : TI := fun σ H R => ta σ H fun vs H1 => ∃ a b xs ys, vs = [.ref a, .ref b] ∧ SqL K H1 a xs ∧ SqT K H1 b ys ∧ R (ItzM K a b) H1
theorem pi_zipM {X : Cx} {e e2 : Expr} {ta : TA} {p pos tpos : Pos} {elts : List Expr} {kk : Nat} (hg : Gl X "zip") (hm : X.mg "zip" = none) (ha : PA X [e, e2] ta)
    (hs : starEach [e, e2] X.env = (false, eval e X.env) :: starEach [e2] X.env := by rfl) (hpl : (backTo pos (starEach [e2] X.env)).any (·.1) = false := by rfl) :
    PI X (.Tuple elts kk tpos) (.Call (.Name "zip" p) [e, e2] [] pos) (iZipM X.K ta) := by
  refine ⟨fun pins s σ H R I h => ?_⟩
  refine Call_ (ld_blt I hg hm PyProof.Rows.boot_zip (PyProof.Rows.callWith_type1 (thn (ha.run pos pins s σ H _ I h) fun us s1 got => ?_) hs hpl))
  obtain ⟨vs, H1, J, rv0, a, b, xs, ys, ex, qx, qy, q⟩ := got
  subst ex
  obtain ⟨u1, u2, eu, ra, rb⟩ := vals2 rv0
  obtain rfl : u1 = Value.ref a := ra
  obtain rfl : u2 = Value.ref b := rb
  subst eu
  have fresh : ∀ c, c ∈ five (s1.heap.objs.size + 4) (s1.heap.objs.size + 2) (s1.heap.objs.size + 3) s1.heap.objs.size (s1.heap.objs.size + 1) → FpOk X pins H1 c := fun c hcm => by
    have le : s1.heap.objs.size ≤ c := by
      rcases five_mem hcm with z | z | z | z | z <;> (rw [z]; first | exact Nat.le_refl _ | exact Nat.le_add_right _ _)
    exact J.fpOk le (J.hok.fresh le)
  obtain ⟨us, rv, pu, _⟩ := J.list qx
  obtain ⟨ws, rw', pw, _⟩ := J.tuple qy
  obtain ⟨o1, ho1, _⟩ := pu.isList
  obtain ⟨o2, ho2, _⟩ := id pw
  refine call_zipM pu.isList (show s1.heap.IsTuple b ws.toArray from pw) fun h' g0 g1 g2 j1 j2 hk => wpAny_pyIter_zip g0 ?_
  exact ⟨_, five _ _ _ _ _, _, _, H1, rfl, J.kept (t' := s1.toks) hk, turn_zipM (PySem.W.ktu_apart s1.heap.objs.size a b (Heap.lt_size ho1) (Heap.lt_size ho2)), ⟨g0, g1, ⟨_, _, g2⟩, j1, j2⟩, fresh, q⟩
theorem kPiM {X : Cx} (K : PySem.W.Frag) {tg l : Expr} {ta : TA} (h : X.K = K) (x : PI X tg l (iZipM X.K ta)) : PI X tg l (iZipM K ta) := h ▸ x
theorem walk_zipM {K : PySem.W.Frag} {a b : Addr} {xs ys : List V} : Walk (ItzM K a b) (min xs.length ys.length) (fun H => SqL K H a xs ∧ SqT K H b ys) (YPair (fun i => xs[i]?) (fun i => ys[i]?)) := by
  refine ⟨fun i _ hi q => ?_, fun _ q => ⟨xs, ys, q.1, q.2, by omega⟩, fun i H v H' _ q y => ?_⟩
  · exact ⟨xs, ys, _, _, q.1, q.2, List.getElem?_eq_getElem (show i < xs.length by omega), List.getElem?_eq_getElem (show i < ys.length by omega)⟩
  · obtain ⟨T, x, z, z1, z2, z3, z4, z5⟩ := y
    exact ⟨T, x, z, z1, z2, z3, z4 xs q.1, z5 ys q.2⟩
end Bk

/-! zip(a tuple, a list) -/
namespace Bk
open PySem PySem.Spec PyProof.Rows L2
/-- a tuple and a list as they stand at each turn, the items in new pairs -/
def ItzW (K : PySem.W.Frag) (a b : Addr) : It :=
  ⟨fun i H => ∃ (xs ys : List V) (x y : V), SqT K H a xs ∧ SqL K H b ys ∧ xs[i]? = some x ∧ ys[i]? = some y,
    fun i H v H' => ∃ T x y, v = .ref T ∧ H T = none ∧ H' = upd H T (.tup [x, y]) ∧ (∀ xs, SqT K H a xs → xs[i]? = some x) ∧ ∀ ys, SqL K H b ys → ys[i]? = some y,
    fun i H => ∃ xs ys : List V, SqT K H a xs ∧ SqL K H b ys ∧ ((i = xs.length ∧ i ≤ ys.length) ∨ (i = ys.length ∧ i ≤ xs.length))⟩
theorem turn_zipW {P : Program} {w : World} {K : PySem.W.Frag} {elts : List Expr} {kk : Nat} {tpos : Pos} {a b z TI TO i1 i2 : Addr} (D : ZipApart z TI TO i1 i2 a b) :
    Turn P w K (.Tuple elts kk tpos) (ItzW K a b) (five z TI TO i1 i2) z (fun i h => IsZip h z TI TO .none ∧ IsPair h TI (.ref i1) (.ref i2) ∧ (∃ x y, IsPair h TO x y) ∧ h.IsTupleIter i1 a i ∧ h.IsListIter i2 b i) where
  mem := by simp [five]
  obj := fun i h st c hc => by
    obtain ⟨g0, g1, ⟨x, y, g2⟩, ⟨o1, e1, _, d1⟩, ⟨o2, e2, _, d2⟩⟩ := st
    rcases five_mem hc with q | q | q | q | q <;> subst q
    · exact ⟨_, g0, fun v q => nomatch q⟩
    · exact ⟨_, g1, fun v q => nomatch q⟩
    · exact ⟨_, g2, fun v q => nomatch q⟩
    · refine ⟨o1, e1, fun v q => ?_⟩
      rw [d1] at q
      cases q
    · refine ⟨o2, e2, fun v q => ?_⟩
      rw [d2] at q
      cases q
  keep := fun i h h' st k => by
    obtain ⟨g0, g1, ⟨x, y, g2⟩, ⟨o1, e1, r1⟩, ⟨o2, e2, r2⟩⟩ := st
    have m : ∀ c, c = z ∨ c = TI ∨ c = TO ∨ c = i1 ∨ c = i2 → ∀ o, h.get? c = some o → h'.get? c = some o := fun c hc => k c (by simpa [five] using hc)
    exact ⟨m z (by simp) _ g0, m TI (by simp) _ g1, ⟨x, y, m TO (by simp) _ g2⟩, ⟨o1, m i1 (by simp) _ e1, r1⟩, ⟨o2, m i2 (by simp) _ e2, r2⟩⟩
  item := by
    intro X hP hw hK hc i pins s σ H E I hf st hg
    subst hP hw hK
    obtain ⟨g0, g1, ⟨x0, y0, g2⟩, j1, j2⟩ := st
    obtain ⟨xs, ys, x, y, qx, qy, hx, hy⟩ := hg
    obtain ⟨us, rv, pu, _⟩ := I.tuple qx
    obtain ⟨ws, rw', pw, _⟩ := I.list qy
    have lu := rv.length
    have lw := rw'.length
    have hi1 : i < xs.length := (List.getElem?_eq_some_iff.mp hx).1
    have hi2 : i < ys.length := (List.getElem?_eq_some_iff.mp hy).1
    have zl : z < s.heap.objs.size := Heap.lt_size g0
    have hh := I.ok.hd hc
    have d1 := drawsT (P := X.prog) (w := X.w) (A := X.A.in1) hh i1 a D.l1i1 us.toArray
    have d2 := Draws.list (prog := X.prog) (w := X.w) (A := X.A.in1) hh i2 b D.l2i2 ws.toArray
    refine wpAny_pyNext_zipD2_item (i := i) (sepM D) d1 d2 g0 g1 g2 ⟨j1, pu⟩ ⟨j2, pw.isList⟩ (by simp; omega) (by simp; omega) fun u u2 h' tk hu hu2 z' TO' s1' s2' hT hsz hk => ?_
    obtain ⟨v1, hv1, ru⟩ := rv.get hx
    obtain ⟨v2, hv2, ru2⟩ := rw'.get hy
    have eu : u = v1 := by
      have : us[i]? = some u := by simpa using hu
      exact Option.some.inj (this.symm.trans hv1)
    have eu2 : u2 = v2 := by
      have : ws[i]? = some u2 := by simpa using hu2
      exact Option.some.inj (this.symm.trans hv2)
    subst eu eu2
    refine ⟨_, rfl, wpAny_letOwnedTupleGo_zip (s := { s with heap := h', toks := tk }) z' fun h2 z2 sb => ?_⟩
    have hT2 : h2.get? s.heap.objs.size = some { cls := .type "tuple", data := .seq #[u, u2] } := (sb.2 _ (Nat.ne_of_gt zl)).trans hT
    have new : ObjOk X.prog X.w (upd H s.heap.objs.size (.tup [x, y])) h2 s.heap.objs.size (.tup [x, y]) :=
      ⟨(show 2 ≤ sizeLine by decide), [u, u2], .cons ru (.cons ru2 .nil), ⟨_, hT2, rfl, _, rfl⟩⟩
    have J : Inv X pins σ (upd H s.heap.objs.size (.tup [x, y])) { s with heap := h2, toks := tk } :=
      I.turnedNew (t' := tk) (ch := five z TI TO i1 i2) (fun c o hb q => by
        obtain ⟨n1, n2, n3, n4⟩ := five_out hb
        exact (sb.2 c n1).trans (hk c o n1 n2 n3 n4 q)) hf (Nat.le_refl _) new
    refine ⟨.ref s.heap.objs.size, _, J, rfl, ⟨_, x, y, rfl, I.hok.fresh (Nat.le_refl _), rfl, fun l hl => ?_, fun l hl => ?_⟩, ⟨z2, ?_, ⟨u, u2, ?_⟩, ?_, ?_⟩, fun c hcm => ?_⟩
    · rw [I.tuple_inj hl qx]
      exact hx
    · rw [I.list_inj hl qy]
      exact hy
    · exact (sb.2 _ D.TIz).trans (hk _ _ D.TIz D.TITO D.TIi1 D.TIi2 g1)
    · exact (sb.2 _ D.TOz).trans TO'
    · obtain ⟨o1, e1, r1⟩ := s1'.1
      exact ⟨o1, (sb.2 _ D.i1z).trans e1, r1⟩
    · obtain ⟨o2, e2, r2⟩ := s2'.1
      exact ⟨o2, (sb.2 _ D.i2z).trans e2, r2⟩
    · have lt : c < s.heap.objs.size := by
        rcases five_mem hcm with q | q | q | q | q <;> subst q
        · exact zl
        · exact Heap.lt_size g1
        · exact Heap.lt_size g2
        · obtain ⟨_, e1, _⟩ := j1
          exact Heap.lt_size e1
        · obtain ⟨_, e2, _⟩ := j2
          exact Heap.lt_size e2
      rw [upd_ne (Nat.ne_of_lt lt)]
      exact (hf c hcm).1
  done := by
    intro X hP hw hK hc i pins s σ H E I hf st hg
    subst hP hw hK
    obtain ⟨g0, g1, ⟨x0, y0, g2⟩, j1, j2⟩ := st
    obtain ⟨xs, ys, qx, qy, hend⟩ := hg
    obtain ⟨us, rv, pu, _⟩ := I.tuple qx
    obtain ⟨ws, rw', pw, _⟩ := I.list qy
    have lu := rv.length
    have lw := rw'.length
    have hh := I.ok.hd hc
    have d1 := drawsT (P := X.prog) (w := X.w) (A := X.A.in1) hh i1 a D.l1i1 us.toArray
    have d2 := Draws.list (prog := X.prog) (w := X.w) (A := X.A.in1) hh i2 b D.l2i2 ws.toArray
    refine wpAny_pyNext_zipD2_end (i := i) (sepM D) d1 d2 g0 g1 g2 ⟨j1, pu⟩ ⟨j2, pw.isList⟩ (by simp; omega) (by simp; omega) (by simp; omega) fun h' tk hk => ⟨rfl, ?_⟩
    exact I.turnedL (t' := tk) (ch := five z TI TO i1 i2) (fun c o hb q => by
      obtain ⟨n1, n2, n3, n4⟩ := five_out hb
      exact hk c o n1 n2 n3 n4 q) hf
  self := fun A i s Q E st h => wpAny_pyIter_zip st.1 h
abbrev zw1 (h : Heap) (a : Addr) : Heap := h.push { cls := .type "tuple_iterator", data := .fields #[.ref a, .int 0 0] }
abbrev zw2 (h : Heap) (a b : Addr) : Heap := (zw1 h a).push { cls := .type "list_iterator", data := .fields #[.ref b, .int 0 0] }
abbrev zw3 (h : Heap) (a b : Addr) : Heap := (zw2 h a b).push { cls := .type "tuple", data := .seq #[.ref h.objs.size, .ref (zw1 h a).objs.size] }
abbrev zw4 (h : Heap) (a b : Addr) : Heap := (zw3 h a b).push { cls := .type "tuple", data := .seq #[.none, .none] }
abbrev zw5 (h : Heap) (a b : Addr) : Heap := (zw4 h a b).push { cls := .type "zip", data := .fields #[.none, .bool false, .bool false, .ref (zw2 h a b).objs.size, .ref (zw3 h a b).objs.size] }
theorem meets_zipW (a b : Addr) (xs ys : Array Value) :
    Meets (Builtin.«zip.__new__» ⟨[.type "zip", .ref a, .ref b], []⟩) (fun _ R s => s.heap.IsTuple a xs ∧ s.heap.IsList b ys ∧ R (.ok (.ret (.ref (zw4 s.heap a b).objs.size))) { s with heap := zw5 s.heap a b }) :=
  .of_wp fun prog w A R s h => by
    obtain ⟨hp, g, d, tk, os⟩ := s
    obtain ⟨h1, h2, h⟩ := h
    have hsub := sub_zip
    have q1 : Heap.IsTuple (Shared.heap ⟨hp, g, d, tk, os⟩) a xs := h1
    have q2 : Heap.IsList (Shared.heap ⟨hp.push { cls := .type "tuple_iterator", data := .fields #[.ref a, .int 0 0] }, g, d, tk, os⟩) b ys := Heap.IsList.push h2 _
    wp_walk using wpAny_pyIter_tuple q1, wpAny_pyIter_list q2
    exact ⟨_, rfl, h⟩
section
variable {prog : Program} {w : World} {A : Around} {E : Value → Shared → Prop} {s : Shared}
theorem call_zipW {a b : Addr} {xs ys : Array Value} {Q : Value → Shared → Prop} (h1 : s.heap.IsTuple a xs) (h2 : s.heap.IsList b ys)
    (h : ∀ h', IsZip h' (s.heap.objs.size + 4) (s.heap.objs.size + 2) (s.heap.objs.size + 3) .none → IsPair h' (s.heap.objs.size + 2) (.ref s.heap.objs.size) (.ref (s.heap.objs.size + 1)) → IsPair h' (s.heap.objs.size + 3) .none .none →
      h'.IsTupleIter s.heap.objs.size a 0 → h'.IsListIter (s.heap.objs.size + 1) b 0 → (∀ c o, s.heap.get? c = some o → h'.get? c = some o) → Q (.ref (s.heap.objs.size + 4)) { s with heap := h' }) :
    wpAny (model prog w) A (call (.type "zip") [.ref a, .ref b]) Q E s := by
  refine callType_new F.called_zip (by decide) (F.typeCall_zip_2 _ _) (F.newCall_zip_2 _ _) (fun obj => F.args_object_init_3 obj _ _) F.entry_zip_new (meets_zipW a b xs ys) ⟨h1, h2, ?_⟩
  generalize hh : s.heap = hp at h ⊢
  have n1 : (zw1 hp a).objs.size = hp.objs.size + 1 := Heap.size_push ..
  have n2 : (zw2 hp a b).objs.size = hp.objs.size + 2 := (Heap.size_push ..).trans (congrArg (· + 1) n1)
  have n3 : (zw3 hp a b).objs.size = hp.objs.size + 3 := (Heap.size_push ..).trans (congrArg (· + 1) n2)
  have n4 : (zw4 hp a b).objs.size = hp.objs.size + 4 := (Heap.size_push ..).trans (congrArg (· + 1) n3)
  have at5 : (zw5 hp a b).get? (zw4 hp a b).objs.size = some _ := Heap.get?_push_size _ rfl
  have at4 : (zw5 hp a b).get? (zw3 hp a b).objs.size = some _ := Heap.get?_push_of_some _ (Heap.get?_push_size _ rfl)
  have at3 : (zw5 hp a b).get? (zw2 hp a b).objs.size = some _ := Heap.get?_push_of_some _ (Heap.get?_push_of_some _ (Heap.get?_push_size _ rfl))
  have at2 : (zw5 hp a b).get? (zw1 hp a).objs.size = some _ := Heap.get?_push_of_some _ (Heap.get?_push_of_some _ (Heap.get?_push_of_some _ (Heap.get?_push_size _ rfl)))
  have at1 : (zw5 hp a b).get? hp.objs.size = some _ := Heap.get?_push_of_some _ (Heap.get?_push_of_some _ (Heap.get?_push_of_some _ (Heap.get?_push_of_some _ (Heap.get?_push_size _ rfl))))
  show _ ∧ _
  rw [n2, n3, n4] at at5
  rw [n1, n2] at at3
  rw [n3] at at4
  rw [n1] at at2
  rw [n4]
  exact ⟨⟨_, at5, rfl⟩, h _ at5 at3 at4 ⟨_, at1, rfl, rfl⟩ ⟨_, at2, rfl, rfl⟩ fun c o x => by
    refine Heap.get?_push_of_some _ ?_
    refine Heap.get?_push_of_some _ ?_
    refine Heap.get?_push_of_some _ ?_
    exact Heap.get?_push_of_some _ (Heap.get?_push_of_some _ x)⟩
end
/-- zip(a tuple, a list) is walked -/
def iZipW (K : PySem.W.Frag) (ta : TA) : TI := fun σ H R => ta σ H fun vs H1 => ∃ a b xs ys, vs = [.ref a, .ref b] ∧ SqT K H1 a xs ∧ SqL K H1 b ys ∧ R (ItzW K a b) H1
theorem pi_zipW {X : Cx} {e e2 : Expr} {ta : TA} {p pos tpos : Pos} {elts : List Expr} {kk : Nat} (hg : Gl X "zip") (hm : X.mg "zip" = none) (ha : PA X [e, e2] ta)
    (hs : starEach [e, e2] X.env = (false, eval e X.env) :: starEach [e2] X.env := by rfl) (hpl : (backTo pos (starEach [e2] X.env)).any (·.1) = false := by rfl) :
    PI X (.Tuple elts kk tpos) (.Call (.Name "zip" p) [e, e2] [] pos) (iZipW X.K ta) := by
  refine ⟨fun pins s σ H R I h => ?_⟩
  refine Call_ (ld_blt I hg hm PyProof.Rows.boot_zip (PyProof.Rows.callWith_type1 (thn (ha.run pos pins s σ H _ I h) fun us s1 got => ?_) hs hpl))
  obtain ⟨vs, H1, J, rv0, a, b, xs, ys, ex, qx, qy, q⟩ := got
  subst ex
  obtain ⟨u1, u2, eu, ra, rb⟩ := vals2 rv0
  obtain rfl : u1 = Value.ref a := ra
  obtain rfl : u2 = Value.ref b := rb
  subst eu
  have fresh : ∀ c, c ∈ five (s1.heap.objs.size + 4) (s1.heap.objs.size + 2) (s1.heap.objs.size + 3) s1.heap.objs.size (s1.heap.objs.size + 1) → FpOk X pins H1 c := fun c hcm => by
    have le : s1.heap.objs.size ≤ c := by
      rcases five_mem hcm with z | z | z | z | z <;> (rw [z]; first | exact Nat.le_refl _ | exact Nat.le_add_right _ _)
    exact J.fpOk le (J.hok.fresh le)
  obtain ⟨us, rv, pu, _⟩ := J.tuple qx
  obtain ⟨ws, rw', pw, _⟩ := J.list qy
  obtain ⟨o1, ho1, _⟩ := id pu
  obtain ⟨o2, ho2, _⟩ := pw.isList
  refine call_zipW (show s1.heap.IsTuple a us.toArray from pu) pw.isList fun h' g0 g1 g2 j1 j2 hk => wpAny_pyIter_zip g0 ?_
  exact ⟨_, five _ _ _ _ _, _, _, H1, rfl, J.kept (t' := s1.toks) hk, turn_zipW (PySem.W.ktu_apart s1.heap.objs.size a b (Heap.lt_size ho1) (Heap.lt_size ho2)), ⟨g0, g1, ⟨_, _, g2⟩, j1, j2⟩, fresh, q⟩
theorem kPiW {X : Cx} (K : PySem.W.Frag) {tg l : Expr} {ta : TA} (h : X.K = K) (x : PI X tg l (iZipW X.K ta)) : PI X tg l (iZipW K ta) := h ▸ x
theorem walk_zipW {K : PySem.W.Frag} {a b : Addr} {xs ys : List V} : Walk (ItzW K a b) (min xs.length ys.length) (fun H => SqT K H a xs ∧ SqL K H b ys) (YPair (fun i => xs[i]?) (fun i => ys[i]?)) := by
  refine ⟨fun i _ hi q => ?_, fun _ q => ⟨xs, ys, q.1, q.2, by omega⟩, fun i H v H' _ q y => ?_⟩
  · exact ⟨xs, ys, _, _, q.1, q.2, List.getElem?_eq_getElem (show i < xs.length by omega), List.getElem?_eq_getElem (show i < ys.length by omega)⟩
  · obtain ⟨T, x, z, z1, z2, z3, z4, z5⟩ := y
    exact ⟨T, x, z, z1, z2, z3, z4 xs q.1, z5 ys q.2⟩
end Bk

namespace Bk
open PySem PySem.Spec PyProof.Rows L2
local macro_rules | `(tactic| walk_at "g") => `(tactic| (repeat first | refine ⟨_, rfl, ?_⟩ | refine ⟨cpow, ?_⟩ | refine ⟨_, _, rfl, rfl, ?_⟩ | refine ⟨rfl, ?_⟩))
section
variable {P : Program} {w : World} {K : PySem.W.Frag} {mg : Str → Option Value} {base : Heap}
/-! ### _law_spring, _law_draw -/
abbrev s_law_spring : Stmt := topS 45
abbrev N_law_spring : List Str := ["script", "figures", "stir", "cell"]
theorem sc_law_spring : FnScope N_law_spring ["script"] (defScope s_law_spring) := ⟨rfl, rfl, rfl, by decide +kernel, rfl, by decide +kernel, by decide +kernel⟩
def SprOk (R : Addr) (H : Hp) : Prop := ∃ f s n : Int, H R = some (.lst [.int f, .int s, .int n]) ∧ 0 ≤ f ∧ 0 ≤ s ∧ s < 2305843009213693951
theorem SprOk.same {R : Addr} {H H' : Hp} (h : SprOk R H) (s : Same H H') : SprOk R H' := by
  obtain ⟨f, t, n, r, q⟩ := h
  exact ⟨f, t, n, s _ _ r, q⟩
theorem T60 : (10 : Int) ^ (60 : Int).toNat = (((10 : Nat) ^ 60 : Nat) : Int) := by decide +kernel
theorem spring_up {x r : Int} {n : Nat} (h : 0 ≤ x) (hx : x < ((2 ^ (200 * n) : Nat) : Int)) (r0 : 0 ≤ r) (r1 : r < (10 : Int) ^ (60 : Int).toNat) : 0 ≤ x * (10 : Int) ^ (60 : Int).toNat + r ∧ x * (10 : Int) ^ (60 : Int).toNat + r < ((2 ^ (200 * (n + 1)) : Nat) : Int) := by
  rw [T60] at *
  have e : (10 : Nat) ^ 60 ≤ 2 ^ 200 := by decide +kernel
  obtain ⟨m, rfl⟩ : ∃ m : Nat, x = m := ⟨x.toNat, by omega⟩
  obtain ⟨k, rfl⟩ : ∃ m : Nat, r = m := ⟨r.toNat, by omega⟩
  have h1 : m < 2 ^ (200 * n) := by exact_mod_cast hx
  have h2 : k < 10 ^ 60 := by exact_mod_cast r1
  have h3 : m * 10 ^ 60 + k < 2 ^ (200 * (n + 1)) := by
    rw [show 200 * (n + 1) = 200 * n + 200 by omega, Nat.pow_add]
    calc m * 10 ^ 60 + k < m * 10 ^ 60 + 10 ^ 60 := by omega
      _ = (m + 1) * 10 ^ 60 := by rw [Nat.add_mul, Nat.one_mul]
      _ ≤ 2 ^ (200 * n) * 2 ^ 200 := Nat.mul_le_mul h1 e
  exact ⟨by omega, by exact_mod_cast h3⟩
def spSpring (K : PySem.W.Frag) : Sp := fun vs H Q _ => ∃ (a : Addr) (ns : List Int), vs = [.ref a] ∧ SqL K H a (ns.map V.int) ∧ ns.length ≤ 63 ∧
  ∀ H' R, Same H H' → H R = none → SprOk R H' → Q (.ref R) H'
theorem ok_law_spring {f : Addr} {fd : FuncData} (F : Fun K "_law_spring" "_law_spring" s_law_spring f fd) (m_abs : mg "abs" = none) : FnOk P w K mg base CX0 1 f fd ["script"] (spSpring K) := by
  refine F.ok sc_law_spring (fun vs H Q E h => ?_) (fun cdv A outer s H vs Q E hr h => ?_)
  · obtain ⟨a, ns, rfl, _⟩ := h
    rfl
  · obtain ⟨a, ns, rfl, hS, hlen, q⟩ := h
    have nd := sc_law_spring.nd
    refine ⟨_, (pss_cons (ps_set (i := 1) nd rfl (.inl rfl) pe_int)
      (pss_cons (ps_set (i := 2) nd rfl (.inl rfl) pe_int)
      (pss_cons (ps_for PassesOwn.never rfl (kPiL K rfl (pi_list (pe_slice (kSlL K rfl) (pv 0) po_none (po_some pe_int)))) (pg_name (i := 3) nd rfl (.inl rfl)) (pss_cons (ps_if (pt_cmpR op_ge (pe_callB call_abs (by rfl) m_abs (by decide +kernel) (pa_cons (pv 3) pa_nil)) (pe_op op_pow pe_int pe_int) (nomark _)) (pss_one (ps_set (i := 1) nd rfl (.inl rfl) (pe_op op_add (pe_op op_mulW (pv 1) (pe_op op_pow pe_int pe_int)) (pe_op op_modN (pe_callB call_abs (by rfl) m_abs (by decide +kernel) (pa_cons (pv 3) pa_nil)) (pe_op op_pow pe_int pe_int))))) pss_nil)
      (pss_one (ps_set (i := 2) nd rfl (.inl rfl) (pe_op op_modN (pe_op op_add (pe_op op_add (pe_op op_mul (pv 2) pe_int) (pe_op op_modN (pv 3) pe_int)) pe_int) pe_int)))))
      (pss_one (ps_ret (pe_lst (pa_cons (pv 1) (pa_cons (pv 2) (pa_cons pe_int pa_nil))))))))), ?_⟩
    refine ⟨.ref a, rfl, 63, rfl, a, ns.map V.int, rfl, hS, fun c nc => ?_⟩
    refine ⟨c, rfl, ⟨_, .inl (.inl upd_same)⟩, ?_⟩
    have s1 : Same H (upd H c (.lst (cutV (ns.map V.int) none (some 63)))) := same_new nc
    have e63 : cutV (ns.map V.int) none (some 63) = ns.map V.int := by
      rw [show (63 : Int) = ((63 : Nat) : Int) from rfl, cut_to]
      exact List.take_of_length_le (by rw [List.length_map]; exact hlen)
    rw [e63] at s1 ⊢
    refine for_list (xs := ns.map V.int) (fun i σ H3 => ∃ fg st y, σ = [some (.ref a), some (.int fg), some (.int st), y] ∧ 0 ≤ fg ∧ fg < ((2 ^ (200 * i) : Nat) : Int) ∧ 0 ≤ st ∧ st < 2305843009213693951 ∧ H3 = upd H c (.lst (ns.map V.int))) ⟨0, 88651, none, rfl, by decide, by decide, by decide, by decide, rfl⟩ ?_ ?_ ?_
    · rintro i σ H3 _ ⟨fg, st, y, rfl, _, _, _, _, rfl⟩
      exact .inl (.inl upd_same)
    · rintro i x σ H3 hx ⟨fg, st, y, rfl, f0, f1, t0, t1, rfl⟩
      obtain ⟨k, rfl, hk⟩ := get_map_int hx
      have hi : i < ns.length := (List.getElem?_eq_some_iff.mp hk).1
      have m1 : ∀ x : Int, 0 ≤ (x : Int).fmod 2305843009213693951 ∧ (x : Int).fmod 2305843009213693951 < 2305843009213693951 := fun x => fmod_pos (by decide)
      have p1 : (0 : Int) < (10 : Int) ^ (60 : Int).toNat := by decide +kernel
      walk_at "g"
      refine ite2 (fun e => ?_) (fun e => ?_)
      · walk_at "g"
        have hb : 0 ≤ (if k < 0 then -k else k).fmod ((10 : Int) ^ (60 : Int).toNat) ∧ (if k < 0 then -k else k).fmod ((10 : Int) ^ (60 : Int).toNat) < (10 : Int) ^ (60 : Int).toNat := fmod_pos p1
        have up := spring_up f0 f1 hb.1 hb.2
        refine ⟨wide_mul (a := 200 * i + 1) (b := 201) ?_ (by decide +kernel) (by omega) (by decide) (by omega), ?_⟩
        · obtain ⟨m, rfl⟩ : ∃ m : Nat, fg = m := ⟨fg.toNat, by omega⟩
          have h1 : m < 2 ^ (200 * i) := by exact_mod_cast f1
          rw [Int.natAbs_natCast]
          exact Nat.lt_of_lt_of_le h1 (Nat.pow_le_pow_right (by decide) (by omega))
        walk_at "g"
        refine ⟨Int.ne_of_gt p1, ?_⟩
        walk_at "g"
        refine ⟨.inr (by decide), ?_⟩
        walk_at "g"
        refine ⟨(show (2305843009213693921 : Int) ≠ 0 by decide), ?_⟩
        walk_at "g"
        refine ⟨(show (2305843009213693951 : Int) ≠ 0 by decide), ?_⟩
        exact ⟨_, _, _, rfl, up.1, up.2, (m1 _).1, (m1 _).2, rfl⟩
      · walk_at "g"
        refine ⟨.inr (by decide), ?_⟩
        walk_at "g"
        refine ⟨(show (2305843009213693921 : Int) ≠ 0 by decide), ?_⟩
        walk_at "g"
        refine ⟨(show (2305843009213693951 : Int) ≠ 0 by decide), ?_⟩
        refine ⟨_, _, _, rfl, f0, Int.lt_of_lt_of_le f1 ?_, (m1 _).1, (m1 _).2, rfl⟩
        exact_mod_cast Nat.pow_le_pow_right (by decide) (by omega)
    · rintro σ H3 ⟨fg, st, y, rfl, f0, f1, t0, t1, rfl⟩
      walk_at "g"
      refine ⟨Nat.le_of_lt (small1000 (by show 3 ≤ 1000; decide)), fun R nR => ?_⟩
      exact q _ R (s1.trans (same_new nR)) (s1.free nR) ⟨fg, st, 0, upd_same, f0, t0, t1⟩
abbrev s_law_draw : Stmt := topS 46
abbrev N_law_draw : List Str := ["spring", "many", "found", "stir"]
theorem sc_law_draw : FnScope N_law_draw ["spring", "many"] (defScope s_law_draw) := ⟨rfl, rfl, rfl, by decide +kernel, rfl, by decide +kernel, by decide +kernel⟩
def spSDraw : Sp := fun vs H Q _ => ∃ (R : Addr) (m : Int), vs = [.ref R, .int m] ∧ 0 < m ∧ m ≤ 1000000000000000000000000000000 ∧ SprOk R H ∧
  ∀ H' r, Keep R H H' → SprOk R H' → 0 ≤ r → r < m → Q (.int r) H'
theorem ok_law_draw {f : Addr} {fd : FuncData} (F : Fun K "_law_draw" "_law_draw" s_law_draw f fd) : FnOk P w K mg base CX0 1 f fd ["spring", "many"] spSDraw := by
  refine F.ok sc_law_draw (fun vs H Q E h => ?_) (fun cdv A outer s H vs Q E hr h => ?_)
  · obtain ⟨R, m, rfl, _⟩ := h
    rfl
  · obtain ⟨R, m, rfl, hm0, hm1, ⟨f, s, n, r, f0, s0, s1⟩, q⟩ := h
    have nd := sc_law_draw.nd
    refine ⟨_, (pss_cons (ps_if (pt_cmpR op_gt (pe_ix (kIxL K rfl) (pv 0) pe_int (fun _ _ => rfl)) pe_int (nomark _)) (pss_cons (ps_set (i := 2) nd rfl (.inl rfl) (pe_op op_modN (pe_ix (kIxL K rfl) (pv 0) pe_int (fun _ _ => rfl)) (pv 1)))
      (pss_cons (ps_asg (pe_op op_fdivW (pe_ix (kIxL K rfl) (pv 0) pe_int (fun _ _ => rfl)) (pv 1)) (pg_sub (pv 0) pe_int set_list))
      (pss_one (ps_ret (pv 2))))) pss_nil)
      (pss_cons (ps_asg (pe_op op_add (pe_ix (kIxL K rfl) (pv 0) pe_int (fun _ _ => rfl)) pe_int) (pg_sub (pv 0) pe_int set_list))
      (pss_cons (ps_set (i := 3) nd rfl (.inl rfl) (pe_op op_modN (pe_op op_mul (pe_ix (kIxL K rfl) (pv 0) pe_int (fun _ _ => rfl)) (pe_ix (kIxL K rfl) (pv 0) pe_int (fun _ _ => rfl))) pe_int))
      (pss_cons (ps_asg (pe_op op_modN (pe_op op_add (pe_op op_add (pv 3) (pe_op op_mul (pe_op op_mul pe_int (pe_ix (kIxL K rfl) (pv 0) pe_int (fun _ _ => rfl))) (pe_ix (kIxL K rfl) (pv 0) pe_int (fun _ _ => rfl)))) pe_int) pe_int) (pg_sub (pv 0) pe_int set_list))
      (pss_one (ps_ret (pe_op op_modN (pe_op op_fdivN (pe_ix (kIxL K rfl) (pv 0) pe_int (fun _ _ => rfl)) pe_int) (pv 1)))))))), ?_⟩
    have m1 : ∀ x : Int, 0 ≤ (x : Int).fmod 2305843009213693951 ∧ (x : Int).fmod 2305843009213693951 < 2305843009213693951 := fun x => fmod_pos (by decide)
    have mw : CDivW f m := wide_div (b := 101) hm0 (Nat.lt_of_le_of_lt (show m.natAbs ≤ 1000000000000000000000000000000 by omega) (by decide +kernel)) (by decide) (by decide)
    refine ⟨.ref R, rfl, R, _, 0, .int f, rfl, rfl, .inl (.inl r), rfl, ?_⟩
    walk_at "g"
    refine ite2 (fun e => ?_) (fun e => ?_)
    · refine ⟨.ref R, rfl, R, _, 0, .int f, rfl, rfl, .inl (.inl r), rfl, ?_⟩
      walk_at "g"
      refine ⟨Int.ne_of_gt hm0, ?_⟩
      refine ⟨.ref R, rfl, R, _, 0, .int f, rfl, rfl, .inl (.inl r), rfl, ?_⟩
      walk_at "g"
      refine ⟨mw, ?_⟩
      refine ⟨.ref R, rfl, R, _, 0, 0, rfl, rfl, r, rfl, ?_⟩
      walk_at "g"
      exact q _ _ keep_set ⟨_, _, _, upd_same, Int.ediv_nonneg f0 (by omega), s0, s1⟩ (fmod_pos hm0).1 (fmod_pos hm0).2
    · refine ⟨.ref R, rfl, R, _, 2, .int n, rfl, rfl, .inl (.inl r), rfl, ?_⟩
      walk_at "g"
      refine ⟨R, _, 2, 2, rfl, rfl, r, rfl, ?_⟩
      have h2 : (upd H R (.lst [.int f, .int s, .int (n + 1)])) R = some (.lst [.int f, .int s, .int (n + 1)]) := upd_same
      have k2 : Keep R H (upd H R (.lst [.int f, .int s, .int (n + 1)])) := keep_set
      show tSeq _ _ _ _ (upd H R (.lst [.int f, .int s, .int (n + 1)]))
      generalize upd H R (.lst [.int f, .int s, .int (n + 1)]) = H2 at k2 h2 ⊢
      have cs : CMul s s := .inl ⟨by omega, by omega⟩
      refine ⟨.ref R, rfl, R, _, 1, .int s, rfl, rfl, .inl (.inl h2), rfl, ?_⟩
      walk_at "g"
      refine ⟨R, _, 1, .int s, rfl, rfl, .inl (.inl h2), rfl, ?_⟩
      walk_at "g"
      refine ⟨cs, ?_⟩
      walk_at "g"
      refine ⟨(show (2305843009213693951 : Int) ≠ 0 by decide), ?_⟩
      walk_at "g"
      refine ⟨R, _, 2, .int (n + 1), rfl, rfl, .inl (.inl h2), rfl, ?_⟩
      walk_at "g"
      refine ⟨.inl ⟨by decide, by decide⟩, ?_⟩
      refine ⟨.ref R, rfl, R, _, 1, .int s, rfl, rfl, .inl (.inl h2), rfl, ?_⟩
      walk_at "g"
      refine ⟨.inr ⟨by omega, by omega⟩, ?_⟩
      walk_at "g"
      refine ⟨(show (2305843009213693951 : Int) ≠ 0 by decide), ?_⟩
      refine ⟨.ref R, rfl, R, _, 1, 1, rfl, rfl, h2, rfl, ?_⟩
      have ms := m1 ((s * s).fmod 2305843009213693951 + 7919 * (n + 1) * s + 104729)
      refine ⟨.ref R, rfl, R, _, 1, _, rfl, rfl, .inl (.inl upd_same), rfl, ?_⟩
      walk_at "g"
      refine ⟨⟨by decide, by decide⟩, ?_⟩
      walk_at "g"
      refine ⟨Int.ne_of_gt hm0, ?_⟩
      exact q _ _ (k2.trans keep_set) ⟨_, _, _, upd_same, f0, ms.1, ms.2⟩ (fmod_pos hm0).1 (fmod_pos hm0).2
end
end Bk

namespace Bk
open PySem PySem.Spec PyProof.Rows L2
local macro_rules | `(tactic| walk_at "g") => `(tactic| (repeat first | refine ⟨_, rfl, ?_⟩ | refine ⟨cpow, ?_⟩ | refine ⟨_, _, rfl, rfl, ?_⟩ | refine ⟨rfl, ?_⟩))
theorem perm_erase {l : List Nat} {r : Nat} (h : r < l.length) : ([l[r]] ++ l.eraseIdx r).Perm l := by
  induction l generalizing r with
  | nil => cases h
  | cons x l ih =>
    cases r with
    | zero => exact .refl _
    | succ r =>
      have h' : r < l.length := by
        rw [List.length_cons] at h
        omega
      show (l[r] :: x :: l.eraseIdx r).Perm (x :: l)
      exact (List.Perm.swap x l[r] _).trans ((ih h').cons x)
theorem map_eraseIdx {α β : Type} (f : α → β) : ∀ (l : List α) (r : Nat), (l.map f).eraseIdx r = (l.eraseIdx r).map f
  | [], _ => rfl
  | _ :: _, 0 => rfl
  | x :: l, r + 1 => congrArg (f x :: ·) (map_eraseIdx f l r)
theorem turnsB4 : ((List.range 4).all fun a => (List.range 4).all fun b => (List.range 4).all fun c => (List.range 4).all fun d => !decide ([a, b, c, d].Nodup) || decide ([a, b, c, d] ∈ allTurns)) = true := by decide +kernel
theorem turn_of_perm4 {t : List Nat} (h : t.Perm (List.range 4)) : t ∈ allTurns := by
  have l : t.length = 4 := h.length_eq
  have nd : t.Nodup := h.symm.nodup List.nodup_range
  have lt : ∀ x ∈ t, x ∈ List.range 4 := fun x hx => h.mem_iff.mp hx
  match t, l with
  | [a, b, c, d], _ =>
    have h1 := List.all_eq_true.mp turnsB4 a (lt a (by simp))
    have h2 := List.all_eq_true.mp h1 b (lt b (by simp))
    have h3 := List.all_eq_true.mp h2 c (lt c (by simp))
    have h4 := List.all_eq_true.mp h3 d (lt d (by simp))
    rw [decide_eq_true nd] at h4
    exact of_decide_eq_true (by simpa using h4)
theorem SprOk.ne {R p : Addr} {H : Hp} {o : HO} (h : SprOk R H) (hp : H p = some o) (n : ∀ f s k : Int, o ≠ .lst [.int f, .int s, .int k]) : p ≠ R := fun z => by
  obtain ⟨f, t, k, e, _⟩ := h
  rw [z, e] at hp
  exact n f t k (Option.some.inj hp).symm
theorem SprOk.tups {R : Addr} {H H' : Hp} (h : SprOk R H) (k : Keep R H H') : Tups H H' := fun b o xs e => k b _ e (h.ne e fun _ _ _ z => by cases z)
theorem SprOk.set {R p : Addr} {H : Hp} {o : HO} (h : SprOk R H) (n : R ≠ p) : SprOk R (upd H p o) := by
  obtain ⟨f, t, k, e, q⟩ := h
  exact ⟨f, t, k, by rw [upd_ne n]; exact e, q⟩
theorem rep_snoc (g : Nat) {i : Nat} (h : i < 4) (u : List Nat) (x : Nat) (hu : u.length = i) : ((u ++ List.replicate (4 - i) g).map intV).set i (intV x) = ((u ++ [x]) ++ List.replicate (4 - (i + 1)) g).map intV := by
  rw [show 4 - i = (4 - (i + 1)) + 1 by omega, List.replicate_succ, ← List.map_set, List.set_append, if_neg (by omega), hu, Nat.sub_self, List.set_cons_zero, List.append_assoc]
  rfl
theorem rep_snoc_g (g : Nat) {i : Nat} (h : i < 4) (u : List Nat) : (u ++ List.replicate (4 - i) g) = ((u ++ [g]) ++ List.replicate (4 - (i + 1)) g) := by
  rw [show 4 - i = (4 - (i + 1)) + 1 by omega, List.replicate_succ, List.append_assoc]
  rfl
section
variable {P : Program} {w : World} {K : PySem.W.Frag} {mg : Str → Option Value} {base : Heap}
abbrev s_law_way : Stmt := topS 47
abbrev N_law_way : List Str := ["spring", "face", "goal", "turn", "left", "tip"]
theorem sc_law_way : FnScope N_law_way ["spring", "face", "goal"] (defScope s_law_way) := ⟨rfl, rfl, rfl, by decide +kernel, rfl, by decide +kernel, by decide +kernel⟩
def spWayS : Sp := fun vs H Q _ => ∃ (R : Addr) (f g : Nat), vs = [.ref R, intV f, intV g] ∧ f < 4 ∧ g < 4 ∧ SprOk R H ∧ ∀ H' p t, Keep R H H' → SprOk R H' → H p = none → FT H' p (trnV t) → t ∈ allTurns → tf t f = g → Q (.ref p) H'
theorem ok_law_way {f fD : Addr} {fd fdD : FuncData} (F : Fun K "_law_way" "_law_way" s_law_way f fd) (F_law_draw : Fun K "_law_draw" "_law_draw" s_law_draw fD fdD) (g_law_draw : mg "_law_draw" = some (.ref fD)) (b_law_draw : Binds K fdD ["spring", "many"] [])
    (G_law_draw : FnOk P w K mg base CX0 1 fD fdD ["spring", "many"] spSDraw) (m_range : mg "range" = none) (m_len : mg "len" = none) (m_tuple : mg "tuple" = none) : FnOk P w K mg base CX0 2 f fd ["spring", "face", "goal"] spWayS := by
  refine F.ok sc_law_way (fun vs H Q E h => ?_) (fun cdv A outer s H vs Q E hr h => ?_)
  · obtain ⟨R, f, g, rfl, _⟩ := h
    rfl
  · obtain ⟨R, f, g, rfl, hf, hg, hR, q⟩ := h
    have nd := sc_law_way.nd
    refine ⟨_, (pss_cons (ps_set (i := 3) nd rfl (.inl rfl) (pe_op op_rep (pe_lst (pa_cons (pv 2) pa_nil)) pe_int))
      (pss_cons (ps_setLc (i := 4) (own := [("tip", 5)]) (g := gName 5) rfl nd rfl rfl (sw_true rfl rfl rfl (by decide +kernel)) (pi_range1 (by rfl) m_range (pa_cons pe_int pa_nil)) (blkOk_by (own := [("tip", 5)]) (N := N_law_way) (sc := defScope s_law_way) (by decide +kernel)) (fun _ _ _ _ _ => (pg_name (i := 5) nd rfl (Or.inl rfl))) (fun _ _ _ _ _ => (pts_one (pt_cmpR op_ne (pv 5) (pv 2) (nomark _)))) (fun _ _ _ _ _ => (pv 5)))
      (pss_cons (ps_for PassesOwn.never rfl (pi_range1 (by rfl) m_range (pa_cons pe_int pa_nil)) (pg_name (i := 5) nd rfl (.inl rfl)) (pss_one (ps_if (pt_cmpR op_ne (pv 5) (pv 1) (nomark _)) (pss_one (ps_asg (kBM K rfl (pe_bm PySem.F.plainAttrs_list PySem.F.slot_list_pop PySem.F.type_list_pop mt_popAt (pv 4) (pa_cons (pe_call G_law_draw (hr.mono (by first | decide | omega)) (by rfl) g_law_draw F_law_draw.kp b_law_draw .nil pass0 (pa_cons (pv 0) (pa_cons (pe_callB (kLen K rfl) (by rfl) m_len (by decide +kernel) (pa_cons (pv 4) pa_nil)) pa_nil))) pa_nil))) (pg_sub (pv 3) (pv 5) set_list))) pss_nil)))
      (pss_one (ps_ret (pe_callTy (kTupleF K rfl) (by rfl) m_tuple (by decide +kernel) (pa_cons (pv 3) pa_nil))))))), ?_⟩
    obtain ⟨fR, sR, kR, hRR, _⟩ := id hR
    refine ⟨intV g, rfl, Nat.le_of_lt (small1000 (by show 1 ≤ 1000; decide)), fun L0 nL0 => ?_⟩
    refine ⟨L0, 4, [intV g], rfl, rfl, upd_same, by decide, by decide, Nat.le_of_lt (small1000 (by show 1 * 4 ≤ 1000; decide)), fun L nL => ?_⟩
    have sA : Same H (upd H L0 (.lst [intV g])) := same_new nL0
    have nLH : H L = none := sA.free nL
    have sB := sA.trans (same_new (o := .lst (List.replicate (Int.toNat 4) [intV g]).flatten) nL)
    have lB : (upd (upd H L0 (.lst [intV g])) L (.lst (List.replicate (Int.toNat 4) [intV g]).flatten)) L = some (.lst ((List.replicate 4 g).map intV)) := upd_same
    generalize upd (upd H L0 (.lst [intV g])) L (.lst (List.replicate (Int.toNat 4) [intV g]).flatten) = HB at sB lB ⊢
    clear sA nL0 nL
    refine ⟨4, rfl, by decide, by decide, fun D nD => ?_⟩
    have nRD : R ≠ D := ne_of_none (sB _ _ hRR) nD
    have nLD : L ≠ D := ne_of_none lB nD
    have nRL : R ≠ L := ne_of_none hRR nLH
    refine lc_range (lo := 0) (n := 4) (fun i H1 => H1 D = some (.lst (((List.range i).filter fun c => !(c == g)).map intV)) ∧ Same HB H1) ⟨upd_same, same_new nD⟩ ?_ ?_
    · rintro i H1 hi ⟨h1, s1⟩
      rw [Int.zero_add]
      refine ⟨rfl, ?_⟩
      walk_at "g"
      have rs := range_filter_succ (fun c => !(c == g)) i
      rw [show (!decide (V.int (i : Int) = intV g)) = !(i == g) from ne_int i g]
      refine ite2 (fun e => ?_) (fun e => ?_)
      · rw [if_pos e] at rs
        refine ⟨_, rfl, _, h1, small1000 (by
          rw [List.length_map]
          refine Nat.le_trans (List.length_filter_le _ _) ?_
          rw [List.length_range]
          have : i < 4 := hi
          omega), ?_, same_fill s1 nD⟩
        rw [upd_same, rs, List.map_append]
        rfl
      · rw [if_neg e, List.append_nil] at rs
        exact ⟨by rw [rs]; exact h1, s1⟩
    · rintro H2 ⟨h2, s2⟩
      have l2 := s2 _ _ lB
      have sH := sB.trans s2
      refine ⟨4, rfl, by decide, by decide, ?_⟩
      have pm0 : ∀ g < 4, (([] : List Nat) ++ ((List.range 4).filter fun c => !(c == g)) ++ [g]).Perm (List.range 4) := by decide +kernel
      have nDH : H D = none := sB.free nD
      refine for_range (lo := 0) (n := 4) (fun i σ H3 => ∃ (y5 : Option V) (u l : List Nat), σ = [some (.ref R), some (intV f), some (intV g), some (.ref L), some (.ref D), y5] ∧ H3 D = some (.lst (l.map intV)) ∧ H3 L = some (.lst ((u ++ List.replicate (4 - i) g).map intV)) ∧ (u ++ l ++ (if i ≤ f then [g] else [])).Perm (List.range 4) ∧ u.length = i ∧ (f < i → u[f]? = some g) ∧ Keep R H H3 ∧ SprOk R H3)
        ⟨none, [], _, rfl, h2, l2, by rw [if_pos (Nat.zero_le _)]; exact pm0 g hg, rfl, (fun z => absurd z (Nat.not_lt_zero _)), Keep.of sH, hR.same sH⟩ ?_ ?_
      · rintro i σ H3 hi ⟨y5, u, l, rfl, h3, l3, pm, lu, fu, k3, r3⟩
        have hi4 : i < 4 := hi
        rw [Int.zero_add]
        have lpm := pm.length_eq
        rw [List.length_append, List.length_append, List.length_range] at lpm
        walk_at "g"
        by_cases hif : i = f
        · rw [show (!decide (V.int (i : Int) = intV f)) = false by rw [hif]; exact congrArg (!·) (decide_eq_true rfl)]
          rw [if_pos (by omega)] at pm
          refine iteF ?_
          refine ⟨_, u ++ [g], l, rfl, h3, by rw [← rep_snoc_g g hi4]; exact l3, ?_, by rw [List.length_append, lu]; rfl, fun _ => by rw [← hif, ← lu, List.getElem?_append_right (Nat.le_refl _), Nat.sub_self]; rfl, k3, r3⟩
          rw [if_neg (by omega), List.append_nil]
          refine List.Perm.trans ?_ pm
          rw [List.append_assoc, List.append_assoc]
          exact (List.perm_append_comm).append_left u
        · rw [show (!decide (V.int (i : Int) = intV f)) = true from congrArg (!·) (decide_eq_false (fun z => hif (by injection z with z; omega)))]
          have ll : 0 < l.length := by
            by_cases c : i ≤ f
            · rw [if_pos c] at lpm
              simp only [List.length_cons, List.length_nil] at lpm
              omega
            · rw [if_neg c] at lpm
              simp only [List.length_nil] at lpm
              omega
          refine iteT ?_
          refine ⟨.ref D, rfl, .inl ⟨rfl, _, .inl (.inl h3)⟩, .ref R, rfl, .ref D, rfl, D, _, rfl, .inl (.inl (.inl h3)), R, (l.length : Int), by rw [List.length_map]; rfl, by omega, by omega, r3, fun H4 r k4 r4 hr0 hr1 => ?_⟩
          obtain ⟨r, rfl⟩ : ∃ m : Nat, r = m := ⟨r.toNat, by omega⟩
          have hr : r < l.length := by omega
          have h4 := k4 _ _ h3 nRD.symm
          have l4 := k4 _ _ l3 nRL.symm
          refine ⟨D, _, (r : Int), r, intV l[r], rfl, rfl, h4, by omega, by omega, seqIx_nat (by rw [List.length_map]; exact hr), by rw [List.getElem?_map, List.getElem?_eq_getElem hr]; rfl, ?_⟩
          have l5 : (upd H4 D (.lst ((l.map intV).eraseIdx r))) L = some (.lst ((u ++ List.replicate (4 - i) g).map intV)) := by
            rw [upd_ne nLD]
            exact l4
          refine ⟨.ref L, rfl, intV i, rfl, L, _, (i : Int), i, rfl, rfl, l5, ixN_lt (by rw [List.length_map, List.length_append, List.length_replicate]; omega), ?_⟩
          have pe : (u ++ [l[r]] ++ l.eraseIdx r).Perm (u ++ l) := by
            rw [List.append_assoc]
            refine List.Perm.append_left u ?_
            exact perm_erase hr
          refine ⟨_, u ++ [l[r]], l.eraseIdx r, rfl, ?_, ?_, ?_, by rw [List.length_append, lu]; rfl, fun hfi => ?_, keep_fill (keep_fill (k3.trans k4) nDH) nLH, (r4.set nRD).set nRL⟩
          · rw [upd_ne nLD.symm, upd_same, map_eraseIdx]
          · rw [upd_same, rep_snoc g hi4 u _ lu]
          · have e1 : (if i + 1 ≤ f then [g] else []) = (if i ≤ f then [g] else ([] : List Nat)) := by
              by_cases c : i ≤ f
              · rw [if_pos c, if_pos (by omega)]
              · rw [if_neg c, if_neg (by omega)]
            rw [e1]
            exact (pe.append_right _).trans pm
          · rw [List.getElem?_append_left (by omega)]
            exact fu (by omega)
      · rintro σ H3 ⟨y5, u, l, rfl, h3, l3, pm, lu, fu, k3, r3⟩
        have lpm := pm.length_eq
        rw [List.length_append, List.length_append, List.length_range] at lpm
        have l0 : l = [] := List.eq_nil_of_length_eq_zero (by omega)
        subst l0
        rw [if_neg (by omega), List.append_nil, List.append_nil] at pm
        rw [Nat.sub_self, List.replicate_zero, List.append_nil] at l3
        refine ⟨.ref L, rfl, L, _, rfl, .inl ⟨.inl (.inl l3), fun p o np dn => ?_⟩⟩
        refine q _ p u (k3.trans (Keep.of (same_new np))) (r3.same (same_new np)) (k3.free np fun z => ?_) (FT.new dn) (turn_of_perm4 pm) ?_
        · obtain ⟨g3, s3, k, e3, q3⟩ := r3
          rw [z, e3] at np
          cases np
        · unfold tf
          rw [fu hf]
          rfl
abbrev s_law_joined : Stmt := topS 48
abbrev N_law_joined : List Str := ["rows", "one", "other", "turn", "tip"]
theorem sc_law_joined : FnScope N_law_joined ["rows", "one", "other", "turn"] (defScope s_law_joined) := ⟨rfl, rfl, rfl, by decide +kernel, rfl, by decide +kernel, by decide +kernel⟩
/-- two faces joined, told as (block, face) each -/
def spJoinedS : Sp := fun vs H Q _ => ∃ (l po pn pt : Addr) (rs : List V) (S : Spc) (b f n : Nat) (t : Trn), vs = [.ref l, .ref po, .ref pn, .ref pt] ∧ SpAt H l rs S ∧ L4 S ∧ FT H po [intV b, intV f] ∧ FT H pn [intV n, intV (tf t f)] ∧ FT H pt (trnV t) ∧ t ∈ allTurns ∧ b < S.length ∧ f < 4 ∧ n < S.length ∧ S.length ≤ 1000 ∧
  ∀ H', KeepB rs H H' → SpAt H' l rs (joinJ S b f n t) → Q .non H'
theorem ok_law_joined {f : Addr} {fd : FuncData} (F : Fun K "_law_joined" "_law_joined" s_law_joined f fd) (m_range : mg "range" = none) (m_list : mg "list" = none) (m_tuple : mg "tuple" = none) : FnOk P w K mg base CX0 1 f fd ["rows", "one", "other", "turn"] spJoinedS := by
  refine F.ok sc_law_joined (fun vs H Q E h => ?_) (fun cdv A outer s H vs Q E hr h => ?_)
  · obtain ⟨l, po, pn, pt, rs, S, b, f, n, t, rfl, _⟩ := h
    rfl
  · obtain ⟨l, po, pn, pt, rs, S, b, f, n, t, rfl, hS, h4, fo, fn, hpt, ht, hb, hf, hn, hz, q⟩ := h
    have nd := sc_law_joined.nd
    refine ⟨_, (pss_cons (ps_asg (pe_tupF (pa_cons (pe_ix (kIxT K rfl) (pv 2) pe_int (fun _ _ => rfl)) (pa_cons (pv 3) pa_nil))) (pg_sub (pe_ix (kIxL K rfl) (pv 0) (pe_ix (kIxT K rfl) (pv 1) pe_int (fun _ _ => rfl)) (fun _ _ => rfl)) (pe_ix (kIxT K rfl) (pv 1) pe_int (fun _ _ => rfl)) set_list))
      (pss_one (ps_asg (pe_tupF (pa_cons (pe_ix (kIxT K rfl) (pv 1) pe_int (fun _ _ => rfl)) (pa_cons (pe_callTy (kTupleF K rfl) (by rfl) m_tuple (by decide +kernel) (pa_cons (pe_lc (own := [("tip", 4)]) (g := gName 4) (tt := tYes) rfl nd (pi_range1 (by rfl) m_range (pa_cons pe_int pa_nil)) (blkOk_by (own := [("tip", 4)]) (N := N_law_joined) (sc := defScope s_law_joined) (by decide +kernel)) (fun _ _ _ _ _ => (pg_name (i := 4) nd rfl (Or.inl rfl))) (fun _ _ _ _ _ => pts_nil) (fun _ _ _ _ _ => (kBM K rfl (pe_bm PySem.F.plainAttrs_list PySem.F.slot_list_index PySem.F.type_list_index (kIndexI K rfl) (pe_callTy (kList K rfl) (by rfl) m_list (by decide +kernel) (pa_cons (pv 3) pa_nil)) (pa_cons (pv 4) pa_nil))))) pa_nil)) pa_nil))) (pg_sub (pe_ix (kIxL K rfl) (pv 0) (pe_ix (kIxT K rfl) (pv 2) pe_int (fun _ _ => rfl)) (fun _ _ => rfl)) (pe_ix (kIxT K rfl) (pv 2) pe_int (fun _ _ => rfl)) set_list)))), ?_⟩
    obtain ⟨pb, vb, eb, hvb, hvb2⟩ := hS.at hb
    have lrs : rs.length = S.length := plen hS.b
    refine ⟨.ref pn, rfl, pn, _, 0, intV n, rfl, rfl, fn.sqt, atI_nat (j := 0) rfl, .ref pt, rfl, Nat.le_of_lt (small1000 (by show 2 ≤ 1000; decide)), fun p1 o1 np1 d1 => ?_⟩
    have s1 : Same H (upd H p1 (.frz o1 (.tup [intV n, .ref pt]))) := same_new np1
    have j1 : JAt (upd H p1 (.frz o1 (.tup [intV n, .ref pt]))) (.ref p1) (some (n, t)) := ⟨p1, pt, rfl, FT.new d1, hpt.mono s1.tups⟩
    show _
    generalize upd H p1 (.frz o1 (.tup [intV n, .ref pt])) = H1 at s1 j1 ⊢
    have hS1 := hS.same s1
    have fo1 := fo.mono s1.tups
    have lvb : vb.length = 4 := by rw [plen hvb2]; exact blk_len h4 hb
    refine ⟨.ref l, rfl, .ref po, rfl, po, _, 0, intV b, rfl, rfl, fo1.sqt, atI_nat (j := 0) rfl, l, rs, b, .ref pb, rfl, rfl, .inl (.inl hS1.l), atI_nat eb, .ref po, rfl, po, _, 1, intV f, rfl, rfl, fo1.sqt, atI_nat (j := 1) rfl, pb, vb, f, f, rfl, rfl, s1 _ _ hvb, ixN_lt (by omega), ?_⟩
    obtain ⟨hS2, k2⟩ := hS1.set (f := f) eb (s1 _ _ hvb) j1
    have tp2 := k2.tups hS1.b
    have hpt2 := (hpt.mono s1.tups).mono tp2
    have fo2 := fo1.mono tp2
    have fn2 := (fn.mono s1.tups).mono tp2
    generalize upd H1 pb (.lst (vb.set f (.ref p1))) = H2 at hS2 k2 tp2 hpt2 fo2 fn2 ⊢
    refine ⟨.ref po, rfl, po, _, 0, intV b, rfl, rfl, fo2.sqt, atI_nat (j := 0) rfl, ?_⟩
    refine ⟨4, rfl, by decide, by decide, fun D nD => ?_⟩
    have t4 := turns4 t ht
    refine lc_range (lo := 0) (n := 4) (fun i H3 => H3 D = some (.lst (((List.range i).map fun c => t.idxOf c).map intV)) ∧ Same H2 H3) ⟨upd_same, same_new nD⟩ ?_ ?_
    · rintro c H3 hc ⟨h3, s3⟩
      rw [Int.zero_add]
      refine ⟨rfl, ?_⟩
      refine ⟨.ref pt, rfl, pt, _, rfl, .inr (hpt2.mono s3.tups).sqt, fun L nL => ?_⟩
      have s4 : Same H3 (upd H3 L (.lst (trnV t))) := same_new nL
      have e1 : trnV t = (t.map fun c : Nat => (c : Int)).map V.int := by
        rw [List.map_map]
        rfl
      have hm : (c : Int) ∈ t.map fun c : Nat => (c : Int) := List.mem_map_of_mem (List.mem_of_getElem? (t4.2.2.2.1 c hc))
      refine ⟨.inl ⟨rfl, _, .inl (.inl upd_same)⟩, intV c, rfl, L, t.map fun c : Nat => (c : Int), c, rfl, rfl, ?_, hm, Nat.le_of_lt (small1000 (by rw [List.length_map, t4.1]; decide)), ?_⟩
      · rw [← e1]
        exact .inl (.inl upd_same)
      rw [idx_int]
      have hc4 : c < 4 := hc
      refine ⟨_, s4 _ _ h3, small1000 (by rw [List.length_map, List.length_map, List.length_range]; omega), ?_, same_fill (s3.trans s4) nD⟩
      rw [upd_same, List.range_succ, List.map_append, List.map_append]
      rfl
    · rintro H3 ⟨h3, s3⟩
      refine ⟨D, _, rfl, .inl ⟨.inl (.inl h3), fun p3 o3 np3 d3 => ?_⟩⟩
      have s3' := s3.trans (same_new (o := .frz o3 (.tup (((List.range 4).map fun c => t.idxOf c).map intV))) np3)
      have T3 : FT (upd H3 p3 (.frz o3 (.tup (((List.range 4).map fun c => t.idxOf c).map intV)))) p3 (trnV (back t)) := FT.new d3
      generalize upd H3 p3 (.frz o3 (.tup (((List.range 4).map fun c => t.idxOf c).map intV))) = H4 at s3' T3 ⊢
      refine ⟨Nat.le_of_lt (small1000 (by show 2 ≤ 1000; decide)), fun p4 o4 np4 d4 => ?_⟩
      have s4 : Same H4 (upd H4 p4 (.frz o4 (.tup [intV b, .ref p3]))) := same_new np4
      have j4 : JAt (upd H4 p4 (.frz o4 (.tup [intV b, .ref p3]))) (.ref p4) (some (b, back t)) := ⟨p4, p3, rfl, FT.new d4, T3.mono s4.tups⟩
      have fn4 := fn2.mono (s3'.trans s4).tups
      have hS4 := hS2.same (s3'.trans s4)
      have k4 : KeepB rs H (upd H4 p4 (.frz o4 (.tup [intV b, .ref p3]))) := ((KeepB.of s1).trans k2).trans (KeepB.of (s3'.trans s4))
      generalize upd H4 p4 (.frz o4 (.tup [intV b, .ref p3])) = H5 at s4 j4 fn4 hS4 k4 ⊢
      have hn4 : n < (setJ S b f (some (n, t))).length := by rw [setJ_len]; exact hn
      obtain ⟨pn', vn, en, hvn, hvn2⟩ := hS4.at hn4
      have lvn : vn.length = 4 := by rw [plen hvn2]; exact blk_len (h4.set _ _ _) hn4
      have htf := tf_lt t ht f hf
      refine ⟨.ref l, rfl, .ref pn, rfl, pn, _, 0, intV n, rfl, rfl, fn4.sqt, atI_nat (j := 0) rfl, l, rs, n, .ref pn', rfl, rfl, .inl (.inl hS4.l), atI_nat en, .ref pn, rfl, pn, _, 1, intV (tf t f), rfl, rfl, fn4.sqt, atI_nat (j := 1) rfl, pn', vn, (tf t f : Nat), tf t f, rfl, rfl, hvn, ixN_lt (by omega), ?_⟩
      obtain ⟨hS5, k5⟩ := hS4.set (f := tf t f) en hvn j4
      exact q _ (k4.trans k5) hS5
end
end Bk

namespace Bk
open PySem PySem.Spec PyProof.Rows L2
local macro_rules | `(tactic| walk_at "g") => `(tactic| (repeat first | refine ⟨_, rfl, ?_⟩ | refine ⟨cpow, ?_⟩ | refine ⟨_, _, rfl, rfl, ?_⟩ | refine ⟨rfl, ?_⟩))
section
variable {P : Program} {w : World} {K : PySem.W.Frag} {mg : Str → Option Value} {base : Heap}
theorem at_nat' {xs : List V} {j : Nat} {v : V} (h : xs[j]? = some v) : atI xs (j : Int) = some v := atI_nat h
/-- the reel of three is none of the rows of four -/
theorem SprOk.notIn {R : Addr} {H : Hp} {rs : List V} {S : Spc} (h : SprOk R H) (hb : Paired (BAt H) rs S) (h4 : L4 S) : V.ref R ∉ rs := fun z => by
  obtain ⟨k, hk⟩ := List.mem_iff_getElem?.mp z
  obtain ⟨b, hb2, p, vs, e, e2, e3⟩ := pget' hb hk
  cases e
  obtain ⟨f, t, m, e4, _⟩ := h
  have l := plen e3
  rw [h4 b (List.mem_of_getElem? hb2)] at l
  rw [e2] at e4
  injection e4 with e4
  injection e4 with e4
  rw [e4] at l
  cases l
theorem SpAt.keepS {R : Addr} {H H' : Hp} {l : Addr} {rs : List V} {s : Spc} (h : SpAt H l rs s) (m : Keep R H H') (r : SprOk R H) (h4 : L4 s) (hl : l ≠ R) : SpAt H' l rs s := by
  have nR := r.notIn h.b h4
  refine ⟨m _ _ h.l hl, pmonoM h.b fun v hv b z => z.mono (r.tups m) fun q xs e1 e2 => m _ _ e2 fun z2 => ?_, h.nd⟩
  rw [← z2, ← e1] at nR
  exact nR hv
theorem SprOk.keepB {R : Addr} {H H' : Hp} {rs : List V} {S : Spc} (h : SprOk R H) (k : KeepB rs H H') (hb : Paired (BAt H) rs S) (h4 : L4 S) : SprOk R H' := by
  have n := h.notIn hb h4
  obtain ⟨f, t, m, e, q⟩ := h
  exact ⟨f, t, m, k _ _ e n, q⟩
/-- the free faces that the law keeps -/
structure FreeL (S : Spc) (FL : List (Nat × Nat)) : Prop where
  nd : FL.Nodup
  fr : ∀ x ∈ FL, x.1 < S.length ∧ x.2 < 4 ∧ getJ S x.1 x.2 = some none
theorem FreeL.join {S : Spc} {FL : List (Nat × Nat)} {x y : Nat × Nat} {t : Trn} (h : FreeL S FL) (e : tf t x.2 = y.2) {FL' : List (Nat × Nat)} (nd : FL'.Nodup) (sub : ∀ z ∈ FL', z ∈ FL ∧ z ≠ x ∧ z ≠ y) : FreeL (joinJ S x.1 x.2 y.1 t) FL' :=
  ⟨nd, fun z hz => by
    obtain ⟨h1, h2, h3⟩ := sub z hz
    obtain ⟨a, b, c⟩ := h.fr z h1
    refine ⟨by rw [joinJ_len]; exact a, b, ?_⟩
    rw [getJ_join (fun q => h2 (Prod.ext q.1 q.2)) (fun q => h3 (Prod.ext q.1 (by rw [q.2, e])))]
    exact c⟩
theorem FreeL.perm {S : Spc} {FL : List (Nat × Nat)} (h : FreeL S FL) {FL' : List (Nat × Nat)} (nd : FL'.Nodup) (sub : ∀ z ∈ FL', z ∈ FL) : FreeL S FL' := ⟨nd, fun z hz => h.fr z (sub z hz)⟩
theorem dec_lt (a b : Nat) : decide ((a : Int) < (b : Int)) = decide (a < b) := by
  by_cases h : a < b
  · rw [decide_eq_true h, decide_eq_true (by omega)]
  · rw [decide_eq_false h, decide_eq_false (by omega)]
theorem beq_nat (a b : Nat) : ((a : Int) == (b : Int)) = (a == b) := by
  rw [Bool.eq_iff_iff, beq_iff_eq, beq_iff_eq]
  constructor <;> intro h <;> omega
def nbP (x y z : Nat × Nat) : Bool := !((x.1 == z.1 && x.2 == z.2) || (y.1 == z.1 && y.2 == z.2))
theorem nbP_iff {x y z : Nat × Nat} : nbP x y z = true ↔ z ≠ x ∧ z ≠ y := by
  obtain ⟨a, b⟩ := x
  obtain ⟨c, d⟩ := y
  obtain ⟨e, f⟩ := z
  simp only [nbP, Bool.not_eq_true', Bool.or_eq_false_iff, Bool.and_eq_false_iff, beq_eq_false_iff_ne, ne_eq, Prod.mk.injEq, not_and]
  constructor
  · rintro ⟨h1, h2⟩
    exact ⟨fun q1 q2 => h1.elim (fun z => z q1.symm) fun z => z q2.symm, fun q1 q2 => h2.elim (fun z => z q1.symm) fun z => z q2.symm⟩
  · rintro ⟨h1, h2⟩
    refine ⟨?_, ?_⟩
    · by_cases q : a = e
      · exact .inr fun q2 => h1 q.symm q2.symm
      · exact .inl q
    · by_cases q : c = e
      · exact .inr fun q2 => h2 q.symm q2.symm
      · exact .inl q
theorem facesTo_in {n b f : Nat} (hb : b < n) (hf : f < 4) : (b, f) ∈ facesTo (4 * n) := by
  refine List.mem_map.mpr ⟨4 * b + f, List.mem_range.mpr (by omega), ?_⟩
  exact Prod.ext (by show (4 * b + f) / 4 = b; omega) (by show (4 * b + f) % 4 = f; omega)
theorem flat4' : (List.replicate (4 : Int).toNat [V.non]).flatten = [V.non, .non, .non, .non] := rfl

def prD (p : Int × Int) : PyData := .tuple [.int p.1, .int p.2]
theorem eqv_pr (a b : Int × Int) : PyData.eqv (prD a) (prD b) = (a.1 == b.1 && a.2 == b.2) := by
  simp [prD, PyData.eqv, PyData.eqvAll]
/-- whether a pair is none of two -/
def rNotInP (K : PySem.W.Frag) : R2 := fun x y H Q => ∃ (p q a b : Addr) (u v w : Int × Int), x = .ref p ∧ y = .ref q ∧ SqT K H p [.int u.1, .int u.2] ∧ SqT K H q [.ref a, .ref b] ∧ SqT K H a [.int v.1, .int v.2] ∧ SqT K H b [.int w.1, .int w.2] ∧ Q (.bl (!((v.1 == u.1 && v.2 == u.2) || (w.1 == u.1 && w.2 == u.2)))) H
theorem kNotInP {X : Cx} (K : PySem.W.Frag) (h : X.K = K) (hu : X.A.units + 65 < cLine) : OpR X (compareOp .NotIn) (rNotInP K) := by
  subst h
  rintro pins s σ H x y uv vv Q I rx ry ⟨p, q, a, b, u, v, w, rfl, rfl, hp, hq, ha, hb, k⟩
  have pd : ∀ {c : Addr} {z : Int × Int}, SqT X.K H c [.int z.1, .int z.2] → Dp X.K H (.ref c) (prD z) := fun h => .tup h (.cons (.int _) (.cons (.int _) .nil))
  obtain ⟨as, r1⟩ := Dp.reads I (prD u) _ _ (pd hp) rx
  obtain ⟨bs, r2⟩ := Dp.reads I (.tuple [prD v, prD w]) _ _ (.tup hq (.cons (pd ha) (.cons (pd hb) .nil))) ry
  refine SeqAt.notIn_tuple_reads r2 r1 (by simp [prD, PyData.canLayAll0, PyData.canLay0]) (by simp [prD, PyData.canLayAll0, PyData.canLay0]) ?_ ⟨.bl _, H, I, rfl, ?_⟩
  · have : (prD u).depth ≤ 10 := by simp [prD, PyData.depth, PyData.depthAll]
    have := Nat.min_le_right (PyData.depthAll [prD v, prD w]) (prD u).depth
    omega
  · have e : (!([prD v, prD w].any fun z => PyData.eqv z (prD u))) = !((v.1 == u.1 && v.2 == u.2) || (w.1 == u.1 && w.2 == u.2)) := by
      rw [List.any_cons, List.any_cons, List.any_nil, Bool.or_false, eqv_pr, eqv_pr]
    rw [e]
    exact k
theorem room65 {k : Nat} {A : Around} (hr : Room k A) : A.units + 65 < cLine := by
  have := hr.un
  omega
abbrev s_law_space : Stmt := topS 49
abbrev N_law_space : List Str := ["spring", "most", "many", "rows", "free", "block", "some", "one", "other", "k", "place", "row"]
theorem sc_law_space : FnScope N_law_space ["spring", "most"] (defScope s_law_space) := ⟨rfl, rfl, rfl, by decide +kernel, rfl, by decide +kernel, by decide +kernel⟩
def spSpaceS : Sp := fun vs H Q _ => ∃ (R : Addr) (m : Nat), vs = [.ref R, intV m] ∧ 1 ≤ m ∧ m ≤ 12 ∧ SprOk R H ∧ ∀ H' v S, Keep R H H' → SprOk R H' → ST H' v S → Good S → 1 ≤ S.length → S.length ≤ m → Q v H'
theorem ok_law_space {f fD fW fJ : Addr} {fd fdD fdW fdJ : FuncData} (F : Fun K "_law_space" "_law_space" s_law_space f fd) (F_law_draw : Fun K "_law_draw" "_law_draw" s_law_draw fD fdD) (g_law_draw : mg "_law_draw" = some (.ref fD)) (b_law_draw : Binds K fdD ["spring", "many"] [])
    (G_law_draw : FnOk P w K mg base CX0 1 fD fdD ["spring", "many"] spSDraw) (F_law_way : Fun K "_law_way" "_law_way" s_law_way fW fdW) (g_law_way : mg "_law_way" = some (.ref fW)) (b_law_way : Binds K fdW ["spring", "face", "goal"] []) (G_law_way : FnOk P w K mg base CX0 2 fW fdW ["spring", "face", "goal"] spWayS)
    (F_law_joined : Fun K "_law_joined" "_law_joined" s_law_joined fJ fdJ) (g_law_joined : mg "_law_joined" = some (.ref fJ)) (b_law_joined : Binds K fdJ ["rows", "one", "other", "turn"] []) (G_law_joined : FnOk P w K mg base CX0 1 fJ fdJ ["rows", "one", "other", "turn"] spJoinedS)
    (m_range : mg "range" = none) (m_len : mg "len" = none) (m_tuple : mg "tuple" = none) : FnOk P w K mg base CX0 3 f fd ["spring", "most"] spSpaceS := by
  refine F.ok sc_law_space (fun vs H Q E h => ?_) (fun cdv A outer s H vs Q E hr h => ?_)
  · obtain ⟨R, m, rfl, _⟩ := h
    rfl
  · obtain ⟨R, m, rfl, h1, h2, hR, q⟩ := h
    have nd := sc_law_space.nd
    refine ⟨_, (pss_cons (ps_set (i := 2) nd rfl (.inl rfl) (pe_op op_add pe_int (pe_call G_law_draw (hr.mono (by first | decide | omega)) (by rfl) g_law_draw F_law_draw.kp b_law_draw .nil pass0 (pa_cons (pv 0) (pa_cons (pv 1) pa_nil)))))
      (pss_cons (ps_setLc (i := 3) (own := [("block", 5)]) (g := gName 5) (tt := tYes) rfl nd rfl rfl (sw_true rfl rfl rfl (by decide +kernel)) (pi_range1 (by rfl) m_range (pa_cons (pv 2) pa_nil)) (blkOk_by (own := [("block", 5)]) (N := N_law_space) (sc := defScope s_law_space) (by decide +kernel)) (fun _ _ _ _ _ => (pg_name (i := 5) nd rfl (Or.inl rfl))) (fun _ _ _ _ _ => pts_nil) (fun _ _ _ _ _ => (pe_op op_rep (pe_lst (pa_cons pe_non pa_nil)) pe_int)))
      (pss_cons (ps_setLc (i := 4) (own := [("k", 9)]) (g := gName 9) (tt := tYes) rfl nd rfl rfl (sw_true rfl rfl rfl (by decide +kernel)) (pi_range1 (by rfl) m_range (pa_cons (pe_op op_mul pe_int (pv 2)) pa_nil)) (blkOk_by (own := [("k", 9)]) (N := N_law_space) (sc := defScope s_law_space) (by decide +kernel)) (fun _ _ _ _ _ => (pg_name (i := 9) nd rfl (Or.inl rfl))) (fun _ _ _ _ _ => pts_nil) (fun _ _ _ _ _ => (pe_tupF (pa_cons (pe_op op_fdivN (pv 9) pe_int) (pa_cons (pe_op op_modN (pv 9) pe_int) pa_nil)))))
      (pss_cons (ps_for PassesOwn.never rfl (pi_range2 (by rfl) m_range (pa_cons pe_int (pa_cons (pe_op op_mul (pv 2) (pe_op op_sub pe_int (pe_call G_law_draw (hr.mono (by first | decide | omega)) (by rfl) g_law_draw F_law_draw.kp b_law_draw .nil pass0 (pa_cons (pv 0) (pa_cons pe_int pa_nil))))) pa_nil))) (pg_name (i := 5) nd rfl (.inr rfl)) (pss_cons (ps_setLc (i := 6) (own := [("one", 7)]) (g := gName 7) rfl nd rfl rfl (sw_true rfl rfl rfl (by decide +kernel)) (kPiL K rfl (pi_list (pv 4))) (blkOk_by (own := [("one", 7)]) (N := N_law_space) (sc := defScope s_law_space) (by decide +kernel)) (fun _ _ _ _ _ => (pg_name (i := 7) nd rfl (Or.inl rfl))) (fun _ _ _ _ _ => (pts_one (pt_cmpR op_lt (pe_ix (kIxT K rfl) (pv 7) pe_int (fun _ _ => rfl)) (pv 5) (nomark _)))) (fun _ _ _ _ _ => (pv 7)))
      (pss_cons (ps_set (i := 7) nd rfl (.inr rfl) (pe_ix (kIxL K rfl) (pv 6) (pe_call G_law_draw (hr.mono (by first | decide | omega)) (by rfl) g_law_draw F_law_draw.kp b_law_draw .nil pass0 (pa_cons (pv 0) (pa_cons (pe_callB (kLen K rfl) (by rfl) m_len (by decide +kernel) (pa_cons (pv 6) pa_nil)) pa_nil))) (fun _ _ => rfl)))
      (pss_cons (ps_set (i := 8) nd rfl (.inr rfl) (pe_tupF (pa_cons (pv 5) (pa_cons (pe_call G_law_draw (hr.mono (by first | decide | omega)) (by rfl) g_law_draw F_law_draw.kp b_law_draw .nil pass0 (pa_cons (pv 0) (pa_cons pe_int pa_nil))) pa_nil))))
      (pss_cons (ps_setLc (i := 4) (own := [("place", 10)]) (g := gName 10) rfl nd rfl rfl (sw_true rfl rfl rfl (by decide +kernel)) (kPiL K rfl (pi_list (pv 4))) (blkOk_by (own := [("place", 10)]) (N := N_law_space) (sc := defScope s_law_space) (by decide +kernel)) (fun _ _ _ _ _ => (pg_name (i := 10) nd rfl (Or.inl rfl))) (fun _ _ _ _ _ => (pts_one (pt_cmpR (kNotInP K rfl (room65 hr)) (pv 10) (pe_tupF (pa_cons (pv 7) (pa_cons (pv 8) pa_nil))) (by rfl)))) (fun _ _ _ _ _ => (pv 10)))
      (pss_one (ps_expr (pe_call G_law_joined (hr.mono (by first | decide | omega)) (by rfl) g_law_joined F_law_joined.kp b_law_joined .nil pass0 (pa_cons (pv 3) (pa_cons (pv 7) (pa_cons (pv 8) (pa_cons (pe_call G_law_way (hr.mono (by first | decide | omega)) (by rfl) g_law_way F_law_way.kp b_law_way .nil pass0 (pa_cons (pv 0) (pa_cons (pe_ix (kIxT K rfl) (pv 7) pe_int (fun _ _ => rfl)) (pa_cons (pe_ix (kIxT K rfl) (pv 8) pe_int (fun _ _ => rfl)) pa_nil)))) pa_nil))))))))))))
      (pss_cons (ps_for PassesOwn.never rfl (pi_range1 (by rfl) m_range (pa_cons (pe_ix (kIxL K rfl) (pe_lst (pa_cons (pe_op op_mul pe_int (pv 2)) (pa_cons (pe_call G_law_draw (hr.mono (by first | decide | omega)) (by rfl) g_law_draw F_law_draw.kp b_law_draw .nil pass0 (pa_cons (pv 0) (pa_cons (pe_op op_add (pe_op op_mul pe_int (pv 2)) pe_int) pa_nil))) pa_nil))) (pe_op op_fdivN (pe_call G_law_draw (hr.mono (by first | decide | omega)) (by rfl) g_law_draw F_law_draw.kp b_law_draw .nil pass0 (pa_cons (pv 0) (pa_cons pe_int pa_nil))) pe_int) (fun _ _ => rfl)) pa_nil)) (pg_name (i := 9) nd rfl (.inl rfl)) (pss_one (ps_if (pt_cmpR op_gt (pe_callB (kLen K rfl) (by rfl) m_len (by decide +kernel) (pa_cons (pv 4) pa_nil)) pe_int (nomark _)) (pss_cons (ps_set (i := 7) nd rfl (.inr rfl) (kBM K rfl (pe_bm PySem.F.plainAttrs_list PySem.F.slot_list_pop PySem.F.type_list_pop mt_popAt (pv 4) (pa_cons (pe_call G_law_draw (hr.mono (by first | decide | omega)) (by rfl) g_law_draw F_law_draw.kp b_law_draw .nil pass0 (pa_cons (pv 0) (pa_cons (pe_callB (kLen K rfl) (by rfl) m_len (by decide +kernel) (pa_cons (pv 4) pa_nil)) pa_nil))) pa_nil))))
      (pss_cons (ps_set (i := 8) nd rfl (.inr rfl) (kBM K rfl (pe_bm PySem.F.plainAttrs_list PySem.F.slot_list_pop PySem.F.type_list_pop mt_popAt (pv 4) (pa_cons (pe_call G_law_draw (hr.mono (by first | decide | omega)) (by rfl) g_law_draw F_law_draw.kp b_law_draw .nil pass0 (pa_cons (pv 0) (pa_cons (pe_callB (kLen K rfl) (by rfl) m_len (by decide +kernel) (pa_cons (pv 4) pa_nil)) pa_nil))) pa_nil))))
      (pss_one (ps_expr (pe_call G_law_joined (hr.mono (by first | decide | omega)) (by rfl) g_law_joined F_law_joined.kp b_law_joined .nil pass0 (pa_cons (pv 3) (pa_cons (pv 7) (pa_cons (pv 8) (pa_cons (pe_call G_law_way (hr.mono (by first | decide | omega)) (by rfl) g_law_way F_law_way.kp b_law_way .nil pass0 (pa_cons (pv 0) (pa_cons (pe_ix (kIxT K rfl) (pv 7) pe_int (fun _ _ => rfl)) (pa_cons (pe_ix (kIxT K rfl) (pv 8) pe_int (fun _ _ => rfl)) pa_nil)))) pa_nil))))))))) pss_nil)))
      (pss_one (ps_ret (pe_callTy (kTupleF K rfl) (by rfl) m_tuple (by decide +kernel) (pa_cons (pe_lc (own := [("row", 11)]) (g := gName 11) (tt := tYes) rfl nd (kPiL K rfl (pi_list (pv 3))) (blkOk_by (own := [("row", 11)]) (N := N_law_space) (sc := defScope s_law_space) (by decide +kernel)) (fun _ _ _ _ _ => (pg_name (i := 11) nd rfl (Or.inl rfl))) (fun _ _ _ _ _ => pts_nil) (fun _ _ _ _ _ => (pe_callTy (kTupleF K rfl) (by rfl) m_tuple (by decide +kernel) (pa_cons (pv 11) pa_nil)))) pa_nil))))))))), ?_⟩
    obtain ⟨fR, sR, kR, hRR, _⟩ := id hR
    refine ⟨.ref R, rfl, intV m, rfl, R, m, rfl, by omega, by omega, hR, fun Ha ra ka Ra ra0 ra1 => ?_⟩
    obtain ⟨many, em, hm1, hm2⟩ : ∃ many : Nat, (1 : Int) + ra = (many : Int) ∧ 1 ≤ many ∧ many ≤ m := ⟨(1 + ra).toNat, by omega, by omega, by omega⟩
    refine ⟨1, ra, rfl, rfl, ?_⟩
    dsimp only
    rw [em]
    -- rows
    refine ⟨intV many, rfl, many, rfl, by omega, by omega, fun D nD => ?_⟩
    rw [Int.toNat_natCast]
    refine lc_range (lo := 0) (n := many) (fun i H1 => ∃ rs, SpAt H1 D rs (freeS i) ∧ Fresh Ha rs ∧ Same Ha H1) ⟨[], ⟨upd_same, .nil, .nil⟩, fun _ z => (by cases z), same_new nD⟩ ?_ ?_
    · rintro i H1 hi ⟨rs, hS, hF, s1⟩
      rw [Int.zero_add]
      refine ⟨rfl, ?_⟩
      refine ⟨Nat.le_of_lt (small1000 (by show 1 ≤ 1000; decide)), fun p np => ?_⟩
      refine ⟨p, 4, _, rfl, rfl, upd_same, by decide, by decide, Nat.le_of_lt (small1000 (by show 4 ≤ 1000; decide)), fun p2 np2 => ?_⟩
      rw [flat4']
      have s2 : Same H1 (upd (upd H1 p (.lst [.non])) p2 (.lst [.non, .non, .non, .non])) := (same_new np).trans (same_new np2)
      have h2 : (upd (upd H1 p (.lst [.non])) p2 (.lst [.non, .non, .non, .non])) p2 = some (.lst [.non, .non, .non, .non]) := upd_same
      have n2 : H1 p2 = none := (same_new np).free np2
      generalize upd (upd H1 p (.lst [.non])) p2 (.lst [.non, .non, .non, .non]) = H2 at s2 h2 ⊢
      have hD := s2 _ _ hS.l
      have l1 : rs.length = i := by rw [plen hS.b]; exact List.length_replicate
      refine ⟨rs, hD, small1000 (by omega), rs ++ [.ref p2], ?_, hF.push (fun o e => s1 _ _ e) n2, same_fill (s1.trans s2) nD⟩
      unfold freeS
      rw [List.replicate_succ']
      exact hS.push s2 n2 ⟨p2, _, rfl, h2, .cons rfl (.cons rfl (.cons rfl (.cons rfl .nil)))⟩
    · rintro H1 ⟨rs, hS, hF, s1⟩
      -- free
      walk_at "g"
      refine ⟨.inl (by decide), 4 * many, rfl, by omega, by omega, fun L nL => ?_⟩
      rw [show (4 * (many : Int)).toNat = 4 * many by omega]
      refine lc_range (lo := 0) (n := 4 * many) (fun i H2 => ∃ ys, H2 L = some (.lst ys) ∧ Paired (FcAt H2) ys (facesTo i) ∧ Same H1 H2) ⟨[], upd_same, .nil, same_new nL⟩ ?_ ?_
      · rintro i H2 hi ⟨ys, h2, t2, s2⟩
        rw [Int.zero_add]
        refine ⟨rfl, ?_⟩
        walk_at "g"
        refine ⟨⟨by decide, by decide⟩, ?_⟩
        walk_at "g"
        refine ⟨(show (4 : Int) ≠ 0 by decide), Nat.le_of_lt (small1000 (by show 2 ≤ 1000; decide)), fun p o np d => ?_⟩
        have ef : ([V.int ((i : Int).fdiv 4), V.int ((i : Int).fmod 4)] : List V) = [intV (i / 4), intV (i % 4)] := by
          rw [show (4 : Int) = ((4 : Nat) : Int) from rfl, fdiv_nat, fmod_nat]
          rfl
        have s3 : Same H2 (upd H2 p (.frz o (.tup [V.int ((i : Int).fdiv 4), V.int ((i : Int).fmod 4)]))) := same_new np
        have f3 : FcAt (upd H2 p (.frz o (.tup [V.int ((i : Int).fdiv 4), V.int ((i : Int).fmod 4)]))) (.ref p) (i / 4, i % 4) := ⟨p, rfl, o, d, by rw [ef]; exact upd_same⟩
        have h3 := s3 _ _ h2
        refine ⟨ys, h3, small1000 (by
          rw [plen t2]
          unfold facesTo
          rw [List.length_map, List.length_range]
          omega), ys ++ [.ref p], upd_same, ?_, same_fill (s2.trans s3) nL⟩
        rw [facesTo_succ]
        exact papp (pmono t2 fun _ _ z => z.mono (s3.tups.trans (tups_set h3))) (.cons (f3.mono (tups_set h3)) .nil)
      · rintro H2 ⟨ys, h2, t2, s2⟩
        have hS2 := hS.same s2
        have s02 := s1.trans s2
        have R2 := Ra.same s02
        have nLR : L ≠ R := fun z => by
          obtain ⟨f, t, k, e, _⟩ := Ra.same s1
          rw [z, e] at nL
          cases nL
        have nDR : D ≠ R := fun z => by
          obtain ⟨f, t, k, e, _⟩ := Ra
          rw [z, e] at nD
          cases nD
        have nLD : L ≠ D := fun z => by
          have := hS.l
          rw [← z, nL] at this
          cases this
        have k02 : Keep R H H2 := ka.trans (Keep.of s02)
        have fl0 : FreeL (freeS many) (facesTo (4 * many)) := ⟨facesTo_nd _, fun x hx => by
          obtain ⟨a, b⟩ := facesTo_mem hx
          obtain ⟨j, hj⟩ := (freeS_good many).l4.get (b := x.1) (f := x.2) (by rw [show (freeS many).length = many from List.length_replicate]; exact a) b
          rw [hj, freeS_get hj]
          exact ⟨by rw [show (freeS many).length = many from List.length_replicate]; exact a, b, rfl⟩⟩
        have k02' : Keep R H H2 := k02
        -- trees
        refine ⟨intV many, rfl, .ref R, rfl, R, 2, rfl, by decide, by decide, R2, fun H3 r2 k3 R3 r20 r21 => ?_⟩
        refine ⟨1, r2, rfl, rfl, (many : Int), 1 - r2, rfl, rfl, .inl ⟨by omega, by omega⟩, ?_⟩
        obtain ⟨J, eJ, hJ⟩ : ∃ J : Nat, (many : Int) * (1 - r2) = (J : Int) ∧ J ≤ many := by
          have : r2 = 0 ∨ r2 = 1 := by omega
          rcases this with rfl | rfl
          · exact ⟨many, by omega, Nat.le_refl _⟩
          · exact ⟨0, by omega, Nat.zero_le _⟩
        refine ⟨1, (J : Int), congrArg (fun z => [V.int 1, V.int z]) eJ, ⟨by decide, by decide, by omega, by omega⟩, ?_⟩
        have nLr2 : V.ref L ∉ rs := hS.fresh nL
        have hfr0 : Fresh H rs := fun p hp => by
          cases e : H p with
          | none => rfl
          | some o =>
            have h1 := hF p hp
            by_cases q : p = R
            · obtain ⟨f, t, k, e2, _⟩ := Ra
              rw [q, e2] at h1
              cases h1
            · rw [ka p o e q] at h1
              cases h1
        refine for_range (lo := 1) (n := ((J : Int) - 1).toNat) (fun i σ H4 => ∃ y5 y6 y7 y8 y9 y10 y11 L ys FL S, σ = [some (.ref R), some (intV m), some (intV many), some (.ref D), some (.ref L), y5, y6, y7, y8, y9, y10, y11] ∧ SpAt H4 D rs S ∧ Good S ∧ S.length = many ∧ SprOk R H4 ∧
            H4 L = some (.lst ys) ∧ Paired (FcAt H4) ys FL ∧ FreeL S FL ∧ FL.length ≤ 48 ∧ (∀ b f, i + 1 ≤ b → b < many → f < 4 → (b, f) ∈ FL) ∧ (∃ x ∈ FL, x.1 < i + 1) ∧ Keep R H H4 ∧ V.ref L ∉ rs ∧ L ≠ D ∧ L ≠ R ∧ H L = none)
          ⟨none, none, none, none, none, none, none, L, ys, facesTo (4 * many), freeS many, rfl, hS2.keepS k3 R2 (freeS_good many).l4 nDR, freeS_good many, List.length_replicate, R3, k3 _ _ h2 nLR, pmono t2 fun _ _ z => z.mono (R2.tups k3), fl0, by
            unfold facesTo
            rw [List.length_map, List.length_range]
            omega, fun b f _ hb hf => facesTo_in hb hf, ⟨(0, 0), facesTo_in (by omega) (by decide), by decide⟩, k02.trans k3, nLr2, nLD, nLR, (ka.trans (Keep.of s1)).free nL nLR⟩ ?_ ?_
        · rintro i σ H4 hi ⟨y5, y6, y7, y8, y9, y10, y11, L, ys, FL, S, rfl, hS4, hG, hlS, R4, h4, t4, fl, l48, hup, ⟨x0, hx0, hx0'⟩, k4, nLr, nLD, nLR, nLH⟩
          rw [show (1 : Int) + (i : Int) = ((i + 1 : Nat) : Int) by omega]
          have hb1 : i + 1 < many := by omega
          refine ⟨.ref L, rfl, L, rfl, ⟨_, .inl (.inl h4)⟩, fun D1 nD1 => ?_⟩
          refine lc_list (xs := ys) (fun j H5 => ∃ zs, H5 D1 = some (.lst zs) ∧ Paired (FcAt H5) zs ((FL.take j).filter fun x => decide (x.1 < i + 1)) ∧ Same H4 H5) ⟨[], upd_same, .nil, same_new nD1⟩ ?_ ?_ ?_
          · rintro j H5 _ ⟨zs, h5, t5, s5⟩
            exact .inl (.inl (s5 _ _ h4))
          · rintro j v H5 hv ⟨zs, h5, t5, s5⟩
            obtain ⟨x, hx, p, rfl, fx⟩ := pget' t4 hv
            have fx5 := fx.mono s5.tups
            refine ⟨rfl, ?_⟩
            refine ⟨.ref p, rfl, p, _, 0, intV x.1, rfl, rfl, fx5.sqt, atI_nat (j := 0) rfl, intV (i + 1), rfl, _, _, rfl, rfl, ?_⟩
            refine ⟨decide (x.1 < i + 1), congrArg V.bl (dec_lt _ _), ite2 (fun e => ?_) (fun e => ?_)⟩
            · refine ⟨.ref p, rfl, zs, h5, small1000 (by
                rw [plen t5]
                refine Nat.le_trans (List.length_filter_le _ _) ?_
                rw [List.length_take]
                omega), zs ++ [.ref p], upd_same, ?_, same_fill s5 nD1⟩
              rw [filter_take_succ hx, if_pos e]
              exact papp (pmono t5 fun _ _ z => z.mono (tups_set h5)) (.cons ⟨p, rfl, fx5.mono (tups_set h5)⟩ .nil)
            · rw [filter_take_succ hx, if_neg e, List.append_nil]
              exact ⟨zs, h5, t5, s5⟩
          · rintro H5 ⟨zs, h5, t5, s5⟩
            rw [plen t4, List.take_length] at t5
            have lz : 0 < zs.length := by
              rw [plen t5]
              exact List.length_pos_of_mem (List.mem_filter.mpr ⟨hx0, decide_eq_true hx0'⟩)
            have lz2 : zs.length ≤ 48 := by
              rw [plen t5]
              exact Nat.le_trans (List.length_filter_le _ _) l48
            have R5 := R4.same s5
            have nD1R : D1 ≠ R := fun z => by
              obtain ⟨f, t, k, e, _⟩ := R4
              rw [z, e] at nD1
              cases nD1
            refine ⟨.ref D1, rfl, .ref R, rfl, .ref D1, rfl, D1, zs, rfl, .inl (.inl (.inl h5)), R, (zs.length : Int), rfl, by omega, by omega, R5, fun H6 r k6 R6 r0 r1 => ?_⟩
            obtain ⟨r, rfl⟩ : ∃ k : Nat, r = k := ⟨r.toNat, by omega⟩
            obtain ⟨v, x, hv, hx, p1, rfl, fx⟩ := plen' t5 (i := r) (by rw [← plen t5]; omega)
            refine ⟨D1, zs, r, .ref p1, rfl, rfl, .inl (.inl (k6 _ _ h5 nD1R)), atI_nat hv, ?_⟩
            have hxm := List.mem_of_getElem? hx
            rw [List.mem_filter] at hxm
            have hxi : x.1 < i + 1 := of_decide_eq_true hxm.2
            obtain ⟨hx1, hx2, hx3⟩ := fl.fr x hxm.1
            refine ⟨intV (i + 1), rfl, .ref R, rfl, R, 4, rfl, by decide, by decide, R6, fun H7 g k7 R7 g0 g1 => ?_⟩
            obtain ⟨g, rfl⟩ : ∃ k : Nat, g = k := ⟨g.toNat, by omega⟩
            refine ⟨Nat.le_of_lt (small1000 (by show 2 ≤ 1000; decide)), fun p2 o2 np2 d2 => ?_⟩
            have s8 : Same H7 (upd H7 p2 (.frz o2 (.tup [intV (i + 1), .int (g : Int)]))) := same_new np2
            have f2 : FT (upd H7 p2 (.frz o2 (.tup [intV (i + 1), .int (g : Int)]))) p2 [intV (i + 1), intV g] := FT.new d2
            have k48 : Keep R H4 (upd H7 p2 (.frz o2 (.tup [intV (i + 1), .int (g : Int)]))) := ((Keep.of s5).trans (k6.trans k7)).same s8
            show _
            generalize upd H7 p2 (.frz o2 (.tup [intV (i + 1), .int (g : Int)])) = H8 at s8 f2 k48 ⊢
            have R8 := R7.same s8
            have f1 : FT H8 p1 [intV x.1, intV x.2] := ((fx.mono (R5.tups k6)).mono (R6.tups k7)).mono s8.tups
            have h8 := k48 _ _ h4 nLR
            have t8 : Paired (FcAt H8) ys FL := pmono t4 fun _ _ z => z.mono (R4.tups k48)
            show _
            refine ⟨.ref L, rfl, L, rfl, ⟨_, .inl (.inl h8)⟩, fun D2 nD2 => ?_⟩
            refine lc_list (xs := ys) (fun j H9 => ∃ zs, H9 D2 = some (.lst zs) ∧ Paired (FcAt H9) zs ((FL.take j).filter fun z => nbP x (i + 1, g) z) ∧ Same H8 H9) ⟨[], upd_same, .nil, same_new nD2⟩ ?_ ?_ ?_
            · rintro j H9 _ ⟨zs, h9, t9, s9⟩
              exact .inl (.inl (s9 _ _ h8))
            · rintro j v H9 hv ⟨zs, h9, t9, s9⟩
              obtain ⟨z, hz, p, rfl, fz⟩ := pget' t8 hv
              refine ⟨rfl, ?_⟩
              refine ⟨.ref p, rfl, .ref p1, rfl, .ref p2, rfl, Nat.le_of_lt (small1000 (by show 2 ≤ 1000; decide)), fun pq oq nq dq => ?_⟩
              have sq : Same H9 (upd H9 pq (.frz oq (.tup [.ref p1, .ref p2]))) := same_new nq
              have s10 := s9.trans sq
              have fq : FT (upd H9 pq (.frz oq (.tup [.ref p1, .ref p2]))) pq [.ref p1, .ref p2] := FT.new dq
              have h10 := sq _ _ h9
              have t10 : Paired (FcAt (upd H9 pq (.frz oq (.tup [.ref p1, .ref p2])))) zs ((FL.take j).filter fun z => nbP x (i + 1, g) z) := pmono t9 fun _ _ z => z.mono sq.tups
              generalize upd H9 pq (.frz oq (.tup [.ref p1, .ref p2])) = H10 at s10 fq h10 t10 ⊢
              refine ⟨p, pq, p1, p2, (z.1, z.2), (x.1, x.2), ((i + 1 : Nat), g), rfl, rfl, (fz.mono s10.tups).sqt, fq.sqt, (f1.mono s10.tups).sqt, (f2.mono s10.tups).sqt, ?_⟩
              refine ⟨nbP x (i + 1, g) z, congrArg V.bl (by unfold nbP; rw [← beq_nat, ← beq_nat, ← beq_nat, ← beq_nat]), ite2 (fun e => ?_) (fun e => ?_)⟩
              · refine ⟨.ref p, rfl, zs, h10, small1000 (by
                  rw [plen t10]
                  refine Nat.le_trans (List.length_filter_le _ _) ?_
                  rw [List.length_take]
                  omega), zs ++ [.ref p], upd_same, ?_, same_fill s10 nD2⟩
                rw [filter_take_succ hz, if_pos e]
                exact papp (pmono t10 fun _ _ z => z.mono (tups_set h10)) (.cons ⟨p, rfl, (fz.mono s10.tups).mono (tups_set h10)⟩ .nil)
              · rw [filter_take_succ hz, if_neg e, List.append_nil]
                exact ⟨zs, h10, t10, s10⟩
            · rintro H9 ⟨zs, h9, t9, s9⟩
              rw [plen t8, List.take_length] at t9
              have R9 := R8.same s9
              have nD2R : D2 ≠ R := fun z => by
                obtain ⟨f, t, k, e, _⟩ := R8
                rw [z, e] at nD2
                cases nD2
              have hS8 := hS4.keepS k48 R4 hG.l4 nDR
              have nD2D : D2 ≠ D := fun z => by
                have := hS8.l
                rw [← z, nD2] at this
                cases this
              have nD2r : V.ref D2 ∉ rs := hS8.fresh nD2
              have hS9 := hS8.same s9
              have f1 := f1.mono s9.tups
              have f2 := f2.mono s9.tups
              refine ⟨.ref D, rfl, .ref p1, rfl, .ref p2, rfl, .ref R, rfl, .ref p1, rfl, p1, _, 1, intV x.2, rfl, rfl, f1.sqt, atI_nat (j := 1) rfl, .ref p2, rfl, p2, _, 1, intV g, rfl, rfl, f2.sqt, atI_nat (j := 1) rfl, R, x.2, g, rfl, hx2, by omega, R9, fun H10 pt t k10 R10 n10 ft10 ht e10 => ?_⟩
              have tp10 := R9.tups k10
              have f2' : FT H10 p2 [intV ((i + 1 : Nat) : Int).toNat, intV (tf t x.2)] := by
                rw [e10]
                exact f2.mono tp10
              refine ⟨D, p1, p2, pt, rs, S, x.1, x.2, i + 1, t, rfl, hS9.keepS k10 R9 hG.l4 nDR, hG.l4, f1.mono tp10, f2', ft10, ht, hx1, hx2, by omega, by omega, fun H11 kB hS11 => ?_⟩
              have q0 : getJ S x.1 x.2 = some none := hx3
              have hy := hup (i + 1) g (Nat.le_refl _) hb1 (by omega)
              have q1 : getJ S (i + 1) (tf t x.2) = some none := by
                rw [e10]
                exact (fl.fr _ hy).2.2
              have hne : (i + 1, tf t x.2) ≠ (x.1, x.2) := fun z => by
                injection z with z1 z2
                omega
              have k411 : Keep R H4 H10 := (k48.same s9).trans k10
              have hx2' := hx2
              refine ⟨_, _, _, _, _, _, _, D2, zs, FL.filter fun z => nbP x (i + 1, g) z, joinJ S x.1 x.2 (i + 1) t, rfl, hS11, hG.join ht q0 q1 hne, by rw [joinJ_len]; exact hlS, R10.keepB kB (hS9.keepS k10 R9 hG.l4 nDR).b hG.l4, kB _ _ (k10 _ _ h9 nD2R) nD2r,
                pmono t9 fun _ _ z => (z.mono tp10).mono (kB.tups (hS9.keepS k10 R9 hG.l4 nDR).b), fl.join (x := x) (y := (i + 1, g)) e10 (fl.nd.filter _) (fun z hz => by
                  rw [List.mem_filter] at hz
                  exact ⟨hz.1, nbP_iff.mp hz.2⟩), Nat.le_trans (List.length_filter_le _ _) l48, fun b f h1 h2 h3 => List.mem_filter.mpr ⟨hup b f (by omega) h2 h3, nbP_iff.mpr ⟨fun z => by
                    have : b = x.1 := congrArg (·.1) z
                    omega, fun z => by
                    have : b = i + 1 := congrArg (·.1) z
                    omega⟩⟩, ?_, (k4.trans k411).inner kB hfr0, nD2r, nD2D, nD2R, (k4.trans k48).free nD2 nD2R⟩
              obtain ⟨f', hf', hfg⟩ : ∃ f' : Nat, f' < 4 ∧ f' ≠ g := by
                by_cases z : g = 0
                · exact ⟨1, by decide, by omega⟩
                · exact ⟨0, by decide, fun q => z q.symm⟩
              exact ⟨(i + 1, f'), List.mem_filter.mpr ⟨hup _ _ (Nat.le_refl _) hb1 hf', nbP_iff.mpr ⟨fun z => by
                have : i + 1 = x.1 := congrArg (·.1) z
                omega, fun z => hfg (congrArg (·.2) z)⟩⟩, by show i + 1 < i + 1 + 1; omega⟩
        · rintro σ H4 ⟨y5, y6, y7, y8, y9, y10, y11, L, ys, FL, S, rfl, hS4, hG, hlS, R4, h4, t4, fl, l48, _, _, k4, nLr, nLD, nLR, nLH⟩
          have am : atI [V.int (2 * (many : Int)), V.int 0] 0 = some (V.int (2 * (many : Int))) := rfl
          refine ⟨intV many, rfl, 2, (many : Int), rfl, rfl, .inl (by decide), .ref R, rfl, intV many, rfl, 2, (many : Int), rfl, rfl, .inl (by decide), _, _, rfl, rfl, R, 2 * (many : Int) + 1, rfl, by omega, by omega, R4, fun H5 r5 k5 R5 r50 r51 => ?_⟩
          refine ⟨Nat.le_of_lt (small1000 (by show 2 ≤ 1000; decide)), fun p np => ?_⟩
          have s6 : Same H5 (upd H5 p (.lst [.int (2 * (many : Int)), .int r5])) := same_new np
          have h6 : (upd H5 p (.lst [.int (2 * (many : Int)), .int r5])) p = some (.lst [.int (2 * (many : Int)), .int r5]) := upd_same
          show _
          generalize upd H5 p (.lst [.int (2 * (many : Int)), .int r5]) = H6 at s6 h6 ⊢
          have R6 := R5.same s6
          have npR : p ≠ R := fun z => by
            obtain ⟨f, t, k, e, _⟩ := R5
            rw [z, e] at np
            cases np
          refine ⟨.ref R, rfl, R, 3, rfl, by decide, by decide, R6, fun H7 r7 k7 R7 r70 r71 => ?_⟩
          obtain ⟨j, hj, j0, j1⟩ : ∃ j : Int, atI [V.int (2 * (many : Int)), .int r5] (r7.fdiv 2) = some (.int j) ∧ 0 ≤ j ∧ j ≤ 2 * (many : Int) := by
            have : r7 = 0 ∨ r7 = 1 ∨ r7 = 2 := by omega
            rcases this with rfl | rfl | rfl
            · exact ⟨_, rfl, by omega, by omega⟩
            · exact ⟨_, rfl, by omega, by omega⟩
            · exact ⟨r5, rfl, r50, by omega⟩
          refine ⟨r7, 2, rfl, rfl, ⟨by decide, by decide⟩, p, _, _, .int j, rfl, rfl, .inl (.inl (k7 _ _ h6 npR)), hj, j, rfl, by omega, by omega, ?_⟩
          have k47 : Keep R H4 H7 := (k5.same s6).trans k7
          refine for_range (lo := 0) (n := j.toNat) (fun k σ H8 => ∃ y5 y6 y7 y8 y9 y10 y11 ys FL S, σ = [some (.ref R), some (intV m), some (intV many), some (.ref D), some (.ref L), y5, y6, y7, y8, y9, y10, y11] ∧ SpAt H8 D rs S ∧ Good S ∧ S.length = many ∧ SprOk R H8 ∧ H8 L = some (.lst ys) ∧ Paired (FcAt H8) ys FL ∧ FreeL S FL ∧ FL.length ≤ 48 ∧ Keep R H H8)
            ⟨_, _, _, _, _, _, _, ys, FL, S, rfl, hS4.keepS k47 R4 hG.l4 nDR, hG, hlS, R7, k47 _ _ h4 nLR, pmono t4 fun _ _ z => z.mono (R4.tups k47), fl, l48, k4.trans k47⟩ ?_ ?_
          · rintro k σ H8 hk ⟨y5, y6, y7, y8, y9, y10, y11, ys, FL, S, rfl, hS8, hG, hlS, R8, h8, t8, fl, l48, k8⟩
            have ly := plen t8
            refine ⟨.ref L, rfl, L, _, rfl, .inl (.inl (.inl h8)), _, _, rfl, rfl, decide (1 < ys.length), congrArg V.bl (dec_lt 1 _), ite2 (fun e => ?_) (fun e => ?_)⟩
            · have e2 : 1 < ys.length := of_decide_eq_true e
              refine ⟨.ref L, rfl, .inl ⟨rfl, _, .inl (.inl h8)⟩, .ref R, rfl, .ref L, rfl, L, ys, rfl, .inl (.inl (.inl h8)), R, (ys.length : Int), rfl, by omega, by omega, R8, fun H9 a ka Ra a0 a1 => ?_⟩
              obtain ⟨a, rfl⟩ : ∃ k : Nat, a = k := ⟨a.toNat, by omega⟩
              have h9 := ka _ _ h8 nLR
              have t9 : Paired (FcAt H9) ys FL := pmono t8 fun _ _ z => z.mono (R8.tups ka)
              obtain ⟨v1, x, hv1, hx, p1, rfl, f1⟩ := plen' t9 (i := a) (by omega)
              refine ⟨L, ys, (a : Int), a, .ref p1, rfl, rfl, h9, by omega, by omega, seqIx_nat (by omega), hv1, ?_⟩
              have tpA : Tups H9 (upd H9 L (.lst (ys.eraseIdx a))) := tups_set h9
              have hA : (upd H9 L (.lst (ys.eraseIdx a))) L = some (.lst (ys.eraseIdx a)) := upd_same
              have tA : Paired (FcAt (upd H9 L (.lst (ys.eraseIdx a)))) (ys.eraseIdx a) (FL.eraseIdx a) := pmono (perase _ t9) fun _ _ z => z.mono tpA
              have RA : SprOk R (upd H9 L (.lst (ys.eraseIdx a))) := Ra.set nLR.symm
              have kA : Keep R H (upd H9 L (.lst (ys.eraseIdx a))) := keep_fill (k8.trans ka) nLH
              have SA : SpAt (upd H9 L (.lst (ys.eraseIdx a))) D rs S := (hS8.keepS ka R8 hG.l4 nDR).other h9 nLD nLr
              have f1 := f1.mono tpA
              show _
              generalize upd H9 L (.lst (ys.eraseIdx a)) = HA at tpA hA tA RA kA SA f1 ⊢
              have lA : (ys.eraseIdx a).length = ys.length - 1 := List.length_eraseIdx_of_lt (by omega)
              refine ⟨.ref L, rfl, .inl ⟨rfl, _, .inl (.inl hA)⟩, .ref R, rfl, .ref L, rfl, L, _, rfl, .inl (.inl (.inl hA)), R, ((ys.eraseIdx a).length : Int), rfl, by omega, by omega, RA, fun HB b kb Rb b0 b1 => ?_⟩
              obtain ⟨b, rfl⟩ : ∃ k : Nat, b = k := ⟨b.toNat, by omega⟩
              have hB := kb _ _ hA nLR
              have tB : Paired (FcAt HB) (ys.eraseIdx a) (FL.eraseIdx a) := pmono tA fun _ _ z => z.mono (RA.tups kb)
              obtain ⟨v2, y, hv2, hy, p2, rfl, f2⟩ := plen' tB (i := b) (by rw [← plen tB]; omega)
              refine ⟨L, _, (b : Int), b, .ref p2, rfl, rfl, hB, by omega, by omega, seqIx_nat (by omega), hv2, ?_⟩
              have tpC : Tups HB (upd HB L (.lst ((ys.eraseIdx a).eraseIdx b))) := tups_set hB
              have hC : (upd HB L (.lst ((ys.eraseIdx a).eraseIdx b))) L = some (.lst ((ys.eraseIdx a).eraseIdx b)) := upd_same
              have tC : Paired (FcAt (upd HB L (.lst ((ys.eraseIdx a).eraseIdx b)))) ((ys.eraseIdx a).eraseIdx b) ((FL.eraseIdx a).eraseIdx b) := pmono (perase _ tB) fun _ _ z => z.mono tpC
              have RC : SprOk R (upd HB L (.lst ((ys.eraseIdx a).eraseIdx b))) := Rb.set nLR.symm
              have kC : Keep R H (upd HB L (.lst ((ys.eraseIdx a).eraseIdx b))) := keep_fill (kA.trans kb) nLH
              have SC : SpAt (upd HB L (.lst ((ys.eraseIdx a).eraseIdx b))) D rs S := (SA.keepS kb RA hG.l4 nDR).other hB nLD nLr
              have f1 := (f1.mono (RA.tups kb)).mono tpC
              have f2 := f2.mono tpC
              show _
              generalize upd HB L (.lst ((ys.eraseIdx a).eraseIdx b)) = HC at tpC hC tC RC kC SC f1 f2 ⊢
              have pa := pperm_erase hx
              have pb := pperm_erase hy
              have nd1 : (x :: FL.eraseIdx a).Nodup := pa.symm.nodup fl.nd
              rw [List.nodup_cons] at nd1
              have nd2 : (y :: (FL.eraseIdx a).eraseIdx b).Nodup := pb.symm.nodup nd1.2
              rw [List.nodup_cons] at nd2
              have ym : y ∈ FL.eraseIdx a := List.mem_of_getElem? hy
              have mFL : ∀ z ∈ FL.eraseIdx a, z ∈ FL := fun z hz => pa.mem_iff.mp (List.mem_cons_of_mem _ hz)
              obtain ⟨hx1, hx2, hx3⟩ := fl.fr x (List.mem_of_getElem? hx)
              obtain ⟨hy1, hy2, hy3⟩ := fl.fr y (mFL y ym)
              have nxy : y ≠ x := fun z => nd1.1 (z ▸ ym)
              refine ⟨.ref D, rfl, .ref p1, rfl, .ref p2, rfl, .ref R, rfl, .ref p1, rfl, p1, _, 1, intV x.2, rfl, rfl, f1.sqt, atI_nat (j := 1) rfl, .ref p2, rfl, p2, _, 1, intV y.2, rfl, rfl, f2.sqt, atI_nat (j := 1) rfl, R, x.2, y.2, rfl, hx2, hy2, RC, fun HE pt t kE RE nE ftE ht eE => ?_⟩
              have tpE := RC.tups kE
              have f2' : FT HE p2 [intV y.1, intV (tf t x.2)] := by
                rw [eE]
                exact f2.mono tpE
              have SE := SC.keepS kE RC hG.l4 nDR
              refine ⟨D, p1, p2, pt, rs, S, x.1, x.2, y.1, t, rfl, SE, hG.l4, f1.mono tpE, f2', ftE, ht, hx1, hx2, hy1, by omega, fun HF kF SF => ?_⟩
              refine ⟨_, _, _, _, _, _, _, _, _, joinJ S x.1 x.2 y.1 t, rfl, SF, hG.join ht hx3 (by rw [eE]; exact hy3) (by rw [eE]; exact fun z => nxy (Prod.ext (congrArg (·.1) z) (congrArg (·.2) z))), by rw [joinJ_len]; exact hlS, RE.keepB kF SE.b hG.l4, kF _ _ (kE _ _ hC nLR) nLr,
                pmono tC fun _ _ z => (z.mono tpE).mono (kF.tups SE.b), fl.join (x := x) (y := y) eE nd2.2 (fun z hz => ?_), ?_, (kC.trans kE).inner kF hfr0⟩
              · have z1 : z ∈ FL.eraseIdx a := pb.mem_iff.mp (List.mem_cons_of_mem _ hz)
                exact ⟨mFL z z1, fun q => nd1.1 (q ▸ z1), fun q => nd2.1 (q ▸ hz)⟩
              · have l1 := pa.length_eq
                have l2 := pb.length_eq
                rw [List.length_cons] at l1 l2
                omega
            · exact ⟨_, _, _, _, _, _, _, ys, FL, S, rfl, hS8, hG, hlS, R8, h8, t8, fl, l48, k8⟩
          · rintro σ H8 ⟨y5, y6, y7, y8, y9, y10, y11, ys, FL, S, rfl, hS8, hG, hlS, R8, h8, t8, fl, l48, k8⟩
            have lrs : rs.length = S.length := plen hS8.b
            refine ⟨.ref D, rfl, D, rfl, ⟨_, .inl (.inl hS8.l)⟩, fun D3 nD3 => ?_⟩
            refine lc_list (xs := rs) (fun i H9 => ∃ ws, H9 D3 = some (.lst ws) ∧ Paired (BT H9) ws (S.take i) ∧ Same H8 H9) ⟨[], upd_same, .nil, same_new nD3⟩ ?_ ?_ ?_
            · rintro i H9 _ ⟨ws, h9, t9, s9⟩
              exact .inl (.inl (s9 _ _ hS8.l))
            · rintro i v H9 hv ⟨ws, h9, t9, s9⟩
              obtain ⟨b, hb, p, vs, rfl, hp, hvs⟩ := pget' hS8.b hv
              have hi : i < S.length := (List.getElem?_eq_some_iff.mp hb).1
              refine ⟨rfl, .ref p, rfl, p, vs, rfl, .inl ⟨.inl (.inl (s9 _ _ hp)), fun p3 o3 np3 d3 => ?_⟩⟩
              have sq : Same H9 (upd H9 p3 (.frz o3 (.tup vs))) := same_new np3
              have fq : FT (upd H9 p3 (.frz o3 (.tup vs))) p3 vs := FT.new d3
              generalize upd H9 p3 (.frz o3 (.tup vs)) = H10 at sq fq ⊢
              have h10 := sq _ _ h9
              refine ⟨ws, h10, small1000 (by rw [plen t9, List.length_take]; omega), ws ++ [.ref p3], upd_same, ?_, same_fill (s9.trans sq) nD3⟩
              rw [List.take_add_one, hb]
              have tp := sq.tups.trans (tups_set (o := .lst (ws ++ [.ref p3])) h10)
              exact papp (pmono t9 fun _ _ z => z.mono tp) (.cons ⟨p3, vs, rfl, fq.mono (tups_set h10), pmono hvs fun _ _ z => z.mono (s9.tups.trans tp)⟩ .nil)
            · rintro H9 ⟨ws, h9, t9, s9⟩
              rw [lrs, List.take_length] at t9
              refine ⟨D3, ws, rfl, .inl ⟨.inl (.inl h9), fun p3 o3 np3 d3 => ?_⟩⟩
              have sq : Same H9 (upd H9 p3 (.frz o3 (.tup ws))) := same_new np3
              exact q _ _ S (k8.trans (Keep.of (s9.trans sq))) ((R8.same s9).same sq) ⟨p3, ws, rfl, FT.new d3, pmono t9 fun _ _ z => z.mono sq.tups⟩ hG (by omega) (by omega)
end
end Bk

namespace Bk
open PySem PySem.Spec PyProof.Rows L2
local macro_rules | `(tactic| walk_at "g") => `(tactic| (repeat first | refine ⟨_, rfl, ?_⟩ | refine ⟨cpow, ?_⟩ | refine ⟨_, _, rfl, rfl, ?_⟩ | refine ⟨rfl, ?_⟩))
theorem norm_nJ (j : Jn) : norm (nJ j) = nJ j := by
  cases j with
  | none =>
    rw [nJ_none]
    simp only [norm]
  | some k =>
    obtain ⟨n, t⟩ := k
    have h : norms (t.map intD) = t.map intD := by
      rw [norms_map, List.map_map]
      exact List.map_congr_left fun x _ => by simp only [Function.comp, intD, norm]
    rw [nJ_some]
    simp only [norm, norms, intD]
    rw [h]
theorem norm_nB (b : Blk) : norm (nB b) = nB b := by
  unfold nB
  simp only [norm]
  rw [norms_map, List.map_map]
  exact congrArg PyData.list (List.map_congr_left fun j _ => norm_nJ j)
theorem norm_nS (S : Spc) : norm (nS S) = nS S := by
  unfold nS
  simp only [norm]
  rw [norms_map, List.map_map]
  exact congrArg PyData.list (List.map_congr_left fun b _ => norm_nB b)
def ND (N : Addr → Prop) (D : Addr) : Addr → Prop := fun a => N a ∨ a = D
theorem Dq.fillD {N : Addr → Prop} {H : Hp} {v : V} {d : PyData} {D : Addr} {xs : List V} {o : HO} (h : Dq (ND N D) H v d) (hD : H D = some (.lst xs)) : Dq (ND N D) (upd H D o) v d :=
  h.mono (tups_set hD) (fun _ z => z) fun a ys e n => by
    rw [upd_ne (fun z => n (.inr z))]
    exact e
theorem Dqs.fillD {N : Addr → Prop} {H : Hp} {v : List V} {d : List PyData} {D : Addr} {xs : List V} {o : HO} (h : Dqs (ND N D) H v d) (hD : H D = some (.lst xs)) : Dqs (ND N D) (upd H D o) v d :=
  h.mono (tups_set hD) (fun _ z => z) fun a ys e n => by
    rw [upd_ne (fun z => n (.inr z))]
    exact e
theorem Dqs.less {N N' : Addr → Prop} {H : Hp} {v : List V} {d : List PyData} (h : Dqs N H v d) (n : ∀ a, N' a → N a) : Dqs N' H v d := h.mono (Tups.refl H) n fun _ _ e _ => e
theorem Dqs.len' {N : Addr → Prop} {H : Hp} : ∀ {vs : List V} {ds : List PyData}, Dqs N H vs ds → vs.length = ds.length
  | _, _, .nil => rfl
  | _, _, .cons _ t => congrArg (· + 1) t.len'
section
variable {P : Program} {w : World} {K : PySem.W.Frag} {mg : Str → Option Value} {base : Heap}
end
end Bk

namespace Bk
open PySem PySem.Spec PyProof.Rows L2
local macro_rules | `(tactic| walk_at "g") => `(tactic| (repeat first | refine ⟨_, rfl, ?_⟩ | refine ⟨cpow, ?_⟩ | refine ⟨_, _, rfl, rfl, ?_⟩ | refine ⟨rfl, ?_⟩))
section
variable {P : Program} {w : World} {K : PySem.W.Frag} {mg : Str → Option Value} {base : Heap}
theorem bl_dec (x y : Bool) : decide (V.bl x = V.bl y) = (x == y) := by
  cases x <;> cases y <;> decide
/-! ### _law_arcs -/
def quadS (x y : Nat) : Nat := if x = 0 ∨ y = 0 then 3 + x + y else 9 - x - y
def arcsN (ns : List Int) (b f c : Nat) : Int := ns.getD (7 * b + c) 0 + ns.getD (7 * b + quadS c f) 0
def inB (x s : Nat) : Bool := 0 == x || (s - 3) == x
def othL (f c : Nat) : List Nat := (List.range 4).filter fun o => !(f == o || c == o)
def sameL (f c s i : Nat) : List Nat := ((othL f c).take i).filter fun o => inB o s == inB c s
theorem quad_one : ∀ f < 4, ∀ c < 4, c ≠ f → ∀ s < 7, 4 ≤ s → (sameL f c s (othL f c).length).isEmpty = (s == quadS c f) := by decide +kernel
theorem quad_lt : ∀ f < 4, ∀ c < 4, c ≠ f → 4 ≤ quadS c f ∧ quadS c f < 7 := by decide +kernel
theorem inV_two (x y z : Nat) : inV (intV x) [intV y, intV z] = (y == x || z == x) := by
  show (eqV (intV y) (intV x) || (eqV (intV z) (intV x) || false)) = _
  rw [intV_eq, intV_eq, Bool.or_false]
theorem getD_map {ns : List Int} {i : Nat} (h : i < ns.length) : (ns.map V.int)[i]? = some (.int (ns.getD i 0)) := by
  rw [List.getElem?_map, List.getElem?_eq_getElem h]
  show some (V.int ns[i]) = some (V.int (ns[i]?.getD 0))
  rw [List.getElem?_eq_getElem h]
  rfl
def spLawArcs : Sp := fun vs H Q _ => ∃ (a : Addr) (ns : List Int) (b f c : Nat), vs = [.ref a, intV b, intV f, intV c] ∧ H a = some (.lst (ns.map V.int)) ∧ 7 * b + 6 < ns.length ∧ f < 4 ∧ c < 4 ∧ c ≠ f ∧
  ∀ H', Same H H' → Q (.int (arcsN ns b f c)) H'
end
end Bk

namespace Bk
open PySem PySem.Spec PyProof.Rows L2
local macro_rules | `(tactic| walk_at "g") => `(tactic| (repeat first | refine ⟨_, rfl, ?_⟩ | refine ⟨cpow, ?_⟩ | refine ⟨_, _, rfl, rfl, ?_⟩ | refine ⟨rfl, ?_⟩))
section
variable {P : Program} {w : World} {K : PySem.W.Frag} {mg : Str → Option Value} {base : Heap}
/-! ### what is handed in: a list or a tuple of numbers -/
def Hd (H : Hp) (v : V) (ns : List Int) : Prop := ∃ a, v = .ref a ∧ (H a = some (.lst (ns.map V.int)) ∨ FT H a (ns.map V.int))
theorem Hd.same {H H' : Hp} {v : V} {ns : List Int} (h : Hd H v ns) (s : Same H H') : Hd H' v ns := by
  obtain ⟨a, e, h⟩ := h
  exact ⟨a, e, h.imp (fun z => s _ _ z) fun z => z.mono s.tups⟩
theorem dqs_num {N : Addr → Prop} {H : Hp} : ∀ ns : List Int, Dqs N H (ns.map V.int) (ns.map PyData.int)
  | [] => .nil
  | n :: ns => .cons (.int n) (dqs_num ns)
theorem Hd.dq {H : Hp} {v : V} {ns : List Int} (h : Hd H v ns) : ∃ d, Dq (fun _ => False) H v d ∧ isSeqD d = true := by
  obtain ⟨a, rfl, h | h⟩ := h
  · exact ⟨.list (ns.map PyData.int), .lst h (fun z => z) (dqs_num ns), rfl⟩
  · exact ⟨.tuple (ns.map PyData.int), .tup h (dqs_num ns), rfl⟩
theorem Hd.sq {K : PySem.W.Frag} {H : Hp} {v : V} {ns : List Int} (h : Hd H v ns) : ∃ a, v = .ref a ∧ (SqL K H a (ns.map V.int) ∨ SqT K H a (ns.map V.int)) := by
  obtain ⟨a, rfl, h | h⟩ := h
  · exact ⟨a, rfl, .inl (.inl (.inl h))⟩
  · exact ⟨a, rfl, .inr h.sqt⟩
theorem Hd.ix {K : PySem.W.Frag} {H : Hp} {v : V} {ns : List Int} (h : Hd H v ns) {i : Nat} (hi : i < ns.length) {z : Int} (hz : z = (i : Int)) {Q : VK} (q : Q (.int (ns.getD i 0)) H) : rIxE K v (.int z) H Q := by
  subst hz
  obtain ⟨a, rfl, h | h⟩ := h
  · exact .inl ⟨a, _, _, _, rfl, rfl, .inl (.inl h), atI_nat (getD_map hi), q⟩
  · exact .inr ⟨a, _, _, _, rfl, rfl, h.sqt, atI_nat (getD_map hi), q⟩
abbrev sare_numbers : Stmt := topS 31
abbrev Nare_numbers : List Str := ["thing", "number"]
theorem scare_numbers : FnScope Nare_numbers ["thing"] (defScope sare_numbers) := ⟨rfl, rfl, rfl, by decide +kernel, rfl, by decide +kernel, by decide +kernel⟩
def spAreNum : Sp := fun vs H Q _ => ∃ (v : V) (ns : List Int) (m : Nat), vs = [v] ∧ Hd H v ns ∧ ns.length = 7 * m ∧ 0 < m ∧ m ≤ 100 ∧ (∀ x ∈ ns, 0 ≤ x) ∧ ∀ H', Same H H' → Q (.bl true) H'
theorem okare_numbers {f fL fW : Addr} {fd fdL fdW : FuncData} {tS : Tok} (F : Fun K "are_numbers" "are_numbers" sare_numbers f fd)
    (Fis_listed : Fun K "is_listed" "is_listed" sis_listed fL fdL) (gis_listed : mg "is_listed" = some (.ref fL)) (bis_listed : Binds K fdL ["thing"] []) (Gis_listed : FnOk P w K mg base CX0 1 fL fdL ["thing"] spListed)
    (Fis_whole : Fun K "is_whole" "is_whole" sis_whole fW fdW) (gis_whole : mg "is_whole" = some (.ref fW)) (bis_whole : Binds K fdW ["thing"] []) (Gis_whole : FnOk P w K mg base CX0 1 fW fdW ["thing"] spWhole)
    (g_SORTS : mg "SORTS" = some (.int 7 tS)) (m_len : mg "len" = none) (m_all : mg "all" = none) : FnOk P w K mg base CX0 2 f fd ["thing"] spAreNum := by
  have r_SORTS : RelV (V.int 7) (.int 7 tS) := ⟨_, rfl⟩
  refine F.ok scare_numbers (fun vs H Q E h => ?_) (fun cdv A outer s H vs Q E hr h => ?_)
  · obtain ⟨v, ns, m, rfl, _⟩ := h
    rfl
  · obtain ⟨v, ns, m, rfl, hv, hl, m0, m1, hn, q⟩ := h
    have nd := scare_numbers.nd
    refine ⟨_, (pss_cons (ps_if (pw_or (pt_not (pt_val (pe_call Gis_listed (hr.mono (by first | decide | omega)) (by rfl) gis_listed Fis_listed.kp bis_listed .nil pass0 (pa_cons (pv 0) pa_nil)))) (pw_or (pt_cmpR op_eq (pe_callB (kLen K rfl) (by rfl) m_len (by decide +kernel) (pa_cons (pv 0) pa_nil)) pe_int (nomark _)) (pw_or1 (pt_cmpR op_ne (pe_op op_modN (pe_callB (kLen K rfl) (by rfl) m_len (by decide +kernel) (pa_cons (pv 0) pa_nil)) (pe_glob (by rfl) g_SORTS r_SORTS)) pe_int (nomark _))))).pt (pss_one (ps_ret pe_bl)) pss_nil)
      (pss_one (ps_ret (pe_callB (kAll K rfl rfl) (by rfl) m_all (by decide +kernel) (pa_cons (pe_lc (own := [("number", 1)]) (g := gName 1) (tt := tYes) rfl nd (kPiS K rfl (pv 0)) (blkOk_by (own := [("number", 1)]) (N := Nare_numbers) (sc := defScope sare_numbers) (by decide +kernel)) (fun _ _ _ _ _ => (pg_name (i := 1) nd rfl (Or.inl rfl))) (fun _ _ _ _ _ => pts_nil) (fun _ _ _ _ _ => (pe_and (pe_call Gis_whole (hr.mono (by first | decide | omega)) (by rfl) gis_whole Fis_whole.kp bis_whole .nil pass0 (pa_cons (pv 1) pa_nil)) (pe_one (pe_cmpR op_ge (pv 1) pe_int (nomark _)))))) pa_nil))))), ?_⟩
    obtain ⟨d, hd, sq⟩ := hv.dq
    refine ⟨v, rfl, _, v, d, rfl, hd, fun H1 s1 => ?_⟩
    rw [sq]
    have hv1 := hv.same s1
    obtain ⟨a, rfl, hq⟩ := hv1.sq (K := K)
    refine ⟨_, rfl, iteF ?_⟩
    have l7 : (ns.map V.int).length = 7 * m := by rw [List.length_map, hl]
    refine ⟨.ref a, rfl, a, _, rfl, hq, rfl, _, rfl, ?_⟩
    rw [decide_eq_false (show ¬ V.int ((ns.map V.int).length : Int) = V.int 0 from fun z => by injection z with z; omega)]
    have f7 : ((ns.map V.int).length : Int).fmod 7 = 0 := by
      rw [l7, show (7 : Int) = ((7 : Nat) : Int) from rfl, fmod_nat, Nat.mul_mod_right]
      rfl
    refine iteF ⟨.ref a, rfl, a, _, rfl, hq, _, _, rfl, rfl, (show (7 : Int) ≠ 0 by decide), rfl, _, rfl, iteNS (congrArg V.int f7) ?_⟩
    refine ⟨.ref a, rfl, a, _, rfl, hq, fun J C hJ hC => ?_⟩
    intro D nD
    refine lc_seq (xs := ns.map V.int) hJ (fun i H2 => H2 = upd H1 D (.lst ((List.replicate i true).map V.bl))) rfl ?_ ?_ ?_
    · rintro i H2 rfl
      exact SeqIt.mono K hJ (fun o e => same_new nD _ _ e) hC
    · rintro i x H2 hx rfl
      obtain ⟨k, rfl, hk⟩ := get_map_int hx
      have hi : i < ns.length := (List.getElem?_eq_some_iff.mp hk).1
      have k0 := hn k (List.mem_of_getElem? hk)
      refine ⟨rfl, .int k, rfl, fun _ => False, .int k, .int k, rfl, .int k, _, rfl, iteT ?_⟩
      refine ⟨.int k, rfl, _, _, rfl, rfl, _, upd_same, small1000 (by rw [List.length_map, List.length_replicate]; omega), ?_⟩
      rw [upd_upd, List.replicate_succ', List.map_append]
      show upd H1 D (.lst (List.map V.bl (List.replicate i true) ++ [V.bl (decide (0 ≤ k))])) = _
      rw [decide_eq_true k0]
      rfl
    · rintro H2 rfl
      refine ⟨D, _, rfl, .inl (.inl upd_same), ?_⟩
      rw [show (List.replicate (ns.map V.int).length true).all id = true by
        rw [List.all_eq_true]
        intro y hy
        rw [List.eq_of_mem_replicate hy]
        rfl]
      exact q _ (s1.trans (same_new nD))
abbrev squad_sort : Stmt := topS 36
abbrev Nquad_sort : List Str := ["one", "other"]
theorem scquad_sort : FnScope Nquad_sort ["one", "other"] (defScope squad_sort) := ⟨rfl, rfl, rfl, by decide +kernel, rfl, by decide +kernel, by decide +kernel⟩
def spQuad : Sp := fun vs H Q _ => ∃ x y : Nat, vs = [intV x, intV y] ∧ x < 4 ∧ y < 4 ∧ x ≠ y ∧ Q (intV (quadS x y)) H
theorem okquad_sort {f : Addr} {fd : FuncData} (F : Fun K "quad_sort" "quad_sort" squad_sort f fd) : FnOk P w K mg base CX0 1 f fd ["one", "other"] spQuad := by
  refine F.ok scquad_sort (fun vs H Q E h => ?_) (fun cdv A outer s H vs Q E hr h => ?_)
  · obtain ⟨x, y, rfl, _⟩ := h
    rfl
  · obtain ⟨x, y, rfl, hx, hy, hxy, q⟩ := h
    have nd := scquad_sort.nd
    refine ⟨_, (pss_cons (ps_if (pw_or (pt_cmpR op_eq (pv 0) pe_int (nomark _)) (pw_or1 (pt_cmpR op_eq (pv 1) pe_int (nomark _)))).pt (pss_one (ps_ret (pe_op op_add (pe_op op_add pe_int (pv 0)) (pv 1)))) pss_nil)
      (pss_one (ps_ret (pe_op op_sub (pe_op op_sub (pe_op op_add pe_int pe_int) (pv 0)) (pv 1))))), ?_⟩
    walk_at "g"
    have dz : ∀ n : Nat, intV n = V.int 0 ↔ n = 0 := fun n => ⟨fun z => by injection z with z; omega, fun z => by rw [z]; rfl⟩
    refine ite2 (fun e => ?_) (fun e => ?_)
    · have e : x = 0 := (dz x).mp (of_decide_eq_true e)
      walk_at "g"
      unfold quadS at q
      rw [if_pos (.inl e)] at q
      have e9 : (3 : Int) + (x : Int) + (y : Int) = ((3 + x + y : Nat) : Int) := by omega
      show Q (V.int (3 + (x : Int) + (y : Int))) H
      rw [e9]
      exact q
    · have e : ¬ x = 0 := fun z => e (decide_eq_true ((dz x).mpr z))
      walk_at "g"
      refine ite2 (fun e2 => ?_) (fun e2 => ?_)
      · have e2 : y = 0 := (dz y).mp (of_decide_eq_true e2)
        walk_at "g"
        unfold quadS at q
        rw [if_pos (.inr e2)] at q
        have e9 : (3 : Int) + (x : Int) + (y : Int) = ((3 + x + y : Nat) : Int) := by omega
        show Q (V.int (3 + (x : Int) + (y : Int))) H
        rw [e9]
        exact q
      · have e2 : ¬ y = 0 := fun z => e2 (decide_eq_true ((dz y).mpr z))
        walk_at "g"
        unfold quadS at q
        rw [if_neg (fun z => z.elim e e2)] at q
        have e9 : (3 : Int) + 6 - (x : Int) - (y : Int) = ((9 - x - y : Nat) : Int) := by omega
        show Q (V.int (3 + 6 - (x : Int) - (y : Int))) H
        rw [e9]
        exact q
abbrev sarcs_at : Stmt := topS 35
abbrev Narcs_at : List Str := ["numbers", "block", "face", "corner", "first"]
theorem scarcs_at : FnScope Narcs_at ["numbers", "block", "face", "corner"] (defScope sarcs_at) := ⟨rfl, rfl, rfl, by decide +kernel, rfl, by decide +kernel, by decide +kernel⟩
def spArcsAt : Sp := fun vs H Q _ => ∃ (v : V) (ns : List Int) (b f c : Nat), vs = [v, intV b, intV f, intV c] ∧ Hd H v ns ∧ 7 * b + 6 < ns.length ∧ f < 4 ∧ c < 4 ∧ c ≠ f ∧ Q (.int (arcsN ns b f c)) H
theorem okarcs_at {f fQ : Addr} {fd fdQ : FuncData} {tS : Tok} (F : Fun K "arcs_at" "arcs_at" sarcs_at f fd) (Fquad_sort : Fun K "quad_sort" "quad_sort" squad_sort fQ fdQ) (gquad_sort : mg "quad_sort" = some (.ref fQ)) (bquad_sort : Binds K fdQ ["one", "other"] []) (Gquad_sort : FnOk P w K mg base CX0 1 fQ fdQ ["one", "other"] spQuad)
    (g_SORTS : mg "SORTS" = some (.int 7 tS)) : FnOk P w K mg base CX0 2 f fd ["numbers", "block", "face", "corner"] spArcsAt := by
  have r_SORTS : RelV (V.int 7) (.int 7 tS) := ⟨_, rfl⟩
  refine F.ok scarcs_at (fun vs H Q E h => ?_) (fun cdv A outer s H vs Q E hr h => ?_)
  · obtain ⟨v, ns, b, f, c, rfl, _⟩ := h
    rfl
  · obtain ⟨v, ns, b, f, c, rfl, hv, hb, hf, hc, hcf, q⟩ := h
    have nd := scarcs_at.nd
    refine ⟨_, (pss_cons (ps_set (i := 4) nd rfl (.inl rfl) (pe_op op_mul (pe_glob (by rfl) g_SORTS r_SORTS) (pv 1)))
      (pss_one (ps_ret (pe_op op_add (pe_ix (kIxE K rfl) (pv 0) (pe_op op_add (pv 4) (pv 3)) (fun _ _ => rfl)) (pe_ix (kIxE K rfl) (pv 0) (pe_op op_add (pv 4) (pe_call Gquad_sort (hr.mono (by first | decide | omega)) (by rfl) gquad_sort Fquad_sort.kp bquad_sort .nil pass0 (pa_cons (pv 3) (pa_cons (pv 2) pa_nil)))) (fun _ _ => rfl)))))), ?_⟩
    have hq := quad_lt f hf c hc hcf
    walk_at "g"
    refine ⟨.inl (by decide), ?_⟩
    walk_at "g"
    refine hv.ix (K := K) (i := 7 * b + c) (by omega) (by omega) ?_
    walk_at "g"
    refine ⟨c, f, rfl, hc, hf, hcf, ?_⟩
    walk_at "g"
    refine hv.ix (K := K) (i := 7 * b + quadS c f) (by omega) (by omega) ?_
    walk_at "g"
    exact q
end
end Bk

namespace Bk
open PySem PySem.Spec PyProof.Rows L2
local macro_rules | `(tactic| walk_at "g") => `(tactic| (repeat first | refine ⟨_, rfl, ?_⟩ | refine ⟨cpow, ?_⟩ | refine ⟨_, _, rfl, rfl, ?_⟩ | refine ⟨rfl, ?_⟩))
section
variable {P : Program} {w : World} {K : PySem.W.Frag} {mg : Str → Option Value} {base : Heap}
abbrev s_law_arcs : Stmt := topS 50
abbrev N_law_arcs : List Str := ["numbers", "block", "face", "tip", "found", "others", "sort", "here", "one"]
theorem sc_law_arcs : FnScope N_law_arcs ["numbers", "block", "face", "tip"] (defScope s_law_arcs) := ⟨rfl, rfl, rfl, by decide +kernel, rfl, by decide +kernel, by decide +kernel⟩
theorem ok_law_arcs {f : Addr} {fd : FuncData} (F : Fun K "_law_arcs" "_law_arcs" s_law_arcs f fd) (m_range : mg "range" = none) : FnOk P w K mg base CX0 1 f fd ["numbers", "block", "face", "tip"] spLawArcs := by
  refine F.ok sc_law_arcs (fun vs H Q E h => ?_) (fun cdv A outer s H vs Q E hr h => ?_)
  · obtain ⟨a, ns, b, f, c, rfl, _⟩ := h
    rfl
  · obtain ⟨a, ns, b, f, c, rfl, ha, hb, hf, hc, hcf, q⟩ := h
    have nd := sc_law_arcs.nd
    refine ⟨_, (pss_cons (ps_set (i := 4) nd rfl (.inl rfl) (pe_ix (kIxL K rfl) (pv 0) (pe_op op_add (pe_op op_mul pe_int (pv 1)) (pv 3)) (fun _ _ => rfl)))
      (pss_cons (ps_setLc (i := 5) (own := [("one", 8)]) (g := gName 8) rfl nd rfl rfl (sw_true rfl rfl rfl (by decide +kernel)) (pi_range1 (by rfl) m_range (pa_cons pe_int pa_nil)) (blkOk_by (own := [("one", 8)]) (N := N_law_arcs) (sc := defScope s_law_arcs) (by decide +kernel)) (fun _ _ _ _ _ => (pg_name (i := 8) nd rfl (Or.inl rfl))) (fun _ _ _ _ _ => (pts_one (pt_cmpR (kNotIn K rfl) (pv 8) (pe_tupF (pa_cons (pv 2) (pa_cons (pv 3) pa_nil))) (by rfl)))) (fun _ _ _ _ _ => (pv 8)))
      (pss_cons (ps_for PassesOwn.never rfl (pi_range2 (by rfl) m_range (pa_cons pe_int (pa_cons pe_int pa_nil))) (pg_name (i := 6) nd rfl (.inr rfl)) (pss_cons (ps_set (i := 7) nd rfl (.inr rfl) (pe_cmpR (kIn K rfl) (pv 3) (pe_tupF (pa_cons pe_int (pa_cons (pe_op op_sub (pv 6) pe_int) pa_nil))) (by rfl)))
      (pss_one (ps_if (pt_cmpR (kEqD K rfl hr.units) (pe_lc (own := [("one", 8)]) (g := gName 8) rfl nd (kPiL K rfl (pi_list (pv 5))) (blkOk_by (own := [("one", 8)]) (N := N_law_arcs) (sc := defScope s_law_arcs) (by decide +kernel)) (fun _ _ _ _ _ => (pg_name (i := 8) nd rfl (Or.inl rfl))) (fun _ _ _ _ _ => (pts_one (pt_cmpR op_eq (pe_cmpR (kIn K rfl) (pv 8) (pe_tupF (pa_cons pe_int (pa_cons (pe_op op_sub (pv 6) pe_int) pa_nil))) (by rfl)) (pv 7) (nomark _)))) (fun _ _ _ _ _ => pe_int)) (pe_lst pa_nil) (nomark _)) (pss_one (ps_set (i := 4) nd rfl (.inl rfl) (pe_op op_add (pv 4) (pe_ix (kIxL K rfl) (pv 0) (pe_op op_add (pe_op op_mul pe_int (pv 1)) (pv 6)) (fun _ _ => rfl))))) pss_nil))))
      (pss_one (ps_ret (pv 4)))))), ?_⟩
    walk_at "g"
    refine ⟨.inl (by decide), ?_⟩
    have ix : ∀ k : Nat, k < 7 → ∀ z : Int, z = 7 * (b : Int) + (k : Int) → atI (ns.map V.int) z = some (.int (ns.getD (7 * b + k) 0)) := fun k hk z hz => at_of (j := 7 * b + k) (by omega) (getD_map (by omega))
    walk_at "g"
    refine ⟨a, _, _, _, rfl, rfl, .inl (.inl ha), ix c (by omega) _ rfl, ?_⟩
    refine ⟨4, rfl, by decide, by decide, fun O nO => ?_⟩
    refine lc_range (lo := 0) (n := 4) (fun i H1 => H1 O = some (.lst (((List.range i).filter fun o => !(f == o || c == o)).map intV)) ∧ Same H H1) ⟨upd_same, same_new nO⟩ ?_ ?_
    · rintro o H1 ho ⟨h1, s1⟩
      rw [Int.zero_add]
      refine ⟨rfl, ?_⟩
      walk_at "g"
      refine ⟨Nat.le_of_lt (small1000 (by show 2 ≤ 1000; decide)), fun p2 o2 np2 d2 => ?_⟩
      refine ⟨p2, [intV f, intV c], rfl, .inr (FT.new d2).sqt, rfl, rfl, ?_⟩
      rw [if_pos rfl, show inV (V.int (o : Int)) [intV f, intV c] = (f == o || c == o) from inV_two o f c]
      have s2 : Same H1 (upd H1 p2 (.frz o2 (.tup [intV f, intV c]))) := same_new np2
      generalize upd H1 p2 (.frz o2 (.tup [intV f, intV c])) = H2 at s2 ⊢
      have rs : ((List.range (o + 1)).filter fun o => !(f == o || c == o)) = ((List.range o).filter fun o => !(f == o || c == o)) ++ (if (!(f == o || c == o)) = true then [o] else []) := range_filter_succ _ _
      refine ⟨_, rfl, ite2 (fun e => ?_) (fun e => ?_)⟩
      · rw [if_pos e] at rs
        refine ⟨_, rfl, _, s2 _ _ h1, small1000 (Nat.le_trans (by rw [List.length_map]; exact Nat.le_trans (List.length_filter_le _ _) (by rw [List.length_range]; exact Nat.le_of_lt ho)) (by decide : 4 ≤ 1000)), ?_, ?_⟩
        · rw [upd_same, rs, List.map_append]
          rfl
        · exact same_fill (s1.trans s2) nO
      · rw [if_neg e, List.append_nil] at rs
        exact ⟨by rw [rs]; exact s2 _ _ h1, s1.trans s2⟩
    rintro H1 ⟨h1, s1⟩
    refine ⟨4, 7, rfl, ⟨by decide, by decide, by decide, by decide⟩, ?_⟩
    have hq := quad_lt f hf c hc hcf
    refine for_range (lo := 4) (n := ((7 : Int) - 4).toNat) (fun i σ H2 => ∃ y6 y7, σ = [some (.ref a), some (intV b), some (intV f), some (intV c), some (.int (ns.getD (7 * b + c) 0 + if quadS c f < 4 + i then ns.getD (7 * b + quadS c f) 0 else 0)), some (.ref O), y6, y7, none] ∧ H2 O = some (.lst ((othL f c).map intV)) ∧ Same H H2)
      ⟨none, none, by rw [if_neg (by omega), Int.add_zero]; rfl, h1, s1⟩ ?_ ?_
    · rintro i σ H2 hi ⟨y6, y7, rfl, h2, s2⟩
      have hi3 : i < 3 := hi
      rw [show (4 : Int) + (i : Int) = ((4 + i : Nat) : Int) by omega]
      walk_at "g"
      refine ⟨Nat.le_of_lt (small1000 (by show 2 ≤ 1000; decide)), fun p2 o2 np2 d2 => ?_⟩
      have e3 : ([V.int 0, V.int (((4 + i : Nat) : Int) - 3)] : List V) = [intV 0, intV (4 + i - 3)] := congrArg (fun z => [V.int 0, V.int z]) (show (((4 + i : Nat) : Int)) - 3 = ((4 + i - 3 : Nat) : Int) by omega)
      have s3 : Same H2 (upd H2 p2 (.frz o2 (.tup [V.int 0, V.int (((4 + i : Nat) : Int) - 3)]))) := same_new np2
      have f3 : FT (upd H2 p2 (.frz o2 (.tup [V.int 0, V.int (((4 + i : Nat) : Int) - 3)]))) p2 [intV 0, intV (4 + i - 3)] := ⟨o2, d2, by rw [upd_same, e3]⟩
      generalize upd H2 p2 (.frz o2 (.tup [V.int 0, V.int (((4 + i : Nat) : Int) - 3)])) = H3 at s3 f3 ⊢
      refine ⟨p2, [intV 0, intV (4 + i - 3)], rfl, .inr f3.sqt, rfl, rfl, ?_⟩
      rw [if_neg Bool.false_ne_true, inV_two]
      have h3 := s3 _ _ h2
      refine ⟨.ref O, rfl, O, rfl, ⟨_, .inl (.inl h3)⟩, fun D nD => ?_⟩
      have nOD : O ≠ D := ne_of_none h3 nD
      refine lc_list (xs := (othL f c).map intV) (fun j H4 => H4 D = some (.lst ((List.replicate (sameL f c (4 + i) j).length 1).map V.int)) ∧ Same H3 H4) ⟨upd_same, same_new nD⟩ ?_ ?_ ?_
      · rintro j H4 _ ⟨h4, s4⟩
        exact .inl (.inl (s4 _ _ h3))
      · rintro j x H4 hx ⟨h4, s4⟩
        rw [List.getElem?_map] at hx
        cases ho : (othL f c)[j]? with
        | none =>
          rw [ho] at hx
          cases hx
        | some o =>
          rw [ho] at hx
          obtain rfl := Option.some.inj hx
          have hj4 : (sameL f c (4 + i) j).length ≤ 4 := Nat.le_trans (List.length_filter_le _ _) (Nat.le_trans (List.length_take_le' _ _) (Nat.le_trans (List.length_filter_le _ _) (by rw [List.length_range]; exact Nat.le_refl _)))
          refine ⟨rfl, ?_⟩
          walk_at "g"
          refine ⟨Nat.le_of_lt (small1000 (by show 2 ≤ 1000; decide)), fun p5 o5 np5 d5 => ?_⟩
          have s5 : Same H4 (upd H4 p5 (.frz o5 (.tup [V.int 0, V.int (((4 + i : Nat) : Int) - 3)]))) := same_new np5
          have f5 : FT (upd H4 p5 (.frz o5 (.tup [V.int 0, V.int (((4 + i : Nat) : Int) - 3)]))) p5 [intV 0, intV (4 + i - 3)] := ⟨o5, d5, by rw [upd_same, e3]⟩
          generalize upd H4 p5 (.frz o5 (.tup [V.int 0, V.int (((4 + i : Nat) : Int) - 3)])) = H5 at s5 f5 ⊢
          refine ⟨p5, [intV 0, intV (4 + i - 3)], rfl, .inr f5.sqt, rfl, rfl, ?_⟩
          rw [if_neg Bool.false_ne_true, inV_two]
          have st : sameL f c (4 + i) (j + 1) = sameL f c (4 + i) j ++ (if (inB o (4 + i) == inB c (4 + i)) = true then [o] else []) := filter_take_succ ho
          walk_at "g"
          have eb : decide (V.bl (0 == o || 4 + i - 3 == o) = V.bl (0 == c || 4 + i - 3 == c)) = (inB o (4 + i) == inB c (4 + i)) := bl_dec _ _
          rw [eb]
          refine ite2 (fun e => ?_) (fun e => ?_)
          · rw [if_pos e] at st
            refine ⟨_, s5 _ _ h4, small1000 (by rw [List.length_map, List.length_replicate]; omega), ?_, same_fill (s4.trans s5) nD⟩
            rw [upd_same, st, List.length_append, show [o].length = 1 from rfl, List.replicate_succ', List.map_append]
            rfl
          · rw [if_neg e, List.append_nil] at st
            exact ⟨by rw [st]; exact s5 _ _ h4, s4.trans s5⟩
      · rintro H4 ⟨h4, s4⟩
        rw [List.length_map] at h4
        refine ⟨Nat.zero_le _, fun p6 np6 => ?_⟩
        have s6 : Same H4 (upd H4 p6 (.lst [])) := same_new np6
        have h6 : (upd H4 p6 (.lst [])) p6 = some (.lst (([] : List Int).map V.int)) := upd_same
        generalize upd H4 p6 (.lst []) = H6 at s6 h6 ⊢
        refine ⟨.list ((List.replicate (sameL f c (4 + i) (othL f c).length).length 1).map PyData.int), .list (([] : List Int).map PyData.int), .lst (.inl (.inl (s6 _ _ h4))) (dp_ints _), .lst (.inl (.inl h6)) (dp_ints _), ints_shaped _, ints_shaped _, ?_⟩
        rw [show PyData.eqv (.list ((List.replicate (sameL f c (4 + i) (othL f c).length).length 1).map PyData.int)) (.list (([] : List Int).map PyData.int)) = (4 + i == quadS c f) by
          rw [show (([] : List Int).map PyData.int) = [] from rfl, eqv_nil, ← quad_one f hf c hc hcf (4 + i) (by omega) (by omega)]
          cases sameL f c (4 + i) (othL f c).length <;> rfl]
        have s7 := ((s2.trans s3).trans s4).trans s6
        refine ⟨_, rfl, ite2 (fun e => ?_) (fun e => ?_)⟩
        · have e : 4 + i = quadS c f := by simpa using e
          walk_at "g"
          refine ⟨.inl (by decide), ?_⟩
          walk_at "g"
          refine ⟨a, _, _, _, rfl, rfl, .inl (.inl (s7 _ _ ha)), ix (4 + i) (by omega) _ rfl, ?_⟩
          refine ⟨_, _, rfl, rfl, some (V.int ((4 + i : Nat) : Int)), some (V.bl (0 == c || 4 + i - 3 == c)), ?_, s6 _ _ (s4 _ _ h3), s7⟩
          rw [if_neg (show ¬ quadS c f < 4 + i by omega), Int.add_zero, if_pos (show quadS c f < 4 + (i + 1) by omega), ← e]
          rfl
        · have e : ¬ 4 + i = quadS c f := by simpa using e
          refine ⟨some (V.int ((4 + i : Nat) : Int)), some (V.bl (0 == c || 4 + i - 3 == c)), ?_, s6 _ _ (s4 _ _ h3), s7⟩
          have e5 : (if quadS c f < 4 + (i + 1) then ns.getD (7 * b + quadS c f) 0 else (0 : Int)) = if quadS c f < 4 + i then ns.getD (7 * b + quadS c f) 0 else 0 := by
            by_cases z : quadS c f < 4 + i
            · rw [if_pos z, if_pos (by omega)]
            · rw [if_neg z, if_neg (by omega)]
          rw [e5]
          rfl
    · rintro σ H2 ⟨y6, y7, rfl, h2, s2⟩
      refine ⟨_, rfl, ?_⟩
      rw [if_pos (show quadS c f < 4 + ((7 : Int) - 4).toNat from hq.2)]
      exact q _ s2
end
end Bk

namespace Bk
open PySem PySem.Spec PyProof.Rows L2 RZ
local macro_rules | `(tactic| walk_at "g") => `(tactic| (repeat first | refine ⟨_, rfl, ?_⟩ | refine ⟨cpow, ?_⟩ | refine ⟨_, _, rfl, rfl, ?_⟩ | refine ⟨rfl, ?_⟩))
section
variable {P : Program} {w : World} {K : PySem.W.Frag} {mg : Str → Option Value} {base : Heap}
theorem rg7 : ∀ m < 101, Builtin.Range.small 0 ((7 * m : Nat) : Int) 7 = true ∧ Builtin.Range.rangeSize 0 ((7 * m : Nat) : Int) 7 = m := by decide +kernel
abbrev s_sorts_of_quads : Stmt := topS 40
abbrev N_sorts_of_quads : List Str := ["numbers", "first", "sort"]
theorem sc_sorts_of_quads : FnScope N_sorts_of_quads ["numbers", "first"] (defScope s_sorts_of_quads) := ⟨rfl, rfl, rfl, by decide +kernel, rfl, by decide +kernel, by decide +kernel⟩
def quadsAt (ns : List Int) (f : Nat) : List Nat := [4, 5, 6].filter fun s => decide (0 < ns.getD (f + s) 0)
def spSortsQ : Sp := fun vs H Q _ => ∃ (v : V) (ns : List Int) (f : Nat), vs = [v, intV f] ∧ Hd H v ns ∧ f + 6 < ns.length ∧ ∀ H', Same H H' → Q (intV (quadsAt ns f).length) H'
theorem ok_sorts_of_quads {f tQ : Addr} {fd : FuncData} (F : Fun K "_sorts_of_quads" "_sorts_of_quads" s_sorts_of_quads f fd) (g_QUADS : mg "QUADS" = some (.ref tQ)) (hQ : ∀ H, SqT K H tQ ([4, 5, 6].map intV)) (m_len : mg "len" = none) : FnOk P w K mg base CX0 1 f fd ["numbers", "first"] spSortsQ := by
  have r_QUADS : RelV (V.ref tQ) (.ref tQ) := rfl
  refine F.ok sc_sorts_of_quads (fun vs H Q E h => ?_) (fun cdv A outer s H vs Q E hr h => ?_)
  · obtain ⟨v, ns, f, rfl, _⟩ := h
    rfl
  · obtain ⟨v, ns, f, rfl, hv, hf, q⟩ := h
    have nd := sc_sorts_of_quads.nd
    refine ⟨_, (pss_one (ps_ret (pe_callB (kLen K rfl) (by rfl) m_len (by decide +kernel) (pa_cons (pe_lc (own := [("sort", 2)]) (g := gName 2) rfl nd (kPiT K rfl (pi_tup (pe_glob (by rfl) g_QUADS r_QUADS))) (blkOk_by (own := [("sort", 2)]) (N := N_sorts_of_quads) (sc := defScope s_sorts_of_quads) (by decide +kernel)) (fun _ _ _ _ _ => (pg_name (i := 2) nd rfl (Or.inl rfl))) (fun _ _ _ _ _ => (pts_one (pt_cmpR op_gt (pe_ix (kIxE K rfl) (pv 0) (pe_op op_add (pv 1) (pv 2)) (fun _ _ => rfl)) pe_int (nomark _)))) (fun _ _ _ _ _ => (pv 2))) pa_nil)))), ?_⟩
    refine ⟨tQ, rfl, ⟨_, hQ _⟩, fun D nD => ?_⟩
    refine lc_tup (xs := [4, 5, 6].map intV) (fun i H1 => H1 D = some (.lst ((([4, 5, 6].take i).filter fun s => decide (0 < ns.getD (f + s) 0)).map intV)) ∧ Same H H1) ⟨upd_same, same_new nD⟩ ?_ ?_ ?_
    · rintro i H1 _ ⟨h1, s1⟩
      exact hQ _
    · rintro i x H1 hx ⟨h1, s1⟩
      rw [List.getElem?_map] at hx
      cases e : ([4, 5, 6] : List Nat)[i]? with
      | none =>
        rw [e] at hx
        cases hx
      | some s =>
        rw [e] at hx
        obtain rfl : intV s = x := Option.some.inj hx
        have hs : s ≤ 6 := by
          have := List.mem_of_getElem? e
          simp at this
          omega
        refine ⟨rfl, v, rfl, intV f, rfl, intV s, rfl, (f : Int), (s : Int), rfl, rfl, ?_⟩
        refine (hv.same s1).ix (i := f + s) (by omega) (by omega) ?_
        refine ⟨_, 0, rfl, rfl, ?_⟩
        refine ⟨decide (0 < ns.getD (f + s) 0), rfl, ite2 (fun e1 => ?_) (fun e1 => ?_)⟩
        · refine ⟨intV s, rfl, _, h1, small1000 (by
            rw [List.length_map]
            refine Nat.le_trans (List.length_filter_le _ _) ?_
            rw [List.length_take]
            show min i 3 ≤ 1000
            omega), ?_, same_fill s1 nD⟩
          rw [upd_same, filter_take_succ e, if_pos e1, List.map_append]
          rfl
        · rw [filter_take_succ e, if_neg e1, List.append_nil]
          exact ⟨h1, s1⟩
    · rintro H1 ⟨h1, s1⟩
      refine ⟨D, _, rfl, .inl (.inl (.inl h1)), ?_⟩
      rw [List.length_map]
      exact q H1 s1
abbrev squads_agree : Stmt := topS 39
abbrev Nquads_agree : List Str := ["numbers", "first"]
theorem scquads_agree : FnScope Nquads_agree ["numbers"] (defScope squads_agree) := ⟨rfl, rfl, rfl, by decide +kernel, rfl, by decide +kernel, by decide +kernel⟩
def spAgree : Sp := fun vs H Q _ => ∃ (v : V) (ns : List Int) (m : Nat), vs = [v] ∧ Hd H v ns ∧ ns.length = 7 * m ∧ m ≤ 100 ∧ ∀ H', Same H H' → Q (.bl ((List.range m).all fun b => decide ((quadsAt ns (7 * b)).length ≤ 1))) H'
theorem okquads_agree {f fA : Addr} {fd fdA : FuncData} {tS : Tok} (F : Fun K "quads_agree" "quads_agree" squads_agree f fd) (F_sorts_of_quads : Fun K "_sorts_of_quads" "_sorts_of_quads" s_sorts_of_quads fA fdA) (g_sorts_of_quads : mg "_sorts_of_quads" = some (.ref fA)) (b_sorts_of_quads : Binds K fdA ["numbers", "first"] []) (G_sorts_of_quads : FnOk P w K mg base CX0 1 fA fdA ["numbers", "first"] spSortsQ) (g_SORTS : mg "SORTS" = some (.int 7 tS)) (m_len : mg "len" = none) (m_all : mg "all" = none) (m_range : mg "range" = none) : FnOk P w K mg base CX0 2 f fd ["numbers"] spAgree := by
  have r_SORTS : RelV (V.int 7) (.int 7 tS) := ⟨tS, rfl⟩
  refine F.ok scquads_agree (fun vs H Q E h => ?_) (fun cdv A outer s H vs Q E hr h => ?_)
  · obtain ⟨v, ns, m, rfl, _⟩ := h
    rfl
  · obtain ⟨v, ns, m, rfl, hv, hl, hm, q⟩ := h
    have nd := scquads_agree.nd
    refine ⟨_, (pss_one (ps_ret (pe_callB (kAll K rfl rfl) (by rfl) m_all (by decide +kernel) (pa_cons (pe_lc (own := [("first", 1)]) (g := gName 1) (tt := tYes) rfl nd (pi_range3 (by rfl) m_range (pa_cons pe_int (pa_cons (pe_callB (kLen K rfl) (by rfl) m_len (by decide +kernel) (pa_cons (pv 0) pa_nil)) (pa_cons (pe_glob (by rfl) g_SORTS r_SORTS) pa_nil)))) (blkOk_by (own := [("first", 1)]) (N := Nquads_agree) (sc := defScope squads_agree) (by decide +kernel)) (fun _ _ _ _ _ => (pg_name (i := 1) nd rfl (Or.inl rfl))) (fun _ _ _ _ _ => pts_nil) (fun _ _ _ _ _ => (pe_cmpR op_le (pe_call G_sorts_of_quads (hr.mono (by first | decide | omega)) (by rfl) g_sorts_of_quads F_sorts_of_quads.kp b_sorts_of_quads .nil pass0 (pa_cons (pv 0) (pa_cons (pv 1) pa_nil))) pe_int (nomark _)))) pa_nil)))), ?_⟩
    obtain ⟨a, rfl, hS⟩ := hv.sq (K := K)
    have rg := rg7 m (by omega)
    refine ⟨.ref a, rfl, a, ns.map V.int, rfl, hS, 0, ((7 * m : Nat) : Int), 7, m, by rw [List.length_map, hl], ⟨by decide, by decide, rg.1, rg.2⟩, fun D nD => ?_⟩
    refine lc_it walk_rangeC (fun i H1 => H1 D = some (.lst (((List.range i).map fun b => decide ((quadsAt ns (7 * b)).length ≤ 1)).map V.bl)) ∧ Same H H1) ⟨upd_same, same_new nD⟩ (fun _ _ _ _ => trivial) ?_ ?_
    · rintro i x H1 H2 hi ⟨h1, s1⟩ ⟨rfl, rfl⟩
      have e7 : (0 : Int) + ((i : Nat) : Int) * 7 = ((7 * i : Nat) : Int) := by omega
      refine ⟨rfl, .ref a, rfl, .int (0 + (i : Int) * 7), rfl, .ref a, ns, 7 * i, ?_, hv.same s1, by omega, fun H3 s3 => ?_⟩
      · rw [e7]
        rfl
      refine ⟨((quadsAt ns (7 * i)).length : Int), 1, rfl, rfl, _, s3 _ _ h1, small1000 (by rw [List.length_map, List.length_map, List.length_range]; omega), ?_, same_fill (s1.trans s3) nD⟩
      rw [upd_same, List.range_succ, List.map_append, List.map_append]
      refine congrArg (fun z => some (HO.lst (_ ++ [V.bl z]))) ?_
      show decide (((quadsAt ns (7 * i)).length : Int) ≤ 1) = decide ((quadsAt ns (7 * i)).length ≤ 1)
      by_cases c : (quadsAt ns (7 * i)).length ≤ 1
      · rw [decide_eq_true c]
        exact decide_eq_true (by omega)
      · rw [decide_eq_false c]
        exact decide_eq_false (by omega)
    · rintro H1 ⟨h1, s1⟩
      refine ⟨D, _, rfl, .inl (.inl h1), ?_⟩
      rw [List.all_map]
      exact q H1 s1
end
end Bk

namespace Bk
open PySem PySem.Spec PyProof.Rows L2
/-! ### list(d.values()) -/
def rValsL : V → Hp → VK → Prop := fun x H Q => ∃ (d : Addr) (kvs : List (Key × V)), x = .ref d ∧ H d = some (.dK kvs) ∧ ∀ p, H p = none → Q (.ref p) (upd H p (.lst (kvs.map fun kv => kv.2)))
def tListVals (te : TE) : TE := fun σ H Q => te σ H fun x H1 => rValsL x H1 Q
theorem kv_snd : ∀ {kvs : List (Key × V)} {ws : List (Key × Value)}, KV kvs ws → Vals (kvs.map fun kv => kv.2) (ws.map fun kv => kv.2)
  | [], _, h => by
    cases h
    exact .nil
  | _ :: _, _, h => by
    cases h with
    | cons a b => exact .cons a.2 (kv_snd b)
section
variable {X : Cx} {e : Expr} {te : TE} {p apos cpos pos : Pos}
theorem pe_listVals (calm : X.calm = true) (ie : PE X e te) (gl : Gl X "list") (nm : X.mg "list" = none) (bl : bootBuiltins "list" = some (.type "list"))
    (b0 : attributeBase e "values" X.env (eval e X.env) = eval e X.env := by rfl) (ln : (apos.endLine == cpos.line) = true := by rfl)
    (st : starEach [.Call (.Attribute e "values" apos) [] [] cpos] X.env = (false, eval (.Call (.Attribute e "values" apos) [] [] cpos) X.env) :: starEach [] X.env := by rfl) :
    PE X (.Call (.Name "list" p) [.Call (.Attribute e "values" apos) [] [] cpos] [] pos) (tListVals te) := by
  constructor
  intro pins s σ H Q I hw
  apply wpAny_Call_Name_kw
  refine ld_blt I gl nm bl (PyProof.Rows.callWith_type1 ?_ st rfl)
  rw [st]
  show wpAny _ _ (spliced ((false, eval (.Call (.Attribute e "values" apos) [] [] cpos) X.env) :: backTo pos (starEach [] X.env))) _ _ s
  apply Calls.spliced_cons
  refine wpAny_Call_method (T := "dict") (id := "dict.values") b0 rfl ln F.plainAttrs_dict F.slot_dict_values F.type_dict_values ?_
  refine thn (ie.run pins s σ H _ I hw) ?_
  rintro u s1 ⟨x, H1, I1, rx, d, kvs, rfl, hd, q⟩
  obtain rfl : u = Value.ref d := rx
  obtain ⟨hz, lo, ws, kv, hdo⟩ := I1.hok d _ hd
  obtain ⟨ep, dat⟩ := hdo.dictAt
  have lk : kvs.length = ws.length := Paired.length kv
  let vw : Obj := { cls := .type "dict_values", data := .fields #[.ref d] }
  have I2 : Inv X pins σ H1 { s1 with heap := s1.heap.push vw } := I1.kept (t' := s1.toks) fun b ob z => Heap.get?_push_of_some _ z
  refine ⟨hdo.typeIs, hdo.mapOf.noDict, ?_⟩
  show wpAny _ _ (callWith cpos (.builtin "dict.values") [.ref d] [] []) _ X.xe s1
  refine method_meetsIn F.slot_dict_values F.entry_dict_values rfl (PySem.evalArgs_none ⟨rfl, hdo.typeIs, F.args_dict_values_1 _, _, meets_dict_values (mixKind X.prog X.w) d lo, ⟨ws, hdo⟩, ?_⟩)
  apply Calls.spliced_nil
  have view : (s1.heap.push vw).IsValuesView s1.heap.objs.size d := ⟨_, Heap.get?_push_size _ rfl, rfl, rfl⟩
  refine PySem.W.kdl_call (PySem.W.kdl_values (knd := mixKind X.prog X.w) (kvs := ws) (ep := ep)) (I1.ok.hd calm) ⟨view, dat.push _⟩ (by omega) ?_
  intro h' tk acc c keep hS hacc
  have new := I2.hok.fresh (Nat.le_refl _)
  refine ⟨.ref _, _, I2.laid (t' := tk) keep (Nat.le_refl _) (show ObjOk X.prog X.w _ _ _ (.lst (kvs.map fun kv => kv.2)) from ⟨?_, acc.toList, c, ?_, ?_⟩), rfl, q _ new⟩
  · rw [List.length_map]
    exact hz
  · have el : acc.toList.length = acc.size := by simp
    have e := PySem.W.kdl_vals_eq (kvs := ws) acc.toList (by rw [el, hacc.1]) fun j v z => hacc.2 j v (by rw [← Array.getElem?_toList]; exact z)
    rw [e]
    exact kv_snd kv
  · rw [Array.toArray_toList]
    exact hS
end
end Bk

namespace Bk
/-! ### things that hang together, told in rows -/
section
variable {α : Type}
theorem snoc_ind {P : List α → Prop} (h0 : P []) (h1 : ∀ l x, P l → P (l ++ [x])) (l : List α) : P l := by
  have go : ∀ l : List α, P l.reverse := by
    intro l
    induction l with
    | nil => exact h0
    | cons x l ih =>
      rw [List.reverse_cons]
      exact h1 _ _ ih
  have := go l.reverse
  rwa [List.reverse_reverse] at this
/-- the first one of each lot, in the list's order -/
def fstE (E : α → α → Bool) (l : List α) : List α := l.foldl (fun acc x => if acc.any (fun y => E y x) then acc else acc ++ [x]) []
theorem fstE_snoc (E : α → α → Bool) (l : List α) (x : α) : fstE E (l ++ [x]) = if (fstE E l).any (fun y => E y x) then fstE E l else fstE E l ++ [x] := by
  unfold fstE
  rw [List.foldl_append]
  rfl
theorem fstE_take {E : α → α → Bool} {l : List α} {i : Nat} {x : α} (h : l[i]? = some x) : fstE E (l.take (i + 1)) = if (fstE E (l.take i)).any (fun y => E y x) then fstE E (l.take i) else fstE E (l.take i) ++ [x] := by
  rw [List.take_add_one, h]
  exact fstE_snoc E _ x
theorem fstE_sub (E : α → α → Bool) : ∀ (l : List α) (y : α), y ∈ fstE E l → y ∈ l := by
  refine snoc_ind (fun y h => h) fun l x ih y h => ?_
  · skip
    rw [fstE_snoc] at h
    split at h
    · exact List.mem_append_left _ (ih y h)
    · rcases List.mem_append.mp h with h | h
      · exact List.mem_append_left _ (ih y h)
      · exact List.mem_append_right _ h
/-- the rows -/
def rowsE (E : α → α → Bool) (l : List α) : List (List α) := (fstE E l).map fun x => l.filter (E x)
theorem fstE_congr {E E' : α → α → Bool} : ∀ (l : List α), (∀ x ∈ l, ∀ y ∈ l, E x y = E' x y) → fstE E l = fstE E' l := by
  refine snoc_ind (fun _ => rfl) fun l x ih h => ?_
  · skip
    have ih := ih fun a ha b hb => h a (List.mem_append_left _ ha) b (List.mem_append_left _ hb)
    rw [fstE_snoc, fstE_snoc, ih]
    have e : (fstE E' l).any (fun y => E y x) = (fstE E' l).any (fun y => E' y x) := by
      have go : ∀ m : List α, (∀ y ∈ m, y ∈ l) → m.any (fun y => E y x) = m.any (fun y => E' y x) := by
        intro m hm
        induction m with
        | nil => rfl
        | cons a m im =>
          rw [List.any_cons, List.any_cons, im fun y hy => hm y (List.mem_cons_of_mem _ hy), h a (List.mem_append_left _ (hm a List.mem_cons_self)) x (List.mem_append_right _ (List.mem_singleton.mpr rfl))]
      exact go _ (fstE_sub E' l)
    rw [e]
theorem rowsE_congr {E E' : α → α → Bool} {l : List α} (h : ∀ x ∈ l, ∀ y ∈ l, E x y = E' x y) : rowsE E l = rowsE E' l := by
  unfold rowsE
  rw [fstE_congr l h]
  refine List.map_congr_left fun x hx => ?_
  refine List.filter_congr fun y hy => h x (fstE_sub E' l x hx) y hy
/-- an equivalence -/
structure EqvB (E : α → α → Bool) : Prop where
  rfl : ∀ x, E x x = true
  symm : ∀ x y, E x y = true → E y x = true
  trans : ∀ x y z, E x y = true → E y z = true → E x z = true
/-- what hangs together by steps of r, each of them both ways -/
inductive Hang (r : α → α → Prop) : α → α → Prop
  | rfl (x : α) : Hang r x x
  | step {x y z : α} : Hang r x y → r y z → Hang r x z
theorem Hang.trans {r : α → α → Prop} {x y z : α} (a : Hang r x y) (b : Hang r y z) : Hang r x z := by
  induction b with
  | rfl => exact a
  | step _ s ih => exact .step ih s
theorem Hang.one {r : α → α → Prop} {x y : α} (h : r x y) : Hang r x y := .step (.rfl x) h
theorem Hang.symm {r : α → α → Prop} (hr : ∀ x y, r x y → r y x) {x y : α} (a : Hang r x y) : Hang r y x := by
  induction a with
  | rfl => exact .rfl _
  | step _ s ih => exact (Hang.one (hr _ _ s)).trans ih
theorem Hang.mono {r r' : α → α → Prop} (h : ∀ x y, r x y → Hang r' x y) {x y : α} (a : Hang r x y) : Hang r' x y := by
  induction a with
  | rfl => exact .rfl _
  | step _ s ih => exact ih.trans (h _ _ s)
open Classical in
noncomputable def hangB (r : α → α → Prop) (x y : α) : Bool := @decide (Hang r x y) (propDecidable _)
theorem hangB_iff {r : α → α → Prop} {x y : α} : hangB r x y = true ↔ Hang r x y := by
  unfold hangB
  exact @decide_eq_true_iff _ (Classical.propDecidable _)
theorem hangB_eqv {r : α → α → Prop} (hr : ∀ x y, r x y → r y x) : EqvB (hangB r) :=
  ⟨fun x => hangB_iff.mpr (.rfl x), fun x y h => hangB_iff.mpr ((hangB_iff.mp h).symm hr), fun x y z a b => hangB_iff.mpr ((hangB_iff.mp a).trans (hangB_iff.mp b))⟩
theorem bool_ext {a b : Bool} (h : a = true ↔ b = true) : a = b := by
  cases a <;> cases b <;> simp_all
/-! labels: pairs put together one by one -/
def relab (lab : List Nat) (low high : Nat) : List Nat := if low = high then lab else lab.map fun m => if m = high then low else m
/-- labels are alike just where things hang together by the pairs so far -/
def LabOk (lab : List Nat) (r : Nat → Nat → Prop) : Prop := ∀ i j x y, lab[i]? = some x → lab[j]? = some y → (x = y ↔ Hang r i j)
theorem relab_len (lab : List Nat) (a b : Nat) : (relab lab a b).length = lab.length := by
  unfold relab
  split
  · rfl
  · rw [List.length_map]
theorem relab_get {lab : List Nat} {a b i : Nat} {x : Nat} (h : lab[i]? = some x) : (relab lab a b)[i]? = some (if x = b then a else x) := by
  unfold relab
  split
  · rename_i e
    subst e
    rw [h]
    split
    · rename_i z; rw [z]
    · rfl
  · rw [List.getElem?_map, h]
    rfl
def both2 (r : Nat → Nat → Prop) (p q : Nat) : Nat → Nat → Prop := fun x y => r x y ∨ (x = p ∧ y = q) ∨ (x = q ∧ y = p)
theorem both2_symm {r : Nat → Nat → Prop} (hr : ∀ x y, r x y → r y x) {p q : Nat} : ∀ x y, both2 r p q x y → both2 r p q y x := by
  rintro x y (h | ⟨rfl, rfl⟩ | ⟨rfl, rfl⟩)
  · exact .inl (hr _ _ h)
  · exact .inr (.inr ⟨rfl, rfl⟩)
  · exact .inr (.inl ⟨rfl, rfl⟩)
theorem hang_both2 {r : Nat → Nat → Prop} (hr : ∀ x y, r x y → r y x) {p q x y : Nat} (h : Hang (both2 r p q) x y) :
    Hang r x y ∨ (Hang r x p ∧ Hang r q y) ∨ (Hang r x q ∧ Hang r p y) := by
  induction h with
  | rfl => exact .inl (.rfl _)
  | step _ s ih =>
    rcases s with s | ⟨rfl, rfl⟩ | ⟨rfl, rfl⟩
    · rcases ih with a | ⟨a, b⟩ | ⟨a, b⟩
      · exact .inl (.step a s)
      · exact .inr (.inl ⟨a, .step b s⟩)
      · exact .inr (.inr ⟨a, .step b s⟩)
    · rcases ih with a | ⟨a, b⟩ | ⟨a, b⟩
      · exact .inr (.inl ⟨a, .rfl _⟩)
      · exact .inr (.inl ⟨a, .rfl _⟩)
      · exact .inl a
    · rcases ih with a | ⟨a, b⟩ | ⟨a, b⟩
      · exact .inr (.inr ⟨a, .rfl _⟩)
      · exact .inl a
      · exact .inr (.inr ⟨a, .rfl _⟩)
theorem Hang.weak2 {r : Nat → Nat → Prop} {p q x y : Nat} (h : Hang r x y) : Hang (both2 r p q) x y := h.mono fun _ _ s => .one (.inl s)
theorem LabOk.put {lab : List Nat} {r : Nat → Nat → Prop} (h : LabOk lab r) (hr : ∀ x y, r x y → r y x) {p q a b : Nat} (hp : lab[p]? = some a) (hq : lab[q]? = some b) : LabOk (relab lab a b) (both2 r p q) := by
  intro i j x y hi hj
  have li : i < lab.length := by
    have := (List.getElem?_eq_some_iff.mp hi).1
    rwa [relab_len] at this
  have lj : j < lab.length := by
    have := (List.getElem?_eq_some_iff.mp hj).1
    rwa [relab_len] at this
  have gi : lab[i]? = some lab[i] := List.getElem?_eq_getElem li
  have gj : lab[j]? = some lab[j] := List.getElem?_eq_getElem lj
  rw [relab_get gi] at hi
  rw [relab_get gj] at hj
  injection hi with hi
  injection hj with hj
  generalize lab[i] = u at *
  generalize lab[j] = v at *
  have e1 := h i j u v gi gj
  have e2 := h i p u a gi hp
  have e3 := h i q u b gi hq
  have e4 := h j p v a gj hp
  have e5 := h j q v b gj hq
  have pq : Hang (both2 r p q) p q := .one (.inr (.inl ⟨rfl, rfl⟩))
  have sy := fun {x y} (z : Hang (both2 r p q) x y) => z.symm (both2_symm hr)
  subst hi hj
  constructor
  · intro e
    by_cases c1 : u = b
    · rw [if_pos c1] at e
      have k1 := (e3.mp c1).weak2 (p := p) (q := q)
      by_cases c2 : v = b
      · exact k1.trans (sy (e5.mp c2).weak2)
      · rw [if_neg c2] at e
        exact (k1.trans (sy pq)).trans (sy (e4.mp e.symm).weak2)
    · rw [if_neg c1] at e
      by_cases c2 : v = b
      · rw [if_pos c2] at e
        exact ((e2.mp e).weak2.trans pq).trans (sy (e5.mp c2).weak2)
      · rw [if_neg c2] at e
        exact (e1.mp e).weak2
  · intro k
    have hs := fun {x y} (z : Hang r x y) => z.symm hr
    rcases hang_both2 hr k with k | ⟨k1, k2⟩ | ⟨k1, k2⟩
    · rw [e1.mpr k]
    · have u1 := e2.mpr k1
      have v1 := e5.mpr (hs k2)
      rw [if_pos v1, u1]
      split
      · rfl
      · rfl
    · have u1 := e3.mpr k1
      have v1 := e4.mpr (hs k2)
      rw [if_pos u1, v1]
      split
      · rfl
      · rfl
/-- by a list of pairs -/
def pairR (ps : List (Nat × Nat)) : Nat → Nat → Prop := fun x y => (x, y) ∈ ps ∨ (y, x) ∈ ps
theorem pairR_symm (ps : List (Nat × Nat)) : ∀ x y, pairR ps x y → pairR ps y x := fun _ _ h => h.symm
theorem LabOk.snoc {lab : List Nat} {ps : List (Nat × Nat)} (h : LabOk lab (pairR ps)) {p q a b : Nat} (hp : lab[p]? = some a) (hq : lab[q]? = some b) : LabOk (relab lab a b) (pairR (ps ++ [(p, q)])) := by
  have k := h.put (pairR_symm ps) hp hq
  have e : ∀ x y, both2 (pairR ps) p q x y ↔ pairR (ps ++ [(p, q)]) x y := by
    intro x y
    unfold both2 pairR
    simp only [List.mem_append, List.mem_singleton, Prod.mk.injEq]
    constructor
    · rintro ((h | h) | ⟨h1, h2⟩ | ⟨h1, h2⟩)
      · exact .inl (.inl h)
      · exact .inr (.inl h)
      · exact .inl (.inr ⟨h1, h2⟩)
      · exact .inr (.inr ⟨h2, h1⟩)
    · rintro ((h | ⟨h1, h2⟩) | (h | ⟨h1, h2⟩))
      · exact .inl (.inl h)
      · exact .inr (.inl ⟨h1, h2⟩)
      · exact .inl (.inr h)
      · exact .inr (.inr ⟨h2, h1⟩)
  intro i j x y hi hj
  refine (k i j x y hi hj).trans ⟨fun z => z.mono fun _ _ s => .one ((e _ _).mp s), fun z => z.mono fun _ _ s => .one ((e _ _).mpr s)⟩
theorem LabOk.start (n : Nat) : LabOk (List.range n) (pairR []) := by
  intro i j x y hi hj
  have e1 := (List.getElem?_eq_some_iff.mp hi)
  have e2 := (List.getElem?_eq_some_iff.mp hj)
  obtain ⟨l1, e1⟩ := e1
  obtain ⟨l2, e2⟩ := e2
  rw [List.getElem_range] at e1 e2
  subst e1 e2
  refine ⟨fun e => e ▸ .rfl _, fun h => ?_⟩
  induction h with
  | rfl => rfl
  | step _ s _ => exact absurd s (by unfold pairR; simp)
end
end Bk

namespace Bk
section
variable {α : Type} [DecidableEq α]
theorem nodup_filter {l : List α} (p : α → Bool) (h : l.Nodup) : (l.filter p).Nodup := List.Nodup.sublist List.filter_sublist h
theorem nodup_sub {l m : List α} (hl : l.Nodup) (hm : m.Nodup) (h : ∀ x ∈ l, x ∈ m) : l.Perm (m.filter fun x => decide (x ∈ l)) := by
  refine (List.perm_ext_iff_of_nodup hl (nodup_filter _ hm)).mpr fun a => ?_
  rw [List.mem_filter, decide_eq_true_eq]
  exact ⟨fun z => ⟨h a z, z⟩, fun z => z.2⟩
theorem nodup_len {l m : List α} (hl : l.Nodup) (hm : m.Nodup) (h : ∀ x ∈ l, x ∈ m) : l.length ≤ m.length := by
  rw [(nodup_sub hl hm h).length_eq]
  exact List.length_filter_le _ _
/-- what has been reached: row, of which wait is not looked at yet -/
structure Rch (lk : α → List α) (ts : List α) (a : α) (row wait : List α) : Prop where
  nd : row.Nodup
  sub : ∀ x ∈ row, x ∈ ts
  at_ : a ∈ row
  hang : ∀ x ∈ row, Hang (fun x y => y ∈ lk x) a x
  wt : ∀ x ∈ wait, x ∈ row
  cl : ∀ x ∈ row, x ∈ wait ∨ ∀ y ∈ lk x, y ∈ row
theorem Rch.start {lk : α → List α} {ts : List α} {a : α} (h : a ∈ ts) : Rch lk ts a [a] [a] :=
  ⟨by simp, fun x hx => by rw [List.mem_singleton.mp hx]; exact h, List.mem_singleton.mpr rfl, fun x hx => by rw [List.mem_singleton.mp hx]; exact .rfl _, fun x hx => hx, fun x hx => .inl hx⟩
/-- within the look at x, whose links done are all in -/
structure RchIn (lk : α → List α) (ts : List α) (a x : α) (done row wait : List α) : Prop where
  nd : row.Nodup
  sub : ∀ x ∈ row, x ∈ ts
  at_ : a ∈ row
  hang : ∀ x ∈ row, Hang (fun x y => y ∈ lk x) a x
  wt : ∀ x ∈ wait, x ∈ row
  cl : ∀ y ∈ row, y ∈ wait ∨ y = x ∨ ∀ z ∈ lk y, z ∈ row
  x : x ∈ row
  dn : ∀ y ∈ done, y ∈ row
theorem Rch.look {lk : α → List α} {ts : List α} {a x : α} {row wait : List α} (h : Rch lk ts a row (wait ++ [x])) : RchIn lk ts a x [] row wait :=
  ⟨h.nd, h.sub, h.at_, h.hang, fun y hy => h.wt y (List.mem_append_left _ hy), fun y hy => by
    rcases h.cl y hy with z | z
    · rcases List.mem_append.mp z with z | z
      · exact .inl z
      · exact .inr (.inl (List.mem_singleton.mp z))
    · exact .inr (.inr z), h.wt x (List.mem_append_right _ (List.mem_singleton.mpr rfl)), fun y hy => by cases hy⟩
theorem RchIn.old {lk : α → List α} {ts : List α} {a x y : α} {done row wait : List α} (h : RchIn lk ts a x done row wait) (hy : y ∈ row) : RchIn lk ts a x (done ++ [y]) row wait :=
  ⟨h.nd, h.sub, h.at_, h.hang, h.wt, h.cl, h.x, fun z hz => (List.mem_append.mp hz).elim (h.dn z) fun hz => by
    rw [List.mem_singleton.mp hz]
    exact hy⟩
theorem RchIn.new {lk : α → List α} {ts : List α} {a x y : α} {done row wait : List α} (h : RchIn lk ts a x done row wait) (hy : y ∉ row) (hl : y ∈ lk x) (ht : y ∈ ts) : RchIn lk ts a x (done ++ [y]) (row ++ [y]) (wait ++ [y]) := by
  have inr : ∀ z, z ∈ row → z ∈ row ++ [y] := fun z hz => List.mem_append_left _ hz
  have iny : y ∈ row ++ [y] := List.mem_append_right _ (List.mem_singleton.mpr rfl)
  refine ⟨?_, fun z hz => ?_, inr _ h.at_, fun z hz => ?_, fun z hz => ?_, fun z hz => ?_, inr _ h.x, fun z hz => ?_⟩
  · rw [List.nodup_append]
    refine ⟨h.nd, by simp, fun u hu v hv e => ?_⟩
    rw [List.mem_singleton.mp hv] at e
    exact hy (e ▸ hu)
  · rcases List.mem_append.mp hz with hz | hz
    · exact h.sub z hz
    · rw [List.mem_singleton.mp hz]
      exact ht
  · rcases List.mem_append.mp hz with hz | hz
    · exact h.hang z hz
    · rw [List.mem_singleton.mp hz]
      exact .step (h.hang x h.x) hl
  · rcases List.mem_append.mp hz with hz | hz
    · exact inr _ (h.wt z hz)
    · rw [List.mem_singleton.mp hz]
      exact iny
  · rcases List.mem_append.mp hz with hz | hz
    · rcases h.cl z hz with k | k | k
      · exact .inl (List.mem_append_left _ k)
      · exact .inr (.inl k)
      · exact .inr (.inr fun u hu => inr _ (k u hu))
    · exact .inl (List.mem_append_right _ hz)
  · rcases List.mem_append.mp hz with hz | hz
    · exact inr _ (h.dn z hz)
    · rw [List.mem_singleton.mp hz]
      exact iny
theorem RchIn.done {lk : α → List α} {ts : List α} {a x : α} {row wait : List α} (h : RchIn lk ts a x (lk x) row wait) : Rch lk ts a row wait :=
  ⟨h.nd, h.sub, h.at_, h.hang, h.wt, fun y hy => by
    rcases h.cl y hy with k | k | k
    · exact .inl k
    · rw [k]
      exact .inr h.dn
    · exact .inr k⟩
theorem Rch.mem {lk : α → List α} {ts : List α} {a : α} {row : List α} (h : Rch lk ts a row []) (x : α) : x ∈ row ↔ Hang (fun x y => y ∈ lk x) a x := by
  refine ⟨h.hang x, fun k => ?_⟩
  induction k with
  | rfl => exact h.at_
  | step _ s ih =>
    rcases h.cl _ ih with z | z
    · cases z
    · exact z _ s
/-- all of it, in the things' order -/
theorem Rch.perm {lk : α → List α} {ts : List α} {a : α} {row : List α} (h : Rch lk ts a row []) (hts : ts.Nodup) : row.Perm (ts.filter (hangB (fun x y => y ∈ lk x) a)) := by
  refine (List.perm_ext_iff_of_nodup h.nd (nodup_filter _ hts)).mpr fun x => ?_
  rw [List.mem_filter, hangB_iff, h.mem]
  exact ⟨fun z => ⟨h.sub x ((h.mem x).mpr z), z⟩, fun z => z.2⟩
end
end Bk

namespace Bk
open PySem PySem.Spec PyProof.Rows L2
/-! ### things as keys: whole numbers, or tuples of such, each by one number -/
structure Mo where
  t : Bool
  dec : Nat → List Int
def Mo.at (M : Mo) (H : Hp) (v : V) (n : Nat) : Prop := if M.t = true then ∃ p, v = .ref p ∧ H p = some (.tup ((M.dec n).map V.int)) else v = intV n
def Mo.key (M : Mo) (n : Nat) : List L2.Key := (M.dec n).map Sum.inl
def Mo.obj (M : Mo) (kvs : List (Nat × V)) : HO := if M.t = true then .dT (kvs.map fun q => (M.key q.1, q.2)) else .dK (kvs.map fun q => (Sum.inl (q.1 : Int), q.2))
/-- tuples that are told as such stand -/
def TupK (H H' : Hp) : Prop := ∀ b xs, H b = some (.tup xs) → H' b = some (.tup xs)
theorem TupK.refl (H : Hp) : TupK H H := fun _ _ h => h
theorem TupK.trans {H H1 H2 : Hp} (a : TupK H H1) (b : TupK H1 H2) : TupK H H2 := fun c xs h => b c xs (a c xs h)
theorem _root_.L2.Same.tupK {H H' : Hp} (a : Same H H') : TupK H H' := fun b xs h => a b _ h
theorem tupK_set {H : Hp} {p : Addr} {u o : HO} (h : H p = some u) (n : ∀ xs, u ≠ .tup xs) : TupK H (upd H p o) := fun b xs e => by
  rw [upd_ne (fun z => by
    rw [z, h] at e
    exact n xs (Option.some.inj e))]
  exact e
theorem tupK_lst {H : Hp} {p : Addr} {xs : List V} {o : HO} (h : H p = some (.lst xs)) : TupK H (upd H p o) := tupK_set h fun _ z => by cases z
theorem Mo.obj_tup (M : Mo) (kvs : List (Nat × V)) (xs : List V) : M.obj kvs ≠ .tup xs := by
  unfold Mo.obj
  split <;> intro z <;> cases z
theorem tupK_dic {M : Mo} {H : Hp} {p : Addr} {kvs : List (Nat × V)} {o : HO} (h : H p = some (M.obj kvs)) : TupK H (upd H p o) := tupK_set h (M.obj_tup kvs)
theorem Mo.at.mono {M : Mo} {H H' : Hp} {v : V} {n : Nat} (h : M.at H v n) (m : TupK H H') : M.at H' v n := by
  unfold Mo.at at *
  by_cases c : M.t = true
  · rw [if_pos c] at h ⊢
    obtain ⟨p, e, h⟩ := h
    exact ⟨p, e, m _ _ h⟩
  · rw [if_neg c] at h ⊢
    exact h
theorem Mo.obj_lst (M : Mo) (kvs : List (Nat × V)) (xs : List V) : M.obj kvs ≠ .lst xs := by
  unfold Mo.obj
  split <;> intro z <;> cases z
/-- what a mode's keys keep apart -/
def Mo.Inj (M : Mo) (N : Nat) : Prop := ∀ a b, a < N → b < N → M.dec a = M.dec b → a = b
theorem Mo.key_inj {M : Mo} {N a b : Nat} (h : M.Inj N) (ha : a < N) (hb : b < N) (e : M.key a = M.key b) : a = b := by
  refine h a b ha hb ?_
  unfold Mo.key at e
  exact List.map_inj_right (fun x y z => Sum.inl.inj z) |>.mp e
theorem valV_map_key {κ κ' : Type} [DecidableEq κ] [DecidableEq κ'] {f : κ → κ'} {k : κ} : ∀ {kvs : List (κ × V)}, (∀ q ∈ kvs, f q.1 = f k → q.1 = k) → valV (kvs.map fun q => (f q.1, q.2)) (f k) = valV kvs k
  | [], _ => rfl
  | q :: r, h => by
    rw [List.map_cons]
    by_cases e : q.1 = k
    · rw [valV_pos (p := (f q.1, q.2)) (by show f q.1 = f k; rw [e]), valV_pos e]
    · rw [valV_neg (p := (f q.1, q.2)) (fun z => e (h q List.mem_cons_self z)), valV_neg e]
      exact valV_map_key fun x hx => h x (List.mem_cons_of_mem _ hx)
theorem putK_map_key {κ κ' : Type} [DecidableEq κ] [DecidableEq κ'] {f : κ → κ'} {k : κ} {v : V} {kvs : List (κ × V)} (h : ∀ q ∈ kvs, f q.1 = f k → q.1 = k) : putK (kvs.map fun q => (f q.1, q.2)) (f k) v = (putK kvs k v).map fun q => (f q.1, q.2) := by
  unfold putK
  have e : ∀ {l : List (κ × V)}, (∀ q ∈ l, f q.1 = f k → q.1 = k) → ((l.map fun q => (f q.1, q.2)).any fun kv => decide (kv.1 = f k)) = l.any fun kv => decide (kv.1 = k) := by
    intro l hl
    induction l with
    | nil => rfl
    | cons q l ih =>
      rw [List.map_cons, List.any_cons, List.any_cons, ih fun x hx => hl x (List.mem_cons_of_mem _ hx)]
      exact congrArg (· || _) (decide_eq_decide.mpr ⟨hl q List.mem_cons_self, fun z => congrArg f z⟩)
  rw [e h]
  split
  · rw [List.map_map, List.map_map]
    refine List.map_congr_left fun q hq => ?_
    show (if f q.1 = f k then (f q.1, v) else (f q.1, q.2)) = (f (if q.1 = k then (q.1, v) else q).1, (if q.1 = k then (q.1, v) else q).2)
    by_cases z : q.1 = k
    · rw [if_pos (congrArg f z), if_pos z]
    · rw [if_neg (fun y => z (h q hq y)), if_neg z]
  · rw [List.map_append]
    rfl
theorem Mo.get {M : Mo} {N : Nat} {H : Hp} {d : Addr} {kvs : List (Nat × V)} {v : V} {n : Nat} (hi : M.Inj N) (hd : H d = some (M.obj kvs)) (hv : M.at H v n) (hk : ∀ q ∈ kvs, q.1 < N) (hn : n < N) : DGet H d v (valV kvs n) := by
  unfold Mo.obj Mo.at at *
  split at hd
  · rename_i ht
    rw [if_pos ht] at hv
    obtain ⟨p, rfl, hp⟩ := hv
    have e := DGet.t (k := M.key n) hd (by rw [hp]; unfold Mo.key; rw [List.map_map]; rfl)
    rw [valV_map_key fun q hq z => M.key_inj hi (hk q hq) hn z] at e
    exact e
  · rename_i ht
    rw [if_neg ht] at hv
    subst hv
    have e := DGet.k (k := (Sum.inl (n : Int) : L2.Key)) hd
    rw [valV_map_key (f := fun m : Nat => (Sum.inl (m : Int) : L2.Key)) fun q hq z => by injection z with z; omega] at e
    exact e
theorem Mo.put {M : Mo} {N : Nat} {H : Hp} {d : Addr} {kvs : List (Nat × V)} {v x : V} {n : Nat} (hi : M.Inj N) (hd : H d = some (M.obj kvs)) (hv : M.at H v n) (hk : ∀ q ∈ kvs, q.1 < N) (hn : n < N) (hz : kvs.length < sizeLine) :
    DPut H d v x (upd H d (M.obj (putK kvs n x))) := by
  unfold Mo.obj Mo.at at *
  split at hd
  · rename_i ht
    rw [if_pos ht] at hv
    obtain ⟨p, rfl, hp⟩ := hv
    have e := DPut.t (k := M.key n) (v := x) hd (by rw [hp]; unfold Mo.key; rw [List.map_map]; rfl) (by rw [List.length_map]; exact hz)
    rw [putK_map_key fun q hq z => M.key_inj hi (hk q hq) hn z] at e
    rw [if_pos ht]
    exact e
  · rename_i ht
    rw [if_neg ht] at hv
    subst hv
    have e := DPut.k (k := (Sum.inl (n : Int) : L2.Key)) (v := x) hd (by rw [List.length_map]; exact hz)
    rw [putK_map_key (f := fun m : Nat => (Sum.inl (m : Int) : L2.Key)) fun q hq z => by injection z with z; omega] at e
    rw [if_neg ht]
    exact e
/-! ### rules by a mode -/
theorem callR_or {X : Cx} {f : Value} {r1 r2 : List V → Hp → VK → Prop} (a : CallR X f r1) (b : CallR X f r2) : CallR X f (fun xs H Q => r1 xs H Q ∨ r2 xs H Q) := fun pins s σ H xs us Q I r h => h.elim (a pins s σ H xs us Q I r) (b pins s σ H xs us Q I r)
/-- sorted(a list of things) -/
def rSortE (M : Mo) (N : Nat) (K : PySem.W.Frag) : List V → Hp → VK → Prop := fun vs H Q => ∃ (a : Addr) (xs : List V) (l : List Nat), vs = [.ref a] ∧ H a = some (.lst xs) ∧ Paired (M.at H) xs l ∧ (∀ n ∈ l, n < N) ∧ l.length < 64 ∧
  ∀ ys l' p, Paired (M.at H) ys l' → l'.Perm l → l'.Pairwise (· ≤ ·) → H p = none → Q (.ref p) (upd H p (.lst ys))
/-- sorted(a dict) -/
def rSortD (M : Mo) (N : Nat) (K : PySem.W.Frag) : List V → Hp → VK → Prop := fun vs H Q => ∃ (a : Addr) (kvs : List (Nat × V)), vs = [.ref a] ∧ H a = some (M.obj kvs) ∧ (∀ q ∈ kvs, q.1 < N) ∧ kvs.length < 64 ∧
  ∀ ys l' p, Paired (M.at H) ys l' → l'.Perm (kvs.map (·.1)) → l'.Pairwise (· ≤ ·) → H p = none → Q (.ref p) (upd H p (.lst ys))
/-- list(a dict) -/
def rListM (M : Mo) : List V → Hp → VK → Prop := fun vs H Q => ∃ (a : Addr) (kvs : List (Nat × V)), vs = [.ref a] ∧ H a = some (M.obj kvs) ∧ ∀ ys p, Paired (M.at H) ys (kvs.map (·.1)) → H p = none → Q (.ref p) (upd H p (.lst ys))
/-- dict(a list of pairs) -/
def rDictM (M : Mo) (N : Nat) (K : PySem.W.Frag) : List V → Hp → VK → Prop := fun vs H Q => ∃ (a : Addr) (ps : List Addr) (kvs : List (Nat × V)), vs = [.ref a] ∧ H a = some (.lst (ps.map V.ref)) ∧ Paired (fun p q => ∃ v, H p = some (.tup [v, q.2]) ∧ M.at H v q.1) ps kvs ∧ (∀ q ∈ kvs, q.1 < N) ∧ (kvs.map (·.1)).Nodup ∧
  ∀ p, H p = none → Q (.ref p) (upd H p (M.obj kvs))
structure MoR (M : Mo) (N : Nat) (K : PySem.W.Frag) : Prop where
  inj : M.Inj N
  srt : ∀ X : Cx, X.K = K → CallR X (.builtin "sorted") (rSortE M N K)
  srtD : ∀ X : Cx, X.K = K → X.calm = true → CallR X (.builtin "sorted") (rSortD M N K)
  lst : ∀ X : Cx, X.K = K → X.calm = true → CallR X (.type "list") (rListM M)
  dic : ∀ X : Cx, X.K = K → X.calm = true → X.A.units + 8 < cLine → CallR X (.type "dict") (rDictM M N K)
theorem srtM {M : Mo} {N : Nat} {K : PySem.W.Frag} (R : MoR M N K) {X : Cx} (h : X.K = K) : CallR X (.builtin "sorted") (rSortE M N K) := R.srt X h
theorem srtDM {M : Mo} {N : Nat} {K : PySem.W.Frag} (R : MoR M N K) {X : Cx} (h : X.K = K) (c : X.calm = true) : CallR X (.builtin "sorted") (rSortD M N K) := R.srtD X h c
theorem lstM {M : Mo} {N : Nat} {K : PySem.W.Frag} (R : MoR M N K) {X : Cx} (h : X.K = K) (c : X.calm = true) : CallR X (.type "list") (rListM M) := R.lst X h c
theorem dicM {M : Mo} {N : Nat} {K : PySem.W.Frag} (R : MoR M N K) {X : Cx} (h : X.K = K) (c : X.calm = true) (u : X.A.units + 8 < cLine) : CallR X (.type "dict") (rDictM M N K) := R.dic X h c u
/-! whole numbers -/
def moI : Mo := ⟨false, fun n => [(n : Int)]⟩
theorem moI_at (H : Hp) (v : V) (n : Nat) : moI.at H v n ↔ v = intV n := Iff.rfl
theorem moI_list {H : Hp} : ∀ {xs : List V} {l : List Nat}, Paired (moI.at H) xs l → xs = l.map intV
  | _, _, .nil => rfl
  | _, _, .cons a t => by
    rw [List.map_cons, ← moI_list t]
    exact congrArg (· :: _) a
theorem moI_paired (H : Hp) : ∀ l : List Nat, Paired (moI.at H) (l.map intV) l
  | [] => .nil
  | n :: l => .cons rfl (moI_paired H l)
theorem ints_nat {l : List Nat} : l.map intV = (l.map fun n : Nat => (n : Int)).map V.int := by
  rw [List.map_map]
  rfl
theorem nats_of {l : List Nat} {ns : List Int} (h : ns.Perm (l.map fun n : Nat => (n : Int))) : ∃ l' : List Nat, ns = l'.map (fun n : Nat => (n : Int)) ∧ l'.Perm l := by
  refine ⟨ns.map Int.toNat, ?_, ?_⟩
  · rw [List.map_map]
    conv => lhs; rw [← List.map_id ns]
    refine List.map_congr_left fun x hx => ?_
    have := h.mem_iff.mp hx
    obtain ⟨y, _, rfl⟩ := List.mem_map.mp this
    rfl
  · have := h.map Int.toNat
    rw [List.map_map] at this
    refine this.trans (List.Perm.of_eq ?_)
    conv => rhs; rw [← List.map_id l]
    rfl
theorem nats_up {l : List Nat} (h : (l.map fun n : Nat => (n : Int)).Pairwise (· ≤ ·)) : l.Pairwise (· ≤ ·) := by
  rw [List.pairwise_map] at h
  exact h.imp fun z => by omega
theorem mergeK_nodup {κ : Type} [DecidableEq κ] : ∀ (more kvs : List (κ × V)), ((kvs ++ more).map (·.1)).Nodup → more.foldl (fun acc kv => putK acc kv.1 kv.2) kvs = kvs ++ more
  | [], kvs, _ => by simp
  | q :: r, kvs, h => by
    rw [List.foldl_cons]
    have n : valV kvs q.1 = none := by
      cases e : valV kvs q.1 with
      | none => rfl
      | some v =>
        have m := valV_in e
        rw [List.map_append, List.nodup_append] at h
        exact absurd rfl (h.2.2 _ m _ (List.mem_map_of_mem List.mem_cons_self))
    rw [putK_new _ n, mergeK_nodup r (kvs ++ [(q.1, q.2)]) (by simpa using h)]
    simp
theorem moI_rules (N : Nat) (K : PySem.W.Frag) : MoR moI N K := by
  refine ⟨fun a b _ _ h => by injection h with h; omega, fun X hX => ?_, fun X hX hc => ?_, fun X hX hc => ?_, fun X hX hc hu => ?_⟩
  · rintro pins s σ H vs us Q I r ⟨a, xs, l, rfl, ha, hp, _, hl, q⟩
    have ex := moI_list hp
    subst ex
    refine kSorted (K := K) hX pins s σ H _ us Q I r ⟨a, l.map fun n : Nat => (n : Int), rfl, .inl (.inl (.inl (by rw [ha, ints_nat]))), by rw [List.length_map]; exact hl, fun ns p h1 h2 hn => ?_⟩
    obtain ⟨l', rfl, h3⟩ := nats_of h1
    have := q _ l' p (moI_paired H l') h3 (nats_up h2) hn
    rw [ints_nat] at this
    exact this
  · rintro pins s σ H vs us Q I r ⟨a, kvs, rfl, ha, _, hl, q⟩
    refine call_sortedDI hc pins s σ H _ us Q I r ⟨a, _, (kvs.map (·.1)).map fun n : Nat => (n : Int), rfl, .inl ha, ?_, by simpa using hl, fun ns p h1 h2 hn => ?_⟩
    · rw [List.map_map, List.map_map, List.map_map]
      rfl
    · obtain ⟨l', rfl, h3⟩ := nats_of h1
      have := q _ l' p (moI_paired H l') h3 (nats_up h2) hn
      rw [ints_nat] at this
      exact this
  · rintro pins s σ H vs us Q I r ⟨a, kvs, rfl, ha, q⟩
    refine call_list_dK hc pins s σ H _ us Q I r ⟨a, _, rfl, ha, fun p hn => ?_⟩
    have := q _ p (moI_paired H _) hn
    rw [List.map_map] at this ⊢
    exact this
  · rintro pins s σ H vs us Q I r ⟨a, ps, kvs, rfl, ha, hp, _, nd, q⟩
    refine call_dictP hc pins s σ H _ us Q I r ⟨a, ps, kvs.map fun q => ((Sum.inl (q.1 : Int) : L2.Key), q.2), rfl, .inl (.inl ha), ?_, fun p hn => ?_⟩
    · rename_i hb
      clear q nd ha r hb
      induction hp with
      | nil => exact .nil
      | cons x t ih =>
        obtain ⟨v, h1, h2⟩ := x
        refine .cons (.inl (.inl ?_)) ih
        rw [h1, show v = intV _ from h2]
        rfl
    · have e : mergeK [] (kvs.map fun q => ((Sum.inl (q.1 : Int) : L2.Key), q.2)) = kvs.map fun q => ((Sum.inl (q.1 : Int) : L2.Key), q.2) := by
        unfold mergeK
        rw [mergeK_nodup _ [] ?_, List.nil_append]
        rw [List.nil_append, List.map_map]
        have : (kvs.map (·.1)).map (fun n : Nat => (Sum.inl (n : Int) : L2.Key)) = kvs.map ((fun x => x.1) ∘ fun q => ((Sum.inl (q.1 : Int) : L2.Key), q.2)) := by
          rw [List.map_map]
          rfl
        rw [← this]
        refine List.Pairwise.map _ (fun x y h z => h ?_) nd
        injection z with z
        omega
      rw [e]
      exact q p hn
end Bk

namespace Bk
open PySem PySem.Spec PyProof.Rows L2
/-! ### dicts made of a mode's things -/
theorem Mo.obj_nil (M : Mo) : M.obj [] = .dK [] ∨ M.obj [] = .dT [] := by
  unfold Mo.obj
  split
  · exact .inr rfl
  · exact .inl rfl
section
variable {X : Cx} {pos : Pos}
def tDNewE : TE := fun _ H Q => ∃ o, (o = .dK [] ∨ o = .dT []) ∧ ∀ p, H p = none → Q (.ref p) (upd H p o)
theorem pe_dnewE : PE X (.Dict [] [] pos) tDNewE := by
  constructor
  rintro pins s σ H Q I ⟨o, rfl | rfl, q⟩
  · exact pe_dnewK.run pins s σ H Q I q
  · exact pe_dnewT.run pins s σ H Q I q
variable {pins : List (Addr × Obj)} {σ : L2.St} {H H' : Hp} {s : Shared} {E : Value → Shared → Prop}
/-- a thing stored by a display or a comprehension -/
theorem d_dset {D : Addr} {y v : V} {u r : Value} {Q : Unit → Shared → Prop} (room : X.A.units < cLine) (I : Inv X pins σ H s) (g : DPut H D y v H') (ry : RelV y u) (rv : RelV v r) (k : ∀ s', Inv X pins σ H' s' → Q () s') :
    wpAny (model X.prog X.w) X.A (dictSet D u r) Q E s := by
  rcases g with ⟨kvs, key, e, rfl, lt, rfl⟩ | ⟨kvs, key, b, e, rfl, eb, lt, rfl⟩
  · exact d_dictSet I e lt ry rv k
  · obtain rfl : u = Value.ref b := ry
    obtain ⟨z, low, xs, rel, dd⟩ := dt_of I.hok e
    have zx : xs.length ≤ sizeLine := by
      rw [← Paired.length rel]
      exact z
    have zp : (putK kvs key v).length ≤ sizeLine := Nat.le_trans (length_putK kvs key v) lt
    refine wpAny_dictSet_heap (hsz := zx) (knd := tupleKind (mixKind X.prog X.w)) room (key_of I.hok eb) dd ?_
    intro h' dd' same
    obtain ⟨ob, es, ep, at_, x2, x3, x4, _, x5⟩ := dd'
    refine k _ (d_write I ?_ same ⟨ob, at_⟩ ?_)
    · rw [e]
      exact True.intro
    · refine ⟨zp, low, _, ?_, ob, es, ep, at_, x2, x3, x4, x5⟩
      exact (rel.put key eb rv).keeps fun c ys ec => by
        have ne := ne_of ec e (fun z => by cases z)
        rw [upd_ne ne]
        exact ec
/-- {k: v} -/
def tOne (tk tv : TE) : TE := fun σ H Q => ∃ o, (o = .dK [] ∨ o = .dT []) ∧ ∀ p, H p = none → tk σ (upd H p o) fun x H1 => tv σ H1 fun y H2 => ∃ H3, DPut H2 p x y H3 ∧ Q (.ref p) H3
theorem pe_one1 {k v : Expr} {tk tv : TE} (room : X.A.units < cLine) (hk : PE X k tk) (hv : PE X v tv) : PE X (.Dict [some k] [v] pos) (tOne tk tv) := by
  constructor
  rintro pins s σ H Q I ⟨o, ho, q⟩
  have hn := I.hok.fresh (Nat.le_refl s.heap.objs.size)
  have I1 : Inv X pins σ (upd H s.heap.objs.size o) { s with heap := s.heap.push { cls := .type "dict", data := .dict #[] } } := by
    rcases ho with rfl | rfl
    · exact I.laid (t' := s.toks) (fun _ _ z => Heap.get?_push_of_some _ z) (Nat.le_refl _) (dk_empty s.heap I.big)
    · exact I.laid (t' := s.toks) (fun _ _ z => Heap.get?_push_of_some _ z) (Nat.le_refl _) (dt_empty s.heap I.big)
  refine wpAny_Dict_any (keys := [some k]) (values := [v]) rfl rfl (by simp) (by simp) ?_
  let R : List (V × V) → Hp → Prop := fun ps H2 => match ps with
    | [(x, y)] => ∃ H3, DPut H2 s.heap.objs.size x y H3 ∧ Q (.ref s.heap.objs.size) H3
    | _ => False
  refine thn ((pps_cons hk hv pps_nil).run pins _ σ _ R I1 (show tPairs [(tk, tv)] σ _ R from q _ hn)) ?_
  rintro ws s2 ⟨ps, H2, I2, rel, z⟩
  match ps, ws, rel, z with
  | [(x, y)], [b], .cons r .nil, z =>
    obtain ⟨H3, put, qq⟩ := z
    show wpAny _ _ (storeAll s.heap.objs.size [b]) _ _ s2
    unfold storeAll
    rw [List.forIn_cons]
    refine wpAny_bind (wpAny_bind (d_dset room I2 put r.1 r.2 fun s3 I3 => wpAny_pure ?_))
    exact wpAny_pure ⟨.ref _, H3, I3, rfl, qq⟩
end
end Bk

namespace Bk
open PySem PySem.Spec PyProof.Rows L2
/-! ### tuples of two numbers as keys: a thing n is (n // 4, n % 4) -/
def moT : Mo := ⟨true, fun n => [((n / 4 : Nat) : Int), ((n % 4 : Nat) : Int)]⟩
theorem moT_at (H : Hp) (v : V) (n : Nat) : moT.at H v n ↔ ∃ p, v = .ref p ∧ H p = some (.tup ((moT.dec n).map V.int)) := Iff.rfl
theorem moT_inj (N : Nat) : moT.Inj N := fun a b _ _ h => by
  injection h with h1 h2
  injection h2 with h2 _
  omega
theorem moT_bd {n : Nat} (h : n < 64) : TS.Bd 64 (moT.dec n) := fun m hm => by
  rcases List.mem_cons.mp hm with e | hm
  · subst e
    omega
  · rw [List.mem_singleton.mp hm]
    omega
theorem moT_up {n m : Nat} (h : TS.code 64 (moT.dec n) ≤ TS.code 64 (moT.dec m)) (hn : n < 64) (hm : m < 64) : n ≤ m := by
  have e : ∀ k, TS.code 64 (moT.dec k) = ((k / 4 : Nat) : Int) * 64 + ((k % 4 : Nat) : Int) := fun k => by
    show ((k / 4 : Nat) : Int) * 64 ^ [((k % 4 : Nat) : Int)].length + (((k % 4 : Nat) : Int) * 64 ^ ([] : List Int).length + 0) = _
    simp
  rw [e, e] at h
  omega
theorem paired_perm {α β : Type} {F : α → β → Prop} {xs ys : List α} (h : ys.Perm xs) : ∀ {l : List β}, Paired F xs l → ∃ l', Paired F ys l' ∧ l'.Perm l := by
  induction h with
  | nil => exact fun p => ⟨_, p, .refl _⟩
  | cons x _ ih =>
    intro l p
    cases p with
    | cons r t =>
      obtain ⟨l', a, b⟩ := ih t
      exact ⟨_, .cons r a, b.cons _⟩
  | swap x y l0 =>
    intro l p
    cases p with
    | cons r t =>
      cases t with
      | cons r2 t2 => exact ⟨_, .cons r2 (.cons r t2), .swap _ _ _⟩
  | trans _ _ ih1 ih2 =>
    intro l p
    obtain ⟨l2, a, b⟩ := ih2 p
    obtain ⟨l3, c, d⟩ := ih1 a
    exact ⟨l3, c, d.trans b⟩
theorem paired_up {α β : Type} {F : α → β → Prop} {R : α → α → Prop} {S : β → β → Prop} {xs : List α} {l : List β} (p : Paired F xs l) (h : xs.Pairwise R) (m : ∀ x y a b, x ∈ xs → y ∈ xs → F x a → F y b → a ∈ l → b ∈ l → R x y → S a b) : l.Pairwise S := by
  induction p with
  | nil => exact .nil
  | @cons x a xs l r t ih =>
    obtain ⟨h1, h2⟩ := List.pairwise_cons.mp h
    refine .cons (fun b hb => ?_) (ih h2 fun x y a b hx hy f g ha hb => m x y a b (List.mem_cons_of_mem _ hx) (List.mem_cons_of_mem _ hy) f g (List.mem_cons_of_mem _ ha) (List.mem_cons_of_mem _ hb))
    obtain ⟨j, hj⟩ := List.mem_iff_getElem?.mp hb
    obtain ⟨y, hy, g⟩ := pget t hj
    have hy' := List.mem_of_getElem? hy
    exact m x y a b List.mem_cons_self (List.mem_cons_of_mem _ hy') r g List.mem_cons_self (List.mem_cons_of_mem _ hb) (h1 y hy')
theorem moT_tup {K : PySem.W.Frag} {H : Hp} {v : V} {n : Nat} (h : moT.at H v n) : TupI K H v (moT.dec n) := by
  obtain ⟨p, e, h⟩ := h
  exact ⟨p, e, .inl (.inl h)⟩
theorem moT_srt {K : PySem.W.Frag} {X : Cx} (hX : X.K = K) : CallR X (.builtin "sorted") (rSortE moT 64 K) := by
  have c : CallR X (.builtin "sorted") (rSortU K 2 64) := hX ▸ cr_sortT (by decide)
  rintro pins s σ H vs us Q I r ⟨a, xs, l, rfl, ha, hp, hN, hl, q⟩
  refine c pins s σ H _ us Q I r ⟨a, xs, rfl, .inl (.inl ha), by rw [plen hp]; exact hl, fun x hx => ?_, fun ys p hperm hsort hn => ?_⟩
  · obtain ⟨j, hj⟩ := List.mem_iff_getElem?.mp hx
    obtain ⟨n, hn, f⟩ := pget' hp hj
    exact ⟨_, moT_tup f, rfl, moT_bd (hN n (List.mem_of_getElem? hn))⟩
  · obtain ⟨l', p1, p2⟩ := paired_perm hperm hp
    refine q ys l' p p1 p2 (paired_up p1 hsort fun x y a b _ _ f g ha hb z => ?_) hn
    exact moT_up (z _ _ (moT_tup f) (moT_tup g)) (hN _ (p2.mem_iff.mp ha)) (hN _ (p2.mem_iff.mp hb))
def tKvs (kvs : List (Nat × V)) : List (List L2.Key × V) := kvs.map fun q => (moT.key q.1, q.2)
theorem moT_obj (kvs : List (Nat × V)) : moT.obj kvs = .dT (tKvs kvs) := rfl
theorem keys_paired {H : Hp} : ∀ {kvs : List (Nat × V)} {bs : List Addr}, IsKeys H (tKvs kvs) bs → Paired (moT.at H) (bs.map V.ref) (kvs.map (·.1))
  | [], _, h => by
    cases h
    exact .nil
  | q :: r, _, h => by
    cases h with
    | cons a t =>
      refine .cons ⟨_, rfl, ?_⟩ (keys_paired t)
      rw [a]
      show some (HO.tup (((moT.dec q.1).map Sum.inl).map kV)) = _
      rw [List.map_map]
      rfl
theorem moT_lst {X : Cx} (hc : X.calm = true) : CallR X (.type "list") (rListM moT) := by
  rintro pins s σ H vs us Q I r ⟨a, kvs, rfl, ha, q⟩
  exact call_list_dT hc pins s σ H _ us Q I r ⟨a, tKvs kvs, rfl, .inl ha, fun p bs hn hk => q _ p (keys_paired hk) hn⟩
end Bk

namespace Bk
open PySem PySem.Spec PyProof.Rows L2
/-! ### sorted(a dict of tuples), dict(pairs with tuples ahead) -/
/-- the tuples that a walk over the dict gives -/
theorem walk_keys {es : Array DictEntry} {ks : List (List L2.Key × Addr × Value)} {vs : Array Value} (hl : es.size = ks.length) (he : ∀ i (hi : i < es.size), ∃ y, ks[i]? = some y ∧ es[i].key = .ref y.2.1) (hv : ItemsOf (fun i v => ∃ en : DictEntry, es[i]? = some en ∧ v = en.key) vs es.size) :
    vs.toList = (ks.map fun y => y.2.1).map Value.ref := by
  obtain ⟨h1, h2⟩ := hv
  refine List.ext_getElem? fun j => ?_
  rw [List.map_map, List.getElem?_map]
  by_cases hj : j < es.size
  · obtain ⟨y, e1, e2⟩ := he j hj
    have hj2 : j < vs.toList.length := by
      rw [Array.length_toList, h1]
      exact hj
    obtain ⟨en, e3, e4⟩ := h2 j (vs.toList[j]) (by rw [← Array.getElem?_toList]; exact List.getElem?_eq_getElem hj2)
    rw [Array.getElem?_eq_getElem hj] at e3
    rw [List.getElem?_eq_getElem hj2, e1, e4, ← Option.some.inj e3, e2]
    rfl
  · rw [List.getElem?_eq_none (by rw [Array.length_toList, h1]; omega), List.getElem?_eq_none (by omega)]
    rfl
theorem moT_srtD {K : PySem.W.Frag} {X : Cx} (hc : X.calm = true) : CallR X (.builtin "sorted") (rSortD moT 64 K) := by
  rintro pins s σ H vs us Q I r ⟨a, kvs, rfl, ha, hN, hl, q⟩
  obtain ⟨u, rfl, rx⟩ := r.one
  cases rx
  obtain ⟨z, lo, ks, pr, dd⟩ := dt_of I.hok (show H a = some (.dT (tKvs kvs)) from ha)
  obtain ⟨es, ep, ⟨o, g1, g2, g3⟩, hes, hen⟩ := dd.raw
  have lk : kvs.length = ks.length := by
    have := plen pr
    unfold tKvs at this
    rw [List.length_map] at this
    exact this
  have isk := isKeys_of pr
  have kp := keys_paired isk
  generalize hbs : (ks.map fun y => y.2.1) = bs at isk kp
  have lb : bs.length = kvs.length := by rw [← hbs, List.length_map, lk]
  refine Calls.call_function_entry kind_sorted plain_sorted entry_sorted (args_sorted1 _) ?_
  unfold Builtin.«sorted»
  refine wpAny_bind (m := checkCount "sorted" 1 1 _) (wpAny_pure ?_)
  have hes' : es.size ≤ sizeLine := by
    rw [sizeLine_eq]
    omega
  refine wpAny_bind (PySem.W.kdu_collect (A := X.A.in1) (kdl_raw lo g2 g3) (I.ok.hd hc) g1 hes' fun h' tk acc hk hacc => ?_)
  have eacc : acc.toList = bs.map Value.ref := by
    rw [← hbs]
    exact walk_keys hes (fun i hi => by obtain ⟨y, e1, e2, _⟩ := hen i hi; exact ⟨y, e1, e2⟩) hacc
  have I1 : Inv X pins σ H { s with heap := h', toks := tk } := I.kept hk
  generalize hacl : acc.toList = al at eacc
  have lal : al.length = kvs.length := by rw [eacc, List.length_map, lb]
  refine wpAny_bind (wpAny_newList ?_ (by rw [lal, sizeLine_eq]; omega))
  have new : (h'.push (seqObj "list" al.toArray 0)).get? h'.objs.size = some (seqObj "list" al.toArray 0) := Heap.get?_push_size _ rfl
  have tup : ∀ v ∈ al, ∃ ns, TS.TupInts h' v ns ∧ ns.length = 2 ∧ TS.Bd 64 ns := fun v hv => by
    rw [eacc] at hv
    obtain ⟨b, hb, rfl⟩ := List.mem_map.mp hv
    obtain ⟨j, hj⟩ := List.mem_iff_getElem?.mp hb
    obtain ⟨n, hn, f⟩ := pget' kp (by rw [List.getElem?_map, hj]; rfl)
    obtain ⟨t, et, ht⟩ := moT_tup (K := X.K) f
    cases et
    obtain ⟨kv, hkv, rfl⟩ := List.mem_map.mp (List.mem_of_getElem? hn)
    exact ⟨_, tupI_raw I1 ht, rfl, moT_bd (hN _ hkv)⟩
  have tup2 : TS.TupsOk (h'.push (seqObj "list" al.toArray 0)) 2 64 al := fun v hv => by
    obtain ⟨ns, t, e⟩ := tup v hv
    exact ⟨ns, t.keeps fun b ob eb _ => Heap.get?_push_of_some _ eb, e⟩
  show wpAny _ _ _ _ _ { s with heap := h'.push (seqObj "list" al.toArray 0), toks := tk }
  refine wpAny_bind (wpAny_holding (wpAny_call_entry slot_list_sort ⟨_, new, rfl⟩ entry_list_sort (TS.sort_tups (s := { s with heap := h'.push (seqObj "list" al.toArray 0), toks := tk }) new (by rw [lal]; exact hl) (by decide) tup2 (fun v => TS.code 64 (TS.intsOf h' v)) (fun v hv ns t => ?_) fun out a1 a2 => ⟨_, rfl, ?_⟩) (args_list_sort _)))
  · obtain ⟨n0, t0, _⟩ := tup v hv
    have e : ns = n0 := t.ints.symm.trans (t0.keeps fun b ob eb _ => Heap.get?_push_of_some _ eb).ints
    rw [e]
    show TS.code 64 (TS.intsOf h' v) = _
    rw [t0.ints]
  · obtain ⟨cap, at_⟩ := sortedHeap_at (vs := al) (out := out) new
    have a1' : out.toList.Perm (bs.map Value.ref) := by
      rw [← eacc]
      exact a1
    obtain ⟨cs, hcs⟩ : ∃ cs : List Addr, out.toList = cs.map Value.ref ∧ cs.Perm bs := by
      have : ∀ {l : List Value} {m : List Addr}, l.Perm (m.map Value.ref) → ∃ cs : List Addr, l = cs.map Value.ref ∧ cs.Perm m := by
        intro l m h
        refine ⟨l.filterMap fun v => match v with | .ref b => some b | _ => none, ?_, ?_⟩
        · have : ∀ l : List Value, (∀ v ∈ l, ∃ b, v = .ref b) → l = (l.filterMap fun v => match v with | .ref b => some b | _ => none).map Value.ref := by
            intro l hl
            induction l with
            | nil => rfl
            | cons x l ih =>
              obtain ⟨b, rfl⟩ := hl x List.mem_cons_self
              exact congrArg (Value.ref b :: ·) (ih fun v hv => hl v (List.mem_cons_of_mem _ hv))
          exact this l fun v hv => by
            obtain ⟨b, _, e⟩ := List.mem_map.mp (h.mem_iff.mp hv)
            exact ⟨b, e.symm⟩
        · have h2 := h.filterMap fun v => match v with | Value.ref b => some b | _ => none
          rw [List.filterMap_map] at h2
          refine h2.trans (List.Perm.of_eq ?_)
          exact List.filterMap_some
      exact this a1'
    obtain ⟨ho, hp⟩ := hcs
    obtain ⟨l', p1, p2⟩ := paired_perm (hp.map V.ref) kp
    have srt : l'.Pairwise (· ≤ ·) := by
      refine paired_up (R := fun x y => ∀ n m, TupI X.K H x n → TupI X.K H y m → TS.code 64 n ≤ TS.code 64 m) p1 ?_ fun x y a b _ _ f g ha hb z => ?_
      · rw [List.pairwise_map]
        rw [ho, List.pairwise_map] at a2
        refine a2.imp fun {b c} w n m hn hm => ?_
        obtain ⟨t1, e1, f1⟩ := hn
        obtain ⟨t2, e2, f2⟩ := hm
        cases e1
        cases e2
        have w1 := (tupI_raw I1 f1).ints
        have w2 := (tupI_raw I1 f2).ints
        rw [← w1, ← w2]
        exact w
      · have lt : ∀ c ∈ l', c < 64 := fun c hc => by
          obtain ⟨kv, hkv, rfl⟩ := List.mem_map.mp (p2.mem_iff.mp hc)
          exact hN _ hkv
        exact moT_up (z _ _ (moT_tup f) (moT_tup g)) (lt _ ha) (lt _ hb)
    have len : (cs.map V.ref).length ≤ sizeLine := by
      rw [List.length_map, hp.length_eq, lb, sizeLine_eq]
      omega
    refine wpAny_pure ⟨_, rfl, .ref h'.objs.size, upd H h'.objs.size (.lst (cs.map V.ref)), I1.laid (t' := tk) (fun b ob eb => ?_) (Nat.le_refl _) ⟨len, out.toList, cap, by rw [ho]; exact vals_refs _, by rw [Array.toArray_toList]; exact at_⟩, rfl, q _ l' _ p1 p2 srt (I1.hok.fresh (Nat.le_refl _))⟩
    have lt : b < h'.objs.size := Heap.lt_size eb
    rw [sortedHeap_old (Nat.ne_of_lt lt) (by rw [size_push']; exact Nat.lt_succ_of_lt lt)]
    exact Heap.get?_push_of_some _ eb
/-- what a list of pairs with tuples ahead makes of a dict of tuples -/
theorem kt_merge {H : Hp} : ∀ {more : List (List L2.Key × V)} {ps : List (List L2.Key × Addr × Value)} {kvs : List (List L2.Key × V)} {xs : List (List L2.Key × Addr × Value)}, KT H kvs xs → KT H more ps → KT H (more.foldl (fun acc kv => putK acc kv.1 kv.2) kvs) (storedAllH xs ps)
  | [], _, _, _, r, m => by
    cases m
    exact r
  | kv :: more, _, _, _, r, m => by
    cases m with
    | @cons _ p _ _ a t =>
      obtain ⟨e1, e2, e3⟩ := a
      have := r.put kv.1 e2 e3
      rw [show storedH _ kv.1 p.2.1 p.2.2 = storedH _ p.1 p.2.1 p.2.2 by rw [e1]] at this
      have z := kt_merge this t
      exact z
theorem moT_dic {K : PySem.W.Frag} {X : Cx} (hc : X.calm = true) (hu : X.A.units + 8 < cLine) : CallR X (.type "dict") (rDictM moT 64 K) := by
  rintro pins s σ H vs us Q I r ⟨a, ps, kvs, rfl, ha, hp, hN, nd, q⟩
  obtain ⟨u, rfl, rx⟩ := r.one
  cases rx
  obtain ⟨its, rv, pl, hz⟩ := I.list (show SqL X.K H a (ps.map V.ref) from .inl (.inl ha))
  obtain rfl := refs_at rv
  rw [List.length_map] at hz
  -- the pairs, as they stand
  have go : ∀ {ps : List Addr} {kvs : List (Nat × V)}, Paired (fun p q => ∃ v, H p = some (.tup [v, q.2]) ∧ moT.at H v q.1) ps kvs →
      ∃ ws : List (List L2.Key × Addr × Value), KT H (tKvs kvs) ws ∧ ws.length = ps.length ∧ ∀ (j : Nat) (y : List L2.Key × Addr × Value), ws[j]? = some y → ∃ b, ps[j]? = some b ∧ IsTup s.heap b #[.ref y.2.1, y.2.2] := by
    intro ps kvs h
    induction h with
    | nil => exact ⟨[], .nil, rfl, fun j y e => by simp at e⟩
    | @cons p kv ps kvs x t ih =>
      obtain ⟨ws, w1, w2, w3⟩ := ih
      obtain ⟨v, e1, b, rfl, e2⟩ := x
      obtain ⟨its, rv, ht, _⟩ := I.tuple (show SqT X.K H p [.ref b, kv.2] from .inl (.inl e1))
      obtain ⟨u, y, rfl, ru, ry⟩ := vals2 rv
      cases ru
      refine ⟨(moT.key kv.1, b, y) :: ws, .cons ⟨rfl, ?_, ry⟩ w1, by rw [List.length_cons, List.length_cons, w2], fun j z e => ?_⟩
      · rw [e2]
        show _ = some (HO.tup (((moT.dec kv.1).map Sum.inl).map kV))
        rw [List.map_map]
        rfl
      · cases j with
        | zero =>
          cases Option.some.inj e
          exact ⟨p, rfl, ht⟩
        | succ j =>
          obtain ⟨b', f1, f2⟩ := w3 j z (by simpa using e)
          exact ⟨b', by simpa using f1, f2⟩
  obtain ⟨ws, w1, w2, w3⟩ := go hp
  obtain ⟨o, n, ho, hcl, hd, hdat⟩ := pl
  have keys : ∀ x ∈ ws, (tupleKind (mixKind X.prog X.w)).is s.heap x.1 x.2.1 := fun x hx => by
    obtain ⟨j, hj⟩ := List.mem_iff_getElem?.mp hx
    obtain ⟨kv, _, e1, e2, _⟩ := pget w1 hj
    rw [← e1]
    exact key_of I.hok e2
  have nd' : ((tKvs kvs).map (·.1)).Nodup := by
    unfold tKvs
    rw [List.map_map, show ((fun x : List L2.Key × V => x.1) ∘ fun q : Nat × V => (moT.key q.1, q.2)) = moT.key ∘ fun q => q.1 from rfl, ← List.map_map]
    refine List.Pairwise.map _ (fun x y h z => h ?_) nd
    have := List.map_inj_right (f := (Sum.inl : Int → L2.Key)) (fun a b e => Sum.inl.inj e) |>.mp z
    injection this with h1 h2
    injection h2 with h2 _
    omega
  have P := PairArg.list (prog := X.prog) (w := X.w) a (ps.map Value.ref).toArray (fun j => ps.getD j 0) (ws.map fun y => (Value.ref y.2.1, y.2.2))
  have hget : ∀ (j : Nat) (k v : Value), (ws.map fun y => (Value.ref y.2.1, y.2.2))[j]? = some (k, v) → ∃ y, ws[j]? = some y ∧ k = .ref y.2.1 ∧ v = y.2.2 := fun j k v e => by
    rw [List.getElem?_map] at e
    obtain ⟨y, e1, e2⟩ := Option.map_eq_some_iff.mp e
    injection e2 with e2 e3
    exact ⟨y, e1, e2.symm, e3.symm⟩
  have ok : PlainSeq "list" s.heap a (ps.map Value.ref).toArray ∧ PairItems s.heap (ps.map Value.ref).toArray (fun j => ps.getD j 0) (ws.map fun y => (Value.ref y.2.1, y.2.2)) := by
    refine ⟨⟨o, n, ho, hcl, hd, hdat⟩, by rw [List.size_toArray, List.length_map, List.length_map, w2], fun j k v e => ?_⟩
    obtain ⟨y, e1, rfl, rfl⟩ := hget j k v e
    obtain ⟨b, f1, f2⟩ := w3 j y e1
    have gd : ps.getD j 0 = b := by
      show ps[j]?.getD 0 = b
      rw [f1]
      rfl
    refine ⟨?_, .inl ?_⟩
    · show _ = some (Value.ref (ps.getD j 0))
      rw [gd, List.getElem?_toArray, List.getElem?_map, f1]
      rfl
    · show s.heap.IsTuple (ps.getD j 0) _
      rw [gd]
      exact f2
  refine call_dict_pairsH (knd := tupleKind (mixKind X.prog X.w)) (ps := ws) P (I.ok.hd hc) ?_ ok ⟨by rw [List.length_map], fun i k v e => ?_⟩ (fun h' hk x hx => ?_) (by rw [List.length_map, w2]; exact hz) fun h' tk dd hk => ?_
  · show X.A.in1.in1.units < cLine
    have e : X.A.in1.in1.units ≤ X.A.units + 8 := by
      simp [Around.in1, Around.units]
      try omega
    omega
  · obtain ⟨y, e1, e2, rfl⟩ := hget i k v e
    exact ⟨y.1, y.2.1, e1, e2⟩
  · obtain ⟨ob, i1, i2, i3, i4⟩ := keys x hx
    exact ⟨ob, i1, i2, hk _ _ (Nat.ne_of_lt (Heap.lt_size i3)) (by simp) i3, i4⟩
  · have lo : (s.heap.objs.size == sysModules) = false := beq_eq_false_iff_ne.mpr (Nat.ne_of_gt I.big)
    obtain ⟨ob, es, ep, at_, x2, x3, x4, _, x5⟩ := dd
    have kt := kt_merge (H := H) (kvs := []) (xs := []) .nil w1
    rw [mergeK_nodup _ [] (by rw [List.nil_append]; exact nd'), List.nil_append] at kt
    have fresh := I.hok.fresh (Nat.le_refl s.heap.objs.size)
    have len : (tKvs kvs).length ≤ sizeLine := by
      rw [plen w1, w2]
      exact hz
    refine ⟨.ref s.heap.objs.size, upd H s.heap.objs.size (.dT (tKvs kvs)), I.laid (t' := tk) (fun b ob e => hk b ob (by simp) e) (Nat.le_refl _) ⟨len, lo, _, kt.keeps fun c ys ec => ?_, ob, es, ep, at_, x2, x3, x4, x5⟩, rfl, q _ fresh⟩
    rw [upd_ne (fun z => by
      rw [z, fresh] at ec
      cases ec)]
    exact ec
theorem moT_rules (K : PySem.W.Frag) : MoR moT 64 K := ⟨moT_inj 64, fun X h => moT_srt h, fun X _ hc => moT_srtD hc, fun X _ hc => moT_lst hc, fun X _ hc hu => moT_dic hc hu⟩
end Bk

namespace Bk
open PySem PySem.Spec PyProof.Rows L2
/-! ### dicts made by more than one clause -/
/-- slots that know no less -/
def More (a b : L2.St) : Prop := b.length = a.length ∧ ∀ (j : Nat) v, a[j]? = some (some v) → b[j]? = some (some v)
theorem More.trans {a b c : L2.St} (h : More a b) (g : More b c) : More a c := ⟨g.1.trans h.1, fun j v e => g.2 j v (h.2 j v e)⟩
theorem More.of_wipe {a b : L2.St} {vs : List Nat} (h : wipe b vs = a) : More a b :=
  ⟨by rw [← h, wipe_length], fun j v e => by
    rw [← h] at e
    exact (wipe_some e).1⟩
theorem More.part {a b : L2.St} {vs ws : List Nat} (h : wipe b vs = a) (s : ∀ i ∈ ws, i ∈ vs) : More a (wipe b ws) :=
  ⟨by rw [← h, wipe_length, wipe_length], fun j v e => by
    rw [← h] at e
    obtain ⟨e1, e2⟩ := wipe_some e
    rw [wipe_out fun z => e2 (s j z)]
    exact e1⟩
def NoE : Value → Shared → Prop := fun _ _ => False
/-- one clause's loop: what its body does is told by B -/
theorem clause {Y : Cx} {c : Code} {R : Result → Shared → Prop} {tg : Expr} {ifs : List Expr} {g : TG} {tt : TT} {J : It} {fp : List Addr} {it : Addr} {tn : Nat → Heap → Prop} {pins : List (Addr × Obj)} {σ : L2.St} {V : List Nat} {B : (Shared → Prop) → Shared → Prop} {Bd : L2.St → Hp → (Hp → Prop) → Prop} {W : Nat → Nat → Hp → Prop} {Done : Hp → Prop}
    (calm : Y.calm = true) (quiet : c.quiet = true) (T : Turn Y.prog Y.w Y.K tg J fp it tn) (pg : PG Y tg g) (pt : PTs Y ifs tt) (noE : Y.xe = NoE) (f0 : ∀ (H : Hp) (s : Shared), Inv Y pins (wipe σ V) H s → (∀ b ∈ fp, H b = none) → ∀ b ∈ fp, FpOk Y pins H b)
    (turn : ∀ (s : Shared) (Q : PySem.Fin → Shared → Prop), wpAny (model Y.prog Y.w) Y.A (pyNext (.ref it)) (fun r s1 => match r with
      | none => Q (.done .next) s1
      | some v => wpAny (model Y.prog Y.w) Y.A (letOwnedTupleGo tg (.ref it) v) (fun _ s2 => wpAny (model Y.prog Y.w) Y.A (assign tg Y.env v) (fun _ s3 =>
          wpAny (model Y.prog Y.w) Y.A (forIn ifs true fun c r => if r = true then do let ok ← isTrue c Y.env (eval c Y.env); pure (ForInStep.yield ok) else pure (ForInStep.yield r))
            (fun ok s4 => if ok = true then B (Q (.again c)) s4 else Q (.again c) s4) NoE s3) NoE s2) NoE s1) NoE s →
      wpAny (model Y.prog Y.w) (Y.A.under c) ((model Y.prog Y.w).den c) Q (fun e s' => R (.error e) s') s)
    (hW : ∀ i m H, W i m H → (J.stop i H ∧ Done H) ∨ (J.go i H ∧ ∃ Nx : Hp → Prop, (∀ H', Nx H' → ∃ m', m' < m ∧ W (i + 1) m' H') ∧ ∀ x H', J.yld i H x H' → g x (wipe σ V) H' fun σ2 H2 => wipe σ2 V = wipe σ V ∧ tt σ2 H2 fun b H3 => if b = true then Bd σ2 H3 Nx else Nx H3))
    (body : ∀ (pl : List (Addr × Obj)) (σ2 : L2.St) (H : Hp) (s : Shared) (Nx : Hp → Prop) (k : Shared → Prop), Inv Y (pins ++ pl) σ2 H s → wipe σ2 V = wipe σ V → Bd σ2 H Nx → (∀ σ' H' s', Inv Y (pins ++ pl) σ' H' s' → More (wipe σ V) σ' → Nx H' → k s') → B k s)
    (last : ∀ H s, Inv Y pins (wipe σ V) H s → Done H → R (.ok .next) s) {m : Nat} {H : Hp} {s : Shared} (I : Inv Y pins (wipe σ V) H s) (st : tn 0 s.heap) (fr : ∀ b ∈ fp, H b = none) (w0 : W 0 m H) :
    codeAny (model Y.prog Y.w) Y.A c R s := by
  refine codeAny_loop quiet (fun n s => ∃ i H, Inv Y pins (wipe σ V) H s ∧ tn i s.heap ∧ (∀ b ∈ fp, H b = none) ∧ W i n H) ?_ m ⟨0, H, I, st, fr, w0⟩
  rintro n s1 ⟨i, H1, I1, st1, fr1, w1⟩
  refine turn s1 _ ?_
  rcases hW i n H1 w1 with ⟨stop, dn⟩ | ⟨go, Nx, hN, step⟩
  · refine thnF (T.done Y rfl rfl rfl calm i pins s1 (wipe σ V) H1 NoE I1 (f0 H1 s1 I1 fr1) st1 stop) ?_
    rintro r s2 ⟨rfl, I2⟩
    exact last H1 s2 I2 dn
  · refine thnF (T.item Y rfl rfl rfl calm i pins s1 (wipe σ V) H1 NoE I1 (f0 H1 s1 I1 fr1) st1 go) ?_
    rintro r s2 ⟨u, rfl, h2⟩
    refine thnF h2 ?_
    rintro _ s3 ⟨x, H3, I3, rx, yx, st3, fr3⟩
    have P3 := I3.pinned (f0 H3 s3 I3 fr3) (T.obj _ _ st3)
    have back : ∀ {σ' : L2.St} {H' : Hp} {s' : Shared}, Inv Y (pins ++ pinsAt fp s3.heap) σ' H' s' → More (wipe σ V) σ' → Nx H' → ∃ m', m' < n ∧ ∃ i H, Inv Y pins (wipe σ V) H s' ∧ tn i s'.heap ∧ (∀ b ∈ fp, H b = none) ∧ W i m' H := fun {σ' H' s'} I' k' nx => by
      obtain ⟨m', lt, w'⟩ := hN H' nx
      have same : ∀ b ∈ fp, ∀ o, s3.heap.get? b = some o → s'.heap.get? b = some o ∧ H' b = none := fun b hb o e => by
        obtain ⟨e1, e2, _⟩ := I'.pin (b, o) (List.mem_append_right _ (List.mem_append_right _ (mem_pinsAt hb e)))
        exact ⟨e1, e2⟩
      refine ⟨m', lt, i + 1, H', I'.unpinned.weak k'.1.symm k'.2, T.keep _ _ _ st3 (fun b hb o e => (same b hb o e).1), fun b hb => ?_, w'⟩
      obtain ⟨o, e, _⟩ := T.obj _ _ st3 b hb
      exact (same b hb o e).2
    have r1 := pg.run _ s3 (wipe σ V) H3 x u _ P3 rx (step x H3 yx)
    rw [noE] at r1
    refine thnF r1 ?_
    rintro _ s4 ⟨σ4, H4, I4, k4, q4⟩
    have r2 := pt.run _ s4 σ4 H4 _ I4 q4
    rw [noE] at r2
    refine thnF r2 ?_
    rintro b s5 ⟨H5, I5, q5⟩
    cases b with
    | false => exact ⟨rfl, back I5 (More.of_wipe k4) q5⟩
    | true => exact body _ σ4 H5 s5 Nx _ I5 k4 q5 fun σ' H' s' I' k' nx => ⟨rfl, back I' k' nx⟩
end Bk

namespace Bk
open PySem PySem.Spec PyProof.Rows L2
section
variable {prog : Program} {w : World} {A : Around} {kx vx tg src : Expr} {ifs : List Expr} {cs : List Comprehension} {i : Nat} {scope : Scope} {pos : Pos} {it : Value} {D : Addr} {env : Env}
/-- what clause i does with each: the next clause's loop, or the key and the value -/
def restW (prog : Program) (w : World) (A : Around) (kx vx : Expr) (cs : List Comprehension) (i : Nat) (scope : Scope) (pos : Pos) (D : Addr) (env : Env) (k : Shared → Prop) (s : Shared) : Prop :=
  match cs[i + 1]? with
  | some g => g.is_async = 0 ∧ (∀ x, foldedSetIterable g.iter env x = pure x) ∧ wpAny (model prog w) A (eval g.iter env) (fun x s5 => wpAny (model prog w) A (pyIter x) (fun it1 s6 =>
      codeAny (model prog w) A (.compStart (.DictComp kx vx cs scope pos) (i + 1) it1 (.ref D) env) (fun r s' => (∃ f, r = .ok f) ∧ k s') s6) NoE s5) NoE s
  | none => wpAny (model prog w) A (eval kx env) (fun kv s5 => wpAny (model prog w) A (eval vx env) (fun vv s6 => wpAny (model prog w) A (dictSet D kv vv) (fun _ s7 => k s7) NoE s6) NoE s5) NoE s
/-- a turn of clause i -/
theorem wp_turn {R : Result → Shared → Prop} {s : Shared} {Q : PySem.Fin → Shared → Prop} {c : Code} (hc : c = .compLoop (.DictComp kx vx cs scope pos) i it (.ref D) env) (h0 : cs[i]? = some ⟨tg, src, ifs, 0⟩)
    (h : wpAny (model prog w) A (pyNext it) (fun r s1 => match r with
      | none => Q (.done .next) s1
      | some v => wpAny (model prog w) A (letOwnedTupleGo tg it v) (fun _ s2 => wpAny (model prog w) A (assign tg env v) (fun _ s3 =>
          wpAny (model prog w) A (forIn ifs true fun c' ok => if ok = true then do let y ← isTrue c' env (eval c' env); pure (ForInStep.yield y) else pure (ForInStep.yield ok)) (fun ok s4 => if ok = true then restW prog w A kx vx cs i scope pos D env (Q (.again c)) s4 else Q (.again c) s4) NoE s3) NoE s2) NoE s1) NoE s) :
    wpAny (model prog w) (A.under c) ((model prog w).den c) Q (fun e s' => R (.error e) s') s := by
  subst hc
  show wpAny _ A ((compTurn (.DictComp kx vx cs scope pos) i it (.ref D) env).onRaise (fun x => do noteFrame x env; theTreesLotGoes x)) _ _ s
  refine wpAny_noted ?_
  unfold compTurn
  dsimp only
  rw [h0]
  dsimp only
  refine wpAny_bind (wpAny_standAt ?_)
  refine wpAny_bind (thnF h fun r s1 h1 => ?_)
  cases r with
  | none => exact wpAny_pure h1
  | some v =>
    refine wpAny_bind (thnF h1 fun _ s2 h2 => ?_)
    refine wpAny_bind (thnF h2 fun _ s3 h3 => ?_)
    refine wpAny_bind (thnF h3 fun ok s4 h4 => ?_)
    cases ok with
    | false => exact wpAny_pure h4
    | true =>
      rw [if_pos rfl]
      replace h4 : restW prog w A kx vx cs i scope pos D env (Q (.again (.compLoop (.DictComp kx vx cs scope pos) i it (.ref D) env))) s4 := h4
      unfold restW at h4
      split at h4
      · rename_i g hg
        rw [hg]
        obtain ⟨h5, h6, h7⟩ := h4
        dsimp only
        refine wpAny_bind (thnF h7 fun x s5 h8 => ?_)
        refine wpAny_bind (wpAny_standAt ?_)
        rw [h5]
        refine wpAny_bind (wpAny_of_eq (h6 x) (wpAny_bind (wpAny_holding (thnF h8 fun it1 s6 h9 => ?_))))
        refine wpAny_bind (wpAny_runOwn ?_)
        rw [Around.mark_none]
        refine codeAny_mono h9 fun r s' hr => ?_
        obtain ⟨⟨f, rfl⟩, hk⟩ := hr
        exact wpAny_pure hk
      · rename_i hg
        rw [hg]
        refine wpAny_bind (wpAny_bind (thnF h4 fun kv s5 h5 => ?_))
        refine wpAny_bind (wpAny_holding (thnF h5 fun vv s6 h6 => ?_))
        refine wpAny_bind (wpAny_standAt ?_)
        exact wpAny_holding (thnF h6 fun _ s7 h7 => wpAny_pure h7)
/-- how a clause starts -/
theorem wp_start {R : Result → Shared → Prop} {s : Shared} (h0 : cs[i]? = some ⟨tg, src, ifs, 0⟩) 
    (h : codeAny (model prog w) A (.compLoop (.DictComp kx vx cs scope pos) i it (.ref D) env) R s)
    (g : wpAny (model prog w) A (pyIter it) (fun it' s' => codeAny (model prog w) A (.compLoop (.DictComp kx vx cs scope pos) i it' (.ref D) env) R s') NoE s) :
    codeAny (model prog w) A (.compStart (.DictComp kx vx cs scope pos) i it (.ref D) env) R s := by
  refine codeAny_of_tree ?_
  show wpAny _ A ((compStart (.DictComp kx vx cs scope pos) i it (.ref D) env).onRaise (fun x => do noteFrame x env; standAt theWindowsPlace)) _ _ s
  refine wpAny_notedAt ?_
  unfold compStart
  rw [show clausesOf (.DictComp kx vx cs scope pos) = cs from rfl, h0]
  rw [if_neg (show ¬ ((some (⟨tg, src, ifs, 0⟩ : Comprehension)).elim false fun x => x.is_async != 0) = true by simp)]
  refine wpAny_bind (wpAny_askSetting ?_)
  dsimp only
  split
  · exact wpAny_pure ⟨rfl, h⟩
  · refine wpAny_bind (wpAny_rule ?_)
    refine wpAny_bind (wpAny_standAt ?_)
    exact wpAny_bind (thnF g fun it' s' h' => wpAny_pure ⟨rfl, h'⟩)
end
end Bk

namespace Bk
open PySem PySem.Spec PyProof.Rows L2
/-- a clause, and how it is walked; vs: its names and those of the clauses behind it -/
structure Cl where
  vs : List Nat
  tg : Expr
  src : Expr
  ifs : List Expr
  wi : TI
  g : TG
  tt : TT
def Cl.py (c : Cl) : Comprehension := ⟨c.tg, c.src, c.ifs, 0⟩
structure Cl.Ok (c : Cl) (Y : Cx) : Prop where
  i : PI Y c.tg c.src c.wi
  g : PG Y c.tg c.g
  t : PTs Y c.ifs c.tt
/-- a walk over a clause's things, of which each is handed to u -/
def tWalk (c : Cl) (vs : List Nat) (u : L2.St → Hp → (Hp → Prop) → Prop) (J : It) (σ : L2.St) (H0 : Hp) (Done : Hp → Prop) : Prop := ∃ W : Nat → Nat → Hp → Prop, (∃ m, W 0 m H0) ∧ ∀ i m H, W i m H →
  (J.stop i H ∧ Done H) ∨ (J.go i H ∧ ∃ Nx : Hp → Prop, (∀ H', Nx H' → ∃ m', m' < m ∧ W (i + 1) m' H') ∧ ∀ x H', J.yld i H x H' → c.g x (wipe σ vs) H' fun σ2 H2 => wipe σ2 vs = wipe σ vs ∧ c.tt σ2 H2 fun b H3 => if b = true then u σ2 H3 Nx else Nx H3)
/-- behind the first clause: those left, then the key and the value -/
def tCls (tk tv : TE) (D : Addr) : List Cl → L2.St → Hp → (Hp → Prop) → Prop
  | [] => fun σ H Nx => tk σ H fun y H1 => tv σ H1 fun z H2 => ∃ H3, DPut H2 D y z H3 ∧ Nx H3
  | c :: cs => fun σ H Nx => c.wi σ H fun J H1 => tWalk c c.vs (tCls tk tv D cs) J σ H1 Nx
def headVs : List Cl → List Nat
  | [] => []
  | c :: _ => c.vs
def Nested : List Cl → Prop
  | [] => True
  | c :: cs => (∀ i ∈ headVs cs, i ∈ c.vs) ∧ Nested cs
theorem More.refl (a : L2.St) : More a a := ⟨rfl, fun _ _ e => e⟩
section
variable {Y : Cx} {kx vx : Expr} {tk tv : TE} {D : Addr} {scope : Scope} {pos : Pos} {all : List Cl}
/-- the loop of a clause, when what is behind it is known -/
theorem cl_loop {c : Cl} {cs : List Cl} {i : Nat} {R : Result → Shared → Prop} {J : It} {fp : List Addr} {it : Addr} {tn : Nat → Heap → Prop} {pins : List (Addr × Obj)} {σ : L2.St} {V : List Nat} {Done : Hp → Prop}
    (calm : Y.calm = true) (noE : Y.xe = NoE) (hc : (all.map Cl.py)[i]? = some c.py) (T : Turn Y.prog Y.w Y.K c.tg J fp it tn) (og : PG Y c.tg c.g) (ot : PTs Y c.ifs c.tt) (f0 : ∀ (H : Hp) (s : Shared), Inv Y pins (wipe σ V) H s → (∀ b ∈ fp, H b = none) → ∀ b ∈ fp, FpOk Y pins H b)
    (hV : ∀ i ∈ headVs cs, i ∈ V)
    (rest : ∀ (pl : List (Addr × Obj)) (σ2 : L2.St) (H : Hp) (s : Shared) (Nx : Hp → Prop) (k : Shared → Prop), Inv Y (pins ++ pl) σ2 H s → tCls tk tv D cs σ2 H Nx → (∀ σ' H' s', Inv Y (pins ++ pl) σ' H' s' → More (wipe σ2 (headVs cs)) σ' → Nx H' → k s') →
      restW Y.prog Y.w Y.A kx vx (all.map Cl.py) i scope pos D Y.env k s)
    (last : ∀ H s, Inv Y pins (wipe σ V) H s → Done H → R (.ok .next) s) {H : Hp} {s : Shared} (I : Inv Y pins (wipe σ V) H s) (st : tn 0 s.heap) (fr : ∀ b ∈ fp, H b = none) (hw : tWalk c V (tCls tk tv D cs) J σ H Done) :
    codeAny (model Y.prog Y.w) Y.A (.compLoop (.DictComp kx vx (all.map Cl.py) scope pos) i (.ref it) (.ref D) Y.env) R s := by
  obtain ⟨W, ⟨m, w0⟩, hW⟩ := hw
  refine clause (Bd := tCls tk tv D cs) (W := W) calm rfl T og ot noE f0 (fun s Q h => wp_turn (scope := scope) (pos := pos) (kx := kx) (vx := vx) (D := D) (cs := all.map Cl.py) rfl hc h) hW (fun pl σ2 H s Nx k I2 e b more => ?_) last I st fr w0
  exact rest pl σ2 H s Nx k I2 b fun σ' H' s' I' m' nx => more σ' H' s' I' ((More.part e hV).trans m') nx
/-- what is behind clause i -/
theorem cl_rest (calm : Y.calm = true) (noE : Y.xe = NoE) (hk : PE Y kx tk) (hv : PE Y vx tv) (room : Y.A.units < cLine) : ∀ (cs : List Cl) (i : Nat), all.drop (i + 1) = cs → Nested cs → (∀ c ∈ cs, c.Ok Y ∧ ∀ x, foldedSetIterable c.src Y.env x = pure x) →
    ∀ (pins : List (Addr × Obj)) (σ : L2.St) (H : Hp) (s : Shared) (Nx : Hp → Prop) (k : Shared → Prop), Inv Y pins σ H s → tCls tk tv D cs σ H Nx → (∀ σ' H' s', Inv Y pins σ' H' s' → More (wipe σ (headVs cs)) σ' → Nx H' → k s') →
      restW Y.prog Y.w Y.A kx vx (all.map Cl.py) i scope pos D Y.env k s := by
  intro cs
  induction cs with
  | nil =>
    intro i hd _ _ pins σ H s Nx k I h more
    have e : (all.map Cl.py)[i + 1]? = none := by
      rw [List.getElem?_map, List.getElem?_eq_none (List.drop_eq_nil_iff.mp hd)]
      rfl
    unfold restW
    rw [e]
    have r1 := hk.run pins s σ H _ I h
    rw [noE] at r1
    refine thnF r1 fun kv s1 ⟨y, H1, I1, ry, h1⟩ => ?_
    have r2 := hv.run pins s1 σ H1 _ I1 h1
    rw [noE] at r2
    refine thnF r2 fun vv s2 ⟨z, H2, I2, rz, H3, put, nx⟩ => ?_
    exact d_dset room I2 put ry rz fun s3 I3 => more σ H3 s3 I3 (.refl σ) nx
  | cons c cs ih =>
    intro i hd hn hok pins σ H s Nx k I h more
    have hc : (all.map Cl.py)[i + 1]? = some c.py := by
      rw [List.getElem?_map]
      have : all[i + 1]? = some c := by
        have z := List.getElem?_drop (xs := all) (i := i + 1) (j := 0)
        rw [hd] at z
        exact z.symm
      rw [this]
      rfl
    have hd' : all.drop (i + 1 + 1) = cs := by
      rw [← List.drop_drop, hd]
      rfl
    obtain ⟨okc, fold⟩ := hok c List.mem_cons_self
    have hoks : ∀ c ∈ cs, c.Ok Y ∧ ∀ x, foldedSetIterable c.src Y.env x = pure x := fun x hx => hok x (List.mem_cons_of_mem _ hx)
    unfold restW
    rw [hc]
    refine ⟨rfl, fold, ?_⟩
    have r1 := okc.i.run pins s σ H _ I h
    rw [noE] at r1
    refine thnF r1 fun v s1 h1 => thnF h1 fun itv s2 h2 => ?_
    obtain ⟨it, fp, tn, J, H2, rfl, I2, T, st2, f2, hw⟩ := h2
    have loop : codeAny (model Y.prog Y.w) Y.A (.compLoop (.DictComp kx vx (all.map Cl.py) scope pos) (i + 1) (.ref it) (.ref D) Y.env) (fun r s' => (∃ f, r = .ok f) ∧ k s') s2 := by
      refine cl_loop (V := c.vs) calm noE hc T okc.g okc.t (fun H' s' _ hn b hb => ⟨hn b hb, (f2 b hb).2⟩) hn.1 (fun pl σ2 H s Nx k I2 b more => ih (i + 1) hd' hn.2 hoks (pins ++ pl) σ2 H s Nx k I2 b more) (fun H' s' I' dn => ⟨⟨_, rfl⟩, more _ H' s' I' (.refl _) dn⟩)
        (I2.weak (wipe_length _ _) fun j v e => (wipe_some e).1) st2 (fun b hb => (f2 b hb).1) hw
    exact wp_start hc loop (T.self Y.A 0 _ _ _ st2 loop)
end
section
variable {X : Cx} {pos : Pos}
/-- {k: v for .. in .. if .. for .. in .. ..}, keys numbers, texts or tuples of such -/
def tDcN (c : Cl) (cs : List Cl) (tk tv : TE) (vs : List Nat) : TE := fun σ H Q => c.wi σ H fun J H1 => ∃ o, (o = .dK [] ∨ o = .dT []) ∧ ∀ D, H1 D = none → tWalk c vs (tCls tk tv D cs) J σ (upd H1 D o) fun H' => Q (.ref D) H'
theorem pe_dcN {c : Cl} {cs : List Cl} {kx vx : Expr} {scope : Scope} {own : List (Str × Nat)} {tk tv : TE} (calm : X.calm = true) (room : X.A.units < cLine) (hN : X.N.Nodup) (hi : PI X c.tg c.src c.wi) (ok : BlkOk X.N X.env.scope scope own) (hV : ∀ i ∈ headVs cs, i ∈ own.map (·.2)) (nest : Nested cs)
    (hc : ∀ (s : Shared) (H : Hp) (C : Addr) (cl : List (Str × Addr)) (fp : List Addr), PG (X.blk s H scope (compEnvC scope cl C X.env) fp) c.tg c.g ∧ PTs (X.blk s H scope (compEnvC scope cl C X.env) fp) c.ifs c.tt ∧
      (∀ d ∈ cs, d.Ok (X.blk s H scope (compEnvC scope cl C X.env) fp)) ∧ PE (X.blk s H scope (compEnvC scope cl C X.env) fp) kx tk ∧ PE (X.blk s H scope (compEnvC scope cl C X.env) fp) vx tv)
    (fold : ∀ x, foldedSetIterable c.src X.env x = pure x) (folds : ∀ d ∈ cs, ∀ env x, foldedSetIterable d.src env x = pure x) :
    PE X (.DictComp kx vx ((c :: cs).map Cl.py) scope pos) (tDcN c cs tk tv (own.map (·.2))) := by
  refine ⟨fun pins s σ H Q I h => ?_⟩
  rw [arm_eval_DictComp]
  have hcells : ∀ y ∈ scope.names, y.2 = .free → ∃ c, X.env.cells.lookup y.1 = some c := fun y hy e => (ok.free y hy e).elim (fun k => I.ok.has _ (.inl k)) fun k => I.ok.has _ (.inr k)
  refine wpAny_comprehension_free (use := none) (g := c.py) (gs := cs.map Cl.py) rfl fold (closure_ok hcells) ok.kind (fun y hy e => by rw [ok.uniq y hy, e]) ?_
  refine thn (hi.run pins s σ H _ I h) fun v s1 h1 => thn h1 fun itv s2 h2 => ?_
  obtain ⟨it, fp, tn, J, H2, rfl, I2, T, st2, f2, o, ho, hq⟩ := h2
  refine wpAny_newObj_type (newEnv_comp ?_)
  have fresh : H2 s2.heap.objs.size = none := I2.hok.fresh (Nat.le_refl _)
  have hw := hq _ fresh
  have lt : ∀ b ∈ fp, b < s2.heap.objs.size := fun b hb => by
    obtain ⟨ob, e, _⟩ := T.obj _ _ st2 b hb
    exact Heap.lt_size e
  have I3 : Inv X pins σ (upd H2 s2.heap.objs.size o) { s2 with heap := s2.heap.push { cls := .type "dict", data := .dict #[] } } := by
    rcases ho with rfl | rfl
    · exact I2.laid (t' := s2.toks) (fun _ _ e => Heap.get?_push_of_some _ e) (Nat.le_refl _) (dk_empty s2.heap I2.big)
    · exact I2.laid (t' := s2.toks) (fun _ _ e => Heap.get?_push_of_some _ e) (Nat.le_refl _) (dt_empty s2.heap I2.big)
  generalize hD : s2.heap.objs.size = D at fresh hw lt I3 ⊢
  have st3 : tn 0 (s2.heap.push { cls := .type "dict", data := .dict #[] }) := T.keep _ _ _ st2 fun b _ ob e => Heap.get?_push_of_some _ e
  have sz3 : (s2.heap.push { cls := .type "dict", data := .dict #[] }).objs.size = D + 1 := by rw [Heap.size_push, hD]
  generalize s2.heap.push { cls := .type "dict", data := .dict #[] } = h3 at I3 st3 sz3 ⊢
  have f3 : ∀ b ∈ fp, FpOk X pins (upd H2 D o) b ∧ b < h3.objs.size := fun b hb => by
    have := lt b hb
    refine ⟨⟨?_, (f2 b hb).2⟩, by rw [sz3]; exact Nat.lt_succ_of_lt this⟩
    rw [upd_ne (Nat.ne_of_lt this)]
    exact (f2 b hb).1
  generalize hH3 : upd H2 D o = H3 at I3 f3 hw
  generalize hs3 : ({ s2 with heap := h3 } : Shared) = s3 at I3 ⊢
  have hh3 : s3.heap = h3 := by rw [← hs3]
  have f4 : ∀ b ∈ fp, FpOk X pins H3 b ∧ b < s3.heap.objs.size := fun b hb => by
    rw [hh3]
    exact f3 b hb
  have start := block_start I3 ok hN f4
  obtain ⟨pg, pt, oks, pk, pv⟩ := hc s3 H3 s3.heap.objs.size (cellsFrom (s3.heap.objs.size + 1) scope.names (cloFrom X.env.cells scope.names [])) fp
  show codeAny _ _ (.compStart _ 0 (.ref it) (.ref D) (compEnvC scope (cellsFrom (s3.heap.objs.size + 1) scope.names (cloFrom X.env.cells scope.names [])) s3.heap.objs.size X.env)) (compPost _ X.A X.xe none (EP X pins σ Q) (.ref D) s3.heap.objs.size) _
  generalize hce : compEnvC scope (cellsFrom (s3.heap.objs.size + 1) scope.names (cloFrom X.env.cells scope.names [])) s3.heap.objs.size X.env = ce at start pg pt oks pk pv ⊢
  have loc : ce.locals = s3.heap.objs.size := by rw [← hce]; rfl
  have st4 : tn 0 (pushCells (s3.heap.push { cls := .type "dict", data := .dict #[] }) scope.names) := T.keep _ _ _ st3 fun b _ ob e => pushCells_keeps _ _ _ _ (Heap.get?_push_of_some _ (by rw [hh3]; exact e))
  have room' : (X.blk s3 H3 scope ce fp).A.units < cLine := room
  have loop := cl_loop (Y := X.blk s3 H3 scope ce fp) (all := c :: cs) (kx := kx) (vx := vx) (tk := tk) (tv := tv) (D := D) (scope := scope) (pos := pos) (i := 0) (c := c) (cs := cs) (pins := []) (V := own.map (·.2)) (Done := fun H' => Q (.ref D) H') (R := compPost (model X.prog X.w) X.A X.xe none (EP X pins σ Q) (.ref D) s3.heap.objs.size)
    calm rfl rfl T pg pt (fun H' s' I' hn b hb => ⟨hn b hb, (I'.ok.exf b hb).1, I'.ok.exfs b hb, .inl hb, fun x k e => (I'.ok.exf b hb).2 x k e, fun p hp => absurd (show p ∈ ([] : List (Addr × Obj)) from hp) List.not_mem_nil⟩) hV
    (fun pl σ2 H s Nx k I2 b more => cl_rest (Y := X.blk s3 H3 scope ce fp) calm rfl pk pv room' cs 0 rfl nest (fun d hd => ⟨oks d hd, folds d hd _⟩) ([] ++ pl) σ2 H s Nx k I2 b more)
    (fun H' s' I' qq => ?_) start st4 (fun b hb => (f4 b hb).1.1) hw
  · exact wp_start (env := ce) rfl loop (T.self X.A 0 _ _ _ st4 loop)
  · obtain ⟨m, ns, _⟩ := I'.loc
    have ns : s'.heap.Ns ce.locals m := ns
    have nC : H' ce.locals = none := I'.free
    rw [loc] at ns nC
    have back : Inv X pins σ H' s' := I3.call' (ch := fp) I'.os I'.base I'.hok I'.bare fun b hb => by
      obtain ⟨⟨_, a1, _, a3, a4, a5⟩, _⟩ := f4 b hb
      exact ⟨a3, a1, a4, a5⟩
    obtain ⟨b0, b1, _, b3, b4, b5⟩ := I3.fpOk (Nat.le_refl _) nC
    exact ⟨m, ns, fun h' sb => ⟨.ref D, H', back.turned (t' := s'.toks) (fun b ob hb e => (sb.2 b hb).trans e) b0 b1 b3 b4 b5, rfl, qq⟩⟩
theorem oks_nil {Y : Cx} : ∀ d ∈ ([] : List Cl), d.Ok Y := fun _ h => absurd h List.not_mem_nil
theorem oks_cons {Y : Cx} {vs : List Nat} {tg src : Expr} {ifs : List Expr} {wi : TI} {g : TG} {tt : TT} {ds : List Cl} (i : PI Y tg src wi) (pg : PG Y tg g) (pt : PTs Y ifs tt) (r : ∀ d ∈ ds, d.Ok Y) : ∀ e ∈ (⟨vs, tg, src, ifs, wi, g, tt⟩ : Cl) :: ds, e.Ok Y := fun e he => by
  rcases List.mem_cons.mp he with z | he
  · subst z
    exact ⟨i, pg, pt⟩
  · exact r e he
theorem fold_nil : ∀ d ∈ ([] : List Cl), ∀ env x, foldedSetIterable d.src env x = pure x := fun _ h => absurd h List.not_mem_nil
theorem fold_cons {vs : List Nat} {tg src : Expr} {ifs : List Expr} {wi : TI} {g : TG} {tt : TT} {ds : List Cl} (f : ∀ env x, foldedSetIterable src env x = pure x) (r : ∀ d ∈ ds, ∀ env x, foldedSetIterable d.src env x = pure x) :
    ∀ e ∈ (⟨vs, tg, src, ifs, wi, g, tt⟩ : Cl) :: ds, ∀ env x, foldedSetIterable e.src env x = pure x := fun e he => by
  rcases List.mem_cons.mp he with z | he
  · subst z
    exact f
  · exact r e he
end
end Bk

namespace Bk
open PySem PySem.Spec PyProof.Rows L2
section
variable {prog : Program} {w : World} {A : Around} {ex tg src : Expr} {ifs : List Expr} {cs : List Comprehension} {i : Nat} {scope : Scope} {pos : Pos} {it : Value} {D : Addr} {env : Env}
/-- what clause i does with each: the next clause's loop, or the key and the value -/
def restL (prog : Program) (w : World) (A : Around) (ex : Expr) (cs : List Comprehension) (i : Nat) (scope : Scope) (pos : Pos) (D : Addr) (env : Env) (k : Shared → Prop) (s : Shared) : Prop :=
  match cs[i + 1]? with
  | some g => g.is_async = 0 ∧ (∀ x, foldedSetIterable g.iter env x = pure x) ∧ wpAny (model prog w) A (eval g.iter env) (fun x s5 => wpAny (model prog w) A (pyIter x) (fun it1 s6 =>
      codeAny (model prog w) A (.compStart (.ListComp ex cs scope pos) (i + 1) it1 (.ref D) env) (fun r s' => (∃ f, r = .ok f) ∧ k s') s6) NoE s5) NoE s
  | none => wpAny (model prog w) A (eval ex env) (fun v s5 => wpAny (model prog w) A (call (.builtin "list.append") [.ref D, v]) (fun _ s6 => k s6) NoE s5) NoE s
/-- a turn of clause i -/
theorem wl_turn {R : Result → Shared → Prop} {s : Shared} {Q : PySem.Fin → Shared → Prop} {c : Code} (hc : c = .compLoop (.ListComp ex cs scope pos) i it (.ref D) env) (h0 : cs[i]? = some ⟨tg, src, ifs, 0⟩)
    (h : wpAny (model prog w) A (pyNext it) (fun r s1 => match r with
      | none => Q (.done .next) s1
      | some v => wpAny (model prog w) A (letOwnedTupleGo tg it v) (fun _ s2 => wpAny (model prog w) A (assign tg env v) (fun _ s3 =>
          wpAny (model prog w) A (forIn ifs true fun c' ok => if ok = true then do let y ← isTrue c' env (eval c' env); pure (ForInStep.yield y) else pure (ForInStep.yield ok)) (fun ok s4 => if ok = true then restL prog w A ex cs i scope pos D env (Q (.again c)) s4 else Q (.again c) s4) NoE s3) NoE s2) NoE s1) NoE s) :
    wpAny (model prog w) (A.under c) ((model prog w).den c) Q (fun e s' => R (.error e) s') s := by
  subst hc
  show wpAny _ A ((compTurn (.ListComp ex cs scope pos) i it (.ref D) env).onRaise (fun x => do noteFrame x env; theTreesLotGoes x)) _ _ s
  refine wpAny_noted ?_
  unfold compTurn
  dsimp only
  rw [h0]
  dsimp only
  refine wpAny_bind (wpAny_standAt ?_)
  refine wpAny_bind (thnF h fun r s1 h1 => ?_)
  cases r with
  | none => exact wpAny_pure h1
  | some v =>
    refine wpAny_bind (thnF h1 fun _ s2 h2 => ?_)
    refine wpAny_bind (thnF h2 fun _ s3 h3 => ?_)
    refine wpAny_bind (thnF h3 fun ok s4 h4 => ?_)
    cases ok with
    | false => exact wpAny_pure h4
    | true =>
      rw [if_pos rfl]
      replace h4 : restL prog w A ex cs i scope pos D env (Q (.again (.compLoop (.ListComp ex cs scope pos) i it (.ref D) env))) s4 := h4
      unfold restL at h4
      split at h4
      · rename_i g hg
        rw [hg]
        obtain ⟨h5, h6, h7⟩ := h4
        dsimp only
        refine wpAny_bind (thnF h7 fun x s5 h8 => ?_)
        refine wpAny_bind (wpAny_standAt ?_)
        rw [h5]
        refine wpAny_bind (wpAny_of_eq (h6 x) (wpAny_bind (wpAny_holding (thnF h8 fun it1 s6 h9 => ?_))))
        refine wpAny_bind (wpAny_runOwn ?_)
        rw [Around.mark_none]
        refine codeAny_mono h9 fun r s' hr => ?_
        obtain ⟨⟨f, rfl⟩, hk⟩ := hr
        exact wpAny_pure hk
      · rename_i hg
        rw [hg]
        refine wpAny_bind (wpAny_bind (thnF h4 fun v s5 h5 => ?_))
        exact wpAny_bind (thnF h5 fun _ s6 h6 => wpAny_pure (wpAny_pure h6))
/-- how a clause starts -/
theorem wl_start {R : Result → Shared → Prop} {s : Shared} (h0 : cs[i]? = some ⟨tg, src, ifs, 0⟩) 
    (h : codeAny (model prog w) A (.compLoop (.ListComp ex cs scope pos) i it (.ref D) env) R s)
    (g : wpAny (model prog w) A (pyIter it) (fun it' s' => codeAny (model prog w) A (.compLoop (.ListComp ex cs scope pos) i it' (.ref D) env) R s') NoE s) :
    codeAny (model prog w) A (.compStart (.ListComp ex cs scope pos) i it (.ref D) env) R s := by
  refine codeAny_of_tree ?_
  show wpAny _ A ((compStart (.ListComp ex cs scope pos) i it (.ref D) env).onRaise (fun x => do noteFrame x env; standAt theWindowsPlace)) _ _ s
  refine wpAny_notedAt ?_
  unfold compStart
  rw [show clausesOf (.ListComp ex cs scope pos) = cs from rfl, h0]
  rw [if_neg (show ¬ ((some (⟨tg, src, ifs, 0⟩ : Comprehension)).elim false fun x => x.is_async != 0) = true by simp)]
  refine wpAny_bind (wpAny_askSetting ?_)
  dsimp only
  split
  · exact wpAny_pure ⟨rfl, h⟩
  · refine wpAny_bind (wpAny_rule ?_)
    refine wpAny_bind (wpAny_standAt ?_)
    exact wpAny_bind (thnF g fun it' s' h' => wpAny_pure ⟨rfl, h'⟩)
end
end Bk

namespace Bk
open PySem PySem.Spec PyProof.Rows L2
/-- behind the first clause: those left, then the thing -/
def tClsL (te : TE) (D : Addr) : List Cl → L2.St → Hp → (Hp → Prop) → Prop
  | [] => fun σ H Nx => te σ H fun y H1 => ∃ acc, H1 D = some (.lst acc) ∧ acc.length < sizeLine ∧ Nx (upd H1 D (.lst (acc ++ [y])))
  | c :: cs => fun σ H Nx => c.wi σ H fun J H1 => tWalk c c.vs (tClsL te D cs) J σ H1 Nx
section
variable {Y : Cx} {ex : Expr} {te : TE} {D : Addr} {scope : Scope} {pos : Pos} {all : List Cl}
/-- the loop of a clause, when what is behind it is known -/
theorem ll_loop {c : Cl} {cs : List Cl} {i : Nat} {R : Result → Shared → Prop} {J : It} {fp : List Addr} {it : Addr} {tn : Nat → Heap → Prop} {pins : List (Addr × Obj)} {σ : L2.St} {V : List Nat} {Done : Hp → Prop}
    (calm : Y.calm = true) (noE : Y.xe = NoE) (hc : (all.map Cl.py)[i]? = some c.py) (T : Turn Y.prog Y.w Y.K c.tg J fp it tn) (og : PG Y c.tg c.g) (ot : PTs Y c.ifs c.tt) (f0 : ∀ (H : Hp) (s : Shared), Inv Y pins (wipe σ V) H s → (∀ b ∈ fp, H b = none) → ∀ b ∈ fp, FpOk Y pins H b)
    (hV : ∀ i ∈ headVs cs, i ∈ V)
    (rest : ∀ (pl : List (Addr × Obj)) (σ2 : L2.St) (H : Hp) (s : Shared) (Nx : Hp → Prop) (k : Shared → Prop), Inv Y (pins ++ pl) σ2 H s → tClsL te D cs σ2 H Nx → (∀ σ' H' s', Inv Y (pins ++ pl) σ' H' s' → More (wipe σ2 (headVs cs)) σ' → Nx H' → k s') →
      restL Y.prog Y.w Y.A ex (all.map Cl.py) i scope pos D Y.env k s)
    (last : ∀ H s, Inv Y pins (wipe σ V) H s → Done H → R (.ok .next) s) {H : Hp} {s : Shared} (I : Inv Y pins (wipe σ V) H s) (st : tn 0 s.heap) (fr : ∀ b ∈ fp, H b = none) (hw : tWalk c V (tClsL te D cs) J σ H Done) :
    codeAny (model Y.prog Y.w) Y.A (.compLoop (.ListComp ex (all.map Cl.py) scope pos) i (.ref it) (.ref D) Y.env) R s := by
  obtain ⟨W, ⟨m, w0⟩, hW⟩ := hw
  refine clause (Bd := tClsL te D cs) (W := W) calm rfl T og ot noE f0 (fun s Q h => wl_turn (scope := scope) (pos := pos) (ex := ex) (D := D) (cs := all.map Cl.py) rfl hc h) hW (fun pl σ2 H s Nx k I2 e b more => ?_) last I st fr w0
  exact rest pl σ2 H s Nx k I2 b fun σ' H' s' I' m' nx => more σ' H' s' I' ((More.part e hV).trans m') nx
/-- what is behind clause i -/
theorem ll_rest (calm : Y.calm = true) (noE : Y.xe = NoE) (he : PE Y ex te) : ∀ (cs : List Cl) (i : Nat), all.drop (i + 1) = cs → Nested cs → (∀ c ∈ cs, c.Ok Y ∧ ∀ x, foldedSetIterable c.src Y.env x = pure x) →
    ∀ (pins : List (Addr × Obj)) (σ : L2.St) (H : Hp) (s : Shared) (Nx : Hp → Prop) (k : Shared → Prop), Inv Y pins σ H s → tClsL te D cs σ H Nx → (∀ σ' H' s', Inv Y pins σ' H' s' → More (wipe σ (headVs cs)) σ' → Nx H' → k s') →
      restL Y.prog Y.w Y.A ex (all.map Cl.py) i scope pos D Y.env k s := by
  intro cs
  induction cs with
  | nil =>
    intro i hd _ _ pins σ H s Nx k I h more
    have e : (all.map Cl.py)[i + 1]? = none := by
      rw [List.getElem?_map, List.getElem?_eq_none (List.drop_eq_nil_iff.mp hd)]
      rfl
    unfold restL
    rw [e]
    have r1 := he.run pins s σ H _ I h
    rw [noE] at r1
    refine thnF r1 fun v s1 ⟨y, H1, I1, ry, acc, h1, hl, nx⟩ => ?_
    have r2 := mt_append pins s1 σ H1 (.ref D) [y] (.ref D) [v] (fun _ H' => H' = upd H1 D (.lst (acc ++ [y]))) I1 rfl (.cons ry .nil) ⟨D, acc, y, rfl, rfl, h1, hl, rfl⟩
    rw [noE] at r2
    refine thnF r2 fun _ s2 ⟨_, H2, I2, _, e2⟩ => ?_
    subst e2
    exact more σ _ s2 I2 (.refl σ) nx
  | cons c cs ih =>
    intro i hd hn hok pins σ H s Nx k I h more
    have hc : (all.map Cl.py)[i + 1]? = some c.py := by
      rw [List.getElem?_map]
      have : all[i + 1]? = some c := by
        have z := List.getElem?_drop (xs := all) (i := i + 1) (j := 0)
        rw [hd] at z
        exact z.symm
      rw [this]
      rfl
    have hd' : all.drop (i + 1 + 1) = cs := by
      rw [← List.drop_drop, hd]
      rfl
    obtain ⟨okc, fold⟩ := hok c List.mem_cons_self
    have hoks : ∀ c ∈ cs, c.Ok Y ∧ ∀ x, foldedSetIterable c.src Y.env x = pure x := fun x hx => hok x (List.mem_cons_of_mem _ hx)
    unfold restL
    rw [hc]
    refine ⟨rfl, fold, ?_⟩
    have r1 := okc.i.run pins s σ H _ I h
    rw [noE] at r1
    refine thnF r1 fun v s1 h1 => thnF h1 fun itv s2 h2 => ?_
    obtain ⟨it, fp, tn, J, H2, rfl, I2, T, st2, f2, hw⟩ := h2
    have loop : codeAny (model Y.prog Y.w) Y.A (.compLoop (.ListComp ex (all.map Cl.py) scope pos) (i + 1) (.ref it) (.ref D) Y.env) (fun r s' => (∃ f, r = .ok f) ∧ k s') s2 := by
      refine ll_loop (V := c.vs) calm noE hc T okc.g okc.t (fun H' s' _ hn b hb => ⟨hn b hb, (f2 b hb).2⟩) hn.1 (fun pl σ2 H s Nx k I2 b more => ih (i + 1) hd' hn.2 hoks (pins ++ pl) σ2 H s Nx k I2 b more) (fun H' s' I' dn => ⟨⟨_, rfl⟩, more _ H' s' I' (.refl _) dn⟩)
        (I2.weak (wipe_length _ _) fun j v e => (wipe_some e).1) st2 (fun b hb => (f2 b hb).1) hw
    exact wl_start hc loop (T.self Y.A 0 _ _ _ st2 loop)
end
section
variable {X : Cx} {pos : Pos}
/-- [e for .. in .. if .. for .. in .. ..] -/
def tLcN (c : Cl) (cs : List Cl) (te : TE) (vs : List Nat) : TE := fun σ H Q => c.wi σ H fun J H1 => ∀ D, H1 D = none → tWalk c vs (tClsL te D cs) J σ (upd H1 D (.lst [])) fun H' => Q (.ref D) H'
theorem pe_lcN {c : Cl} {cs : List Cl} {ex : Expr} {scope : Scope} {own : List (Str × Nat)} {te : TE} (calm : X.calm = true) (hN : X.N.Nodup) (hi : PI X c.tg c.src c.wi) (ok : BlkOk X.N X.env.scope scope own) (hV : ∀ i ∈ headVs cs, i ∈ own.map (·.2)) (nest : Nested cs)
    (hc : ∀ (s : Shared) (H : Hp) (C : Addr) (cl : List (Str × Addr)) (fp : List Addr), PG (X.blk s H scope (compEnvC scope cl C X.env) fp) c.tg c.g ∧ PTs (X.blk s H scope (compEnvC scope cl C X.env) fp) c.ifs c.tt ∧
      (∀ d ∈ cs, d.Ok (X.blk s H scope (compEnvC scope cl C X.env) fp)) ∧ PE (X.blk s H scope (compEnvC scope cl C X.env) fp) ex te)
    (fold : ∀ x, foldedSetIterable c.src X.env x = pure x) (folds : ∀ d ∈ cs, ∀ env x, foldedSetIterable d.src env x = pure x) :
    PE X (.ListComp ex ((c :: cs).map Cl.py) scope pos) (tLcN c cs te (own.map (·.2))) := by
  refine ⟨fun pins s σ H Q I h => ?_⟩
  rw [eval_ListComp]
  have hcells : ∀ y ∈ scope.names, y.2 = .free → ∃ c, X.env.cells.lookup y.1 = some c := fun y hy e => (ok.free y hy e).elim (fun k => I.ok.has _ (.inl k)) fun k => I.ok.has _ (.inr k)
  refine wpAny_comprehension_free (use := none) (g := c.py) (gs := cs.map Cl.py) rfl fold (closure_ok hcells) ok.kind (fun y hy e => by rw [ok.uniq y hy, e]) ?_
  refine thn (hi.run pins s σ H _ I h) fun v s1 h1 => thn h1 fun itv s2 h2 => ?_
  obtain ⟨it, fp, tn, J, H2, rfl, I2, T, st2, f2, hq⟩ := h2
  refine wpAny_newObj_type (newEnv_comp ?_) (by show 0 ≤ sizeLine; decide)
  have fresh : H2 s2.heap.objs.size = none := I2.hok.fresh (Nat.le_refl _)
  have hw := hq _ fresh
  have lt : ∀ b ∈ fp, b < s2.heap.objs.size := fun b hb => by
    obtain ⟨ob, e, _⟩ := T.obj _ _ st2 b hb
    exact Heap.lt_size e
  have I3 : Inv X pins σ (upd H2 s2.heap.objs.size (.lst [])) { s2 with heap := s2.heap.push { cls := .type "list", data := .seq ([] : List Value).toArray } } := by
    exact I2.laid (t' := s2.toks) (fun _ _ e => Heap.get?_push_of_some _ e) (Nat.le_refl _) ⟨Nat.zero_le _, [], 0, .nil, Heap.get?_push_size _ rfl⟩
  generalize hD : s2.heap.objs.size = D at fresh hw lt I3 ⊢
  have st3 : tn 0 (s2.heap.push { cls := .type "list", data := .seq ([] : List Value).toArray }) := T.keep _ _ _ st2 fun b _ ob e => Heap.get?_push_of_some _ e
  have sz3 : (s2.heap.push { cls := .type "list", data := .seq ([] : List Value).toArray }).objs.size = D + 1 := by rw [Heap.size_push, hD]
  generalize s2.heap.push { cls := .type "list", data := .seq ([] : List Value).toArray } = h3 at I3 st3 sz3 ⊢
  have f3 : ∀ b ∈ fp, FpOk X pins (upd H2 D (.lst [])) b ∧ b < h3.objs.size := fun b hb => by
    have := lt b hb
    refine ⟨⟨?_, (f2 b hb).2⟩, by rw [sz3]; exact Nat.lt_succ_of_lt this⟩
    rw [upd_ne (Nat.ne_of_lt this)]
    exact (f2 b hb).1
  generalize hH3 : upd H2 D (.lst []) = H3 at I3 f3 hw
  generalize hs3 : ({ s2 with heap := h3 } : Shared) = s3 at I3 ⊢
  have hh3 : s3.heap = h3 := by rw [← hs3]
  have f4 : ∀ b ∈ fp, FpOk X pins H3 b ∧ b < s3.heap.objs.size := fun b hb => by
    rw [hh3]
    exact f3 b hb
  have start := block_start I3 ok hN f4
  obtain ⟨pg, pt, oks, pk⟩ := hc s3 H3 s3.heap.objs.size (cellsFrom (s3.heap.objs.size + 1) scope.names (cloFrom X.env.cells scope.names [])) fp
  show codeAny _ _ (.compStart _ 0 (.ref it) (.ref D) (compEnvC scope (cellsFrom (s3.heap.objs.size + 1) scope.names (cloFrom X.env.cells scope.names [])) s3.heap.objs.size X.env)) (compPost _ X.A X.xe none (EP X pins σ Q) (.ref D) s3.heap.objs.size) _
  generalize hce : compEnvC scope (cellsFrom (s3.heap.objs.size + 1) scope.names (cloFrom X.env.cells scope.names [])) s3.heap.objs.size X.env = ce at start pg pt oks pk ⊢
  have loc : ce.locals = s3.heap.objs.size := by rw [← hce]; rfl
  have st4 : tn 0 (pushCells (s3.heap.push { cls := .type "dict", data := .dict #[] }) scope.names) := T.keep _ _ _ st3 fun b _ ob e => pushCells_keeps _ _ _ _ (Heap.get?_push_of_some _ (by rw [hh3]; exact e))
  have loop := ll_loop (Y := X.blk s3 H3 scope ce fp) (all := c :: cs) (ex := ex) (te := te) (D := D) (scope := scope) (pos := pos) (i := 0) (c := c) (cs := cs) (pins := []) (V := own.map (·.2)) (Done := fun H' => Q (.ref D) H') (R := compPost (model X.prog X.w) X.A X.xe none (EP X pins σ Q) (.ref D) s3.heap.objs.size)
    calm rfl rfl T pg pt (fun H' s' I' hn b hb => ⟨hn b hb, (I'.ok.exf b hb).1, I'.ok.exfs b hb, .inl hb, fun x k e => (I'.ok.exf b hb).2 x k e, fun p hp => absurd (show p ∈ ([] : List (Addr × Obj)) from hp) List.not_mem_nil⟩) hV
    (fun pl σ2 H s Nx k I2 b more => ll_rest (Y := X.blk s3 H3 scope ce fp) calm rfl pk cs 0 rfl nest (fun d hd => ⟨oks d hd, folds d hd _⟩) ([] ++ pl) σ2 H s Nx k I2 b more)
    (fun H' s' I' qq => ?_) start st4 (fun b hb => (f4 b hb).1.1) hw
  · exact wl_start (env := ce) rfl loop (T.self X.A 0 _ _ _ st4 loop)
  · obtain ⟨m, ns, _⟩ := I'.loc
    have ns : s'.heap.Ns ce.locals m := ns
    have nC : H' ce.locals = none := I'.free
    rw [loc] at ns nC
    have back : Inv X pins σ H' s' := I3.call' (ch := fp) I'.os I'.base I'.hok I'.bare fun b hb => by
      obtain ⟨⟨_, a1, _, a3, a4, a5⟩, _⟩ := f4 b hb
      exact ⟨a3, a1, a4, a5⟩
    obtain ⟨b0, b1, _, b3, b4, b5⟩ := I3.fpOk (Nat.le_refl _) nC
    exact ⟨m, ns, fun h' sb => ⟨.ref D, H', back.turned (t' := s'.toks) (fun b ob hb e => (sb.2 b hb).trans e) b0 b1 b3 b4 b5, rfl, qq⟩⟩
end
end Bk

namespace Bk
open PySem PySem.Spec PyProof.Rows L2
local macro_rules | `(tactic| walk_at "g") => `(tactic| (repeat first | refine ⟨_, rfl, ?_⟩ | refine ⟨cpow, ?_⟩ | refine ⟨_, _, rfl, rfl, ?_⟩ | refine ⟨rfl, ?_⟩))
section
variable {P : Program} {w : World} {K : PySem.W.Frag} {mg : Str → Option Value} {base : Heap}
/-! ### _reached, rows_of -/
/-- links: for each thing those that it is linked to -/
def LinkAt (M : Mo) (H : Hp) (d : Addr) (ts : List Nat) (lk : Nat → List Nat) : Prop := ∃ kvs : List (Nat × V), H d = some (M.obj kvs) ∧ kvs.map (·.1) = ts ∧ ∀ q ∈ kvs, ∃ a vs, q.2 = .ref a ∧ H a = some (.lst vs) ∧ Paired (M.at H) vs (lk q.1)
theorem LinkAt.same {M : Mo} {H H' : Hp} {d : Addr} {ts : List Nat} {lk : Nat → List Nat} (h : LinkAt M H d ts lk) (s : Same H H') : LinkAt M H' d ts lk := by
  obtain ⟨kvs, h1, h2, h3⟩ := h
  refine ⟨kvs, s _ _ h1, h2, fun q hq => ?_⟩
  obtain ⟨a, vs, e, g1, g2⟩ := h3 q hq
  exact ⟨a, vs, e, s _ _ g1, pmono g2 fun _ _ z => z.mono s.tupK⟩
theorem valV_some {κ : Type} [DecidableEq κ] {kvs : List (κ × V)} {k : κ} (h : k ∈ kvs.map (·.1)) : ∃ v, valV kvs k = some v ∧ (k, v) ∈ kvs := by
  induction kvs with
  | nil => cases h
  | cons q r ih =>
    by_cases e : q.1 = k
    · refine ⟨q.2, valV_pos e, ?_⟩
      rw [← e]
      exact List.mem_cons_self
    · rw [valV_neg e]
      rw [List.map_cons, List.mem_cons] at h
      obtain ⟨v, h1, h2⟩ := ih (h.resolve_left fun z => e z.symm)
      exact ⟨v, h1, List.mem_cons_of_mem _ h2⟩
theorem LinkAt.get {M : Mo} {N : Nat} {H H' : Hp} {d : Addr} {ts : List Nat} {lk : Nat → List Nat} (h : LinkAt M H d ts lk) (s : Same H H') (hi : M.Inj N) (hN : ∀ n ∈ ts, n < N) {v : V} {n : Nat} (hv : M.at H' v n) (hn : n ∈ ts) :
    ∃ a vs, DGet H' d v (some (.ref a)) ∧ H a = some (.lst vs) ∧ H' a = some (.lst vs) ∧ Paired (M.at H') vs (lk n) := by
  obtain ⟨kvs, h1, h2, h3⟩ := h
  obtain ⟨x, e1, e2⟩ := valV_some (kvs := kvs) (k := n) (by rw [h2]; exact hn)
  obtain ⟨a, vs, e, g1, g2⟩ := h3 _ e2
  have e' : x = .ref a := e
  have g := Mo.get hi (s _ _ h1) hv (fun q hq => hN _ (by rw [← h2]; exact List.mem_map_of_mem hq)) (hN n hn)
  rw [e1, e'] at g
  exact ⟨a, vs, g, g1, s _ _ g1, pmono g2 fun _ _ z => z.mono s.tupK⟩
def trueKvs (l : List Nat) : List (Nat × V) := l.map fun n => (n, V.bl true)
theorem trueKvs_keys (l : List Nat) : (trueKvs l).map (·.1) = l := by
  unfold trueKvs
  rw [List.map_map]
  exact List.map_id _
theorem trueKvs_put {l : List Nat} {n : Nat} (h : n ∉ l) : putK (trueKvs l) n (.bl true) = trueKvs (l ++ [n]) := by
  rw [putK_new]
  · unfold trueKvs
    rw [List.map_append]
    rfl
  · cases e : valV (trueKvs l) n with
    | none => rfl
    | some v =>
      have := valV_in e
      rw [trueKvs_keys] at this
      exact absurd this h
theorem trueKvs_has (l : List Nat) (n : Nat) : (valV (trueKvs l) n).isSome = decide (n ∈ l) := by
  by_cases h : n ∈ l
  · obtain ⟨v, e, _⟩ := valV_some (kvs := trueKvs l) (k := n) (by rw [trueKvs_keys]; exact h)
    rw [e, decide_eq_true h]
    rfl
  · rw [decide_eq_false h]
    cases e : valV (trueKvs l) n with
    | none => rfl
    | some v =>
      have := valV_in e
      rw [trueKvs_keys] at this
      exact absurd this h
/-- how much stands there -/
def lenO : Option HO → Nat
  | some (.lst xs) => xs.length
  | some (.dK kvs) => kvs.length
  | some (.dT kvs) => kvs.length
  | _ => 0
def lenAt (H : Hp) : Option (Option V) → Nat
  | some (some (.ref a)) => lenO (H a)
  | _ => 0
theorem lenAt_lst {H : Hp} {a : Addr} {xs : List V} (h : H a = some (.lst xs)) : lenAt H (some (some (.ref a))) = xs.length := by
  show lenO (H a) = _
  rw [h]
  rfl
theorem lenAt_dic {M : Mo} {H : Hp} {a : Addr} {kvs : List (Nat × V)} (h : H a = some (M.obj kvs)) : lenAt H (some (some (.ref a))) = kvs.length := by
  show lenO (H a) = _
  rw [h]
  unfold Mo.obj
  split
  · exact List.length_map _
  · exact List.length_map _
theorem psnoc {α β : Type} {F : α → β → Prop} : ∀ {xs : List α} {ys : List β} {y : β}, Paired F xs (ys ++ [y]) → ∃ xs' x, xs = xs' ++ [x] ∧ Paired F xs' ys ∧ F x y
  | _, [], _, .cons r .nil => ⟨[], _, rfl, .nil, r⟩
  | _, _ :: ys, _, .cons r t => by
    obtain ⟨xs', x, e, h1, h2⟩ := psnoc (ys := ys) t
    exact ⟨_ :: xs', x, by rw [e]; rfl, .cons r h1, h2⟩
theorem rch_room {lk : Nat → List Nat} {ts : List Nat} {a x : Nat} {done row wait : List Nat} (h : RchIn lk ts a x done row wait) (hts : ts.Nodup) : row.length ≤ ts.length := nodup_len h.nd hts h.sub
abbrev s_reached : Stmt := topS 2
abbrev N_reached : List Str := ["first", "links", "row", "waiting", "thing", "other"]
theorem sc_reached : FnScope N_reached ["first", "links"] (defScope s_reached) := ⟨rfl, rfl, rfl, by decide +kernel, rfl, by decide +kernel, by decide +kernel⟩
def spReached (M : Mo) (N : Nat) : Sp := fun vs H Q _ => ∃ (v : V) (d : Addr) (ts : List Nat) (lk : Nat → List Nat) (a : Nat), vs = [v, .ref d] ∧ M.at H v a ∧ LinkAt M H d ts lk ∧ a ∈ ts ∧ ts.Nodup ∧ (∀ n ∈ ts, n < N) ∧ ts.length < 200 ∧ (∀ n ∈ ts, ∀ m ∈ lk n, m ∈ ts) ∧
  ∀ H' l ys row, Same H H' → H l = none → H' l = some (.lst ys) → Paired (M.at H') ys row → row.Perm (ts.filter (hangB (fun x y => y ∈ lk x) a)) → Q (.ref l) H'
theorem ok_reached {f : Addr} {fd : FuncData} {M : Mo} {N : Nat} (R : MoR M N K) (F : Fun K "_reached" "_reached" s_reached f fd) (m_list : mg "list" = none) : FnOk P w K mg base CX0 1 f fd ["first", "links"] (spReached M N) := by
  refine F.ok sc_reached (fun vs H Q E h => ?_) (fun cdv A outer s H vs Q E hr h => ?_)
  · obtain ⟨v, d, ts, lk, a, rfl, _⟩ := h
    rfl
  · obtain ⟨v, d, ts, lk, a, rfl, hv, hL, hat, hnd, hN, hlen, hcl, q⟩ := h
    have nd := sc_reached.nd
    refine ⟨_, (pss_cons (ps_set (i := 2) nd rfl (.inl rfl) (pe_one1 (Nat.lt_of_succ_lt (hu_of hr)) (pv 0) pe_bl))
      (pss_cons (ps_set (i := 3) nd rfl (.inl rfl) (pe_lst (pa_cons (pv 0) pa_nil)))
      (pss_cons (ps_while PassesOwn.never (pt_truth (pv 3) (by intro _; rfl)) (pss_cons (ps_set (i := 4) nd rfl (.inl rfl) (kBM0 K rfl (pe_bm0 PySem.F.plainAttrs_list PySem.F.slot_list_pop PySem.F.type_list_pop mt_pop (pv 3))))
      (pss_one (ps_for PassesOwn.never rfl (kPiL K rfl (pi_list (pe_dget (hu_of hr) (pv 1) (pv 4) (fun _ _ => rfl)))) (pg_name (i := 5) nd rfl (.inl rfl)) (pss_one (ps_if (pt_cmp (pc_dnotin (hu_of hr) (pv 5) (pv 2))) (pss_cons (ps_dput (hu_of hr) (pv 2) (pv 5) pe_bl rfl)
      (pss_one (ps_expr (kBM K rfl (pe_bm PySem.F.plainAttrs_list PySem.F.slot_list_append PySem.F.type_list_append mt_append (pv 3) (pa_cons (pv 5) pa_nil)))))) pss_nil))))))
      (pss_one (ps_ret (pe_callTy (lstM R rfl rfl) (by rfl) m_list (by decide +kernel) (pa_cons (pv 2) pa_nil))))))), ?_⟩
    refine ⟨M.obj [], M.obj_nil, fun r nr => ?_⟩
    refine ⟨v, rfl, ?_⟩
    have s1 : Same H (upd H r (M.obj [])) := same_new nr
    refine ⟨_, Mo.put R.inj (N := N) upd_same (hv.mono s1.tupK) (fun _ z => absurd z List.not_mem_nil) (hN a hat) (by decide), ?_⟩
    rw [upd_upd]
    have h2 : (upd H r (M.obj (putK [] a (.bl true)))) r = some (M.obj (trueKvs [a])) := upd_same
    have s2 : Same H (upd H r (M.obj (putK [] a (.bl true)))) := same_new nr
    generalize upd H r (M.obj (putK [] a (.bl true))) = H2 at h2 s2 ⊢
    refine ⟨v, rfl, Nat.le_of_lt (small1000 (by show 1 ≤ 1000; decide)), fun wt nwt => ?_⟩
    have rw' : r ≠ wt := ne_of_none h2 nwt
    have s3 : Same H (upd H2 wt (.lst [v])) := s2.trans (same_new nwt)
    have h3 : (upd H2 wt (.lst [v])) r = some (M.obj (trueKvs [a])) := by
      rw [upd_ne rw']
      exact h2
    have k3 : (upd H2 wt (.lst [v])) wt = some (.lst [v]) := upd_same
    have nwt0 : H wt = none := s2.free nwt
    generalize upd H2 wt (.lst [v]) = H3 at s3 h3 k3 ⊢
    dsimp only [gName, tSeq]
    refine while_by (fun σ H4 => ∃ y4 y5 ws row wait, σ = [some v, some (.ref d), some (.ref r), some (.ref wt), y4, y5] ∧ H4 r = some (M.obj (trueKvs row)) ∧ H4 wt = some (.lst ws) ∧ Paired (M.at H4) ws wait ∧ Rch lk ts a row wait ∧ Same H H4 ∧ 2 * (ts.length - row.length) + wait.length ≤ 2 * ts.length)
      (fun σ H4 => 2 * (ts.length - lenAt H4 σ[2]?) + lenAt H4 σ[3]?) ⟨none, none, [v], [a], [a], rfl, h3, k3, .cons (hv.mono s3.tupK) .nil, .start hat, s3, by have := List.length_pos_of_mem hat; simp only [List.length_cons, List.length_nil]; omega⟩ ?_ ?_
    · rintro σ H4 ⟨y4, y5, ws, row, wait, rfl, h4, k4, p4, C, s4, m0⟩
      refine ⟨.ref wt, rfl, !ws.isEmpty, .inl ⟨ws, .inl (.inl k4), rfl⟩, ?_⟩
      have lw := plen p4
      cases hw : wait with
      | nil =>
        rw [hw] at p4 C
        cases p4
        refine iteF ?_
        refine ⟨.ref r, rfl, r, _, rfl, h4, fun ys p hys np => ?_⟩
        rw [trueKvs_keys] at hys
        exact q _ p ys row (s4.trans (same_new np)) (s4.free np) upd_same (pmono hys fun _ _ z => z.mono (same_new np).tupK) (C.perm hnd)
      | cons w0 wr =>
        have hne : wait ≠ [] := by rw [hw]; exact List.cons_ne_nil _ _
        have hwe : wait = wait.dropLast ++ [wait.getLast hne] := (List.dropLast_concat_getLast hne).symm
        clear hw
        generalize wait.dropLast = w1 at hwe
        generalize wait.getLast hne = th at hwe
        subst hwe
        rw [List.length_append, show [th].length = 1 from rfl] at m0
        have hne' : (!ws.isEmpty) = true := by
          cases ws with
          | nil => simp at lw
          | cons x r => rfl
        rw [hne']
        refine iteT ?_
        obtain ⟨ws1, tv, rfl, p1, pt⟩ := psnoc p4
        have get1 : (ws1 ++ [tv])[(ws1 ++ [tv]).length - 1]? = some tv := by
          rw [List.length_append, show ws1.length + [tv].length - 1 = ws1.length from rfl, List.getElem?_append_right (Nat.le_refl _), Nat.sub_self]
          rfl
        refine ⟨.ref wt, rfl, .inl ⟨rfl, _, .inl (.inl k4)⟩, wt, _, tv, rfl, rfl, k4, get1, ?_⟩
        rw [List.dropLast_concat]
        have s5 : Same H (upd H4 wt (.lst ws1)) := same_fill s4 nwt0
        have t5 : TupK H4 (upd H4 wt (.lst ws1)) := tupK_lst k4
        have h5 : (upd H4 wt (.lst ws1)) r = some (M.obj (trueKvs row)) := by
          rw [upd_ne rw']
          exact h4
        have k5 : (upd H4 wt (.lst ws1)) wt = some (.lst ws1) := upd_same
        have m4 : lenAt H4 (some (some (.ref r))) = row.length := by
          rw [lenAt_dic h4]
          exact List.length_map _
        have m4' : lenAt H4 (some (some (.ref wt))) = w1.length + 1 := by
          rw [lenAt_lst k4, lw, List.length_append]
          rfl
        generalize upd H4 wt (.lst ws1) = H5 at s5 t5 h5 k5 ⊢
        have p5 := pmono p1 fun _ _ z => z.mono t5
        have pt5 := pt.mono t5
        have th_ts : th ∈ ts := C.sub th (C.wt th (List.mem_append_right _ (List.mem_singleton.mpr rfl)))
        obtain ⟨la, lvs, g, hla0, hla, pla⟩ := hL.get s5 R.inj hN pt5 th_ts
        refine ⟨.ref d, rfl, tv, rfl, d, .ref la, rfl, g, la, rfl, ⟨_, .inl (.inl hla)⟩, ?_⟩
        have lar : la ≠ r := ne_of hla h5 fun z => M.obj_lst _ _ z.symm
        have law : la ≠ wt := ne_of_none hla0 nwt0
        refine for_list (xs := lvs) (fun j σ H6 => ∃ y5 ws2 row2 wait2, σ = [some v, some (.ref d), some (.ref r), some (.ref wt), some tv, y5] ∧ H6 r = some (M.obj (trueKvs row2)) ∧ H6 wt = some (.lst ws2) ∧ Paired (M.at H6) ws2 wait2 ∧ RchIn lk ts a th ((lk th).take j) row2 wait2 ∧ Same H H6 ∧ H6 la = some (.lst lvs) ∧ Paired (M.at H6) lvs (lk th) ∧
          2 * (ts.length - row2.length) + wait2.length ≤ 2 * (ts.length - row.length) + w1.length)
          ⟨y5, ws1, row, w1, rfl, h5, k5, p5, C.look, s5, hla, pla, Nat.le_refl _⟩ ?_ ?_ ?_
        · rintro j σ H6 _ ⟨y5, ws2, row2, wait2, rfl, h6, k6, p6, C6, s6, l6, pl6, m6⟩
          exact .inl (.inl l6)
        · rintro j x σ H6 hx ⟨y5, ws2, row2, wait2, rfl, h6, k6, p6, C6, s6, l6, pl6, m6⟩
          obtain ⟨o, ho, hxo⟩ := pget' pl6 hx
          have om : o ∈ lk th := List.mem_of_getElem? ho
          have ot : o ∈ ts := hcl th th_ts o om
          have kN : ∀ q ∈ trueKvs row2, q.1 < N := fun q hq => hN _ (C6.sub _ (by rw [← trueKvs_keys row2]; exact List.mem_map_of_mem hq))
          refine ⟨x, rfl, .ref r, rfl, r, _, rfl, Mo.get R.inj h6 hxo kN (hN o ot), _, rfl, ?_⟩
          rw [trueKvs_has]
          have tk : (lk th).take (j + 1) = (lk th).take j ++ [o] := by
            rw [List.take_add_one, ho]
            rfl
          refine ite2 (fun e => ?_) (fun e => ?_)
          · have on : o ∉ row2 := by simpa using e
            have C7 := C6.new on om ot
            have rm := rch_room C7 hnd
            rw [List.length_append] at rm
            have rm : row2.length + 1 ≤ ts.length := rm
            refine ⟨.ref r, rfl, x, rfl, r, _, rfl, Mo.put R.inj h6 hxo kN (hN o ot) (small1000 (by unfold trueKvs; rw [List.length_map]; omega)), ?_⟩
            rw [trueKvs_put on]
            have t7 : TupK H6 (upd H6 r (M.obj (trueKvs (row2 ++ [o])))) := tupK_dic h6
            have s7 : Same H (upd H6 r (M.obj (trueKvs (row2 ++ [o])))) := same_fill s6 nr
            have h7 : (upd H6 r (M.obj (trueKvs (row2 ++ [o])))) r = some (M.obj (trueKvs (row2 ++ [o]))) := upd_same
            have k7 : (upd H6 r (M.obj (trueKvs (row2 ++ [o])))) wt = some (.lst ws2) := by
              rw [upd_ne rw'.symm]
              exact k6
            have l7 : (upd H6 r (M.obj (trueKvs (row2 ++ [o])))) la = some (.lst lvs) := by
              rw [upd_ne lar]
              exact l6
            generalize upd H6 r (M.obj (trueKvs (row2 ++ [o]))) = H7 at t7 s7 h7 k7 l7 ⊢
            refine ⟨.ref wt, rfl, .inl ⟨rfl, _, .inl (.inl k7)⟩, x, rfl, wt, ws2, x, rfl, rfl, k7, small1000 (by rw [plen p6]; omega), ?_⟩
            have t8 : TupK H7 (upd H7 wt (.lst (ws2 ++ [x]))) := tupK_lst k7
            refine ⟨_, ws2 ++ [x], row2 ++ [o], wait2 ++ [o], rfl, ?_, upd_same, ?_, ?_, same_fill s7 nwt0, ?_, ?_, ?_⟩
            · rw [upd_ne rw']
              exact h7
            · exact papp (pmono p6 fun _ _ z => z.mono (t7.trans t8)) (.cons (hxo.mono (t7.trans t8)) .nil)
            · rw [tk]
              exact C7
            · rw [upd_ne law]
              exact l7
            · exact pmono pl6 fun _ _ z => z.mono (t7.trans t8)
            · rw [List.length_append, List.length_append, show [o].length = 1 from rfl]
              omega
          · have on : o ∈ row2 := by simpa using e
            refine ⟨_, ws2, row2, wait2, rfl, h6, k6, p6, ?_, s6, l6, pl6, m6⟩
            rw [tk]
            exact C6.old on
        · rintro σ H6 ⟨y5, ws2, row2, wait2, rfl, h6, k6, p6, C6, s6, l6, pl6, m6⟩
          rw [plen pl6, List.take_length] at C6
          refine ⟨⟨_, _, ws2, row2, wait2, rfl, h6, k6, p6, C6.done, s6, by omega⟩, ?_⟩
          show 2 * (ts.length - lenAt H6 (some (some (.ref r)))) + lenAt H6 (some (some (.ref wt))) < 2 * (ts.length - lenAt H4 (some (some (.ref r)))) + lenAt H4 (some (some (.ref wt)))
          rw [m4, m4', lenAt_lst k6, lenAt_dic h6, plen p6, show (trueKvs row2).length = row2.length from List.length_map _]
          omega
    · rintro σ H4 Q1 Q2 m h
      obtain ⟨x, e, k, t, z⟩ := h
      exact ⟨x, e, k, t, m _ _ z⟩
end
end Bk

namespace Bk
open PySem PySem.Spec PyProof.Rows L2
local macro_rules | `(tactic| walk_at "g") => `(tactic| (repeat first | refine ⟨_, rfl, ?_⟩ | refine ⟨cpow, ?_⟩ | refine ⟨_, _, rfl, rfl, ?_⟩ | refine ⟨rfl, ?_⟩))
theorem nat_sorted {a b : List Nat} (hp : a.Perm b) (ha : a.Pairwise (· ≤ ·)) (hb : b.Pairwise (· ≤ ·)) : a = b := hp.eq_of_pairwise (fun x y _ _ h1 h2 => Nat.le_antisymm h1 h2) ha hb
theorem trueKvs_old {l : List Nat} {n : Nat} (h : n ∈ l) : putK (trueKvs l) n (.bl true) = trueKvs l := by
  unfold putK
  rw [valV_any, trueKvs_has, decide_eq_true h, if_pos rfl]
  unfold trueKvs
  rw [List.map_map]
  refine List.map_congr_left fun x _ => ?_
  show (if x = n then (x, V.bl true) else (x, V.bl true)) = _
  split <;> rfl
/-- lists of things, each list new and its own -/
def RowsAt (M : Mo) (H H' : Hp) (l : Addr) (rows : List (List Nat)) : Prop := ∃ ps : List Addr, H' l = some (.lst (ps.map V.ref)) ∧ H l = none ∧ l ∉ ps ∧ ps.Nodup ∧ Paired (fun p row => H p = none ∧ ∃ vs, H' p = some (.lst vs) ∧ Paired (M.at H') vs row) ps rows
/-- lists that a walk left behind stand where they were -/
theorem rows_mono {M : Mo} {H H1 H2 : Hp} {ps : List Addr} {rows : List (List Nat)} (h : Paired (fun p row => H p = none ∧ ∃ vs, H1 p = some (.lst vs) ∧ Paired (M.at H1) vs row) ps rows) (t : TupK H1 H2) (k : ∀ p ∈ ps, ∀ xs, H1 p = some (.lst xs) → H2 p = some (.lst xs)) :
    Paired (fun p row => H p = none ∧ ∃ vs, H2 p = some (.lst vs) ∧ Paired (M.at H2) vs row) ps rows := pmonoM h fun p hp row z => by
  obtain ⟨n, vs, e, g⟩ := z
  exact ⟨n, vs, k p hp vs e, pmono g fun _ _ y => y.mono t⟩
section
variable {P : Program} {w : World} {K : PySem.W.Frag} {mg : Str → Option Value} {base : Heap}
abbrev srows_of : Stmt := topS 1
abbrev Nrows_of : List Str := ["links", "met", "rows", "first", "row", "thing"]
theorem scrows_of : FnScope Nrows_of ["links"] (defScope srows_of) := ⟨rfl, rfl, rfl, by decide +kernel, rfl, by decide +kernel, by decide +kernel⟩
def spRowsOf (M : Mo) (N : Nat) : Sp := fun vs H Q _ => ∃ (d : Addr) (ts : List Nat) (lk : Nat → List Nat), vs = [.ref d] ∧ LinkAt M H d ts lk ∧ ts.Nodup ∧ ts.Pairwise (· ≤ ·) ∧ (∀ n ∈ ts, n < N) ∧ ts.length < 64 ∧ (∀ n ∈ ts, ∀ m ∈ lk n, m ∈ ts) ∧ (∀ n m, m ∈ lk n → n ∈ lk m) ∧
  ∀ H' l, Same H H' → RowsAt M H H' l (rowsE (hangB (fun x y => y ∈ lk x)) ts) → Q (.ref l) H'
theorem okrows_of {f fR : Addr} {fd fdR : FuncData} {M : Mo} {N : Nat} (R : MoR M N K) (F : Fun K "rows_of" "rows_of" srows_of f fd) (F_reached : Fun K "_reached" "_reached" s_reached fR fdR) (g_reached : mg "_reached" = some (.ref fR)) (b_reached : Binds K fdR ["first", "links"] [])
    (G_reached : FnOk P w K mg base CX0 1 fR fdR ["first", "links"] (spReached M N)) (m_sorted : mg "sorted" = none) : FnOk P w K mg base CX0 2 f fd ["links"] (spRowsOf M N) := by
  refine F.ok scrows_of (fun vs H Q E h => ?_) (fun cdv A outer s H vs Q E hr h => ?_)
  · obtain ⟨d, ts, lk, rfl, _⟩ := h
    rfl
  · obtain ⟨d, ts, lk, rfl, hL, hnd, hup, hN, hlen, hcl, hsy, q⟩ := h
    have nd := scrows_of.nd
    refine ⟨_, (pss_cons (ps_set (i := 1) nd rfl (.inl rfl) pe_dnewE)
      (pss_cons (ps_set (i := 2) nd rfl (.inl rfl) (pe_lst pa_nil))
      (pss_cons (ps_for PassesOwn.never rfl (kPiL K rfl (pi_list (pe_callB (srtDM R rfl rfl) (by rfl) m_sorted (by decide +kernel) (pa_cons (pv 0) pa_nil)))) (pg_name (i := 3) nd rfl (.inl rfl)) (pss_one (ps_if (pt_cmp (pc_dnotin (hu_of hr) (pv 3) (pv 1))) (pss_cons (ps_set (i := 4) nd rfl (.inl rfl) (pe_call G_reached (hr.mono (by first | decide | omega)) (by rfl) g_reached F_reached.kp b_reached .nil pass0 (pa_cons (pv 3) (pa_cons (pv 0) pa_nil))))
      (pss_cons (ps_for PassesOwn.never rfl (kPiL K rfl (pi_list (pv 4))) (pg_name (i := 5) nd rfl (.inl rfl)) (pss_one (ps_dput (hu_of hr) (pv 1) (pv 5) pe_bl rfl)))
      (pss_one (ps_expr (kBM K rfl (pe_bm PySem.F.plainAttrs_list PySem.F.slot_list_append PySem.F.type_list_append mt_append (pv 2) (pa_cons (pe_callB (srtM R rfl) (by rfl) m_sorted (by decide +kernel) (pa_cons (pv 4) pa_nil)) pa_nil))))))) pss_nil)))
      (pss_one (ps_ret (pv 2)))))), ?_⟩
    refine ⟨M.obj [], M.obj_nil, fun m nm => ?_⟩
    have s1 : Same H (upd H m (M.obj [])) := same_new nm
    have h1 : (upd H m (M.obj [])) m = some (M.obj (trueKvs [])) := upd_same
    generalize upd H m (M.obj []) = H1 at s1 h1 ⊢
    refine ⟨Nat.zero_le _, fun rl nrl => ?_⟩
    have mrl : m ≠ rl := ne_of_none h1 nrl
    have s2 : Same H (upd H1 rl (.lst [])) := s1.trans (same_new nrl)
    have h2 : (upd H1 rl (.lst [])) m = some (M.obj (trueKvs [])) := by
      rw [upd_ne mrl]
      exact h1
    have k2 : (upd H1 rl (.lst [])) rl = some (.lst (([] : List Addr).map V.ref)) := upd_same
    have nrl0 : H rl = none := s1.free nrl
    generalize upd H1 rl (.lst []) = H2 at s2 h2 k2 ⊢
    obtain ⟨kvs, e1, e2, e3⟩ := id hL
    refine ⟨.ref d, rfl, d, kvs, rfl, s2 _ _ e1, fun q hq => hN _ (by rw [← e2]; exact List.mem_map_of_mem hq), by rw [← List.length_map (f := fun q : Nat × V => q.1), e2]; exact hlen, fun sv ts' sl hsv hpm hso nsl => ?_⟩
    rw [e2] at hpm
    obtain rfl := nat_sorted hpm hso hup
    have s3 : Same H (upd H2 sl (.lst sv)) := s2.trans (same_new nsl)
    have t3 : Same H2 (upd H2 sl (.lst sv)) := same_new nsl
    have h3 := t3 _ _ h2
    have k3 := t3 _ _ k2
    have l3 : (upd H2 sl (.lst sv)) sl = some (.lst sv) := upd_same
    have p3 := pmono hsv fun _ _ z => z.mono t3.tupK
    have sm : sl ≠ m := (ne_of_none h2 nsl).symm
    have srl : sl ≠ rl := (ne_of_none k2 nsl).symm
    generalize upd H2 sl (.lst sv) = H3 at s3 h3 k3 l3 p3 ⊢
    clear e1 e2 e3 kvs hpm hso hsv t3
    have EQ := hangB_eqv (r := fun x y => y ∈ lk x) hsy
    generalize hE : hangB (fun x y => y ∈ lk x) = Eq at q EQ
    refine ⟨sl, rfl, ⟨_, .inl (.inl l3)⟩, ?_⟩
    refine for_list (xs := sv) (fun i σ H4 => ∃ y3 y4 y5 mk ps, σ = [some (.ref d), some (.ref m), some (.ref rl), y3, y4, y5] ∧ H4 m = some (M.obj (trueKvs mk)) ∧ mk.Nodup ∧ (∀ x ∈ mk, x ∈ ts') ∧ (∀ y ∈ ts', y ∈ mk ↔ (fstE Eq (ts'.take i)).any (fun x => Eq x y) = true) ∧
        H4 rl = some (.lst (ps.map V.ref)) ∧ rl ∉ ps ∧ ps.Nodup ∧ Paired (fun p row => H p = none ∧ ∃ vs, H4 p = some (.lst vs) ∧ Paired (M.at H4) vs row) ps ((fstE Eq (ts'.take i)).map fun x => ts'.filter (Eq x)) ∧ Same H H4 ∧ H4 sl = some (.lst sv) ∧ Paired (M.at H4) sv ts')
      ⟨none, none, none, [], [], rfl, h3, List.nodup_nil, fun x hx => absurd hx List.not_mem_nil, fun y _ => by simp [fstE], k3, List.not_mem_nil, List.nodup_nil, .nil, s3, l3, p3⟩ ?_ ?_ ?_
    · rintro i σ H4 _ ⟨y3, y4, y5, mk, ps, rfl, h4, n4, b4, c4, k4, o4, d4, w4, s4, l4, p4⟩
      exact .inl (.inl l4)
    · rintro i x σ H4 hx ⟨y3, y4, y5, mk, ps, rfl, h4, n4, b4, c4, k4, o4, d4, w4, s4, l4, p4⟩
      obtain ⟨a, ha, hxa⟩ := pget' p4 hx
      have at_ : a ∈ ts' := List.mem_of_getElem? ha
      have kN : ∀ q ∈ trueKvs mk, q.1 < N := fun q hq => hN _ (b4 _ (by rw [← trueKvs_keys mk]; exact List.mem_map_of_mem hq))
      refine ⟨x, rfl, .ref m, rfl, m, _, rfl, Mo.get R.inj h4 hxa kN (hN a at_), _, rfl, ?_⟩
      rw [trueKvs_has]
      have fs : fstE Eq (ts'.take (i + 1)) = if (fstE Eq (ts'.take i)).any (fun y => Eq y a) then fstE Eq (ts'.take i) else fstE Eq (ts'.take i) ++ [a] := fstE_take ha
      refine ite2 (fun e => ?_) (fun e => ?_)
      · have am : a ∉ mk := by simpa using e
        have an : ¬ (fstE Eq (ts'.take i)).any (fun y => Eq y a) = true := fun z => am ((c4 a at_).mpr z)
        rw [if_neg an] at fs
        refine ⟨x, rfl, .ref d, rfl, x, d, ts', lk, a, rfl, hxa, hL.same s4, at_, hnd, hN, by omega, hcl, fun H5 l ys row s5 nl hl py pm => ?_⟩
        rw [hE] at pm
        have lm : l ≠ m := (ne_of_none h4 nl).symm
        have lrl : l ≠ rl := (ne_of_none k4 nl).symm
        have lsl : l ≠ sl := (ne_of_none l4 nl).symm
        have rN : ∀ n ∈ row, n ∈ ts' := fun n hn => (List.mem_filter.mp (pm.mem_iff.mp hn)).1
        have rlen : row.length ≤ ts'.length := by
          rw [pm.length_eq]
          exact List.length_filter_le _ _
        refine ⟨.ref l, rfl, l, rfl, ⟨_, .inl (.inl hl)⟩, ?_⟩
        refine for_list (xs := ys) (fun j σ H6 => ∃ y5 mk2, σ = [some (.ref d), some (.ref m), some (.ref rl), some x, some (.ref l), y5] ∧ H6 m = some (M.obj (trueKvs mk2)) ∧ mk2.Nodup ∧ (∀ x ∈ mk2, x ∈ ts') ∧ (∀ y ∈ ts', y ∈ mk2 ↔ y ∈ mk ∨ y ∈ row.take j) ∧ ∀ b, b ≠ m → H6 b = H5 b)
          ⟨y5, mk, rfl, s5 _ _ h4, n4, b4, fun y _ => by simp, fun _ _ => rfl⟩ ?_ ?_ ?_
        · rintro j σ H6 _ ⟨y5, mk2, rfl, h6, n6, b6, c6, o6⟩
          exact .inl (.inl (by rw [o6 _ lm]; exact hl))
        · rintro j z σ H6 hz ⟨y5, mk2, rfl, h6, n6, b6, c6, o6⟩
          obtain ⟨n, hn, hzn⟩ := pget' py hz
          have nt : n ∈ ts' := rN n (List.mem_of_getElem? hn)
          have t6 : TupK H5 H6 := fun b xs e => by
            rw [o6 b (fun y => by
              rw [y, s5 _ _ h4] at e
              exact M.obj_tup _ xs (Option.some.inj e))]
            exact e
          have kN6 : ∀ q ∈ trueKvs mk2, q.1 < N := fun q hq => hN _ (b6 _ (by rw [← trueKvs_keys mk2]; exact List.mem_map_of_mem hq))
          have l6 : mk2.length ≤ ts'.length := nodup_len n6 hnd b6
          have tk : row.take (j + 1) = row.take j ++ [n] := by
            rw [List.take_add_one, hn]
            rfl
          refine ⟨.ref m, rfl, z, rfl, m, _, rfl, Mo.put R.inj h6 (hzn.mono t6) kN6 (hN n nt) (small1000 (by unfold trueKvs; rw [List.length_map]; omega)), ?_⟩
          by_cases hin : n ∈ mk2
          · refine ⟨_, mk2, rfl, by rw [upd_same, trueKvs_old hin], n6, b6, fun y hy => ?_, fun b hb => by rw [upd_ne hb]; exact o6 b hb⟩
            rw [c6 y hy, tk, List.mem_append, List.mem_singleton]
            refine ⟨fun k => k.elim .inl fun k => .inr (.inl k), fun k => ?_⟩
            rcases k with k | k | k
            · exact .inl k
            · exact .inr k
            · rw [k]
              exact (c6 n nt).mp hin
          · refine ⟨_, mk2 ++ [n], rfl, by rw [upd_same, trueKvs_put hin], ?_, fun y hy => ?_, fun y hy => ?_, fun b hb => by rw [upd_ne hb]; exact o6 b hb⟩
            · rw [List.nodup_append]
              refine ⟨n6, by simp, fun u hu v hv e => ?_⟩
              rw [List.mem_singleton.mp hv] at e
              exact hin (e ▸ hu)
            · rcases List.mem_append.mp hy with hy | hy
              · exact b6 y hy
              · rw [List.mem_singleton.mp hy]
                exact nt
            · rw [List.mem_append, c6 y hy, tk, List.mem_append]
              exact or_assoc
        · rintro σ H6 ⟨y5, mk2, rfl, h6, n6, b6, c6, o6⟩
          rw [plen py, List.take_length] at c6
          have t6 : TupK H5 H6 := fun b xs e => by
            rw [o6 b (fun y => by
              rw [y, s5 _ _ h4] at e
              exact M.obj_tup _ xs (Option.some.inj e))]
            exact e
          have hl6 : H6 l = some (.lst ys) := by
            rw [o6 _ lm]
            exact hl
          have k6 : H6 rl = some (.lst (ps.map V.ref)) := by
            rw [o6 _ mrl.symm]
            exact s5 _ _ k4
          have l6 : H6 sl = some (.lst sv) := by
            rw [o6 _ sm]
            exact s5 _ _ l4
          have s6 : Same H H6 := fun b o e => by
            rw [o6 b (fun y => by
              rw [y, nm] at e
              cases e)]
            exact s5 _ _ (s4 _ _ e)
          have pl := plen w4
          have fl : (fstE Eq (ts'.take i)).length ≤ 200 := by
            have g : ∀ l : List Nat, (fstE Eq l).length ≤ l.length := by
              refine snoc_ind (Nat.le_refl _) fun l x ih => ?_
              rw [fstE_snoc, List.length_append]
              split
              · omega
              · rw [List.length_append]
                simp only [List.length_cons, List.length_nil]
                omega
            have := g (ts'.take i)
            rw [List.length_take] at this
            omega
          rw [List.length_map] at pl
          refine ⟨.ref rl, rfl, .inl ⟨rfl, _, .inl (.inl k6)⟩, .ref l, rfl, l, ys, row, rfl, hl6, pmono py fun _ _ z => z.mono t6, fun n hn => hN n (rN n hn), by omega, fun zs l' p hz hpm hso np => ?_⟩
          obtain rfl := nat_sorted (hpm.trans pm) hso (hup.filter _)
          have t7 : Same H6 (upd H6 p (.lst zs)) := same_new np
          have h7 := t7 _ _ h6
          have k7 := t7 _ _ k6
          have l7 := t7 _ _ l6
          have z7 : (upd H6 p (.lst zs)) p = some (.lst zs) := upd_same
          have g7 := pmono hz fun _ _ z => z.mono t7.tupK
          have prl : p ≠ rl := (ne_of_none k6 np).symm
          have pps : p ∉ ps := fun hp => by
            obtain ⟨j, hj⟩ := List.mem_iff_getElem?.mp hp
            obtain ⟨row2, _, _, vs, e, _⟩ := pget' w4 hj
            have e5 := s5 _ _ e
            have pm' : p ≠ m := fun z => by
              rw [z, s5 _ _ h4] at e5
              exact M.obj_lst _ vs (Option.some.inj e5)
            rw [← o6 p pm', np] at e5
            cases e5
          generalize upd H6 p (.lst zs) = H7 at t7 h7 k7 l7 z7 g7 ⊢
          refine ⟨rl, _, _, rfl, rfl, k7, small1000 (by rw [List.length_map]; omega), ?_⟩
          have t8 : TupK H7 (upd H7 rl (.lst (ps.map V.ref ++ [.ref p]))) := tupK_lst k7
          refine ⟨_, _, _, mk2, ps ++ [p], rfl, ?_, n6, b6, fun y hy => ?_, ?_, ?_, ?_, ?_, same_fill (s6.trans t7) nrl0, ?_, ?_⟩
          · rw [upd_ne mrl]
            exact h7
          · rw [c6 y hy, fs, List.any_append, Bool.or_eq_true, ← c4 y hy]
            refine or_congr Iff.rfl ?_
            rw [pm.mem_iff, List.mem_filter]
            simp only [List.any_cons, List.any_nil, Bool.or_false]
            exact ⟨fun z => z.2, fun z => ⟨hy, z⟩⟩
          · rw [upd_same, List.map_append]
            rfl
          · intro z
            rcases List.mem_append.mp z with z | z
            · exact o4 z
            · exact prl (List.mem_singleton.mp z).symm
          · rw [List.nodup_append]
            refine ⟨d4, by simp, fun u hu v hv e => ?_⟩
            rw [List.mem_singleton.mp hv] at e
            exact pps (e ▸ hu)
          · rw [fs, List.map_append]
            refine papp (rows_mono w4 ((s5.tupK.trans t6).trans (t7.tupK.trans t8)) fun b hb xs e => ?_) (.cons ⟨s6.free np, zs, ?_, pmono g7 fun _ _ z => z.mono t8⟩ .nil)
            · have bm : b ≠ m := fun z => by
                rw [z, h4] at e
                exact M.obj_lst _ xs (Option.some.inj e)
              rw [upd_ne (fun z : b = rl => o4 (z ▸ hb))]
              refine t7 _ _ ?_
              rw [o6 b bm]
              exact s5 _ _ e
            · rw [upd_ne prl]
              exact z7
          · rw [upd_ne srl]
            exact l7
          · exact pmono p4 fun _ _ z => z.mono ((s5.tupK.trans t6).trans (t7.tupK.trans t8))
      · have am : a ∈ mk := by simpa using e
        have an := (c4 a at_).mp am
        rw [if_pos an] at fs
        refine ⟨_, y4, y5, mk, ps, rfl, h4, n4, b4, ?_, k4, o4, d4, ?_, s4, l4, p4⟩
        · rw [fs]
          exact c4
        · rw [fs]
          exact w4
    · rintro σ H4 ⟨y3, y4, y5, mk, ps, rfl, h4, n4, b4, c4, k4, o4, d4, w4, s4, l4, p4⟩
      rw [plen p4, List.take_length] at w4
      exact ⟨_, rfl, q H4 rl s4 ⟨ps, k4, nrl0, o4, d4, w4⟩⟩
end
end Bk

namespace Bk
open PySem PySem.Spec PyProof.Rows L2
local macro_rules | `(tactic| walk_at "g") => `(tactic| (repeat first | refine ⟨_, rfl, ?_⟩ | refine ⟨cpow, ?_⟩ | refine ⟨_, _, rfl, rfl, ?_⟩ | refine ⟨rfl, ?_⟩))
theorem units8 {k : Nat} {A : Around} (hr : Room k A) : A.units + 8 < cLine := by
  have := hr.units
  omega
theorem kPiE {X : Cx} (K : PySem.W.Frag) {tg l : Expr} {ta : TA} (h : X.K = K) (x : PI X tg l (iEnum X.K ta)) : PI X tg l (iEnum K ta) := h ▸ x
section
variable {P : Program} {w : World} {K : PySem.W.Frag} {mg : Str → Option Value} {base : Heap}
theorem valV_mem {κ : Type} [DecidableEq κ] {kvs : List (κ × V)} {k : κ} {v : V} (hn : (kvs.map (·.1)).Nodup) (h : (k, v) ∈ kvs) : valV kvs k = some v := by
  induction kvs with
  | nil => cases h
  | cons q r ih =>
    rw [List.map_cons, List.nodup_cons] at hn
    rcases List.mem_cons.mp h with e | h
    · subst e
      exact valV_pos rfl
    · rw [valV_neg (fun e => hn.1 (by rw [e]; exact List.mem_map_of_mem h))]
      exact ih hn.2 h
/-- each thing with its place -/
def placeKvs (ts : List Nat) (i : Nat) : List (Nat × V) := (List.range i).map fun k => (ts.getD k 0, intV k)
theorem placeKvs_succ (ts : List Nat) (i : Nat) : placeKvs ts (i + 1) = placeKvs ts i ++ [(ts.getD i 0, intV i)] := by
  unfold placeKvs
  rw [List.range_succ, List.map_append]
  rfl
theorem placeKvs_keys (ts : List Nat) : (placeKvs ts ts.length).map (·.1) = ts := by
  unfold placeKvs
  rw [List.map_map]
  refine List.ext_getElem? fun j => ?_
  rw [List.getElem?_map]
  by_cases h : j < ts.length
  · rw [List.getElem?_range h, List.getElem?_eq_getElem h]
    show some (ts[j]?.getD 0) = _
    rw [List.getElem?_eq_getElem h]
    rfl
  · rw [List.getElem?_eq_none (by rw [List.length_range]; omega), List.getElem?_eq_none (by omega)]
    rfl
theorem placeKvs_get {ts : List Nat} (hn : ts.Nodup) {n : Nat} (h : n ∈ ts) : valV (placeKvs ts ts.length) n = some (intV (ts.idxOf n)) := by
  refine valV_mem (by rw [placeKvs_keys]; exact hn) ?_
  unfold placeKvs
  have hl := List.idxOf_lt_length_of_mem h
  refine List.mem_map.mpr ⟨ts.idxOf n, List.mem_range.mpr hl, ?_⟩
  rw [show ts.getD (ts.idxOf n) 0 = n from ?_]
  show ts[ts.idxOf n]?.getD 0 = n
  rw [List.getElem?_eq_getElem hl]
  exact List.getElem_idxOf hl
def ixPairs (ts : List Nat) (ps : List (Nat × Nat)) : List (Nat × Nat) := ps.map fun q => (ts.idxOf q.1, ts.idxOf q.2)
theorem Hang.map {α β : Type} {r : α → α → Prop} {r' : β → β → Prop} {f : α → β} (h : ∀ x y, r x y → r' (f x) (f y)) {x y : α} (a : Hang r x y) : Hang r' (f x) (f y) := by
  induction a with
  | rfl => exact .rfl _
  | step _ s ih => exact .step ih (h _ _ s)
theorem hang_ix {ts : List Nat} {ps : List (Nat × Nat)} (hps : ∀ q ∈ ps, q.1 ∈ ts ∧ q.2 ∈ ts) {x y : Nat} (hx : x ∈ ts) (hy : y ∈ ts) : Hang (pairR (ixPairs ts ps)) (ts.idxOf x) (ts.idxOf y) ↔ Hang (pairR ps) x y := by
  have g : ∀ n, n ∈ ts → ts.getD (ts.idxOf n) 0 = n := fun n h => by
    have hl := List.idxOf_lt_length_of_mem h
    show ts[ts.idxOf n]?.getD 0 = n
    rw [List.getElem?_eq_getElem hl]
    exact List.getElem_idxOf hl
  constructor
  · intro h
    have := h.map (f := fun i => ts.getD i 0) (r' := pairR ps) fun i j s => by
      unfold pairR ixPairs at *
      rcases s with s | s
      · obtain ⟨q, hq, e⟩ := List.mem_map.mp s
        injection e with e1 e2
        subst e1 e2
        rw [g _ (hps q hq).1, g _ (hps q hq).2]
        exact .inl hq
      · obtain ⟨q, hq, e⟩ := List.mem_map.mp s
        injection e with e1 e2
        subst e1 e2
        rw [g _ (hps q hq).1, g _ (hps q hq).2]
        exact .inr hq
    rw [g x hx, g y hy] at this
    exact this
  · intro h
    refine h.map (f := fun n => ts.idxOf n) fun a b s => ?_
    unfold pairR ixPairs at *
    rcases s with s | s
    · exact .inl (List.mem_map.mpr ⟨_, s, rfl⟩)
    · exact .inr (List.mem_map.mpr ⟨_, s, rfl⟩)
theorem ixPairs_take {ts : List Nat} {ps : List (Nat × Nat)} {j : Nat} {q : Nat × Nat} (h : ps[j]? = some q) : ixPairs ts (ps.take (j + 1)) = ixPairs ts (ps.take j) ++ [(ts.idxOf q.1, ts.idxOf q.2)] := by
  unfold ixPairs
  rw [List.take_add_one, h, List.map_append]
  rfl
theorem refs_of {κ β : Type} {F : Addr → β → Prop} : ∀ {kvs : List (κ × V)} {fs : List β}, Paired (fun kv x => ∃ q, kv.2 = .ref q ∧ F q x) kvs fs → ∃ ps : List Addr, kvs.map (·.2) = ps.map V.ref ∧ Paired F ps fs
  | _, _, .nil => ⟨[], rfl, .nil⟩
  | _, _, .cons r t => by
    obtain ⟨q, e, h⟩ := r
    obtain ⟨ps, e2, h2⟩ := refs_of t
    exact ⟨q :: ps, by rw [List.map_cons, List.map_cons, e, e2], .cons h h2⟩
theorem rows_map {M : Mo} {H H1 H2 : Hp} {g : Nat → List Nat} (s : Same H1 H2) : ∀ {ps : List Addr} {fs : List Nat}, Paired (fun q x => H q = none ∧ ∃ vs, H1 q = some (.lst vs) ∧ Paired (M.at H1) vs (g x)) ps fs → Paired (fun p row => H p = none ∧ ∃ vs, H2 p = some (.lst vs) ∧ Paired (M.at H2) vs row) ps (fs.map g)
  | _, _, .nil => .nil
  | _, _, .cons r t => by
    obtain ⟨h1, vs, h2, h3⟩ := r
    exact .cons ⟨h1, vs, s _ _ h2, pmono h3 fun _ _ z => z.mono s.tupK⟩ (rows_map s t)
theorem pmapL {α β γ : Type} {F : α → β → Prop} {G : γ → β → Prop} {g : α → γ} : ∀ {xs : List α} {ys : List β}, Paired F xs ys → (∀ a ∈ xs, ∀ b, F a b → G (g a) b) → Paired G (xs.map g) ys
  | _, _, .nil, _ => .nil
  | _, _, .cons r t, m => .cons (m _ List.mem_cons_self _ r) (pmapL t fun a ha => m a (List.mem_cons_of_mem _ ha))
/-- a pair of things, as a tuple of two -/
def Mo.two (M : Mo) (K : PySem.W.Frag) (H : Hp) (v : V) (q : Nat × Nat) : Prop := ∃ a x y, v = .ref a ∧ SqT K H a [x, y] ∧ M.at H x q.1 ∧ M.at H y q.2
def spClasses (M : Mo) (N : Nat) (K : PySem.W.Frag) : Sp := fun vs H Q _ => ∃ (t p : Addr) (tvs pvs : List V) (ts us : List Nat) (ps : List (Nat × Nat)), vs = [.ref t, .ref p] ∧ H t = some (.lst tvs) ∧ Paired (M.at H) tvs ts ∧ H p = some (.lst pvs) ∧ Paired (M.two K H) pvs ps ∧
  ts.Nodup ∧ (∀ n ∈ ts, n < N) ∧ ts.length < 64 ∧ us.Perm ts ∧ us.Pairwise (· ≤ ·) ∧ (∀ q ∈ ps, q.1 ∈ ts ∧ q.2 ∈ ts) ∧ ∀ H' l, Same H H' → RowsAt M H H' l (rowsE (hangB (pairR ps)) us) → Q (.ref l) H'
end
end Bk

namespace Bk
open PySem PySem.Spec PyProof.Rows L2 RZ
local macro_rules | `(tactic| walk_at "g") => `(tactic| (repeat first | refine ⟨_, rfl, ?_⟩ | refine ⟨cpow, ?_⟩ | refine ⟨wideM, ?_⟩ | refine ⟨_, _, rfl, rfl, ?_⟩ | refine ⟨rfl, ?_⟩))
theorem kCatT {X : Cx} (K : PySem.W.Frag) (h : X.K = K) : OpR X (binaryOp .Add) (rCatT K) := h ▸ op_catT
section
variable {P : Program} {w : World} {K : PySem.W.Frag} {mg : Str → Option Value} {base : Heap}
/-! ### corners -/
abbrev smet_at : Stmt := topS 25
abbrev Nmet_at : List Str := ["space", "block", "spots", "told", "face", "joining", "other", "turn", "spot"]
theorem scmet_at : FnScope Nmet_at ["space", "block", "spots"] (defScope smet_at) := ⟨rfl, rfl, rfl, by decide +kernel, rfl, by decide +kernel, by decide +kernel⟩
/-- the corner that face f lays corner c of block b on -/
def metJ (c f : Nat) : Jn → List Nat
  | none => []
  | some (n, t) => if f = c then [] else [4 * n + tf t c]
def metL (S : Spc) (b c : Nat) (m : Nat) : List Nat := (List.range m).flatMap fun f => metJ c f ((getJ S b f).getD none)
def spMetAt : Sp := fun vs H Q _ => ∃ (v : V) (sp : Addr) (S : Spc) (b c : Nat), vs = [v, intV b, .ref sp] ∧ ST H v S ∧ FT H sp [intV c] ∧ Good S ∧ b < S.length ∧ c < 4 ∧ ∀ H' l xs, Same H H' → H l = none → H' l = some (.lst xs) → Paired (moT.at H') xs (metL S b c 4) → Q (.ref l) H'
theorem okmet_at {f : Addr} {fd : FuncData} (F : Fun K "met_at" "met_at" smet_at f fd) (m_range : mg "range" = none) (m_tuple : mg "tuple" = none) : FnOk P w K mg base CX0 1 f fd ["space", "block", "spots"] spMetAt := by
  refine F.ok scmet_at (fun vs H Q E h => ?_) (fun cdv A outer s H vs Q E hr h => ?_)
  · obtain ⟨v, sp, S, b, c, rfl, _⟩ := h
    rfl
  · obtain ⟨v, sp, S, b, c, rfl, hst, fsp, hG, hb, hc, q⟩ := h
    have nd := scmet_at.nd
    refine ⟨_, (pss_cons (ps_set (i := 3) nd rfl (.inl rfl) (pe_lst pa_nil))
      (pss_cons (ps_for PassesOwn.never rfl (pi_range1 (by rfl) m_range (pa_cons pe_int pa_nil)) (pg_name (i := 4) nd rfl (.inl rfl)) (pss_cons (ps_set (i := 5) nd rfl (.inl rfl) (pe_ix (kIxT K rfl) (pe_ix (kIxT K rfl) (pv 0) (pv 1) (fun _ _ => rfl)) (pv 4) (fun _ _ => rfl)))
      (pss_one (ps_if (pw_and (pt_cmpR op_notN (pv 5) pe_non (nomark _)) (pw_and1 (pt_cmpR (kNotIn K rfl) (pv 4) (pv 2) (by rfl)))).pt (pss_cons (ps_asg (pv 5) (kPgT K rfl (pg_tup (n := 2) rfl (pgs_cons (pg_name (i := 6) nd rfl (.inl rfl)) (pgs_cons (pg_name (i := 7) nd rfl (.inr rfl)) pgs_nil)))))
      (pss_one (ps_expr (kBM K rfl (pe_bm PySem.F.plainAttrs_list PySem.F.slot_list_append PySem.F.type_list_append mt_append (pv 3) (pa_cons (pe_op (kCatT K rfl) (pe_tupF (pa_cons (pv 6) pa_nil)) (pe_callTy (kTupleF K rfl) (by rfl) m_tuple (by decide +kernel) (pa_cons (pe_lc (own := [("spot", 8)]) (g := gName 8) (tt := tYes) rfl nd (kPiT K rfl (pi_tup (pv 2))) (blkOk_by (own := [("spot", 8)]) (N := Nmet_at) (sc := defScope smet_at) (by decide +kernel)) (fun _ _ _ _ _ => (pg_name (i := 8) nd rfl (Or.inl rfl))) (fun _ _ _ _ _ => pts_nil) (fun _ _ _ _ _ => (pe_ix (kIxT K rfl) (pv 7) (pv 8) (fun _ _ => rfl)))) pa_nil))) pa_nil)))))) pss_nil))))
      (pss_one (ps_ret (pv 3))))), ?_⟩
    obtain ⟨p, rs, rfl, fp, hbs⟩ := id hst
    refine ⟨Nat.zero_le _, fun D nD => ?_⟩
    refine ⟨4, rfl, by decide, by decide, ?_⟩
    refine for_range (lo := 0) (n := 4) (fun i σ H1 => ∃ y4 y5 y6 y7 xs, σ = [some (.ref p), some (intV b), some (.ref sp), some (.ref D), y4, y5, y6, y7, none] ∧ H1 D = some (.lst xs) ∧ Paired (moT.at H1) xs (metL S b c i) ∧ Same H H1) ⟨_, _, _, _, [], rfl, upd_same, .nil, same_new nD⟩ ?_ ?_
    · rintro i σ H1 hi ⟨y4, y5, y6, y7, xs, rfl, h1, p1, s1⟩
      rw [Int.zero_add]
      obtain ⟨j, hj⟩ := hG.l4.get hb hi
      obtain ⟨p', rs', q', vs', x, ep, g1, g2, g3, g4, g5⟩ := (hst.mono s1.tups).face hj
      cases ep
      have ml : metL S b c (i + 1) = metL S b c i ++ metJ c i j := by
        unfold metL
        rw [List.range_succ, List.flatMap_append, List.flatMap_singleton, hj]
        rfl
      have lx : xs.length ≤ 100 := by
        rw [plen p1]
        have : ∀ m, (metL S b c m).length ≤ m := by
          intro m
          induction m with
          | zero => exact Nat.le_refl _
          | succ m ih =>
            unfold metL at ih ⊢
            rw [List.range_succ, List.flatMap_append, List.flatMap_singleton, List.length_append]
            have : ∀ z, (metJ c m z).length ≤ 1 := by
              intro z
              cases z with
              | none => exact Nat.zero_le _
              | some k =>
                show (if m = c then [] else [4 * k.1 + tf k.2 c]).length ≤ 1
                by_cases e : m = c
                · rw [if_pos e]
                  exact Nat.zero_le _
                · rw [if_neg e]
                  exact Nat.le_refl 1
            have := this ((getJ S b m).getD none)
            omega
        have := this i
        omega
      refine ⟨.ref p, rfl, intV b, rfl, p, rs', b, .ref q', rfl, rfl, g1.sqt, atI_nat g2, intV i, rfl, q', vs', i, x, rfl, rfl, g3.sqt, atI_nat g4, ?_⟩
      walk_at "g"
      rw [g5.isN]
      cases j with
      | none =>
        refine iteF (iteF ⟨_, _, _, _, xs, rfl, h1, ?_, s1⟩)
        rw [ml]
        show Paired _ xs (metL S b c i ++ [])
        rw [List.append_nil]
        exact p1
      | some k =>
        obtain ⟨n, t⟩ := k
        obtain ⟨pj, pq, rfl, f1, f2⟩ := g5
        refine iteT ?_
        refine ⟨.int (i : Int), rfl, .ref sp, rfl, sp, [intV c], rfl, .inr (fsp.mono s1.tups).sqt, rfl, rfl, _, rfl, ?_⟩
        have en : (if true = true then !inV (.int (i : Int)) [intV c] else inV (.int (i : Int)) [intV c]) = !decide (i = c) := by
          show (!((eqV (intV c) (.int (i : Int))) || false)) = _
          show (!((decide ((c : Int) = (i : Int))) || false)) = _
          rw [Bool.or_false]
          exact congrArg not (decide_eq_decide.mpr ⟨fun z => by omega, fun z => by omega⟩)
        rw [en]
        by_cases hic : i = c
        · rw [decide_eq_true hic]
          refine iteF ⟨_, _, _, _, xs, rfl, h1, ?_, s1⟩
          rw [ml]
          show Paired _ xs (metL S b c i ++ (if i = c then [] else [4 * n + tf t c]))
          rw [if_pos hic, List.append_nil]
          exact p1
        · rw [decide_eq_false hic]
          refine iteT ?_
          refine ⟨.ref pj, rfl, pj, _, rfl, f1.sqt, rfl, _, _, rfl, _, _, rfl, rfl, ?_⟩
          obtain ⟨ht1, _, _⟩ := hG.both _ _ _ _ hj
          have htf := tf_lt t ht1 c hc
          refine ⟨_, rfl, .inl ⟨rfl, _, .inl (.inl h1)⟩, ?_⟩
          refine ⟨intV n, rfl, Nat.le_of_lt (small1000 (by show 1 ≤ 1000; decide)), fun a1 o1 na1 da1 => ?_⟩
          have s2 : Same H1 (upd H1 a1 (.frz o1 (.tup [intV n]))) := same_new na1
          have fa : FT (upd H1 a1 (.frz o1 (.tup [intV n]))) a1 [intV n] := FT.new da1
          generalize upd H1 a1 (.frz o1 (.tup [intV n])) = H2 at s2 fa ⊢
          refine ⟨.ref sp, rfl, sp, rfl, ⟨_, (fsp.mono (s1.trans s2).tups).sqt⟩, fun L nL => ?_⟩
          refine lc_tup (xs := [intV c]) (fun m H3 => H3 L = some (.lst (((if m = 0 then [] else [tf t c]) : List Nat).map intV)) ∧ Same H2 H3) ⟨upd_same, same_new nL⟩ ?_ ?_ ?_
          · rintro m H3 _ ⟨_, s3⟩
            exact (fsp.mono ((s1.trans s2).trans s3).tups).sqt
          · rintro m x H3 hx ⟨h3, s3⟩
            cases m with
            | succ m => simp at hx
            | zero =>
              cases Option.some.inj hx
              refine ⟨rfl, .ref pq, rfl, intV c, rfl, pq, trnV t, c, intV (tf t c), rfl, rfl, (f2.mono (s2.trans s3).tups).sqt, atI_nat (by unfold trnV; rw [List.getElem?_map, htf.2]; rfl), ?_⟩
              refine ⟨_, h3, small1000 (by rw [if_pos rfl]; exact Nat.zero_le _), ?_, same_fill s3 nL⟩
              rw [upd_same]
              rfl
          · rintro H3 ⟨h3, s3⟩
            have h3 : H3 L = some (.lst [intV (tf t c)]) := h3
            refine ⟨L, [intV (tf t c)], rfl, .inl ⟨.inl (.inl h3), fun a2 o2 na2 da2 => ?_⟩⟩
            have s4 : Same H3 (upd H3 a2 (.frz o2 (.tup [intV (tf t c)]))) := same_new na2
            have fb : FT (upd H3 a2 (.frz o2 (.tup [intV (tf t c)]))) a2 [intV (tf t c)] := FT.new da2
            generalize upd H3 a2 (.frz o2 (.tup [intV (tf t c)])) = H4 at s4 fb ⊢
            refine ⟨a1, a2, [intV n], [intV (tf t c)], rfl, rfl, (fa.mono (s3.trans s4).tups).sqt, fb.sqt, List.cons_ne_nil _ _, Nat.le_of_lt (small1000 (by show 2 ≤ 1000; decide)), fun e => absurd e (List.cons_ne_nil _ _), fun _ p2 np2 => ?_⟩
            have s5 : Same H4 (upd H4 p2 (.tup ([intV n] ++ [intV (tf t c)]))) := same_new np2
            have h5 : (upd H4 p2 (.tup ([intV n] ++ [intV (tf t c)]))) p2 = some (.tup [intV n, intV (tf t c)]) := upd_same
            have s15 := ((s2.trans s3).trans s4).trans s5
            generalize upd H4 p2 (.tup ([intV n] ++ [intV (tf t c)])) = H5 at s5 h5 s15 ⊢
            have hD5 := s15 _ _ h1
            have pD : p2 ≠ D := ne_of h5 hD5 fun z => by cases z
            refine ⟨D, xs, _, rfl, rfl, hD5, small1000 (by omega), ?_⟩
            refine ⟨_, _, _, _, xs ++ [.ref p2], rfl, upd_same, ?_, same_fill (s1.trans s15) nD⟩
            rw [ml]
            show Paired _ _ (metL S b c i ++ (if i = c then [] else [4 * n + tf t c]))
            rw [if_neg hic]
            refine papp (pmono p1 fun _ _ z => z.mono (s15.tupK.trans (tupK_lst hD5))) (.cons ⟨p2, rfl, ?_⟩ .nil)
            rw [upd_ne pD, h5]
            have k4 := htf.1
            show some (HO.tup [intV n, intV (tf t c)]) = some (HO.tup [.int (((4 * n + tf t c) / 4 : Nat) : Int), .int (((4 * n + tf t c) % 4 : Nat) : Int)])
            rw [show (4 * n + tf t c) / 4 = n by omega, show (4 * n + tf t c) % 4 = tf t c by omega]
            rfl
    · rintro σ H1 ⟨y4, y5, y6, y7, xs, rfl, h1, p1, s1⟩
      exact ⟨.ref D, rfl, q H1 D xs s1 nD h1 p1⟩
abbrev scorners_of : Stmt := topS 27
abbrev Ncorners_of : List Str := ["space", "whole", "block", "corner"]
theorem sccorners_of : FnScope Ncorners_of ["space"] (defScope scorners_of) := ⟨rfl, rfl, rfl, by decide +kernel, rfl, by decide +kernel, by decide +kernel⟩
theorem walk_range {c : Cl} {vs : List Nat} {u : L2.St → Hp → (Hp → Prop) → Prop} {lo : Int} {n : Nat} {σ : L2.St} {H0 : Hp} {Done : Hp → Prop} (Pv : Nat → Hp → Prop) (h0 : Pv 0 H0)
    (hs : ∀ i H, i < n → Pv i H → c.g (.int (lo + i)) (wipe σ vs) H fun σ2 H2 => wipe σ2 vs = wipe σ vs ∧ c.tt σ2 H2 fun b H3 => if b = true then u σ2 H3 (Pv (i + 1)) else Pv (i + 1) H3) (hd : ∀ H, Pv n H → Done H) : tWalk c vs u (Itr lo n) σ H0 Done := by
  refine ⟨fun i m H => m = n - i ∧ i ≤ n ∧ Pv i H, ⟨n, rfl, Nat.zero_le _, h0⟩, ?_⟩
  rintro i m H ⟨rfl, hi, p⟩
  by_cases lt : i < n
  · refine .inr ⟨lt, Pv (i + 1), fun H' p' => ⟨n - (i + 1), by omega, rfl, lt, p'⟩, ?_⟩
    rintro x H' ⟨e, y⟩
    subst e y
    exact hs i _ lt p
  · obtain rfl : i = n := by omega
    exact .inl ⟨Nat.le_refl _, hd H p⟩
def lkC (S : Spc) (x : Nat) : List Nat := metL S (x / 4) (x % 4) 4
noncomputable def crnE (S : Spc) : List (List Nat) := rowsE (hangB (fun x y => y ∈ lkC S x)) (List.range (4 * S.length))
theorem metL_mem {S : Spc} {b c m y : Nat} : y ∈ metL S b c m ↔ ∃ f n t, f < m ∧ getJ S b f = some (some (n, t)) ∧ f ≠ c ∧ y = 4 * n + tf t c := by
  unfold metL
  rw [List.mem_flatMap]
  constructor
  · rintro ⟨f, hf, h⟩
    rw [List.mem_range] at hf
    cases e : getJ S b f with
    | none =>
      rw [e] at h
      cases h
    | some j =>
      rw [e] at h
      cases j with
      | none => cases h
      | some k =>
        have h : y ∈ (if f = c then [] else [4 * k.1 + tf k.2 c]) := h
        by_cases z : f = c
        · rw [if_pos z] at h
          cases h
        · rw [if_neg z, List.mem_singleton] at h
          exact ⟨f, k.1, k.2, hf, e, z, h⟩
  · rintro ⟨f, n, t, hf, e, z, rfl⟩
    refine ⟨f, List.mem_range.mpr hf, ?_⟩
    rw [e]
    show _ ∈ (if f = c then [] else [4 * n + tf t c])
    rw [if_neg z]
    exact List.mem_singleton.mpr rfl
theorem tf_inj : ∀ t ∈ allTurns, ∀ f < 4, ∀ c < 4, tf t f = tf t c → f = c := by decide +kernel
theorem lkC_symm {S : Spc} (h : Good S) {x y : Nat} (hy : y ∈ lkC S x) : x ∈ lkC S y := by
  obtain ⟨f, n, t, hf, e, z, rfl⟩ := metL_mem.mp hy
  obtain ⟨q1, q2, q3⟩ := h.both _ _ _ _ e
  have hx : x % 4 < 4 := Nat.mod_lt _ (by decide)
  obtain ⟨k1, k2⟩ := tf_lt t q1 (x % 4) hx
  obtain ⟨f1, f2⟩ := tf_lt t q1 f hf
  refine metL_mem.mpr ⟨tf t f, x / 4, back t, f1, ?_, fun w => ?_, ?_⟩
  · rw [show (4 * n + tf t (x % 4)) / 4 = n by omega]
    exact q3
  · rw [show (4 * n + tf t (x % 4)) % 4 = tf t (x % 4) by omega] at w
    exact z (tf_inj t q1 f hf (x % 4) hx w)
  · rw [show (4 * n + tf t (x % 4)) % 4 = tf t (x % 4) by omega, tf_back t q1 (x % 4) hx]
    omega
theorem lkC_lt {S : Spc} (h : Good S) {x y : Nat} (hy : y ∈ lkC S x) : y < 4 * S.length := by
  obtain ⟨f, n, t, hf, e, z, rfl⟩ := metL_mem.mp hy
  have := h.lt e
  obtain ⟨q1, _, _⟩ := h.both _ _ _ _ e
  have := (tf_lt t q1 (x % 4) (Nat.mod_lt _ (by decide))).1
  omega
theorem RowsAt.early {M : Mo} {H H2 H' : Hp} {l : Addr} {rows : List (List Nat)} (h : RowsAt M H2 H' l rows) (s : Same H H2) : RowsAt M H H' l rows := by
  obtain ⟨ps, h1, h2, h3, h4, h5⟩ := h
  exact ⟨ps, h1, s.free h2, h3, h4, pmono h5 fun _ _ z => ⟨s.free z.1, z.2⟩⟩
def spCornersOf : Sp := fun vs H Q _ => ∃ (N : Addr → Prop) (v : V) (d : PyData) (S : Spc), vs = [v] ∧ Dq N H v d ∧ norm d = nS S ∧ Good S ∧ 1 ≤ S.length ∧ S.length < 16 ∧ ∀ H' l, Same H H' → RowsAt moT H H' l (crnE S) → Q (.ref l) H'
theorem okcorners_of {f fS fR fM : Addr} {fd fdS fdR fdM : FuncData} (F : Fun K "corners_of" "corners_of" scorners_of f fd) (Fspace_of : Fun K "space_of" "space_of" sspace_of fS fdS) (gspace_of : mg "space_of" = some (.ref fS)) (bspace_of : Binds K fdS ["blocks"] []) (Gspace_of : FnOk P w K mg base CX0 6 fS fdS ["blocks"] spSpace)
    (Frows_of : Fun K "rows_of" "rows_of" srows_of fR fdR) (grows_of : mg "rows_of" = some (.ref fR)) (brows_of : Binds K fdR ["links"] []) (Grows_of : FnOk P w K mg base CX0 2 fR fdR ["links"] (spRowsOf moT 64))
    (Fmet_at : Fun K "met_at" "met_at" smet_at fM fdM) (gmet_at : mg "met_at" = some (.ref fM)) (bmet_at : Binds K fdM ["space", "block", "spots"] []) (Gmet_at : FnOk P w K mg base CX0 1 fM fdM ["space", "block", "spots"] spMetAt) (m_range : mg "range" = none) (m_len : mg "len" = none) : FnOk P w K mg base CX0 7 f fd ["space"] spCornersOf := by
  refine F.ok sccorners_of (fun vs H Q E h => ?_) (fun cdv A outer s H vs Q E hr h => ?_)
  · obtain ⟨N, v, d, S, rfl, _⟩ := h
    rfl
  · obtain ⟨N, v, d, S, rfl, hd, hn, hG, h1, h2, q⟩ := h
    have nd := sccorners_of.nd
    refine ⟨_, (pss_cons (ps_set (i := 1) nd rfl (.inr rfl) (pe_call Gspace_of (hr.mono (by first | decide | omega)) (by rfl) gspace_of Fspace_of.kp bspace_of .nil pass0 (pa_cons (pv 0) pa_nil)))
      (pss_one (ps_ret (pe_call Grows_of (hr.mono (by first | decide | omega)) (by rfl) grows_of Frows_of.kp brows_of .nil pass0 (pa_cons (pe_dcN (own := [("block", 2), ("corner", 3)]) (c := ⟨[], _, _, _, _, _, _⟩) (cs := [⟨[3], _, _, _, _, _, _⟩]) rfl (Nat.lt_of_succ_lt (hu_of hr)) nd (pi_range1 (by rfl) m_range (pa_cons (pe_callB (kLen K rfl) (by rfl) m_len (by decide +kernel) (pa_cons (pv 1) pa_nil)) pa_nil)) (blkOk_by (own := [("block", 2), ("corner", 3)]) (N := Ncorners_of) (sc := defScope scorners_of) (by decide +kernel)) (by simp [headVs]) (by simp [Nested, headVs]) (fun _ _ _ _ _ => ⟨(pg_name (i := 2) nd rfl (Or.inl rfl)), pts_nil, (oks_cons (pi_range1 (by rfl) m_range (pa_cons pe_int pa_nil)) (pg_name (i := 3) nd rfl (Or.inl rfl)) pts_nil oks_nil), (pe_tup (pa_cons (pv 2) (pa_cons (pv 3) pa_nil))), (pe_call Gmet_at (hr.mono (by first | decide | omega)) (by rfl) gmet_at Fmet_at.kp bmet_at .nil pass0 (pa_cons (pv 1) (pa_cons (pv 2) (pa_cons (pe_tupF (pa_cons (pv 3) pa_nil)) pa_nil))))⟩) (by intro _; rfl) (fold_cons (by intro _ _; rfl) fold_nil)) pa_nil))))), ?_⟩
    refine ⟨v, rfl, N, v, d, S, rfl, hd, hn, hG, h1, by omega, fun H1 u s1 st1 => ?_⟩
    obtain ⟨p, rs, rfl, fp, hb⟩ := id st1
    have lrs := plen hb
    refine ⟨.ref p, rfl, p, rs, rfl, .inr fp.sqt, (rs.length : Int), rfl, by omega, by omega, _, .inr rfl, fun D nD => ?_⟩
    let Inv' : Nat → Hp → Prop := fun m H2 => ∃ kvs : List (Nat × V), H2 D = some (moT.obj kvs) ∧ kvs.map (·.1) = List.range m ∧ (∀ q ∈ kvs, ∃ a vs, q.2 = .ref a ∧ H2 a = some (.lst vs) ∧ Paired (moT.at H2) vs (lkC S q.1)) ∧ Same H1 H2
    refine walk_range (lo := 0) (n := ((rs.length : Int)).toNat) (fun i H2 => Inv' (4 * i) H2) ⟨[], upd_same, rfl, fun _ hq => absurd hq List.not_mem_nil, same_new nD⟩ ?_ ?_
    · rintro b H2 hb2 hI
      rw [Int.zero_add]
      have hbr : b < S.length := by omega
      refine ⟨rfl, 4, rfl, by decide, by decide, ?_⟩
      refine walk_range (lo := 0) (n := 4) (fun i H3 => Inv' (4 * b + i) H3) hI ?_ ?_
      · rintro c H3 hc ⟨kvs, h3, k3, l3, s3⟩
        rw [Int.zero_add]
        refine ⟨rfl, intV b, rfl, intV c, rfl, Nat.le_of_lt (small1000 (by show 2 ≤ 1000; decide)), fun kp nkp => ?_⟩
        have s4 : Same H3 (upd H3 kp (.tup [intV b, intV c])) := same_new nkp
        have h4 : (upd H3 kp (.tup [intV b, intV c])) kp = some (.tup [intV b, intV c]) := upd_same
        generalize upd H3 kp (.tup [intV b, intV c]) = H4 at s4 h4 ⊢
        refine ⟨.ref p, rfl, intV b, rfl, intV c, rfl, Nat.le_of_lt (small1000 (by show 1 ≤ 1000; decide)), fun sp o nsp dsp => ?_⟩
        have s5 : Same H4 (upd H4 sp (.frz o (.tup [intV c]))) := same_new nsp
        have f5 : FT (upd H4 sp (.frz o (.tup [intV c]))) sp [intV c] := FT.new dsp
        generalize upd H4 sp (.frz o (.tup [intV c])) = H5 at s5 f5 ⊢
        refine ⟨.ref p, sp, S, b, c, rfl, st1.mono ((s3.trans s4).trans s5).tups, f5, hG, hbr, hc, fun H6 l xs s6 nl hl pl => ?_⟩
        have s36 := (s4.trans s5).trans s6
        have h6 := s36 _ _ h3
        have hv : moT.at H6 (.ref kp) (4 * b + c) := ⟨kp, rfl, by
          rw [s6 _ _ (s5 _ _ h4)]
          show some (HO.tup [intV b, intV c]) = some (HO.tup [.int (((4 * b + c) / 4 : Nat) : Int), .int (((4 * b + c) % 4 : Nat) : Int)])
          rw [show (4 * b + c) / 4 = b by omega, show (4 * b + c) % 4 = c by omega]
          rfl⟩
        have kN : ∀ q ∈ kvs, q.1 < 64 := fun q hq => by
          have : q.1 ∈ List.range (4 * b + c) := by
            rw [← k3]
            exact List.mem_map_of_mem hq
          rw [List.mem_range] at this
          omega
        have lk : kvs.length = 4 * b + c := by
          have := congrArg List.length k3
          rw [List.length_map, List.length_range] at this
          exact this
        have nb : valV kvs (4 * b + c) = none := by
          cases e : valV kvs (4 * b + c) with
          | none => rfl
          | some v =>
            have := valV_in e
            rw [k3, List.mem_range] at this
            omega
        have put := Mo.put (M := moT) (N := 64) (x := .ref l) (moT_inj 64) h6 hv kN (by omega) (small1000 (by omega))
        rw [putK_new _ nb] at put
        have kt := tupK_dic (M := moT) (o := moT.obj (kvs ++ [(4 * b + c, .ref l)])) h6
        have keep : ∀ (a : Addr) ys, H6 a = some (.lst ys) → (upd H6 D (moT.obj (kvs ++ [(4 * b + c, .ref l)]))) a = some (.lst ys) := fun a ys z => by
          rw [upd_ne (ne_of z h6 fun y => moT.obj_lst _ _ y.symm)]
          exact z
        refine ⟨_, put, kvs ++ [(4 * b + c, .ref l)], upd_same, ?_, ?_, same_fill (s3.trans s36) nD⟩
        · rw [List.map_append, k3]
          show _ = List.range ((4 * b + c) + 1)
          rw [List.range_succ]
          rfl
        · intro q hq
          rcases List.mem_append.mp hq with hq | hq
          · obtain ⟨a, vs, e1, e2, e3⟩ := l3 q hq
            exact ⟨a, vs, e1, keep a vs (s36 _ _ e2), pmono e3 fun _ _ z => z.mono (s36.tupK.trans kt)⟩
          · obtain rfl := List.mem_singleton.mp hq
            refine ⟨l, xs, rfl, keep l xs hl, ?_⟩
            show Paired _ xs (metL S ((4 * b + c) / 4) ((4 * b + c) % 4) 4)
            rw [show (4 * b + c) / 4 = b by omega, show (4 * b + c) % 4 = c by omega]
            exact pmono pl fun _ _ z => z.mono kt
      · rintro H3 hI
        exact hI
    · rintro H2 ⟨kvs, h2', k2, l2, s2⟩
      rw [Int.toNat_natCast, lrs] at k2
      refine ⟨D, List.range (4 * S.length), lkC S, rfl, ⟨kvs, h2', k2, l2⟩, List.nodup_range, List.pairwise_le_range, fun n hn => by rw [List.mem_range] at hn; omega, by rw [List.length_range]; omega, fun n _ m hm => List.mem_range.mpr (lkC_lt hG hm), fun n m hm => lkC_symm hG hm, fun H' l s' hr => ?_⟩
      exact q H' l ((s1.trans s2).trans s') (hr.early (s1.trans s2))
end
end Bk

namespace Bk
/-! marks that go down until nothing changes -/
def mkStep (m : Nat → Nat) (p : Nat × Nat) : Nat → Nat := if m p.1 < m p.2 then fun n => if n = p.2 then m p.1 else m n else m
structure MkOk (r : Nat → Nat → Prop) (N : Nat) (m : Nat → Nat) : Prop where
  le : ∀ n, n < N → m n ≤ n
  hg : ∀ n, n < N → Hang r n (m n)
theorem MkOk.start (r : Nat → Nat → Prop) (N : Nat) : MkOk r N id := ⟨fun _ _ => Nat.le_refl _, fun n _ => .rfl n⟩
theorem MkOk.step {r : Nat → Nat → Prop} {N : Nat} {m : Nat → Nat} (h : MkOk r N m) {a b : Nat} (ha : a < N) (hr : r b a) : MkOk r N (mkStep m (a, b)) := by
  unfold mkStep
  split
  · rename_i lt
    refine ⟨fun n hn => ?_, fun n hn => ?_⟩
    · show (if n = b then m a else m n) ≤ n
      split
      · rename_i e
        subst e
        exact Nat.le_of_lt (Nat.lt_of_lt_of_le lt (h.le n hn))
      · exact h.le n hn
    · show Hang r n (if n = b then m a else m n)
      split
      · rename_i e
        subst e
        exact (Hang.one hr).trans (h.hg a ha)
      · exact h.hg n hn
  · exact h
def mkSum (N : Nat) (m : Nat → Nat) : Nat := ((List.range N).map m).sum
theorem mkSum_succ (N : Nat) (m : Nat → Nat) : mkSum (N + 1) m = mkSum N m + m N := by
  unfold mkSum
  rw [List.range_succ, List.map_append, List.sum_append]
  simp
theorem mkSum_le {m m' : Nat → Nat} : ∀ N, (∀ n, n < N → m' n ≤ m n) → mkSum N m' ≤ mkSum N m
  | 0, _ => Nat.le_refl _
  | N + 1, h => by
    rw [mkSum_succ, mkSum_succ]
    exact Nat.add_le_add (mkSum_le N fun n hn => h n (by omega)) (h N (by omega))
theorem mkSum_lt {m m' : Nat → Nat} : ∀ N, (∀ n, n < N → m' n ≤ m n) → (∃ b, b < N ∧ m' b < m b) → mkSum N m' < mkSum N m
  | 0, _, ⟨_, h, _⟩ => by omega
  | N + 1, h, ⟨b, hb, lt⟩ => by
    rw [mkSum_succ, mkSum_succ]
    by_cases e : b = N
    · subst e
      exact Nat.add_lt_add_of_le_of_lt (mkSum_le b fun n hn => h n (by omega)) lt
    · exact Nat.add_lt_add_of_lt_of_le (mkSum_lt N (fun n hn => h n (by omega)) ⟨b, by omega, lt⟩) (h N (by omega))
/-- within a pass over some pairs: m0 as it began, ps those that are done -/
structure MkPass (r : Nat → Nat → Prop) (N : Nat) (m0 : Nat → Nat) (ps : List (Nat × Nat)) (m : Nat → Nat) (again : Bool) : Prop where
  ok : MkOk r N m
  no : again = false → m = m0 ∧ ∀ p ∈ ps, ¬ m p.1 < m p.2
  yes : again = true → mkSum N m < mkSum N m0
theorem MkPass.start {r : Nat → Nat → Prop} {N : Nat} {m0 : Nat → Nat} (h : MkOk r N m0) : MkPass r N m0 [] m0 false :=
  ⟨h, fun _ => ⟨rfl, fun _ z => nomatch z⟩, fun z => nomatch z⟩
theorem MkPass.put {r : Nat → Nat → Prop} {N : Nat} {m0 m : Nat → Nat} {ps : List (Nat × Nat)} {again : Bool} (h : MkPass r N m0 ps m again) {a b : Nat} (ha : a < N) (hb : b < N) (hr : r b a) (lt : m a < m b) :
    MkPass r N m0 (ps ++ [(a, b)]) (fun n => if n = b then m a else m n) true := by
  have o := h.ok.step ha hr
  unfold mkStep at o
  rw [if_pos lt] at o
  refine ⟨o, (fun z => nomatch z), fun _ => ?_⟩
  have l1 : mkSum N (fun n => if n = b then m a else m n) < mkSum N m := by
    refine mkSum_lt N (fun n _ => ?_) ⟨b, hb, ?_⟩
    · show (if n = b then m a else m n) ≤ m n
      split
      · rename_i e
        rw [e]
        exact Nat.le_of_lt lt
      · exact Nat.le_refl _
    · show (if b = b then m a else m b) < m b
      rw [if_pos rfl]
      exact lt
  cases e : again with
  | true => exact Nat.lt_trans l1 (h.yes e)
  | false =>
    rw [← (h.no e).1]
    exact l1
theorem MkPass.keep {r : Nat → Nat → Prop} {N : Nat} {m0 m : Nat → Nat} {ps : List (Nat × Nat)} {again : Bool} (h : MkPass r N m0 ps m again) {a b : Nat} (nl : ¬ m a < m b) : MkPass r N m0 (ps ++ [(a, b)]) m again :=
  ⟨h.ok, fun e => ⟨(h.no e).1, fun p hp => (List.mem_append.mp hp).elim ((h.no e).2 p) fun z => by
    rw [List.mem_singleton.mp z]
    exact nl⟩, h.yes⟩
/-- nothing changes any more -/
structure MkEnd (r : Nat → Nat → Prop) (N : Nat) (m : Nat → Nat) : Prop where
  ok : MkOk r N m
  fix : ∀ a b, r a b → m a = m b
theorem MkPass.fin {r : Nat → Nat → Prop} {N : Nat} {m0 m : Nat → Nat} {ps : List (Nat × Nat)} (h : MkPass r N m0 ps m false) (hs : ∀ a b, r a b → (a, b) ∈ ps ∧ (b, a) ∈ ps) : MkEnd r N m :=
  ⟨h.ok, fun a b hr => by
    have h1 := (h.no rfl).2 _ (hs a b hr).1
    have h2 := (h.no rfl).2 _ (hs a b hr).2
    have h1 : ¬ m a < m b := h1
    have h2 : ¬ m b < m a := h2
    omega⟩
theorem MkEnd.hang {r : Nat → Nat → Prop} {N : Nat} {m : Nat → Nat} (h : MkEnd r N m) {x y : Nat} (k : Hang r x y) : m x = m y := by
  induction k with
  | rfl => rfl
  | step _ s ih => exact ih.trans (h.fix _ _ s)
theorem MkEnd.iff {r : Nat → Nat → Prop} {N : Nat} {m : Nat → Nat} (h : MkEnd r N m) (hr : ∀ x y, r x y → r y x) {x y : Nat} (hx : x < N) (hy : y < N) : m x = m y ↔ Hang r x y :=
  ⟨fun e => (h.ok.hg x hx).trans (e ▸ (h.ok.hg y hy).symm hr), fun k => h.hang k⟩
theorem MkEnd.idem {r : Nat → Nat → Prop} {N : Nat} {m : Nat → Nat} (h : MkEnd r N m) {x : Nat} (hx : x < N) : m (m x) = m x := (h.hang (h.ok.hg x hx)).symm
theorem MkEnd.firsts {r : Nat → Nat → Prop} {N : Nat} {m : Nat → Nat} (h : MkEnd r N m) (hr : ∀ x y, r x y → r y x) : ∀ k, k ≤ N → fstE (hangB r) (List.range k) = (List.range k).filter fun x => decide (m x = x)
  | 0, _ => rfl
  | k + 1, hk => by
    rw [List.range_succ, fstE_snoc, h.firsts hr k (by omega), List.filter_append]
    by_cases c : m k = k
    · rw [if_neg, List.filter_cons, if_pos (decide_eq_true c), List.filter_nil]
      rw [List.any_eq_true]
      rintro ⟨y, hy, e⟩
      rw [List.mem_filter, List.mem_range, decide_eq_true_eq] at hy
      have := h.hang (hangB_iff.mp e)
      omega
    · have lt := h.ok.le k (by omega)
      rw [if_pos, List.filter_cons, if_neg (fun z => c (of_decide_eq_true z)), List.filter_nil, List.append_nil]
      rw [List.any_eq_true]
      refine ⟨m k, ?_, hangB_iff.mpr ((h.ok.hg k (by omega)).symm hr)⟩
      rw [List.mem_filter, List.mem_range, decide_eq_true_eq]
      exact ⟨by omega, h.idem (by omega)⟩
theorem sorted_ext : ∀ {l l' : List Nat}, l.Pairwise (· < ·) → l'.Pairwise (· < ·) → (∀ x, x ∈ l ↔ x ∈ l') → l = l'
  | [], [], _, _, _ => rfl
  | [], b :: _, _, _, h => absurd ((h b).mpr List.mem_cons_self) List.not_mem_nil
  | a :: _, [], _, _, h => absurd ((h a).mp List.mem_cons_self) List.not_mem_nil
  | a :: l, b :: l', h1, h2, h => by
    rw [List.pairwise_cons] at h1 h2
    have e : a = b := by
      rcases List.mem_cons.mp ((h a).mp List.mem_cons_self) with e | e
      · exact e
      · rcases List.mem_cons.mp ((h b).mpr List.mem_cons_self) with e2 | e2
        · exact e2.symm
        · have := h1.1 b e2
          have := h2.1 a e
          omega
    subst e
    rw [sorted_ext h1.2 h2.2 fun x => ⟨fun z => ?_, fun z => ?_⟩]
    · rcases List.mem_cons.mp ((h x).mp (List.mem_cons_of_mem _ z)) with e | e
      · have := h1.1 x z
        omega
      · exact e
    · rcases List.mem_cons.mp ((h x).mpr (List.mem_cons_of_mem _ z)) with e | e
      · have := h2.1 x z
        omega
      · exact e
theorem MkEnd.list {r : Nat → Nat → Prop} {N : Nat} {m : Nat → Nat} (h : MkEnd r N m) (hr : ∀ x y, r x y → r y x) {L : List Nat} (hs : L.Pairwise (· < ·)) (hm : ∀ x, x ∈ L ↔ ∃ n, n < N ∧ m n = x) : L = fstE (hangB r) (List.range N) := by
  rw [h.firsts hr N (Nat.le_refl _)]
  refine sorted_ext hs (List.Pairwise.filter _ List.pairwise_lt_range) fun x => ?_
  rw [hm, List.mem_filter, List.mem_range, decide_eq_true_eq]
  constructor
  · rintro ⟨n, hn, rfl⟩
    exact ⟨Nat.lt_of_le_of_lt (h.ok.le n hn) hn, h.idem hn⟩
  · rintro ⟨h1, h2⟩
    exact ⟨x, h1, h2⟩
theorem MkEnd.row {r : Nat → Nat → Prop} {N : Nat} {m : Nat → Nat} (h : MkEnd r N m) (hr : ∀ x y, r x y → r y x) {x : Nat} (hx : x ∈ fstE (hangB r) (List.range N)) : ((List.range N).filter fun n => decide (m n = x)) = (List.range N).filter (hangB r x) := by
  rw [h.firsts hr N (Nat.le_refl _), List.mem_filter, List.mem_range, decide_eq_true_eq] at hx
  refine List.filter_congr fun n hn => ?_
  rw [List.mem_range] at hn
  refine bool_ext ?_
  rw [decide_eq_true_eq, hangB_iff, ← h.iff hr hx.1 hn, hx.2]
  exact ⟨Eq.symm, Eq.symm⟩
end Bk

namespace Bk
open PySem PySem.Spec PyProof.Rows L2 RZ
local macro_rules | `(tactic| walk_at "g") => `(tactic| (repeat first | refine ⟨_, rfl, ?_⟩ | refine ⟨cpow, ?_⟩ | refine ⟨_, _, rfl, rfl, ?_⟩ | refine ⟨rfl, ?_⟩))
theorem walk_its {c : Cl} {vs : List Nat} {u : L2.St → Hp → (Hp → Prop) → Prop} {J : It} {n : Nat} {G : Hp → Prop} {Y : Nat → Hp → V → Hp → Prop} {σ : L2.St} {H0 : Hp} {Done : Hp → Prop} (W : Walk J n G Y) (Pv : Nat → Hp → Prop) (h0 : Pv 0 H0) (hG : ∀ i H, i ≤ n → Pv i H → G H)
    (hs : ∀ i x H H', i < n → Pv i H → Y i H x H' → c.g x (wipe σ vs) H' fun σ2 H2 => wipe σ2 vs = wipe σ vs ∧ c.tt σ2 H2 fun b H3 => if b = true then u σ2 H3 (Pv (i + 1)) else Pv (i + 1) H3) (hd : ∀ H, Pv n H → Done H) : tWalk c vs u J σ H0 Done := by
  refine ⟨fun i m H => m = n - i ∧ i ≤ n ∧ Pv i H, ⟨n, rfl, Nat.zero_le _, h0⟩, ?_⟩
  rintro i m H ⟨rfl, hi, p⟩
  have q := hG i H hi p
  by_cases lt : i < n
  · refine .inr ⟨W.goes i H lt q, Pv (i + 1), fun H' p' => ⟨n - (i + 1), by omega, rfl, lt, p'⟩, fun x H' y => hs i x H H' lt p (W.yields i H x H' lt q y)⟩
  · obtain rfl : i = n := by omega
    exact .inl ⟨W.stops H q, hd H p⟩
theorem walk_itsE {c : Cl} {vs : List Nat} {u : L2.St → Hp → (Hp → Prop) → Prop} {J : It} {n : Nat} {G : Hp → Prop} {Y : Nat → Hp → V → Hp → Prop} {σ τ : L2.St} {H0 : Hp} {Done : Hp → Prop} (W : Walk J n G Y) (e : wipe σ vs = τ) (Pv : Nat → Hp → Prop) (h0 : Pv 0 H0) (hG : ∀ i H, i ≤ n → Pv i H → G H)
    (hs : ∀ i x H H', i < n → Pv i H → Y i H x H' → c.g x τ H' fun σ2 H2 => wipe σ2 vs = τ ∧ c.tt σ2 H2 fun b H3 => if b = true then u σ2 H3 (Pv (i + 1)) else Pv (i + 1) H3) (hd : ∀ H, Pv n H → Done H) : tWalk c vs u J σ H0 Done := by
  subst e
  exact walk_its W Pv h0 hG hs hd
theorem walk_rangeE {c : Cl} {vs : List Nat} {u : L2.St → Hp → (Hp → Prop) → Prop} {lo : Int} {n : Nat} {σ τ : L2.St} {H0 : Hp} {Done : Hp → Prop} (e : wipe σ vs = τ) (Pv : Nat → Hp → Prop) (h0 : Pv 0 H0)
    (hs : ∀ i H, i < n → Pv i H → c.g (.int (lo + i)) τ H fun σ2 H2 => wipe σ2 vs = τ ∧ c.tt σ2 H2 fun b H3 => if b = true then u σ2 H3 (Pv (i + 1)) else Pv (i + 1) H3) (hd : ∀ H, Pv n H → Done H) : tWalk c vs u (Itr lo n) σ H0 Done := by
  subst e
  exact walk_range Pv h0 hs hd
section
variable {X : Cx} {ctx : CXT} {k : Nat} {f : Addr} {fd : FuncData} {ps : List Str} {sp : Sp} {E : XK} {x : Str} {p pos : Pos} {e : Expr} {es : List Expr} {t : TA} {ds : List Value} {dvs : List V}
/-- x(e, *y) -/
theorem pe_callSt (F : FnOk X.prog X.w X.K X.mg X.base ctx k f fd ps sp) (hr : Room k X.A) (hg : Gl X x) (hm : X.mg x = some (.ref f)) (hk : PySem.W.keepIn X.K (.ref f) = true) (hb : Binds X.K fd ps ds) (hd : Vals dvs ds) (hx : Passes ctx X E)
    (ha : PA X (e :: es) t) (hdb : (x == ("__debug__" : Str)) = false := by decide) (he : starEach (e :: es) X.env = (false, eval e X.env) :: starEach es X.env := by rfl) (hst : (backTo pos (starEach es X.env)).any (·.1) = true := by rfl) :
    PE X (.Call (.Name x p) (e :: es) [] pos) (tCall sp dvs E t) := by
  refine ⟨fun pins s σ H Q I h => ?_⟩
  refine wpAny_Call_Name_kw (ld_glob I hg hm ?_ hdb)
  refine PySem.W.callWith_S2 (h₀ := X.base) I.ok.mod.kin hk (thn (ha.run pos pins s σ H _ I h) fun us s1 ⟨vs, H1, I1, r, q⟩ => ⟨I1.kIn, ?_⟩) he hst
  exact run_fn F hr hb hd hx I1 r q
end
theorem kSt {X : Cx} (K : PySem.W.Frag) {e : Expr} {es : List Expr} {te : TE} {t : TA} {p : Pos} (h : X.K = K) (he : PE X e te) (hr : PA X es t) (hs : starEach (.Starred e p :: es) X.env = (true, eval e X.env) :: starEach es X.env := by rfl) : PA X (.Starred e p :: es) (StX.tStar K te t) := h ▸ StX.pa_star he hr hs
abbrev Tri := Nat × Nat × Nat
def triV (x : Tri) : List V := [intV x.1, intV x.2.1, intV x.2.2]
def TriAt (H : Hp) (p : Addr) (x : Tri) : Prop := H p = some (.tup (triV x))
def MtAt (H : Hp) (v : V) (x : Tri × Tri) : Prop := ∃ a p q, v = .ref a ∧ H a = some (.tup [.ref p, .ref q]) ∧ TriAt H p x.1 ∧ TriAt H q x.2
theorem MtAt.mono {H H' : Hp} {v : V} {x : Tri × Tri} (h : MtAt H v x) (m : TupK H H') : MtAt H' v x := by
  obtain ⟨a, p, q, rfl, h1, h2, h3⟩ := h
  exact ⟨a, p, q, rfl, m _ _ h1, m _ _ h2, m _ _ h3⟩
def mtC (b f n : Nat) (t : Trn) (m : Nat) : List (Tri × Tri) := ((List.range m).filter fun c => decide (c ≠ f)).map fun c => ((b, f, c), (n, tf t f, tf t c))
def mtJ (b f : Nat) : Jn → List (Tri × Tri)
  | none => []
  | some (n, t) => mtC b f n t 4
def mtF (S : Spc) (b m : Nat) : List (Tri × Tri) := (List.range m).flatMap fun f => mtJ b f ((getJ S b f).getD none)
def mtL (S : Spc) (m : Nat) : List (Tri × Tri) := (List.range m).flatMap fun b => mtF S b 4
theorem mtC_succ (b f n : Nat) (t : Trn) (m : Nat) : mtC b f n t (m + 1) = mtC b f n t m ++ (if m ≠ f then [((b, f, m), (n, tf t f, tf t m))] else []) := by
  unfold mtC
  rw [List.range_succ, List.filter_append, List.map_append, List.filter_cons, List.filter_nil]
  by_cases c : m ≠ f
  · rw [if_pos c, if_pos (decide_eq_true c)]
    rfl
  · rw [if_neg c, if_neg (fun z => c (of_decide_eq_true z))]
    rfl
theorem mtF_succ (S : Spc) (b m : Nat) : mtF S b (m + 1) = mtF S b m ++ mtJ b m ((getJ S b m).getD none) := by
  unfold mtF
  rw [List.range_succ, List.flatMap_append, List.flatMap_singleton]
theorem mtL_succ (S : Spc) (m : Nat) : mtL S (m + 1) = mtL S m ++ mtF S m 4 := by
  unfold mtL
  rw [List.range_succ, List.flatMap_append, List.flatMap_singleton]
theorem mtC_len (b f n : Nat) (t : Trn) (m : Nat) : (mtC b f n t m).length ≤ m := by
  unfold mtC
  rw [List.length_map]
  refine Nat.le_trans (List.length_filter_le _ _) ?_
  rw [List.length_range]
  exact Nat.le_refl _
theorem mtF_len (S : Spc) (b : Nat) : ∀ m, (mtF S b m).length ≤ 4 * m
  | 0 => Nat.le_refl _
  | m + 1 => by
    have := mtF_len S b m
    rw [mtF_succ, List.length_append]
    have : (mtJ b m ((getJ S b m).getD none)).length ≤ 4 := by
      cases (getJ S b m).getD none with
      | none => exact Nat.zero_le _
      | some k => exact mtC_len _ _ _ _ _
    omega
theorem mtL_len (S : Spc) : ∀ m, (mtL S m).length ≤ 16 * m
  | 0 => Nat.le_refl _
  | m + 1 => by
    have := mtL_len S m
    have := mtF_len S m 4
    rw [mtL_succ, List.length_append]
    omega
theorem mtL_mem {S : Spc} {m : Nat} {x : Tri × Tri} (h : x ∈ mtL S m) : ∃ b f n t c, b < m ∧ f < 4 ∧ getJ S b f = some (some (n, t)) ∧ c < 4 ∧ c ≠ f ∧ x = ((b, f, c), (n, tf t f, tf t c)) := by
  unfold mtL at h
  rw [List.mem_flatMap] at h
  obtain ⟨b, hb, h⟩ := h
  rw [List.mem_range] at hb
  unfold mtF at h
  rw [List.mem_flatMap] at h
  obtain ⟨f, hf, h⟩ := h
  rw [List.mem_range] at hf
  cases e : getJ S b f with
  | none =>
    rw [e] at h
    cases h
  | some j =>
    rw [e] at h
    cases j with
    | none => cases h
    | some k =>
      have h : x ∈ mtC b f k.1 k.2 4 := h
      unfold mtC at h
      rw [List.mem_map] at h
      obtain ⟨c, hc, rfl⟩ := h
      rw [List.mem_filter, List.mem_range, decide_eq_true_eq] at hc
      exact ⟨b, f, k.1, k.2, c, hb, hf, e, hc.1, hc.2, rfl⟩
section
variable {P : Program} {w : World} {K : PySem.W.Frag} {mg : Str → Option Value} {base : Heap}
abbrev smeetings_of : Stmt := topS 26
abbrev Nmeetings_of : List Str := ["space", "block", "faces", "face", "joining", "corner"]
theorem scmeetings_of : FnScope Nmeetings_of ["space"] (defScope smeetings_of) := ⟨rfl, rfl, rfl, by decide +kernel, rfl, by decide +kernel, by decide +kernel⟩
def spMeet : Sp := fun vs H Q _ => ∃ (v : V) (S : Spc), vs = [v] ∧ ST H v S ∧ Good S ∧ S.length ≤ 16 ∧ ∀ H' l xs, Same H H' → H l = none → H' l = some (.lst xs) → Paired (MtAt H') xs (mtL S S.length) → Q (.ref l) H'
theorem okmeetings_of {f : Addr} {fd : FuncData} (F : Fun K "meetings_of" "meetings_of" smeetings_of f fd) (m_enumerate : mg "enumerate" = none) (m_range : mg "range" = none) : FnOk P w K mg base CX0 1 f fd ["space"] spMeet := by
  refine F.ok scmeetings_of (fun vs H Q E h => ?_) (fun cdv A outer s H vs Q E hr h => ?_)
  · obtain ⟨v, S, rfl, _⟩ := h
    rfl
  · obtain ⟨v, S, rfl, hst, hG, hl, q⟩ := h
    have nd := scmeetings_of.nd
    refine ⟨_, (pss_one (ps_ret (pe_lcN (own := [("block", 1), ("faces", 2), ("face", 3), ("joining", 4), ("corner", 5)]) (c := ⟨[], _, _, _, _, _, _⟩) (cs := [⟨[3, 4, 5], _, _, _, _, _, _⟩, ⟨[5], _, _, _, _, _, _⟩]) rfl nd (kPiET K rfl (pi_enumT (by rfl) m_enumerate (pa_cons (pv 0) pa_nil))) (blkOk_by (own := [("block", 1), ("faces", 2), ("face", 3), ("joining", 4), ("corner", 5)]) (N := Nmeetings_of) (sc := defScope smeetings_of) (by decide +kernel)) (by simp [headVs]) (by simp [Nested, headVs]) (fun _ _ _ _ _ => ⟨(kPgT K rfl (pg_tup (n := 2) rfl (pgs_cons (pg_name (i := 1) nd rfl (Or.inl rfl)) (pgs_cons (pg_name (i := 2) nd rfl (Or.inl rfl)) pgs_nil)))), pts_nil, (oks_cons (kPiET K rfl (pi_enumT (by rfl) m_enumerate (pa_cons (pv 2) pa_nil))) (kPgT K rfl (pg_tup (n := 2) rfl (pgs_cons (pg_name (i := 3) nd rfl (Or.inl rfl)) (pgs_cons (pg_name (i := 4) nd rfl (Or.inl rfl)) pgs_nil)))) (pts_one (pt_cmpR op_notN (pv 4) pe_non (nomark _))) (oks_cons (pi_range1 (by rfl) m_range (pa_cons pe_int pa_nil)) (pg_name (i := 5) nd rfl (Or.inl rfl)) (pts_one (pt_cmpR op_ne (pv 5) (pv 3) (nomark _))) oks_nil)), (pe_tup (pa_cons (pe_tup (pa_cons (pv 1) (pa_cons (pv 3) (pa_cons (pv 5) pa_nil)))) (pa_cons (pe_tup (pa_cons (pe_ix (kIxT K rfl) (pv 4) pe_int (fun _ _ => rfl)) (pa_cons (pe_ix (kIxT K rfl) (pe_ix (kIxT K rfl) (pv 4) pe_int (fun _ _ => rfl)) (pv 3) (fun _ _ => rfl)) (pa_cons (pe_ix (kIxT K rfl) (pe_ix (kIxT K rfl) (pv 4) pe_int (fun _ _ => rfl)) (pv 5) (fun _ _ => rfl)) pa_nil)))) pa_nil)))⟩) (by intro _; rfl) (fold_cons (by intro _ _; rfl) (fold_cons (by intro _ _; rfl) fold_nil))))), ?_⟩
    obtain ⟨p, rs, rfl, fp, hbs⟩ := id hst
    have lrs := plen hbs
    refine ⟨.ref p, rfl, p, rs, rfl, fp.sqt, fun D nD => ?_⟩
    let Pv : List (Tri × Tri) → Hp → Prop := fun L H1 => ∃ xs, H1 D = some (.lst xs) ∧ Paired (MtAt H1) xs L ∧ Same H H1
    refine walk_itsE (τ := [some (.ref p), none, none, none, none, none]) walk_enumT rfl (fun b H1 => Pv (mtL S b) H1) ⟨[], upd_same, .nil, same_new nD⟩ (fun i H1 _ ⟨_, _, _, s1⟩ => (fp.mono s1.tups).sqt) ?_ ?_
    · rintro b v H1 H2 hb ⟨xs, h1, p1, s1⟩ ⟨T, y, z, rfl, nT, rfl, hy, hz⟩
      obtain rfl : intV b = y := Option.some.inj hy
      obtain ⟨row, hrow, p', vs, ev, fv, pv⟩ := pget' hbs hz
      have s2 : Same H1 (upd H1 T (.tup [intV b, z])) := same_new nT
      have I0 : Pv (mtL S b ++ mtF S b 0) (upd H1 T (.tup [intV b, z])) := ⟨xs, s2 _ _ h1, by
        rw [show mtF S b 0 = [] from rfl, List.append_nil]
        exact pmono p1 fun _ _ q => q.mono s2.tupK, s1.trans s2⟩
      have hT : SqT K (upd H1 T (.tup [intV b, z])) T [intV b, z] := .inl (.inl upd_same)
      have sI : Same H (upd H1 T (.tup [intV b, z])) := s1.trans s2
      generalize upd H1 T (.tup [intV b, z]) = H3 at I0 hT sI ⊢
      subst ev
      have fp2 : ∀ {H'}, Same H H' → FT H' p' vs := fun s => fv.mono s.tups
      have lvs := plen pv
      have hb4 : row.length = 4 := hG.l4 row (List.mem_of_getElem? hrow)
      refine ⟨T, [intV b, .ref p'], rfl, hT, rfl, ?_⟩
      refine ⟨intV b, [.ref p'], rfl, .ref p', [], rfl, rfl, ?_⟩
      refine ⟨rfl, ?_⟩
      refine ⟨.ref p', rfl, ?_⟩
      refine ⟨p', vs, rfl, (fp2 sI).sqt, ?_⟩
      refine walk_itsE (τ := [some (.ref p), some (intV b), some (.ref p'), none, none, none]) walk_enumT rfl (fun f H1 => Pv (mtL S b ++ mtF S b f) H1) I0 (fun i H1 _ ⟨_, _, _, s1⟩ => (fp2 s1).sqt) ?_ ?_
      · rintro f v H1 H2 hf ⟨xs, h1, p1, s1⟩ ⟨T, y, z, rfl, nT, rfl, hy, hz⟩
        obtain rfl : intV f = y := Option.some.inj hy
        obtain ⟨j, hj, ja⟩ := pget' pv hz
        have gj : getJ S b f = some j := by
          unfold getJ
          rw [hrow]
          exact hj
        have s2 : Same H1 (upd H1 T (.tup [intV f, z])) := same_new nT
        have I1 : Pv (mtL S b ++ mtF S b f) (upd H1 T (.tup [intV f, z])) := ⟨xs, s2 _ _ h1, pmono p1 fun _ _ q => q.mono s2.tupK, s1.trans s2⟩
        have hT : SqT K (upd H1 T (.tup [intV f, z])) T [intV f, z] := .inl (.inl upd_same)
        have ja2 := ja.mono (s1.trans s2).tups
        generalize upd H1 T (.tup [intV f, z]) = H3 at I1 hT ja2 ⊢
        refine ⟨T, [intV f, z], rfl, hT, rfl, ?_⟩
        refine ⟨intV f, [z], rfl, z, [], rfl, rfl, ?_⟩
        refine ⟨rfl, ?_⟩
        refine ⟨z, rfl, rfl, _, rfl, ?_⟩
        rw [ja2.isN]
        have mf : mtF S b (f + 1) = mtF S b f ++ mtJ b f j := by
          rw [mtF_succ, gj]
          rfl
        cases j with
        | none =>
          refine iteF ?_
          show Pv (mtL S b ++ mtF S b (f + 1)) H3
          rw [mf]
          show Pv (mtL S b ++ (mtF S b f ++ [])) H3
          rw [List.append_nil]
          exact I1
        | some k =>
          obtain ⟨n, t⟩ := k
          obtain ⟨pj, pq, rfl, f1, f2⟩ := ja
          refine iteT ?_
          refine ⟨4, rfl, by decide, by decide, ?_⟩
          have lL := mtL_len S b
          have lF := mtF_len S b f
          have bl : b < S.length := by rw [← lrs]; exact hb
          have f4 : f < 4 := by omega
          have ht1 := (hG.both _ _ _ _ gj).1
          have I2 : Pv (mtL S b ++ mtF S b f ++ mtC b f n t 0) H3 := by
            rw [show mtC b f n t 0 = [] from rfl, List.append_nil]
            exact I1
          refine walk_rangeE (lo := 0) (n := 4) (τ := [some (.ref p), some (intV b), some (.ref p'), some (intV f), some (.ref pj), none]) rfl (fun c H1 => Pv (mtL S b ++ mtF S b f ++ mtC b f n t c) H1) I2 ?_ ?_
          · rintro c H1 hc ⟨xs, h1, p1, s1⟩
            rw [Int.zero_add]
            refine ⟨rfl, .int (c : Int), rfl, intV f, rfl, rfl, _, rfl, ?_⟩
            have ce : (!decide (V.int (c : Int) = intV f)) = decide (c ≠ f) := by
              by_cases z : c = f
              · rw [z, decide_eq_true (show V.int ((f : Nat) : Int) = intV f from rfl), decide_eq_false (fun k => k rfl)]
                rfl
              · rw [decide_eq_true z, decide_eq_false (fun k => z (by injection k with k; omega))]
                rfl
            rw [ce]
            have mc := mtC_succ b f n t c
            by_cases cf : c ≠ f
            · rw [decide_eq_true cf]
              rw [if_pos cf] at mc
              refine iteT ?_
              have htf := tf_lt t ht1 f f4
              have htc := tf_lt t ht1 c hc
              refine ⟨intV b, rfl, intV f, rfl, .int (c : Int), rfl, Nat.le_of_lt (small1000 (by show 3 ≤ 1000; decide)), fun k1 n1 => ?_⟩
              have s5 : Same H1 (upd H1 k1 (.tup (triV (b, f, c)))) := same_new n1
              have t5 : TriAt (upd H1 k1 (.tup (triV (b, f, c)))) k1 (b, f, c) := upd_same
              show (fun x H2 => tCons (tTup (tCons (tOp (rIxT K) (tVar 4) (tC (V.int 0))) (tCons (tOp (rIxT K) (tOp (rIxT K) (tVar 4) (tC (V.int 1))) (tVar 3)) (tCons (tOp (rIxT K) (tOp (rIxT K) (tVar 4) (tC (V.int 1))) (tVar 5)) tNil)))) tNil _ H2 _) (V.ref k1) (upd H1 k1 (.tup (triV (b, f, c))))
              generalize upd H1 k1 (.tup (triV (b, f, c))) = H5 at s5 t5 ⊢
              have s35 := s1.trans s5
              have g1 := (f1.mono s35.tups).sqt (K := K)
              have g2 := (f2.mono s35.tups).sqt (K := K)
              refine ⟨.ref pj, rfl, pj, [intV n, .ref pq], 0, intV n, rfl, rfl, g1, rfl, ?_⟩
              refine ⟨.ref pj, rfl, pj, [intV n, .ref pq], 1, .ref pq, rfl, rfl, g1, rfl, intV f, rfl, pq, trnV t, f, intV (tf t f), rfl, rfl, g2, atI_nat (by unfold trnV; rw [List.getElem?_map, htf.2]; rfl), ?_⟩
              refine ⟨.ref pj, rfl, pj, [intV n, .ref pq], 1, .ref pq, rfl, rfl, g1, rfl, .int (c : Int), rfl, pq, trnV t, c, intV (tf t c), rfl, rfl, g2, atI_nat (by unfold trnV; rw [List.getElem?_map, htc.2]; rfl), ?_⟩
              refine ⟨Nat.le_of_lt (small1000 (by show 3 ≤ 1000; decide)), fun k2 n2 => ?_⟩
              have s6 : Same H5 (upd H5 k2 (.tup (triV (n, tf t f, tf t c)))) := same_new n2
              have t6 : TriAt (upd H5 k2 (.tup (triV (n, tf t f, tf t c)))) k2 (n, tf t f, tf t c) := upd_same
              show (fun (x : V) (H1 : Hp) => [V.ref k1, x].length ≤ sizeLine ∧ ∀ (p : Addr), H1 p = none → ∃ acc, (upd H1 p (HO.tup [V.ref k1, x])) D = some (HO.lst acc) ∧ acc.length < sizeLine ∧ Pv (mtL S b ++ mtF S b f ++ mtC b f n t (c + 1)) (upd (upd H1 p (HO.tup [V.ref k1, x])) D (HO.lst (acc ++ [V.ref p])))) (V.ref k2) (upd H5 k2 (.tup (triV (n, tf t f, tf t c))))
              generalize upd H5 k2 (.tup (triV (n, tf t f, tf t c))) = H6 at s6 t6 ⊢
              refine ⟨Nat.le_of_lt (small1000 (by show 2 ≤ 1000; decide)), fun a na => ?_⟩
              have s7 : Same H6 (upd H6 a (HO.tup [.ref k1, .ref k2])) := same_new na
              have t7 : MtAt (upd H6 a (HO.tup [.ref k1, .ref k2])) (.ref a) ((b, f, c), (n, tf t f, tf t c)) := ⟨a, k1, k2, rfl, upd_same, s7.tupK _ _ (s6.tupK _ _ t5), s7.tupK _ _ t6⟩
              generalize upd H6 a (HO.tup [.ref k1, .ref k2]) = H7 at s7 t7 ⊢
              have s17 := (s5.trans s6).trans s7
              have h7 := s17 _ _ h1
              have lC := mtC_len b f n t c
              have lx := plen p1
              rw [List.length_append, List.length_append] at lx
              refine ⟨xs, h7, small1000 (by omega), xs ++ [.ref a], upd_same, ?_, same_fill (s1.trans s17) nD⟩
              rw [mc, ← List.append_assoc]
              have kt : TupK H7 (upd H7 D (.lst (xs ++ [.ref a]))) := tupK_lst h7
              exact papp (pmono p1 fun _ _ q => (q.mono s17.tupK).mono kt) (.cons (t7.mono kt) .nil)
            · rw [decide_eq_false cf]
              rw [if_neg cf, List.append_nil] at mc
              refine iteF ?_
              show Pv (mtL S b ++ mtF S b f ++ mtC b f n t (c + 1)) H1
              rw [mc]
              exact ⟨xs, h1, p1, s1⟩
          · rintro H1 I
            show Pv (mtL S b ++ mtF S b (f + 1)) H1
            rw [mf, ← List.append_assoc]
            exact I
      · rintro H1 ⟨xs, h1, p1, s1⟩
        show Pv (mtL S (b + 1)) H1
        rw [mtL_succ]
        rw [lvs, hb4] at p1
        exact ⟨xs, h1, p1, s1⟩
    · rintro H1 ⟨xs, h1, p1, s1⟩
      rw [lrs] at p1
      exact q H1 D xs s1 nD h1 p1
end
end Bk

namespace Bk
open PySem PySem.Spec PyProof.Rows L2 RZ
local macro_rules | `(tactic| walk_at "g") => `(tactic| (repeat first | refine ⟨_, rfl, ?_⟩ | refine ⟨cpow, ?_⟩ | refine ⟨_, _, rfl, rfl, ?_⟩ | refine ⟨rfl, ?_⟩))
theorem dec_intV (a b : Int) : decide (V.int a = V.int b) = decide (a = b) := by
  by_cases h : a = b
  · rw [h, decide_eq_true rfl, decide_eq_true rfl]
  · rw [decide_eq_false h, decide_eq_false (fun z => h (by injection z))]
section
variable {P : Program} {w : World} {K : PySem.W.Frag} {mg : Str → Option Value} {base : Heap}
abbrev sare_numbers_of : Stmt := topS 32
abbrev Nare_numbers_of : List Str := ["space", "thing"]
theorem scare_numbers_of : FnScope Nare_numbers_of ["space", "thing"] (defScope sare_numbers_of) := ⟨rfl, rfl, rfl, by decide +kernel, rfl, by decide +kernel, by decide +kernel⟩
def spNumOf : Sp := fun vs H Q _ => ∃ (v vn : V) (S : Spc) (ns : List Int), vs = [v, vn] ∧ ST H v S ∧ Hd H vn ns ∧ ns.length = 7 * S.length ∧ 1 ≤ S.length ∧ S.length ≤ 100 ∧ (∀ x ∈ ns, 0 ≤ x) ∧ ∀ H', Same H H' → Q (.bl true) H'
theorem okare_numbers_of {f fA : Addr} {fd fdA : FuncData} {tS : Tok} (F : Fun K "are_numbers_of" "are_numbers_of" sare_numbers_of f fd) (Fare_numbers : Fun K "are_numbers" "are_numbers" sare_numbers fA fdA) (gare_numbers : mg "are_numbers" = some (.ref fA)) (bare_numbers : Binds K fdA ["thing"] []) (Gare_numbers : FnOk P w K mg base CX0 2 fA fdA ["thing"] spAreNum)
    (g_SORTS : mg "SORTS" = some (.int 7 tS)) (m_len : mg "len" = none) : FnOk P w K mg base CX0 3 f fd ["space", "thing"] spNumOf := by
  have r_SORTS : RelV (V.int 7) (.int 7 tS) := ⟨_, rfl⟩
  refine F.ok scare_numbers_of (fun vs H Q E h => ?_) (fun cdv A outer s H vs Q E hr h => ?_)
  · obtain ⟨v, vn, S, ns, rfl, _⟩ := h
    rfl
  · obtain ⟨v, vn, S, ns, rfl, hst, hv, hl, h1, h2, hn, q⟩ := h
    have nd := scare_numbers_of.nd
    refine ⟨_, (pss_one (ps_ret (pe_and (pe_call Gare_numbers (hr.mono (by first | decide | omega)) (by rfl) gare_numbers Fare_numbers.kp bare_numbers .nil pass0 (pa_cons (pv 1) pa_nil)) (pe_one (pe_cmpR op_eq (pe_callB (kLen K rfl) (by rfl) m_len (by decide +kernel) (pa_cons (pv 1) pa_nil)) (pe_op op_mul (pe_glob (by rfl) g_SORTS r_SORTS) (pe_callB (kLen K rfl) (by rfl) m_len (by decide +kernel) (pa_cons (pv 0) pa_nil))) (nomark _)))))), ?_⟩
    refine ⟨vn, rfl, vn, ns, S.length, rfl, hv, hl, h1, h2, hn, fun H1 s1 => ?_⟩
    refine ⟨true, rfl, iteT ?_⟩
    obtain ⟨a, rfl, hS⟩ := (hv.same s1).sq (K := K)
    obtain ⟨p, rs, rfl, fp, hbs⟩ := id hst
    have lrs := plen hbs
    refine ⟨.ref a, rfl, a, _, rfl, hS, .ref p, rfl, p, rs, rfl, .inr (fp.mono s1.tups).sqt, 7, (rs.length : Int), rfl, rfl, ?_⟩
    rw [List.length_map, hl, lrs]
    refine ⟨.inl (by decide), rfl, ?_⟩
    rw [decide_eq_true (show V.int ((7 * S.length : Nat) : Int) = V.int (7 * (S.length : Int)) from congrArg V.int (by omega))]
    exact q H1 s1
abbrev s_check_numbers : Stmt := topS 33
abbrev N_check_numbers : List Str := ["space", "numbers"]
theorem sc_check_numbers : FnScope N_check_numbers ["space", "numbers"] (defScope s_check_numbers) := ⟨rfl, rfl, rfl, by decide +kernel, rfl, by decide +kernel, by decide +kernel⟩
def spCheckN : Sp := fun vs H Q _ => ∃ (v vn : V) (S : Spc) (ns : List Int), vs = [v, vn] ∧ ST H v S ∧ Hd H vn ns ∧ ns.length = 7 * S.length ∧ 1 ≤ S.length ∧ S.length ≤ 100 ∧ (∀ x ∈ ns, 0 ≤ x) ∧ ∀ H', Same H H' → Q .non H'
theorem ok_check_numbers {f fA : Addr} {fd fdA : FuncData} (F : Fun K "_check_numbers" "_check_numbers" s_check_numbers f fd) (Fare_numbers_of : Fun K "are_numbers_of" "are_numbers_of" sare_numbers_of fA fdA) (gare_numbers_of : mg "are_numbers_of" = some (.ref fA)) (bare_numbers_of : Binds K fdA ["space", "thing"] []) (Gare_numbers_of : FnOk P w K mg base CX0 3 fA fdA ["space", "thing"] spNumOf) : FnOk P w K mg base CX0 4 f fd ["space", "numbers"] spCheckN := by
  refine F.ok sc_check_numbers (fun vs H Q E h => ?_) (fun cdv A outer s H vs Q E hr h => ?_)
  · obtain ⟨v, vn, S, ns, rfl, _⟩ := h
    rfl
  · obtain ⟨v, vn, S, ns, rfl, hst, hv, hl, h1, h2, hn, q⟩ := h
    have nd := sc_check_numbers.nd
    refine ⟨_, (pss_one (ps_if (pt_not (pt_val (pe_call Gare_numbers_of (hr.mono (by first | decide | omega)) (by rfl) gare_numbers_of Fare_numbers_of.kp bare_numbers_of .nil pass0 (pa_cons (pv 0) (pa_cons (pv 1) pa_nil))))) (pss_one ps_never) pss_nil)), ?_⟩
    refine ⟨v, rfl, vn, rfl, v, vn, S, ns, rfl, hst, hv, hl, h1, h2, hn, fun H1 s1 => ?_⟩
    exact ⟨true, rfl, iteF (q H1 s1)⟩
abbrev sfits : Stmt := topS 37
abbrev Nfits : List Str := ["space", "numbers", "whole", "here", "there"]
theorem scfits : FnScope Nfits ["space", "numbers"] (defScope sfits) := ⟨rfl, rfl, rfl, by decide +kernel, rfl, by decide +kernel, by decide +kernel⟩
def fitsB (S : Spc) (ns : List Int) : Bool := (mtL S S.length).all fun x => decide (arcsN ns x.1.1 x.1.2.1 x.1.2.2 = arcsN ns x.2.1 x.2.2.1 x.2.2.2)
def spFits : Sp := fun vs H Q _ => ∃ (N : Addr → Prop) (v vn : V) (d : PyData) (S : Spc) (ns : List Int), vs = [v, vn] ∧ Dq N H v d ∧ norm d = nS S ∧ Good S ∧ 1 ≤ S.length ∧ S.length < 16 ∧ Hd H vn ns ∧ ns.length = 7 * S.length ∧ (∀ x ∈ ns, 0 ≤ x) ∧ ∀ H', Same H H' → Q (.bl (fitsB S ns)) H'
theorem okfits {f fS fC fM fA : Addr} {fd fdS fdC fdM fdA : FuncData} (F : Fun K "fits" "fits" sfits f fd) (Fspace_of : Fun K "space_of" "space_of" sspace_of fS fdS) (gspace_of : mg "space_of" = some (.ref fS)) (bspace_of : Binds K fdS ["blocks"] []) (Gspace_of : FnOk P w K mg base CX0 6 fS fdS ["blocks"] spSpace)
    (F_check_numbers : Fun K "_check_numbers" "_check_numbers" s_check_numbers fC fdC) (g_check_numbers : mg "_check_numbers" = some (.ref fC)) (b_check_numbers : Binds K fdC ["space", "numbers"] []) (G_check_numbers : FnOk P w K mg base CX0 4 fC fdC ["space", "numbers"] spCheckN)
    (Fmeetings_of : Fun K "meetings_of" "meetings_of" smeetings_of fM fdM) (gmeetings_of : mg "meetings_of" = some (.ref fM)) (bmeetings_of : Binds K fdM ["space"] []) (Gmeetings_of : FnOk P w K mg base CX0 1 fM fdM ["space"] spMeet)
    (Farcs_at : Fun K "arcs_at" "arcs_at" sarcs_at fA fdA) (garcs_at : mg "arcs_at" = some (.ref fA)) (barcs_at : Binds K fdA ["numbers", "block", "face", "corner"] []) (Garcs_at : FnOk P w K mg base CX0 2 fA fdA ["numbers", "block", "face", "corner"] spArcsAt) (m_all : mg "all" = none) : FnOk P w K mg base CX0 7 f fd ["space", "numbers"] spFits := by
  refine F.ok scfits (fun vs H Q E h => ?_) (fun cdv A outer s H vs Q E hr h => ?_)
  · obtain ⟨N, v, vn, d, S, ns, rfl, _⟩ := h
    rfl
  · obtain ⟨N, v, vn, d, S, ns, rfl, hd, hn, hG, h1, h2, hv, hl, hp, q⟩ := h
    have nd := scfits.nd
    refine ⟨_, (pss_cons (ps_set (i := 2) nd rfl (.inl rfl) (pe_call Gspace_of (hr.mono (by first | decide | omega)) (by rfl) gspace_of Fspace_of.kp bspace_of .nil pass0 (pa_cons (pv 0) pa_nil)))
      (pss_cons (ps_expr (pe_call G_check_numbers (hr.mono (by first | decide | omega)) (by rfl) g_check_numbers F_check_numbers.kp b_check_numbers .nil pass0 (pa_cons (pv 2) (pa_cons (pv 1) pa_nil))))
      (pss_one (ps_ret (pe_callB (kAll K rfl rfl) (by rfl) m_all (by decide +kernel) (pa_cons (pe_lc (own := [("here", 3), ("there", 4)]) (tt := tYes) rfl nd (kPiL K rfl (pi_list (pe_call Gmeetings_of (hr.mono (by first | decide | omega)) (by rfl) gmeetings_of Fmeetings_of.kp bmeetings_of .nil pass0 (pa_cons (pv 2) pa_nil)))) (blkOk_by (own := [("here", 3), ("there", 4)]) (N := Nfits) (sc := defScope sfits) (by decide +kernel)) (fun _ _ _ _ _ => (kPgT K rfl (pg_tup (n := 2) rfl (pgs_cons (pg_name (i := 3) nd rfl (Or.inl rfl)) (pgs_cons (pg_name (i := 4) nd rfl (Or.inl rfl)) pgs_nil))))) (fun _ _ _ _ _ => pts_nil) (fun _ _ _ _ _ => (pe_cmpR op_eq (pe_callSt Garcs_at (hr.mono (by first | decide | omega)) (by rfl) garcs_at Farcs_at.kp barcs_at .nil pass0 (pa_cons (pv 1) (kSt K rfl (pv 3) pa_nil))) (pe_callSt Garcs_at (hr.mono (by first | decide | omega)) (by rfl) garcs_at Farcs_at.kp barcs_at .nil pass0 (pa_cons (pv 1) (kSt K rfl (pv 4) pa_nil))) (nomark _)))) pa_nil)))))), ?_⟩
    refine ⟨v, rfl, N, v, d, S, rfl, hd, hn, hG, h1, by omega, fun H1 u s1 st1 => ?_⟩
    refine ⟨u, rfl, vn, rfl, u, vn, S, ns, rfl, st1, hv.same s1, hl, h1, by omega, hp, fun H2 s2 => ?_⟩
    refine ⟨u, rfl, u, S, rfl, st1.mono s2.tups, hG, by omega, fun H3 l xs s3 nl hl3 pl => ?_⟩
    refine ⟨l, rfl, ⟨xs, .inl (.inl hl3)⟩, fun D nD => ?_⟩
    have lx : (mtL S S.length).length ≤ 256 := Nat.le_trans (mtL_len S _) (by omega)
    have lxs := plen pl
    refine lc_list (xs := xs) (fun i H4 => H4 D = some (.lst ((((mtL S S.length).take i).map fun x => decide (arcsN ns x.1.1 x.1.2.1 x.1.2.2 = arcsN ns x.2.1 x.2.2.1 x.2.2.2)).map V.bl)) ∧ Same H3 H4) ⟨upd_same, same_new nD⟩ ?_ ?_ ?_
    · rintro i H4 _ ⟨h4, s4⟩
      exact .inl (.inl (s4 _ _ hl3))
    · rintro i x H4 hx ⟨h4, s4⟩
      obtain ⟨y, hy, a, p, q', rfl, e1, e2, e3⟩ := pget' pl hx
      obtain ⟨b, f, n, t, c, hb, hf, gj, hc, cf, rfl⟩ := mtL_mem (List.mem_of_getElem? hy)
      obtain ⟨ht, _, _⟩ := hG.both _ _ _ _ gj
      have hn2 := hG.lt gj
      have tf1 := (tf_lt t ht f hf).1
      have tf2 := (tf_lt t ht c hc).1
      have tf3 : tf t c ≠ tf t f := fun z => cf (tf_inj t ht c hc f hf z)
      have hv4 := ((hv.same s1).same s2).same (s3.trans s4)
      refine ⟨a, [.ref p, .ref q'], rfl, .inl (.inl (s4 _ _ e1)), rfl, .ref p, [.ref q'], rfl, .ref q', [], rfl, rfl, rfl, ?_⟩
      refine ⟨vn, rfl, .ref p, rfl, p, triV (b, f, c), rfl, .inl (.inl (.inl (s4 _ _ e2))), vn, ns, b, f, c, rfl, hv4, by omega, hf, hc, cf, ?_⟩
      refine ⟨vn, rfl, .ref q', rfl, q', triV (n, tf t f, tf t c), rfl, .inl (.inl (.inl (s4 _ _ e3))), vn, ns, n, tf t f, tf t c, rfl, hv4, by omega, tf1, tf2, tf3, ?_⟩
      refine ⟨rfl, _, h4, small1000 (by rw [List.length_map, List.length_map, List.length_take]; omega), ?_, same_fill s4 nD⟩
      rw [upd_same, List.take_add_one, hy, List.map_append, List.map_append]
      refine congrArg (fun z => some (HO.lst (_ ++ [V.bl z]))) ?_
      exact dec_intV _ _
    · rintro H4 ⟨h4, s4⟩
      refine ⟨D, _, rfl, .inl (.inl h4), ?_⟩
      rw [lxs, List.take_length, List.all_map]
      exact q H4 (((s1.trans s2).trans s3).trans s4)
abbrev sis_surface : Stmt := topS 38
abbrev Nis_surface : List Str := ["space", "numbers"]
theorem scis_surface : FnScope Nis_surface ["space", "numbers"] (defScope sis_surface) := ⟨rfl, rfl, rfl, by decide +kernel, rfl, by decide +kernel, by decide +kernel⟩
def surfB (S : Spc) (ns : List Int) : Bool := fitsB S ns && (List.range S.length).all fun b => decide ((quadsAt ns (7 * b)).length ≤ 1)
def spSurf : Sp := fun vs H Q _ => ∃ (N : Addr → Prop) (v vn : V) (d : PyData) (S : Spc) (ns : List Int), vs = [v, vn] ∧ Dq N H v d ∧ norm d = nS S ∧ Good S ∧ 1 ≤ S.length ∧ S.length < 16 ∧ Hd H vn ns ∧ ns.length = 7 * S.length ∧ (∀ x ∈ ns, 0 ≤ x) ∧ ∀ H', Same H H' → Q (.bl (surfB S ns)) H'
theorem okis_surface {f fF fQ : Addr} {fd fdF fdQ : FuncData} (F : Fun K "is_surface" "is_surface" sis_surface f fd) (Ffits : Fun K "fits" "fits" sfits fF fdF) (gfits : mg "fits" = some (.ref fF)) (bfits : Binds K fdF ["space", "numbers"] []) (Gfits : FnOk P w K mg base CX0 7 fF fdF ["space", "numbers"] spFits)
    (Fquads_agree : Fun K "quads_agree" "quads_agree" squads_agree fQ fdQ) (gquads_agree : mg "quads_agree" = some (.ref fQ)) (bquads_agree : Binds K fdQ ["numbers"] []) (Gquads_agree : FnOk P w K mg base CX0 2 fQ fdQ ["numbers"] spAgree) : FnOk P w K mg base CX0 8 f fd ["space", "numbers"] spSurf := by
  refine F.ok scis_surface (fun vs H Q E h => ?_) (fun cdv A outer s H vs Q E hr h => ?_)
  · obtain ⟨N, v, vn, d, S, ns, rfl, _⟩ := h
    rfl
  · obtain ⟨N, v, vn, d, S, ns, rfl, hd, hn, hG, h1, h2, hv, hl, hp, q⟩ := h
    have nd := scis_surface.nd
    refine ⟨_, (pss_one (ps_ret (pe_and (pe_call Gfits (hr.mono (by first | decide | omega)) (by rfl) gfits Ffits.kp bfits .nil pass0 (pa_cons (pv 0) (pa_cons (pv 1) pa_nil))) (pe_one (pe_call Gquads_agree (hr.mono (by first | decide | omega)) (by rfl) gquads_agree Fquads_agree.kp bquads_agree .nil pass0 (pa_cons (pv 1) pa_nil)))))), ?_⟩
    refine ⟨v, rfl, vn, rfl, N, v, vn, d, S, ns, rfl, hd, hn, hG, h1, h2, hv, hl, hp, fun H1 s1 => ?_⟩
    refine ⟨_, rfl, ?_⟩
    unfold surfB at q
    cases e : fitsB S ns with
    | false =>
      rw [e] at q
      exact iteF (q H1 s1)
    | true =>
      rw [e] at q
      exact iteT ⟨vn, rfl, vn, ns, S.length, rfl, hv.same s1, hl, by omega, fun H2 s2 => q H2 (s1.trans s2)⟩
end
end Bk

namespace Bk
open PySem PySem.Spec PyProof.Rows L2 RZ
abbrev Qua := Nat × Nat × Nat × Trn
def JnAt (H : Hp) (v : V) (x : Qua) : Prop := ∃ a pq, v = .ref a ∧ H a = some (.tup [intV x.1, intV x.2.1, intV x.2.2.1, .ref pq]) ∧ FT H pq (trnV x.2.2.2)
theorem JnAt.mono {H H' : Hp} {v : V} {x : Qua} (h : JnAt H v x) (m : Tups H H') (k : TupK H H') : JnAt H' v x := by
  obtain ⟨a, p, rfl, h1, h2⟩ := h
  exact ⟨a, p, rfl, k _ _ h1, h2.mono m⟩
def jnJ (b f : Nat) : Jn → List Qua
  | none => []
  | some (n, t) => [(b, f, n, t)]
def jnF (S : Spc) (b m : Nat) : List Qua := (List.range m).flatMap fun f => jnJ b f ((getJ S b f).getD none)
def jnL (S : Spc) (m : Nat) : List Qua := (List.range m).flatMap fun b => jnF S b 4
theorem jnF_succ (S : Spc) (b m : Nat) : jnF S b (m + 1) = jnF S b m ++ jnJ b m ((getJ S b m).getD none) := by
  unfold jnF
  rw [List.range_succ, List.flatMap_append, List.flatMap_singleton]
theorem jnL_succ (S : Spc) (m : Nat) : jnL S (m + 1) = jnL S m ++ jnF S m 4 := by
  unfold jnL
  rw [List.range_succ, List.flatMap_append, List.flatMap_singleton]
theorem jnF_len (S : Spc) (b : Nat) : ∀ m, (jnF S b m).length ≤ m
  | 0 => Nat.le_refl _
  | m + 1 => by
    have := jnF_len S b m
    rw [jnF_succ, List.length_append]
    have : (jnJ b m ((getJ S b m).getD none)).length ≤ 1 := by
      cases (getJ S b m).getD none with
      | none => exact Nat.zero_le _
      | some k => exact Nat.le_refl 1
    omega
theorem jnL_len (S : Spc) : ∀ m, (jnL S m).length ≤ 4 * m
  | 0 => Nat.le_refl _
  | m + 1 => by
    have := jnL_len S m
    have := jnF_len S m 4
    rw [jnL_succ, List.length_append]
    omega
theorem jnL_mem {S : Spc} {m : Nat} {x : Qua} : x ∈ jnL S m ↔ x.1 < m ∧ x.2.1 < 4 ∧ getJ S x.1 x.2.1 = some (some (x.2.2.1, x.2.2.2)) := by
  unfold jnL
  rw [List.mem_flatMap]
  constructor
  · rintro ⟨b, hb, h⟩
    rw [List.mem_range] at hb
    unfold jnF at h
    rw [List.mem_flatMap] at h
    obtain ⟨f, hf, h⟩ := h
    rw [List.mem_range] at hf
    cases e : getJ S b f with
    | none =>
      rw [e] at h
      cases h
    | some j =>
      rw [e] at h
      cases j with
      | none => cases h
      | some k =>
        have h : x ∈ [(b, f, k.1, k.2)] := h
        rw [List.mem_singleton] at h
        subst h
        exact ⟨hb, hf, e⟩
  · rintro ⟨hb, hf, e⟩
    refine ⟨x.1, List.mem_range.mpr hb, ?_⟩
    unfold jnF
    rw [List.mem_flatMap]
    refine ⟨x.2.1, List.mem_range.mpr hf, ?_⟩
    rw [e]
    exact List.mem_singleton.mpr rfl
section
variable {P : Program} {w : World} {K : PySem.W.Frag} {mg : Str → Option Value} {base : Heap}
abbrev s_law_joins : Stmt := topS 51
abbrev N_law_joins : List Str := ["space", "found", "block", "row", "face"]
theorem sc_law_joins : FnScope N_law_joins ["space"] (defScope s_law_joins) := ⟨rfl, rfl, rfl, by decide +kernel, rfl, by decide +kernel, by decide +kernel⟩
def spLJoins : Sp := fun vs H Q _ => ∃ (v : V) (S : Spc), vs = [v] ∧ ST H v S ∧ L4 S ∧ S.length < 16 ∧ ∀ H' l xs, Same H H' → H l = none → H' l = some (.lst xs) → Paired (JnAt H') xs (jnL S S.length) → Q (.ref l) H'
theorem ok_law_joins {f : Addr} {fd : FuncData} (F : Fun K "_law_joins" "_law_joins" s_law_joins f fd) (m_enumerate : mg "enumerate" = none) (m_range : mg "range" = none) : FnOk P w K mg base CX0 1 f fd ["space"] spLJoins := by
  refine F.ok sc_law_joins (fun vs H Q E h => ?_) (fun cdv A outer s H vs Q E hr h => ?_)
  · obtain ⟨v, S, rfl, _⟩ := h
    rfl
  · obtain ⟨v, S, rfl, hst, h4, h2, q⟩ := h
    have nd := sc_law_joins.nd
    refine ⟨_, (pss_cons (ps_set (i := 1) nd rfl (.inl rfl) (pe_lst pa_nil))
      (pss_cons (ps_for PassesOwn.never rfl (kPiET K rfl (pi_enumT (by rfl) m_enumerate (pa_cons (pv 0) pa_nil))) (kPgT K rfl (pg_tup (n := 2) rfl (pgs_cons (pg_name (i := 2) nd rfl (.inr rfl)) (pgs_cons (pg_name (i := 3) nd rfl (.inr rfl)) pgs_nil)))) (pss_one (ps_expr (kBM K rfl (pe_bm PySem.F.plainAttrs_list PySem.F.slot_list_extend PySem.F.type_list_extend mt_extend (pv 1) (pa_cons (pe_lc (own := [("face", 4)]) (g := gName 4) rfl nd (pi_range1 (by rfl) m_range (pa_cons pe_int pa_nil)) (blkOk_by (own := [("face", 4)]) (N := N_law_joins) (sc := defScope s_law_joins) (by decide +kernel)) (fun _ _ _ _ _ => (pg_name (i := 4) nd rfl (Or.inl rfl))) (fun _ _ _ _ _ => (pts_one (pt_cmpR op_notN (pe_ix (kIxT K rfl) (pv 3) (pv 4) (fun _ _ => rfl)) pe_non (nomark _)))) (fun _ _ _ _ _ => (pe_tup (pa_cons (pv 2) (pa_cons (pv 4) (pa_cons (pe_ix (kIxT K rfl) (pe_ix (kIxT K rfl) (pv 3) (pv 4) (fun _ _ => rfl)) pe_int (fun _ _ => rfl)) (pa_cons (pe_ix (kIxT K rfl) (pe_ix (kIxT K rfl) (pv 3) (pv 4) (fun _ _ => rfl)) pe_int (fun _ _ => rfl)) pa_nil))))))) pa_nil))))))
      (pss_one (ps_ret (pv 1))))), ?_⟩
    obtain ⟨p, rs, rfl, fp, hbs⟩ := id hst
    have lrs := plen hbs
    refine ⟨Nat.zero_le _, fun D nD => ?_⟩
    refine ⟨.ref p, rfl, p, rs, rfl, (fp.mono (same_new nD).tups).sqt, ?_⟩
    let Pv : List Qua → Hp → Prop := fun L H1 => ∃ xs, H1 D = some (.lst xs) ∧ Paired (JnAt H1) xs L ∧ Same H H1
    refine for_it (walk_enumT (xs := rs)) (fun b σ H1 => ∃ y2 y3, σ = [some (.ref p), some (.ref D), y2, y3, none] ∧ Pv (jnL S b) H1) ⟨none, none, rfl, [], upd_same, .nil, same_new nD⟩ ?_ ?_ ?_
    · rintro b σ H1 _ ⟨_, _, _, _, _, _, s1⟩
      exact (fp.mono s1.tups).sqt
    · rintro b v σ H1 H2 hb ⟨y2, y3, rfl, xs, h1, p1, s1⟩ ⟨T, y, z, rfl, nT, rfl, hy, hz⟩
      obtain rfl : intV b = y := Option.some.inj hy
      obtain ⟨row, hrow, p', vs, rfl, fv, pv⟩ := pget' hbs hz
      have s2 : Same H1 (upd H1 T (.tup [intV b, .ref p'])) := same_new nT
      have hT : SqT K (upd H1 T (.tup [intV b, .ref p'])) T [intV b, .ref p'] := .inl (.inl upd_same)
      generalize upd H1 T (.tup [intV b, .ref p']) = H3 at s2 hT ⊢
      have lvs := plen pv
      have hb4 : row.length = 4 := h4 row (List.mem_of_getElem? hrow)
      have s3 := s1.trans s2
      refine ⟨T, [intV b, .ref p'], rfl, hT, rfl, intV b, [.ref p'], rfl, .ref p', [], rfl, rfl, ?_⟩
      refine ⟨.ref D, rfl, .inl ⟨rfl, _, .inl (.inl (s2 _ _ h1))⟩, 4, rfl, by decide, by decide, fun D2 nD2 => ?_⟩
      refine lc_range (lo := 0) (n := 4) (fun f H4 => ∃ ys, H4 D2 = some (.lst ys) ∧ Paired (JnAt H4) ys (jnF S b f) ∧ Same H3 H4) ⟨[], upd_same, .nil, same_new nD2⟩ ?_ ?_
      · rintro f H4 hf ⟨ys, g4, p4, s4⟩
        rw [Int.zero_add]
        obtain ⟨x, hx⟩ : ∃ x, vs[f]? = some x := ⟨_, List.getElem?_eq_getElem (show f < vs.length by omega)⟩
        obtain ⟨j, hj, ja⟩ := pget' pv hx
        have gj : getJ S b f = some j := by
          unfold getJ
          rw [hrow]
          exact hj
        have mf : jnF S b (f + 1) = jnF S b f ++ jnJ b f j := by
          rw [jnF_succ, gj]
          rfl
        have fq := (fv.mono (s3.trans s4).tups).sqt (K := K)
        refine ⟨rfl, .ref p', rfl, intV f, rfl, p', vs, f, x, rfl, rfl, fq, atI_nat hx, rfl, _, rfl, ?_⟩
        rw [ja.isN]
        cases j with
        | none =>
          refine iteF ⟨ys, g4, ?_, s4⟩
          rw [mf]
          show Paired _ ys (jnF S b f ++ [])
          rw [List.append_nil]
          exact p4
        | some k =>
          obtain ⟨n, t⟩ := k
          obtain ⟨pj, pq, rfl, f1, f2⟩ := ja
          refine iteT ?_
          have f1' := (f1.mono (s3.trans s4).tups).sqt (K := K)
          refine ⟨intV b, rfl, intV f, rfl, .ref p', rfl, intV f, rfl, p', vs, f, .ref pj, rfl, rfl, fq, atI_nat hx, pj, _, 0, intV n, rfl, rfl, f1', rfl, ?_⟩
          refine ⟨.ref p', rfl, intV f, rfl, p', vs, f, .ref pj, rfl, rfl, fq, atI_nat hx, pj, _, 1, .ref pq, rfl, rfl, f1', rfl, ?_⟩
          refine ⟨Nat.le_of_lt (small1000 (by show 4 ≤ 1000; decide)), fun a na => ?_⟩
          have s5 : Same H4 (upd H4 a (.tup [intV b, intV f, intV n, .ref pq])) := same_new na
          have t5 : JnAt (upd H4 a (.tup [intV b, intV f, intV n, .ref pq])) (.ref a) (b, f, n, t) := ⟨a, pq, rfl, upd_same, (f2.mono (s3.trans s4).tups).mono s5.tups⟩
          show ∃ acc, (upd H4 a (.tup [intV b, intV f, intV n, .ref pq])) D2 = some (.lst acc) ∧ acc.length < sizeLine ∧ ∃ ys, (upd (upd H4 a (.tup [intV b, intV f, intV n, .ref pq])) D2 (.lst (acc ++ [.ref a]))) D2 = some (.lst ys) ∧ Paired (JnAt (upd (upd H4 a (.tup [intV b, intV f, intV n, .ref pq])) D2 (.lst (acc ++ [.ref a])))) ys (jnF S b (f + 1)) ∧ Same H3 (upd (upd H4 a (.tup [intV b, intV f, intV n, .ref pq])) D2 (.lst (acc ++ [.ref a])))
          generalize upd H4 a (.tup [intV b, intV f, intV n, .ref pq]) = H5 at s5 t5 ⊢
          have g5 := s5 _ _ g4
          have lF := jnF_len S b f
          have kt : TupK H5 (upd H5 D2 (.lst (ys ++ [.ref a]))) := tupK_lst g5
          have tu : Tups H5 (upd H5 D2 (.lst (ys ++ [.ref a]))) := tups_set g5
          refine ⟨ys, g5, small1000 (by rw [plen p4]; omega), ys ++ [.ref a], upd_same, ?_, same_fill (s4.trans s5) nD2⟩
          rw [mf]
          exact papp (pmono p4 fun _ _ q => (q.mono s5.tups s5.tupK).mono tu kt) (.cons (t5.mono tu kt) .nil)
      · rintro H4 ⟨ys, g4, p4, s4⟩
        have s24 := s2.trans s4
        have h4' := s24 _ _ h1
        have l1 := jnL_len S b
        have l2 := jnF_len S b 4
        refine ⟨D, D2, xs, ys, rfl, rfl, h4', g4, Nat.le_of_lt (small1000 (by rw [plen p1, plen p4]; omega)), some (intV b), some (.ref p'), rfl, xs ++ ys, upd_same, ?_, same_fill (s1.trans s24) nD⟩
        have kt : TupK H4 (upd H4 D (.lst (xs ++ ys))) := tupK_lst h4'
        have tu : Tups H4 (upd H4 D (.lst (xs ++ ys))) := tups_set h4'
        rw [jnL_succ]
        exact papp (pmono p1 fun _ _ q => (q.mono s24.tups s24.tupK).mono tu kt) (pmono p4 fun _ _ q => q.mono tu kt)
    · rintro σ H1 ⟨y2, y3, rfl, xs, h1, p1, s1⟩
      rw [lrs] at p1
      exact ⟨.ref D, rfl, q H1 D xs s1 nD h1 p1⟩
end
end Bk

/-! list(d.values()), d a dict whose keys are tuples -/
namespace Bk
open PySem PySem.Spec PyProof.Rows L2
theorem meets_valsT {prog : Program} {w : World} {d : Addr} {es : Array DictEntry} {ep : Nat} (hd : (d == sysModules) = false) :
    MeetsIn prog w (Builtin.«dict.values» ⟨[.ref d], []⟩) (fun _ R s => s.heap.DictRaw d es ep ∧ R (.ok (.ret (.ref s.heap.objs.size))) { s with heap := s.heap.push { cls := .type "dict_values", data := .fields #[.ref d] } }) :=
  .of_wp fun A R s ⟨hm, h⟩ => by
    unfold Builtin.«dict.values»
    refine wpAny_bind ?_
    unfold Builtin.Dict.noArgs
    refine wpAny_bind (wpAny_notOrdered_dict hm.typeIs ?_)
    show wpAny _ _ (pure d) _ _ s
    refine wpAny_pure ?_
    show wpAny _ _ (Builtin.Dict.showsAll d >>= _) _ _ s
    unfold Builtin.Dict.showsAll
    rw [if_neg (by rw [hd]; exact Bool.false_ne_true)]
    refine wpAny_bind (wpAny_pure ?_)
    exact wpAny_bind (wpAny_newObj_type (wpAny_pure ⟨_, rfl, h⟩))
def tListValsT (te : TE) : TE := fun σ H Q => te σ H fun x H1 => ∃ (d : Addr) (kvs : List (List L2.Key × V)), x = .ref d ∧ H1 d = some (.dT kvs) ∧ ∀ p, H1 p = none → Q (.ref p) (upd H1 p (.lst (kvs.map fun kv => kv.2)))
theorem kt_snd {H : Hp} : ∀ {kvs : List (List L2.Key × V)} {xs : List (List L2.Key × Addr × Value)}, KT H kvs xs → Vals (kvs.map fun kv => kv.2) (xs.map fun x => x.2.2)
  | _, _, .nil => .nil
  | _, _, .cons a t => .cons a.2.2 (kt_snd t)
section
variable {X : Cx} {e : Expr} {te : TE} {p apos cpos pos : Pos}
theorem pe_listValsT (calm : X.calm = true) (ie : PE X e te) (gl : Gl X "list") (nm : X.mg "list" = none) (bl : bootBuiltins "list" = some (.type "list"))
    (b0 : attributeBase e "values" X.env (eval e X.env) = eval e X.env := by rfl) (ln : (apos.endLine == cpos.line) = true := by rfl)
    (st : starEach [.Call (.Attribute e "values" apos) [] [] cpos] X.env = (false, eval (.Call (.Attribute e "values" apos) [] [] cpos) X.env) :: starEach [] X.env := by rfl) :
    PE X (.Call (.Name "list" p) [.Call (.Attribute e "values" apos) [] [] cpos] [] pos) (tListValsT te) := by
  constructor
  intro pins s σ H Q I hw
  apply wpAny_Call_Name_kw
  refine ld_blt I gl nm bl (PyProof.Rows.callWith_type1 ?_ st rfl)
  rw [st]
  show wpAny _ _ (spliced ((false, eval (.Call (.Attribute e "values" apos) [] [] cpos) X.env) :: backTo pos (starEach [] X.env))) _ _ s
  apply Calls.spliced_cons
  refine wpAny_Call_method (T := "dict") (id := "dict.values") b0 rfl ln F.plainAttrs_dict F.slot_dict_values F.type_dict_values ?_
  refine thn (ie.run pins s σ H _ I hw) ?_
  rintro u s1 ⟨x, H1, I1, rx, d, kvs, rfl, hd, q⟩
  obtain rfl : u = Value.ref d := rx
  obtain ⟨hz, lo, ks, pr, o, es, ep, ho, hx, hdt, he, hn⟩ := (show ObjOk X.prog X.w H1 s1.heap d (.dT kvs) from I1.hok d _ hd)
  have raw : s1.heap.DictRaw d es ep := ⟨o, ho, hx, hdt⟩
  have l1 : es.size = ks.length := size_of_entries he
  have l2 : kvs.length = ks.length := Paired.length pr
  let vw : Obj := { cls := .type "dict_values", data := .fields #[.ref d] }
  have I2 : Inv X pins σ H1 { s1 with heap := s1.heap.push vw } := I1.kept (t' := s1.toks) fun b ob z => Heap.get?_push_of_some _ z
  refine ⟨raw.typeIs, fun b eb => ?_, ?_⟩
  · cases eb
    exact ⟨o, ho, hx.2.1⟩
  show wpAny _ _ (callWith cpos (.builtin "dict.values") [.ref d] [] []) _ X.xe s1
  refine method_meetsIn F.slot_dict_values F.entry_dict_values rfl (PySem.evalArgs_none ⟨rfl, raw.typeIs, F.args_dict_values_1 _, _, meets_valsT (es := es) (ep := ep) lo, raw, ?_⟩)
  apply Calls.spliced_nil
  have view : (s1.heap.push vw).IsValuesView s1.heap.objs.size d := ⟨_, Heap.get?_push_size _ rfl, rfl, rfl⟩
  refine PySem.W.kdl_call KdlSrc.rawValues (I1.ok.hd calm) ⟨view, raw.push _⟩ (by omega) ?_
  intro h' tk acc c keep hS hacc
  have new := I2.hok.fresh (Nat.le_refl _)
  refine ⟨.ref _, _, I2.laid (t' := tk) keep (Nat.le_refl _) (show ObjOk X.prog X.w _ _ _ (.lst (kvs.map fun kv => kv.2)) from ⟨?_, acc.toList, c, ?_, ?_⟩), rfl, q _ new⟩
  · rw [List.length_map]
    exact hz
  · have el : acc.toList = ks.map fun x => x.2.2 := by
      have hl : acc.toList.length = ks.length := by rw [Array.length_toList, hacc.1]; exact l1
      refine List.ext_getElem? fun j => ?_
      rw [List.getElem?_map]
      cases hj : acc.toList[j]? with
      | none =>
        have h1 := List.getElem?_eq_none_iff.mp hj
        rw [List.getElem?_eq_none (by omega)]
        rfl
      | some v =>
        obtain ⟨hi, hv⟩ := hacc.2 j v (by rw [← Array.getElem?_toList]; exact hj)
        have qe := entry_at he j
        rw [Array.getElem?_eq_getElem hi] at qe
        cases hb : ks[j]? with
        | none =>
          rw [hb] at qe
          exact nomatch (show some es[j] = none from qe)
        | some b =>
          rw [hb] at qe
          have e2 : es[j] = entryOfKey (tupleKind (mixKind X.prog X.w)) b := Option.some.inj qe
          rw [hv, e2]
          rfl
    rw [el]
    exact kt_snd pr
  · rw [Array.toArray_toList]
    exact hS
end
end Bk

/-! things n as tuples (n // 4, n % 4): which is less; sets of them, sorted -/
namespace Bk
open PySem PySem.Spec PyProof.Rows L2
def rLtP : R2 := fun x y H Q => ∃ n m : Nat, moT.at H x n ∧ moT.at H y m ∧ Q (.bl (decide (n < m))) H
theorem lex_two (e r : Nat → Bool) (z : Bool) : Ob.lexAt e r z 0 2 = if e 0 = true then (if e 1 = true then z else r 1) else r 0 := by
  simp [Ob.lexAt]
theorem lex_lt (n m : Nat) : Ob.lexAt (fun j => decide ((moT.dec n).getD j 0 = (moT.dec m).getD j 0)) (fun j => decide ((moT.dec n).getD j 0 < (moT.dec m).getD j 0)) (decide ((moT.dec n).length < (moT.dec m).length)) 0 2 = decide (n < m) := by
  rw [lex_two]
  show (if decide (((n / 4 : Nat) : Int) = ((m / 4 : Nat) : Int)) = true then (if decide (((n % 4 : Nat) : Int) = ((m % 4 : Nat) : Int)) = true then decide ((2 : Nat) < 2) else decide (((n % 4 : Nat) : Int) < ((m % 4 : Nat) : Int))) else decide (((n / 4 : Nat) : Int) < ((m / 4 : Nat) : Int))) = decide (n < m)
  by_cases h1 : n / 4 = m / 4
  · rw [if_pos (decide_eq_true (by omega))]
    by_cases h2 : n % 4 = m % 4
    · rw [if_pos (decide_eq_true (by omega)), decide_eq_false (by omega), decide_eq_false (by omega)]
    · rw [if_neg (fun z => h2 (by have := of_decide_eq_true z; omega))]
      exact decide_eq_decide.mpr ⟨fun z => by omega, fun z => by omega⟩
  · rw [if_neg (fun z => h1 (by have := of_decide_eq_true z; omega))]
    exact decide_eq_decide.mpr ⟨fun z => by omega, fun z => by omega⟩
theorem op_ltP {X : Cx} (hu : X.A.units < cLine) : OpR X (compareOp .Lt) rLtP := by
  intro pins s σ H x y v u Q I rx ry h
  obtain ⟨n, m, ⟨a, rfl, ha⟩, ⟨b, rfl, hb⟩, q⟩ := h
  cases rx
  cases ry
  obtain ⟨its, r1, p1, _⟩ := I.tuple (show SqT X.K H a ((moT.dec n).map V.int) from .inl (.inl ha))
  obtain ⟨its2, r2, p2, _⟩ := I.tuple (show SqT X.K H b ((moT.dec m).map V.int) from .inl (.inl hb))
  have i1 : IntsAre its (moT.dec n) := Vals.ints r1
  have i2 : IntsAre its2 (moT.dec m) := Vals.ints r2
  have e1 : its.toArray.size = 2 := by rw [List.size_toArray]; exact i1.length
  have e2 : its2.toArray.size = 2 := by rw [List.size_toArray]; exact i2.length
  have at1 : ∀ j (h1 : j < its.toArray.size), ∃ t, its.toArray[j] = .int ((moT.dec n).getD j 0) t := fun j h1 => PyProof.Rows.IntsAre.int_at i1 _ _ (by simp at h1; simp [h1])
  have at2 : ∀ j (h1 : j < its2.toArray.size), ∃ t, its2.toArray[j] = .int ((moT.dec m).getD j 0) t := fun j h1 => PyProof.Rows.IntsAre.int_at i2 _ _ (by simp at h1; simp [h1])
  have R := Ob.RcOp.tuples_lt (A := X.A) (s := s) (e := fun j => decide ((moT.dec n).getD j 0 = (moT.dec m).getD j 0)) (r := fun j => decide ((moT.dec n).getD j 0 < (moT.dec m).getD j 0)) p1 p2 hu (fun j h1 h2 => by
    obtain ⟨t, et⟩ := at1 j h1
    obtain ⟨t', et'⟩ := at2 j h2
    rw [et, et']
    have z : ((moT.dec n).getD j 0 == (moT.dec m).getD j 0) = decide ((moT.dec n).getD j 0 = (moT.dec m).getD j 0) := by
      by_cases q : (moT.dec n).getD j 0 = (moT.dec m).getD j 0
      · rw [decide_eq_true q]; exact beq_iff_eq.mpr q
      · rw [decide_eq_false q]; exact beq_eq_false_iff_ne.mpr q
    rw [← z]
    exact SeqAt.EqAt.int_int _ _ _ _) (fun j h1 h2 _ => by
    obtain ⟨t, et⟩ := at1 j h1
    obtain ⟨t', et'⟩ := at2 j h2
    rw [et, et']
    exact Ob.RcOp.lt_int _ _ _ _)
  rw [e1, e2] at R
  have lx := lex_lt n m
  have l2 : decide ((moT.dec n).length < (moT.dec m).length) = decide (2 < 2) := rfl
  rw [l2] at lx
  have z : wpAny (model X.prog X.w) X.A (compareOp .Lt (.ref a) (.ref b)) (EP X pins σ Q) X.xe s := R X.prog X.w X.xe (EP X pins σ Q) ⟨.bl _, H, I, rfl, by
    rw [show min 2 2 = 2 from rfl, lx]
    exact q⟩
  exact z
theorem kSetT {X : Cx} (K : PySem.W.Frag) {P : Program} {w : World} (h : X.K = K) (hP : X.prog = P) (hw : X.w = w) (hc : X.calm = true) (hu : X.A.units + 64 < cLine) : CallR X (.type "set") (rSetOfT K P w) := by
  subst h hP hw
  exact cr_setOfT hc hu
theorem kSortedT {X : Cx} (K : PySem.W.Frag) {P : Program} {w : World} (h : X.K = K) (hP : X.prog = P) (hw : X.w = w) (hc : X.calm = true) : CallR X (.builtin "sorted") (rSortedT K P w) := by
  subst h hP hw
  exact cr_sortedT hc
theorem units64 {k : Nat} {A : Around} (hr : Room k A) : A.units + 64 < cLine := by
  have := hr.units
  omega
end Bk

namespace Bk
open PySem PySem.Spec PyProof.Rows L2 RZ
/-- what the law marks each corner of a block with: m its number -/
def MkAt (H : Hp) (kvs : List (Nat × V)) (m : Nat → Nat) (N : Nat) : Prop := Paired (fun q n => q.1 = n ∧ moT.at H q.2 (m n)) kvs (List.range N)
theorem MkAt.mono {H H' : Hp} {kvs : List (Nat × V)} {m : Nat → Nat} {N : Nat} (h : MkAt H kvs m N) (t : TupK H H') : MkAt H' kvs m N := pmono h fun _ _ z => ⟨z.1, z.2.mono t⟩
theorem paired_keys {F : Nat × V → Nat → Prop} (hF : ∀ q n, F q n → q.1 = n) : ∀ {kvs : List (Nat × V)} {ns : List Nat}, Paired F kvs ns → kvs.map (·.1) = ns
  | _, _, .nil => rfl
  | _, _, .cons a t => by rw [List.map_cons, paired_keys hF t, hF _ _ a]
theorem MkAt.keys {H : Hp} {kvs : List (Nat × V)} {m : Nat → Nat} {N : Nat} (h : MkAt H kvs m N) : kvs.map (·.1) = List.range N := paired_keys (fun _ _ z => z.1) h
theorem MkAt.lt {H : Hp} {kvs : List (Nat × V)} {m : Nat → Nat} {N : Nat} (h : MkAt H kvs m N) : ∀ q ∈ kvs, q.1 < N := fun q hq => by
  have : q.1 ∈ List.range N := by
    rw [← h.keys]
    exact List.mem_map_of_mem hq
  exact List.mem_range.mp this
theorem MkAt.len {H : Hp} {kvs : List (Nat × V)} {m : Nat → Nat} {N : Nat} (h : MkAt H kvs m N) : kvs.length = N := by
  have := congrArg List.length h.keys
  rwa [List.length_map, List.length_range] at this
theorem MkAt.get {H : Hp} {kvs : List (Nat × V)} {m : Nat → Nat} {N n : Nat} (h : MkAt H kvs m N) (hn : n < N) : ∃ v, valV kvs n = some v ∧ moT.at H v (m n) := by
  obtain ⟨q, hq, e, z⟩ := pget h (List.getElem?_range hn)
  refine ⟨q.2, valV_mem (by rw [h.keys]; exact List.nodup_range) ?_, z⟩
  rw [← e]
  exact List.mem_of_getElem? hq
theorem MkAt.put {H : Hp} {kvs : List (Nat × V)} {m : Nat → Nat} {N b k : Nat} {v : V} (h : MkAt H kvs m N) (hb : b < N) (hv : moT.at H v k) : MkAt H (putK kvs b v) (fun n => if n = b then k else m n) N := by
  have any : kvs.any (fun kv => decide (kv.1 = b)) = true := by
    rw [List.any_eq_true]
    obtain ⟨q, hq, e, _⟩ := pget h (List.getElem?_range hb)
    exact ⟨q, List.mem_of_getElem? hq, decide_eq_true e⟩
  unfold putK
  rw [if_pos any]
  unfold MkAt at h ⊢
  generalize List.range N = ns at h
  clear any hb
  induction h with
  | nil => exact .nil
  | @cons q n kvs ns a t ih =>
    rw [List.map_cons]
    refine .cons ?_ ih
    obtain ⟨a1, a2⟩ := a
    by_cases e : q.1 = b
    · rw [if_pos e]
      refine ⟨a1, ?_⟩
      show moT.at H v (if n = b then k else m n)
      rw [if_pos (a1 ▸ e)]
      exact hv
    · rw [if_neg e]
      refine ⟨a1, ?_⟩
      show moT.at H q.2 (if n = b then k else m n)
      rw [if_neg (fun z => e (a1.trans z))]
      exact a2
theorem tups_dic {M : Mo} {H : Hp} {p : Addr} {kvs : List (Nat × V)} {o : HO} (h : H p = some (M.obj kvs)) : Tups H (upd H p o) := fun b ob ys e => by
  rw [upd_ne (fun z => by
    rw [z, h] at e
    have e := Option.some.inj e
    unfold Mo.obj at e
    split at e <;> cases e)]
  exact e
theorem cmp_nat (c f : Nat) : (!decide (V.int (c : Int) = intV f)) = decide (c ≠ f) := by
  by_cases z : c = f
  · rw [z, decide_eq_true (show V.int ((f : Nat) : Int) = intV f from rfl), decide_eq_false (fun k => k rfl)]
    rfl
  · rw [decide_eq_true z, decide_eq_false (fun k => z (by injection k with k; omega))]
    rfl
theorem get_rd {H : Hp} {d : Addr} {kvs : List (Nat × V)} {v : V} {n : Nat} (hd : Rd H d (moT.obj kvs)) (hv : moT.at H v n) (hk : ∀ q ∈ kvs, q.1 < 64) (hn : n < 64) : DGet H d v (valV kvs n) := by
  obtain ⟨p, rfl, hp⟩ := hv
  refine .inr ⟨tKvs kvs, moT.key n, p, hd, rfl, ?_, ?_⟩
  · rw [hp]
    unfold Mo.key
    rw [List.map_map]
    rfl
  · exact (valV_map_key fun q hq z => Mo.key_inj (moT_inj 64) (hk q hq) hn z).symm
theorem eq_moT {K : PySem.W.Frag} {H : Hp} {x y : V} {n m : Nat} {Q : VK} (hx : moT.at H x n) (hy : moT.at H y m) (q : Q (.bl (decide (n = m))) H) : rEqD K x y H Q := by
  obtain ⟨a, rfl, ha⟩ := hx
  obtain ⟨b, rfl, hb⟩ := hy
  refine ⟨.tuple [intD (n / 4), intD (n % 4)], .tuple [intD (m / 4), intD (m % 4)], .tup (.inl (.inl ha)) (.cons (.int _) (.cons (.int _) .nil)), .tup (.inl (.inl hb)) (.cons (.int _) (.cons (.int _) .nil)), tints_shaped [n / 4, n % 4], tints_shaped [m / 4, m % 4], ?_⟩
  rw [pair_eqv, show decide ((n / 4, n % 4) = (m / 4, m % 4)) = decide (n = m) from decide_eq_decide.mpr ⟨fun z => by injection z with z1 z2; omega, fun z => by rw [z]⟩]
  exact q
theorem MkAt.vals {H : Hp} {m : Nat → Nat} : ∀ {kvs : List (Nat × V)} {ns : List Nat}, Paired (fun q n => q.1 = n ∧ moT.at H q.2 (m n)) kvs ns → ∃ ks : List (Addr × List Int), kvs.map (·.2) = ks.map (fun p => V.ref p.1) ∧ (∀ p ∈ ks, H p.1 = some (.tup (p.2.map V.int))) ∧ ks.map (·.2) = ns.map fun n => moT.dec (m n)
  | _, _, .nil => ⟨[], rfl, (fun _ z => absurd z List.not_mem_nil), rfl⟩
  | q :: _, n :: _, .cons a t => by
    obtain ⟨ks, h1, h2, h3⟩ := MkAt.vals t
    obtain ⟨_, b, e, h⟩ := a
    refine ⟨(b, moT.dec (m n)) :: ks, ?_, fun p hp => ?_, ?_⟩
    · rw [List.map_cons, List.map_cons, h1, e]
    · rcases List.mem_cons.mp hp with rfl | hp
      · exact h
      · exact h2 p hp
    · rw [List.map_cons, List.map_cons, h3]
theorem decs_of {N : Nat} {m : Nat → Nat} : ∀ {l : List (Addr × List Int)}, (∀ q ∈ l, ∃ n, n < N ∧ q.2 = moT.dec (m n)) → ∃ fs : List Nat, l.map (·.2) = fs.map moT.dec ∧ ∀ x ∈ fs, ∃ n, n < N ∧ m n = x
  | [], _ => ⟨[], rfl, fun _ z => absurd z List.not_mem_nil⟩
  | q :: l, h => by
    obtain ⟨fs, h1, h2⟩ := decs_of fun q hq => h q (List.mem_cons_of_mem _ hq)
    obtain ⟨n, hn, e⟩ := h q List.mem_cons_self
    refine ⟨m n :: fs, by rw [List.map_cons, List.map_cons, h1, e], fun x hx => ?_⟩
    rcases List.mem_cons.mp hx with rfl | hx
    · exact ⟨n, hn, rfl⟩
    · exact h2 x hx
theorem dec_inj {a b : Nat} (h : moT.dec a = moT.dec b) : a = b := by
  injection h with h1 h2
  injection h2 with h2 _
  omega
theorem same_unlock {H H' : Hp} {M : Addr} {u f : HO} (h : H M = some u) (s : Same (upd H M f) H') : Same H (upd H' M u) := fun b o e => by
  by_cases z : b = M
  · rw [z, upd_same]
    rw [z, h] at e
    exact e
  · rw [upd_ne z]
    exact s _ _ (by rw [upd_ne z]; exact e)
/-- what a joining compares -/
def prJ (x : Qua) (m : Nat) : List (Nat × Nat) := ((List.range m).filter fun c => decide (c ≠ x.2.1)).map fun c => (4 * x.1 + c, 4 * x.2.2.1 + tf x.2.2.2 c)
theorem prJ_succ (x : Qua) (m : Nat) : prJ x (m + 1) = prJ x m ++ (if m ≠ x.2.1 then [(4 * x.1 + m, 4 * x.2.2.1 + tf x.2.2.2 m)] else []) := by
  unfold prJ
  rw [List.range_succ, List.filter_append, List.map_append, List.filter_cons, List.filter_nil]
  by_cases c : m ≠ x.2.1
  · rw [if_pos c, if_pos (decide_eq_true c)]
    rfl
  · rw [if_neg c, if_neg (fun z => c (of_decide_eq_true z))]
    rfl
theorem prJ_all {S : Spc} (hG : Good S) {a b : Nat} (ha : a < 4 * S.length) (h : b ∈ lkC S a) : (a, b) ∈ (jnL S S.length).flatMap fun x => prJ x 4 := by
  obtain ⟨f, n, t, hf, e, z, rfl⟩ := metL_mem.mp h
  rw [List.mem_flatMap]
  refine ⟨(a / 4, f, n, t), jnL_mem.mpr ⟨by show a / 4 < _; omega, hf, e⟩, ?_⟩
  unfold prJ
  rw [List.mem_map]
  refine ⟨a % 4, ?_, ?_⟩
  · rw [List.mem_filter, List.mem_range, decide_eq_true_eq]
    exact ⟨Nat.mod_lt _ (by decide), fun y => z y.symm⟩
  · show (4 * (a / 4) + a % 4, _) = _
    rw [show 4 * (a / 4) + a % 4 = a by omega]
section
variable {P : Program} {w : World} {K : PySem.W.Frag} {mg : Str → Option Value} {base : Heap}
abbrev s_law_corners : Stmt := topS 52
abbrev N_law_corners : List Str := ["space", "marks", "again", "block", "face", "other", "turn", "tip", "firsts", "k", "first", "one"]
theorem sc_law_corners : FnScope N_law_corners ["space"] (defScope s_law_corners) := ⟨rfl, rfl, rfl, by decide +kernel, rfl, by decide +kernel, by decide +kernel⟩
def spLCorners : Sp := fun vs H Q _ => ∃ (v : V) (S : Spc), vs = [v] ∧ ST H v S ∧ Good S ∧ 1 ≤ S.length ∧ S.length < 16 ∧ ∀ H' l, Same H H' → RowsAt moT H H' l (crnE S) → Q (.ref l) H'
theorem ok_law_corners {f fJ : Addr} {fd fdJ : FuncData} (R : MoR moT 64 K) (F : Fun K "_law_corners" "_law_corners" s_law_corners f fd) (F_law_joins : Fun K "_law_joins" "_law_joins" s_law_joins fJ fdJ) (g_law_joins : mg "_law_joins" = some (.ref fJ)) (b_law_joins : Binds K fdJ ["space"] []) (G_law_joins : FnOk P w K mg base CX0 1 fJ fdJ ["space"] spLJoins)
    (m_dict : mg "dict" = none) (m_range : mg "range" = none) (m_len : mg "len" = none) (m_sorted : mg "sorted" = none) (m_set : mg "set" = none) (m_list : mg "list" = none) : FnOk P w K mg base CX0 2 f fd ["space"] spLCorners := by
  refine F.ok sc_law_corners (fun vs H Q E h => ?_) (fun cdv A outer s H vs Q E hr h => ?_)
  · obtain ⟨v, S, rfl, _⟩ := h
    rfl
  · obtain ⟨v, S, rfl, hst, hG, h1, h2S, q⟩ := h
    have nd := sc_law_corners.nd
    refine ⟨_, (pss_cons (ps_set (i := 1) nd rfl (.inr rfl) (pe_callTy (dicM R rfl rfl (units8 hr)) (by rfl) m_dict (by decide +kernel) (pa_cons (pe_lc (own := [("k", 9)]) (g := gName 9) (tt := tYes) rfl nd (pi_range1 (by rfl) m_range (pa_cons (pe_op op_mul pe_int (pe_callB (kLen K rfl) (by rfl) m_len (by decide +kernel) (pa_cons (pv 0) pa_nil))) pa_nil)) (blkOk_by (own := [("k", 9)]) (N := N_law_corners) (sc := defScope s_law_corners) (by decide +kernel)) (fun _ _ _ _ _ => (pg_name (i := 9) nd rfl (Or.inl rfl))) (fun _ _ _ _ _ => pts_nil) (fun _ _ _ _ _ => (pe_tup (pa_cons (pe_tup (pa_cons (pe_op op_fdivN (pv 9) pe_int) (pa_cons (pe_op op_modN (pv 9) pe_int) pa_nil))) (pa_cons (pe_tup (pa_cons (pe_op op_fdivN (pv 9) pe_int) (pa_cons (pe_op op_modN (pv 9) pe_int) pa_nil))) pa_nil))))) pa_nil)))
      (pss_cons (ps_set (i := 2) nd rfl (.inl rfl) pe_bl)
      (pss_cons (ps_while PassesOwn.never (pt_val (pv 2)) (pss_cons (ps_set (i := 2) nd rfl (.inl rfl) pe_bl)
      (pss_one (ps_for PassesOwn.never rfl (kPiL K rfl (pi_list (pe_call G_law_joins (hr.mono (by first | decide | omega)) (by rfl) g_law_joins F_law_joins.kp b_law_joins .nil pass0 (pa_cons (pv 0) pa_nil)))) (kPgT K rfl (pg_tup (n := 4) rfl (pgs_cons (pg_name (i := 3) nd rfl (.inl rfl)) (pgs_cons (pg_name (i := 4) nd rfl (.inl rfl)) (pgs_cons (pg_name (i := 5) nd rfl (.inl rfl)) (pgs_cons (pg_name (i := 6) nd rfl (.inl rfl)) pgs_nil)))))) (pss_one (ps_for PassesOwn.never rfl (pi_range1 (by rfl) m_range (pa_cons pe_int pa_nil)) (pg_name (i := 7) nd rfl (.inl rfl)) (pss_one (ps_if (pw_and (pt_cmpR op_ne (pv 7) (pv 4) (nomark _)) (pw_and1 (pt_cmpR (op_ltP (Nat.lt_of_succ_lt (hu_of hr))) (pe_dget (hu_of hr) (pv 1) (pe_tup (pa_cons (pv 3) (pa_cons (pv 7) pa_nil))) (fun _ _ => rfl)) (pe_dget (hu_of hr) (pv 1) (pe_tup (pa_cons (pv 5) (pa_cons (pe_ix (kIxT K rfl) (pv 6) (pv 7) (fun _ _ => rfl)) pa_nil))) (fun _ _ => rfl)) (nomark _)))).pt (pss_cons (ps_dput (hu_of hr) (pv 1) (pe_tup (pa_cons (pv 5) (pa_cons (pe_ix (kIxT K rfl) (pv 6) (pv 7) (fun _ _ => rfl)) pa_nil))) (pe_dget (hu_of hr) (pv 1) (pe_tup (pa_cons (pv 3) (pa_cons (pv 7) pa_nil))) (fun _ _ => rfl)) rfl)
      (pss_one (ps_set (i := 2) nd rfl (.inl rfl) pe_bl))) pss_nil))))))))
      (pss_cons (ps_set (i := 8) nd rfl (.inl rfl) (pe_callB (kSortedT (P := P) (w := w) K rfl rfl rfl rfl) (by rfl) m_sorted (by decide +kernel) (pa_cons (pe_callTy (kSetT (P := P) (w := w) K rfl rfl rfl rfl (units64 hr)) (by rfl) m_set (by decide +kernel) (pa_cons (pe_listValsT rfl (pv 1) (by rfl) m_list (by decide +kernel)) pa_nil)) pa_nil)))
      (pss_one (ps_ret (pe_lc (own := [("first", 10)]) (g := gName 10) (tt := tYes) rfl nd (kPiL K rfl (pi_list (pv 8))) (blkOk_by (own := [("first", 10)]) (N := N_law_corners) (sc := defScope s_law_corners) (by decide +kernel)) (fun _ _ _ _ _ => (pg_name (i := 10) nd rfl (Or.inr rfl))) (fun _ _ _ _ _ => pts_nil) (fun _ _ _ _ _ => (pe_callB (srtM R rfl) (by rfl) m_sorted (by decide +kernel) (pa_cons (pe_lock (pe_lc (own := [("one", 11)]) (g := gName 11) rfl nd (pi_keys (pv 1)) (blkOk_by (own := [("one", 11)]) (N := N_law_corners) (sc := _) (by rfl)) (fun _ _ _ _ _ => (pg_name (i := 11) nd rfl (Or.inl rfl))) (fun _ _ _ _ _ => (pts_one (pt_cmpR (kEqD K rfl hr.units) (pe_dget (hu_of hr) (pv 1) (pv 11) (fun _ _ => rfl)) (pv 10) (nomark _)))) (fun _ _ _ _ _ => (pv 11)))) pa_nil)))))))))), ?_⟩
    obtain ⟨p, rs, rfl, fp, hbs⟩ := id hst
    have lrs := plen hbs
    refine ⟨.ref p, rfl, p, rs, rfl, .inr fp.sqt, 4, (rs.length : Int), rfl, rfl, .inl (by decide), ?_⟩
    have hN : 4 * S.length < 64 := by omega
    have eT : (4 * (rs.length : Int)).toNat = 4 * S.length := by omega
    generalize eNN : 4 * S.length = N at hN eT
    refine ⟨4 * (rs.length : Int), rfl, by omega, by omega, fun D nD => ?_⟩
    rw [eT]
    refine lc_range (lo := 0) (n := N) (fun i H1 => ∃ (ps : List Addr) (kvs : List (Nat × V)), H1 D = some (.lst (ps.map V.ref)) ∧ Paired (fun p q => ∃ u, H1 p = some (.tup [u, q.2]) ∧ moT.at H1 u q.1) ps kvs ∧ MkAt H1 kvs id i ∧ Same H H1) ⟨[], [], upd_same, .nil, .nil, same_new nD⟩ ?_ ?_
    · rintro i H1 hi ⟨ps, kvs, g1, p1, k1, s1⟩
      rw [Int.zero_add]
      have e1 : ((i : Int).fdiv 4) = ((i / 4 : Nat) : Int) := fdiv_nat i 4
      have e2 : ((i : Int).fmod 4) = ((i % 4 : Nat) : Int) := fmod_nat i 4
      refine ⟨rfl, .int (i : Int), rfl, (i : Int), 4, rfl, rfl, ⟨by decide, by decide⟩, .int (i : Int), rfl, (i : Int), 4, rfl, rfl, (show (4 : Int) ≠ 0 by decide), ?_⟩
      refine ⟨Nat.le_of_lt (small1000 (by show 2 ≤ 1000; decide)), fun t1 n1 => ?_⟩
      have s2 : Same H1 (upd H1 t1 (.tup [.int ((i : Int).fdiv 4), .int ((i : Int).fmod 4)])) := same_new n1
      have a2 : moT.at (upd H1 t1 (.tup [.int ((i : Int).fdiv 4), .int ((i : Int).fmod 4)])) (.ref t1) i := ⟨t1, rfl, by rw [upd_same, e1, e2]; rfl⟩
      refine ⟨.int (i : Int), rfl, (i : Int), 4, rfl, rfl, ⟨by decide, by decide⟩, .int (i : Int), rfl, (i : Int), 4, rfl, rfl, (show (4 : Int) ≠ 0 by decide), Nat.le_of_lt (small1000 (by show 2 ≤ 1000; decide)), fun t2 n2 => ?_⟩
      generalize upd H1 t1 (.tup [.int ((i : Int).fdiv 4), .int ((i : Int).fmod 4)]) = H2 at s2 a2 n2 ⊢
      have s3 : Same H2 (upd H2 t2 (.tup [.int ((i : Int).fdiv 4), .int ((i : Int).fmod 4)])) := same_new n2
      have a3 : moT.at (upd H2 t2 (.tup [.int ((i : Int).fdiv 4), .int ((i : Int).fmod 4)])) (.ref t2) i := ⟨t2, rfl, by rw [upd_same, e1, e2]; rfl⟩
      refine ⟨Nat.le_of_lt (small1000 (by show 2 ≤ 1000; decide)), fun a na => ?_⟩
      generalize upd H2 t2 (.tup [.int ((i : Int).fdiv 4), .int ((i : Int).fmod 4)]) = H3 at s3 a3 na ⊢
      have s4 : Same H3 (upd H3 a (.tup [.ref t1, .ref t2])) := same_new na
      have h4 : (upd H3 a (.tup [.ref t1, .ref t2])) a = some (.tup [.ref t1, .ref t2]) := upd_same
      show ∃ acc, (upd H3 a (.tup [.ref t1, .ref t2])) D = some (.lst acc) ∧ acc.length < sizeLine ∧ ∃ ps kvs, (upd (upd H3 a (.tup [.ref t1, .ref t2])) D (.lst (acc ++ [.ref a]))) D = some (.lst (List.map V.ref ps)) ∧ Paired (fun p q => ∃ u, (upd (upd H3 a (.tup [.ref t1, .ref t2])) D (.lst (acc ++ [.ref a]))) p = some (.tup [u, q.2]) ∧ moT.at (upd (upd H3 a (.tup [.ref t1, .ref t2])) D (.lst (acc ++ [.ref a]))) u q.1) ps kvs ∧ MkAt (upd (upd H3 a (.tup [.ref t1, .ref t2])) D (.lst (acc ++ [.ref a]))) kvs id (i + 1) ∧ Same H (upd (upd H3 a (.tup [.ref t1, .ref t2])) D (.lst (acc ++ [.ref a])))
      generalize upd H3 a (.tup [.ref t1, .ref t2]) = H4 at s4 h4 ⊢
      have s14 := (s2.trans s3).trans s4
      have g4 := s14 _ _ g1
      have kt : TupK H4 (upd H4 D (.lst (ps.map V.ref ++ [.ref a]))) := tupK_lst g4
      have lk := k1.len
      have lp := plen p1
      refine ⟨_, g4, small1000 (by rw [List.length_map]; omega), ps ++ [a], kvs ++ [(i, .ref t2)], ?_, ?_, ?_, same_fill (s1.trans s14) nD⟩
      · rw [upd_same, List.map_append]
        rfl
      · refine papp (pmono p1 fun _ _ z => ?_) (.cons ⟨.ref t1, kt _ _ h4, (a2.mono (s3.trans s4).tupK).mono kt⟩ .nil)
        obtain ⟨u, z1, z2⟩ := z
        exact ⟨u, kt _ _ (s14 _ _ z1), (z2.mono s14.tupK).mono kt⟩
      · unfold MkAt
        rw [List.range_succ]
        exact papp ((k1.mono s14.tupK).mono kt) (.cons ⟨rfl, (a3.mono s4.tupK).mono kt⟩ .nil)
    · rintro H1 ⟨ps, kvs, g1, p1, k1, s1⟩
      refine ⟨D, ps, kvs, rfl, g1, p1, fun q hq => Nat.lt_trans (k1.lt q hq) hN, by rw [k1.keys]; exact List.nodup_range, fun M nM => ?_⟩
      have s2 : Same H1 (upd H1 M (moT.obj kvs)) := same_new nM
      have k2 := k1.mono s2.tupK
      have nM0 : H M = none := s1.free nM
      have h2 : (upd H1 M (moT.obj kvs)) M = some (moT.obj kvs) := upd_same
      have s12 := s1.trans s2
      generalize upd H1 M (moT.obj kvs) = H2 at s12 k2 h2 ⊢
      clear s2 k1 p1 g1 s1 nM nD
      let r : Nat → Nat → Prop := fun x y => y ∈ lkC S x
      have rsym : ∀ x y, r x y → r y x := fun x y h => lkC_symm hG h
      let W : Nat → L2.St → Hp → Prop := fun k σ H5 => ∃ (b : Bool) (m : Nat → Nat) (kvs : List (Nat × V)) (y3 y4 y5 y6 y7 : Option V), σ = [some (.ref p), some (.ref M), some (.bl b), y3, y4, y5, y6, y7, none, none, none, none] ∧ H5 M = some (moT.obj kvs) ∧ MkAt H5 kvs m N ∧ MkOk r N m ∧ (b = false → MkEnd r N m) ∧ Same H H5 ∧ k = 2 * mkSum N m + (if b = true then 1 else 0)
      refine ⟨W, ⟨_, true, id, kvs, none, none, none, none, none, rfl, h2, k2, .start r N, (fun z => nomatch z), s12, rfl⟩, ?_⟩
      rintro k σ H5 ⟨b, m, kvs5, y3, y4, y5, y6, y7, rfl, h5, k5, ok5, en5, s5, rfl⟩
      refine ⟨.bl b, rfl, b, rfl, ?_⟩
      cases b with
      | false =>
        refine iteF ?_
        have E := en5 rfl
        clear ok5 en5
        have nM5 : ∀ {a : Addr}, H5 a = none → a ≠ M := fun e z => by
          rw [z, h5] at e
          cases e
        refine ⟨.ref M, rfl, M, tKvs kvs5, rfl, h5, fun L nL => ?_⟩
        obtain ⟨ks, e1, e2, e3⟩ := MkAt.vals k5
        have ev : (tKvs kvs5).map (fun kv => kv.2) = ks.map (fun p => V.ref p.1) := by
          rw [← e1]
          unfold tKvs
          rw [List.map_map]
          rfl
        have s6 : Same H5 (upd H5 L (.lst ((tKvs kvs5).map fun kv => kv.2))) := same_new nL
        have h6 : (upd H5 L (.lst ((tKvs kvs5).map fun kv => kv.2))) L = some (.lst (ks.map fun p => V.ref p.1)) := by rw [upd_same, ev]
        generalize upd H5 L (.lst ((tKvs kvs5).map fun kv => kv.2)) = H6 at s6 h6 ⊢
        have lks : ks.length = N := by
          have := congrArg List.length e3
          rwa [List.length_map, List.length_map, List.length_range] at this
        refine ⟨L, ks, rfl, .inl (.inl h6), fun q hq => .inl (.inl (s6 _ _ (e2 q hq))), by omega, fun a L1 na sub all => ?_⟩
        have s7 : Same H6 (upd H6 a (SetTO P w a L1)) := same_new na
        have h7 : (upd H6 a (SetTO P w a L1)) a = some (SetTO P w a L1) := upd_same
        generalize upd H6 a (SetTO P w a L1) = H7 at s7 h7 ⊢
        have val : ∀ q ∈ ks, ∃ n, n < N ∧ q.2 = moT.dec (m n) := fun q hq => by
          have z : q.2 ∈ ks.map (·.2) := List.mem_map_of_mem hq
          rw [e3, List.mem_map] at z
          obtain ⟨n, hn, e⟩ := z
          exact ⟨n, List.mem_range.mp hn, e.symm⟩
        have mlt : ∀ n, n < N → m n < 64 := fun n hn => Nat.lt_of_le_of_lt (E.ok.le n hn) (by omega)
        have s57 := s6.trans s7
        refine ⟨a, L1, 2, 64, rfl, h7, fun q hq => .inl (.inl (s57 _ _ (e2 q (sub q hq)))), by decide, fun q hq => ?_, fun L2 F pm nd2 l64 pw nF => ?_⟩
        · obtain ⟨n, hn, e⟩ := val q (sub q hq)
          rw [e]
          exact ⟨rfl, moT_bd (mlt n hn)⟩
        obtain ⟨fs, f1, f2⟩ := decs_of fun q hq => val q (sub q (pm.mem_iff.mp hq))
        have f3 : ∀ x, x ∈ fs ↔ ∃ n, n < N ∧ m n = x := fun x => ⟨f2 x, fun ⟨n, hn, e⟩ => by
          have z : moT.dec (m n) ∈ ks.map (·.2) := by
            rw [e3]
            exact List.mem_map.mpr ⟨n, List.mem_range.mpr hn, rfl⟩
          obtain ⟨q, hq, eq⟩ := List.mem_map.mp z
          have y := all q hq
          have y2 : q.2 ∈ L2.map (·.2) := (pm.map (·.2)).mem_iff.mpr y
          rw [f1, List.mem_map] at y2
          obtain ⟨x', hx', ex⟩ := y2
          rw [eq] at ex
          rw [← e, ← dec_inj ex]
          exact hx'⟩
        have fnd : fs.Nodup := by
          rw [f1] at nd2
          exact (List.pairwise_map.mp nd2).imp fun h z => h (congrArg moT.dec z)
        have fup : fs.Pairwise (· < ·) := by
          have z : fs.Pairwise (fun x y => TS.code 64 (moT.dec x) ≤ TS.code 64 (moT.dec y)) := by
            have z2 : (L2.map (·.2)).Pairwise (fun x y => TS.code 64 x ≤ TS.code 64 y) := List.pairwise_map.mpr pw
            rw [f1, List.pairwise_map] at z2
            exact z2
          have fl : ∀ x ∈ fs, x < 64 := fun x hx => by
            obtain ⟨n, hn, rfl⟩ := f2 x hx
            exact mlt n hn
          refine List.Pairwise.imp_of_mem (fun {x y} hx hy h => ?_) (z.and fnd)
          have := moT_up h.1 (fl x hx) (fl y hy)
          have := h.2
          omega
        have ffst : fs = fstE (hangB r) (List.range N) := E.list rsym fup f3
        have pF : ∀ H', Same H7 H' → Paired (moT.at H') (L2.map fun q => V.ref q.1) fs := fun H' s' => by
          have e4 : ∀ q ∈ L2, H' q.1 = some (.tup (q.2.map V.int)) := fun q hq => s' _ _ (s57 _ _ (e2 q (sub q (pm.mem_iff.mp hq))))
          clear fup ffst fnd f3 f2 pw nd2 pm l64 nF
          induction L2 generalizing fs with
          | nil =>
            cases fs with
            | nil => exact .nil
            | cons x fs => cases f1
          | cons q L2 ih =>
            cases fs with
            | nil => cases f1
            | cons x fs =>
              injection f1 with g1 g2
              refine .cons ⟨q.1, rfl, ?_⟩ (ih fs g2 fun q hq => e4 q (List.mem_cons_of_mem _ hq))
              rw [e4 q List.mem_cons_self, show q.2 = moT.dec x from g1]
        have s8 : Same H7 (upd H7 F (.lst (L2.map fun q => V.ref q.1))) := same_new nF
        have h8 : (upd H7 F (.lst (L2.map fun q => V.ref q.1))) F = some (.lst (L2.map fun q => V.ref q.1)) := upd_same
        generalize upd H7 F (.lst (L2.map fun q => V.ref q.1)) = H8 at s8 h8 ⊢
        have s58 := s57.trans s8
        have s08 := s5.trans s58
        have lfs : fs.length = L2.length := by
          have := congrArg List.length f1
          rwa [List.length_map, List.length_map, eq_comm] at this
        have nF0 : H F = none := (s5.trans s57).free nF
        have k8 := k5.mono s58.tupK
        have h8M := s58 _ _ h5
        have kN : ∀ q ∈ kvs5, q.1 < 64 := fun q hq => Nat.lt_trans (k5.lt q hq) hN
        have lk5 := k5.len
        have gkv : ∀ n, n < N → ∃ v, kvs5[n]? = some (n, v) := fun n hn => by
          obtain ⟨q, hq, e, _⟩ := pget k5 (List.getElem?_range hn)
          exact ⟨q.2, by rw [hq, ← e]⟩
        dsimp only [gName]
        refine ⟨.ref F, rfl, F, rfl, ⟨_, .inl (.inl h8)⟩, fun D nD => ?_⟩
        refine lc_list (xs := L2.map fun q => V.ref q.1) (fun i H9 => ∃ ps : List Addr, H9 D = some (.lst (ps.map V.ref)) ∧ D ∉ ps ∧ ps.Nodup ∧ Paired (fun p row => H p = none ∧ ∃ vs, H9 p = some (.lst vs) ∧ Paired (moT.at H9) vs row) ps ((fs.take i).map fun x => (List.range N).filter fun n => decide (m n = x)) ∧ Same H8 H9) ⟨[], upd_same, List.not_mem_nil, List.nodup_nil, .nil, same_new nD⟩ ?_ ?_ ?_
        · rintro i H9 _ ⟨ps, _, _, _, _, s9⟩
          exact .inl (.inl (s9 _ _ h8))
        · rintro i x H9 hx ⟨ps, g9, o9, d9, w9, s9⟩
          obtain ⟨fx, hfx, ax⟩ := pget' (pF H9 (s8.trans s9)) hx
          refine ⟨rfl, M, moT.obj kvs5, s9 _ _ h8M, trivial, fun od => ?_⟩
          have h9M := s9 _ _ h8M
          have lM : (upd H9 M (.frz od (moT.obj kvs5))) M = some (.frz od (moT.obj kvs5)) := upd_same
          have tkl : TupK H9 (upd H9 M (.frz od (moT.obj kvs5))) := tupK_dic (M := moT) h9M
          have k9 := (k8.mono s9.tupK).mono tkl
          have ax9 := ax.mono tkl
          generalize eHl : upd H9 M (.frz od (moT.obj kvs5)) = Hl at lM k9 ax9 ⊢
          refine ⟨.ref M, rfl, M, od, rfl, .inr ⟨tKvs kvs5, lM, fun D2 nD2 => ?_⟩⟩
          refine lc_it walk_keysT (fun j H10 => ∃ xs, H10 D2 = some (.lst xs) ∧ Paired (moT.at H10) xs ((List.range j).filter fun n => decide (m n = fx)) ∧ Same Hl H10) ⟨[], upd_same, .nil, same_new nD2⟩ (fun j H10 _ ⟨_, _, _, s10⟩ => s10 _ _ lM) ?_ ?_
          · rintro j y H10 H11 hj ⟨xs, g10, p10, s10⟩ ⟨rfl, key, v, qa, hkv, rfl, hqa⟩
            have jN : j < N := by
              unfold tKvs at hj
              rw [List.length_map, lk5] at hj
              exact hj
            obtain ⟨v', hv'⟩ := gkv j jN
            unfold tKvs at hkv
            rw [List.getElem?_map, hv'] at hkv
            injection hkv with hkv
            injection hkv with ek ev'
            subst ek
            have aq : moT.at H11 (.ref qa) j := ⟨qa, rfl, by
              rw [hqa]
              show some (HO.tup (((moT.dec j).map Sum.inl).map kV)) = _
              rw [List.map_map]
              rfl⟩
            obtain ⟨v2, e2', a2⟩ := (k9.mono s10.tupK).get jN
            refine ⟨rfl, .ref M, rfl, .ref qa, rfl, M, v2, rfl, e2' ▸ get_rd (.inr ⟨od, s10 _ _ lM⟩) aq kN (by omega), x, rfl, eq_moT a2 (ax9.mono s10.tupK) ⟨_, rfl, ?_⟩⟩
            have rs' : ((List.range (j + 1)).filter fun n => decide (m n = fx)) = ((List.range j).filter fun n => decide (m n = fx)) ++ (if m j = fx then [j] else []) := by
              rw [List.range_succ, List.filter_append, List.filter_cons, List.filter_nil]
              by_cases c : m j = fx
              · rw [if_pos c, if_pos (decide_eq_true c)]
              · rw [if_neg c, if_neg (fun z => c (of_decide_eq_true z))]
            by_cases c : m j = fx
            · rw [decide_eq_true c]
              rw [if_pos c] at rs'
              refine iteT ⟨.ref qa, rfl, xs, g10, small1000 ?_, xs ++ [.ref qa], upd_same, ?_, same_fill s10 nD2⟩
              · rw [plen p10]
                refine Nat.le_trans (List.length_filter_le _ _) ?_
                rw [List.length_range]
                omega
              · rw [rs']
                have kt : TupK H11 (upd H11 D2 (.lst (xs ++ [.ref qa]))) := tupK_lst g10
                exact papp (pmono p10 fun _ _ z => z.mono kt) (.cons (aq.mono kt) .nil)
            · rw [decide_eq_false c]
              rw [if_neg c, List.append_nil] at rs'
              refine iteF ⟨xs, g10, ?_, s10⟩
              rw [rs']
              exact p10
          · rintro H10 ⟨xs, g10, p10, s10⟩
            have ltk : (tKvs kvs5).length = N := by
              unfold tKvs
              rw [List.length_map, lk5]
            rw [ltk] at p10
            have dM : D2 ≠ M := fun z => by
              rw [z, lM] at nD2
              cases nD2
            have h10M := s10 _ _ lM
            have su : Same H9 (upd H10 M (moT.obj kvs5)) := same_unlock h9M (eHl ▸ s10)
            have tu : TupK H10 (upd H10 M (moT.obj kvs5)) := tupK_set h10M fun _ z => by cases z
            have g12 : (upd H10 M (moT.obj kvs5)) D2 = some (.lst xs) := by
              rw [upd_ne dM]
              exact g10
            refine ⟨h10M, ?_⟩
            have p12 : Paired (moT.at (upd H10 M (moT.obj kvs5))) xs ((List.range N).filter fun n => decide (m n = fx)) := pmono p10 fun _ _ z => z.mono tu
            generalize upd H10 M (moT.obj kvs5) = H12 at su g12 p12 ⊢
            refine ⟨D2, xs, _, rfl, g12, p12, fun n hn => ?_, ?_, fun ys l' pn hy pm' so np => ?_⟩
            · have := List.mem_range.mp (List.mem_filter.mp hn).1
              omega
            · refine Nat.lt_of_le_of_lt (List.length_filter_le _ _) ?_
              rw [List.length_range]
              exact hN
            · have el : l' = (List.range N).filter fun n => decide (m n = fx) := nat_sorted pm' so (List.Pairwise.filter _ List.pairwise_le_range)
              subst el
              have s13 : Same H12 (upd H12 pn (.lst ys)) := same_new np
              have g13 : (upd H12 pn (.lst ys)) pn = some (.lst ys) := upd_same
              have hy13 := pmono hy fun _ _ z => z.mono s13.tupK
              have s913 := su.trans s13
              have pnp : pn ∉ ps := fun z => by
                obtain ⟨i', hi'⟩ := List.mem_iff_getElem?.mp z
                obtain ⟨_, _, _, vs, e, _⟩ := pget' w9 hi'
                rw [su _ _ e] at np
                cases np
              have pnD : D ≠ pn := ne_of_none (su _ _ g9) np
              have np0 : H pn = none := ((s08.trans s9).trans su).free np
              generalize upd H12 pn (.lst ys) = H13 at s913 g13 hy13 ⊢
              have gD := s913 _ _ g9
              have kt : TupK H13 (upd H13 D (.lst (ps.map V.ref ++ [.ref pn]))) := tupK_lst gD
              have lps := plen w9
              rw [List.length_map] at lps
              have l2s : L2.length < 64 := l64
              refine ⟨_, gD, small1000 (by
                rw [List.length_map, lps, List.length_take]
                omega), ps ++ [pn], ?_, ?_, ?_, ?_, same_fill (s9.trans s913) nD⟩
              · rw [upd_same, List.map_append]
                rfl
              · rw [List.mem_append]
                rintro (z | z)
                · exact o9 z
                · exact pnD (List.mem_singleton.mp z)
              · rw [List.nodup_append]
                exact ⟨d9, by simp, fun a ha b hb e => pnp (by rw [← List.mem_singleton.mp hb, ← e]; exact ha)⟩
              · rw [List.take_add_one, hfx, List.map_append]
                refine papp (pmonoM w9 fun p hp row z => ?_) (.cons ⟨np0, ys, ?_, pmono hy13 fun _ _ z => z.mono kt⟩ .nil)
                · obtain ⟨n0, vs, e, g⟩ := z
                  refine ⟨n0, vs, ?_, pmono g fun _ _ y => (y.mono s913.tupK).mono kt⟩
                  rw [upd_ne (fun z => o9 (by rw [← z]; exact hp))]
                  exact s913 _ _ e
                · rw [upd_ne pnD.symm]
                  exact g13
        · rintro H9 ⟨ps, g9, o9, d9, w9, s9⟩
          refine q H9 D (s08.trans s9) ⟨ps, g9, (s08).free nD, o9, d9, ?_⟩
          rw [List.length_map, ← lfs, List.take_length] at w9
          unfold crnE rowsE
          rw [eNN, ← ffst]
          rw [show (fs.map fun x => (List.range N).filter fun n => decide (m n = x)) = fs.map fun x => (List.range N).filter (hangB r x) from List.map_congr_left fun x hx => E.row rsym (ffst ▸ hx)] at w9
          exact w9
      | true =>
        refine iteT ⟨fun σ' H' => ∃ k', k' < 2 * mkSum N m + 1 ∧ W k' σ' H', fun σ' H' z => z, ?_⟩
        refine ⟨.ref p, rfl, .ref p, S, rfl, hst.mono s5.tups, hG.l4, h2S, fun H6 l xs s6 nl hl pl => ?_⟩
        have lM : l ≠ M := fun z => by
          rw [z, h5] at nl
          cases nl
        refine ⟨l, rfl, ⟨xs, .inl (.inl hl)⟩, ?_⟩
        let St : List (Nat × Nat) → Bool → Hp → Prop := fun ps b' H7 => ∃ (m' : Nat → Nat) (kvs' : List (Nat × V)), H7 M = some (moT.obj kvs') ∧ MkAt H7 kvs' m' N ∧ MkPass r N m ps m' b' ∧ H7 l = some (.lst xs) ∧ Paired (JnAt H7) xs (jnL S S.length) ∧ Same H H7
        refine for_list (xs := xs) (fun j σ H7 => ∃ (b' : Bool) (y3 y4 y5 y6 y7 : Option V), σ = [some (.ref p), some (.ref M), some (.bl b'), y3, y4, y5, y6, y7, none, none, none, none] ∧ St (((jnL S S.length).take j).flatMap fun x => prJ x 4) b' H7) ⟨false, y3, y4, y5, y6, y7, rfl, m, kvs5, s6 _ _ h5, k5.mono s6.tupK, .start ok5, hl, pl, s5.trans s6⟩ ?_ ?_ ?_
        · rintro j σ H7 _ ⟨b', y3, y4, y5, y6, y7, rfl, m', kvs', g1, g2, g3, g4, g5, g6⟩
          exact .inl (.inl g4)
        · rintro j x σ H7 hx ⟨b', y3, y4, y5, y6, y7, rfl, st7⟩
          obtain ⟨z, hz, a0, pq, rfl, ha, fpq⟩ := pget' st7.choose_spec.choose_spec.2.2.2.2.1 hx
          obtain ⟨zb, zf, zn, zt⟩ := z
          have zm := jnL_mem.mp (List.mem_of_getElem? hz)
          obtain ⟨lb, lf, gj⟩ := zm
          have lb : zb < S.length := lb
          have lf : zf < 4 := lf
          have gj : getJ S zb zf = some (some (zn, zt)) := gj
          have ln := hG.lt gj
          have ht := (hG.both _ _ _ _ gj).1
          refine ⟨a0, [intV zb, intV zf, intV zn, .ref pq], rfl, .inl (.inl ha), rfl, intV zb, _, rfl, intV zf, _, rfl, intV zn, _, rfl, .ref pq, [], rfl, rfl, ?_⟩
          refine ⟨4, rfl, by decide, by decide, ?_⟩
          have tk : (((jnL S S.length).take (j + 1)).flatMap fun x => prJ x 4) = (((jnL S S.length).take j).flatMap fun x => prJ x 4) ++ prJ (zb, zf, zn, zt) 4 := by
            rw [List.take_add_one, hz, List.flatMap_append]
            show _ ++ ([(zb, zf, zn, zt)].flatMap fun x => prJ x 4) = _
            rw [List.flatMap_singleton]
          generalize (((jnL S S.length).take j).flatMap fun x => prJ x 4) = ps at st7 tk
          rw [tk]
          refine for_range (lo := 0) (n := 4) (fun c σ H8 => ∃ (b' : Bool) (y7 : Option V), σ = [some (.ref p), some (.ref M), some (.bl b'), some (intV zb), some (intV zf), some (intV zn), some (.ref pq), y7, none, none, none, none] ∧ St (ps ++ prJ (zb, zf, zn, zt) c) b' H8 ∧ FT H8 pq (trnV zt)) ⟨b', y7, rfl, ?_, fpq⟩ ?_ ?_
          · show St (ps ++ []) b' H7
            rw [List.append_nil]
            exact st7
          · rintro c σ H8 hc ⟨b', y7, rfl, st8, fq8⟩
            rw [Int.zero_add]
            refine ⟨.int (c : Int), rfl, intV zf, rfl, rfl, _, rfl, ?_⟩
            rw [cmp_nat c zf]
            obtain ⟨m', kvs', g1, g2, g3, g4, g5, g6⟩ := st8
            have pc := prJ_succ (zb, zf, zn, zt) c
            by_cases cf : c ≠ zf
            · rw [decide_eq_true cf]
              rw [if_pos (show c ≠ (zb, zf, zn, zt).2.1 from cf)] at pc
              refine iteT ?_
              have htc := tf_lt zt ht c hc
              have la : 4 * zb + c < N := by omega
              have lb' : 4 * zn + tf zt c < N := by omega
              have da : (4 * zb + c) / 4 = zb := by omega
              have ma : (4 * zb + c) % 4 = c := by omega
              have db : (4 * zn + tf zt c) / 4 = zn := by omega
              have mb : (4 * zn + tf zt c) % 4 = tf zt c := by omega
              obtain ⟨v1, e1, a1⟩ := g2.get la
              obtain ⟨v2, e2, a2⟩ := g2.get lb'
              have kN : ∀ q ∈ kvs', q.1 < 64 := fun q hq => Nat.lt_trans (g2.lt q hq) hN
              have att : ∀ (H : Hp) (t : Addr), H t = some (.tup [intV zb, intV c]) → moT.at H (.ref t) (4 * zb + c) := fun H t e => ⟨t, rfl, by
                rw [e]
                show some (HO.tup [intV zb, intV c]) = some (HO.tup [.int (((4 * zb + c) / 4 : Nat) : Int), .int (((4 * zb + c) % 4 : Nat) : Int)])
                rw [da, ma]
                rfl⟩
              have att2 : ∀ (H : Hp) (t : Addr), H t = some (.tup [intV zn, intV (tf zt c)]) → moT.at H (.ref t) (4 * zn + tf zt c) := fun H t e => ⟨t, rfl, by
                rw [e]
                show some (HO.tup [intV zn, intV (tf zt c)]) = some (HO.tup [.int (((4 * zn + tf zt c) / 4 : Nat) : Int), .int (((4 * zn + tf zt c) % 4 : Nat) : Int)])
                rw [db, mb]
                rfl⟩
              have itt : atI (trnV zt) ((c : Nat) : Int) = some (intV (tf zt c)) := atI_nat (by unfold trnV; rw [List.getElem?_map, htc.2]; rfl)
              refine ⟨.ref M, rfl, intV zb, rfl, .int (c : Int), rfl, Nat.le_of_lt (small1000 (by show 2 ≤ 1000; decide)), fun t1 n1 => ?_⟩
              have s9 : Same H8 (upd H8 t1 (.tup [intV zb, .int (c : Int)])) := same_new n1
              have b1 : (upd H8 t1 (.tup [intV zb, .int (c : Int)])) t1 = some (.tup [intV zb, intV c]) := upd_same
              refine ⟨M, v1, rfl, e1 ▸ Mo.get (M := moT) (N := 64) (moT_inj 64) (s9 _ _ g1) (att _ _ b1) kN (by omega), ?_⟩
              have f9 := fq8.mono s9.tups
              have g19 := s9 _ _ g1
              have a19 := a1.mono s9.tupK
              have a29 := a2.mono s9.tupK
              generalize upd H8 t1 (.tup [intV zb, .int (c : Int)]) = H9 at s9 b1 f9 g19 a19 a29 ⊢
              refine ⟨.ref M, rfl, intV zn, rfl, .ref pq, rfl, .int (c : Int), rfl, pq, trnV zt, c, intV (tf zt c), rfl, rfl, f9.sqt, itt, Nat.le_of_lt (small1000 (by show 2 ≤ 1000; decide)), fun t2 n2 => ?_⟩
              have s10 : Same H9 (upd H9 t2 (.tup [intV zn, intV (tf zt c)])) := same_new n2
              have b2 : (upd H9 t2 (.tup [intV zn, intV (tf zt c)])) t2 = some (.tup [intV zn, intV (tf zt c)]) := upd_same
              refine ⟨M, v2, rfl, e2 ▸ Mo.get (M := moT) (N := 64) (moT_inj 64) (s10 _ _ g19) (att2 _ _ b2) kN (by omega), ?_⟩
              have f10 := f9.mono s10.tups
              have g110 := s10 _ _ g19
              have a110 := a19.mono s10.tupK
              have a210 := a29.mono s10.tupK
              have s810 := s9.trans s10
              generalize upd H9 t2 (.tup [intV zn, intV (tf zt c)]) = H10 at s810 f10 g110 a110 a210 ⊢
              refine ⟨m' (4 * zb + c), m' (4 * zn + tf zt c), a110, a210, _, rfl, ?_⟩
              have keep10 : H10 M = some (moT.obj kvs') ∧ MkAt H10 kvs' m' N ∧ H10 l = some (.lst xs) ∧ Paired (JnAt H10) xs (jnL S S.length) ∧ Same H H10 := ⟨g110, g2.mono s810.tupK, s810 _ _ g4, pmono g5 fun _ _ z => z.mono s810.tups s810.tupK, g6.trans s810⟩
              obtain ⟨k1, k2, k3, k4, k5⟩ := keep10
              by_cases lt : m' (4 * zb + c) < m' (4 * zn + tf zt c)
              · rw [decide_eq_true lt]
                refine iteT ?_
                refine ⟨.ref M, rfl, intV zb, rfl, .int (c : Int), rfl, Nat.le_of_lt (small1000 (by show 2 ≤ 1000; decide)), fun t3 n3 => ?_⟩
                have s11 : Same H10 (upd H10 t3 (.tup [intV zb, .int (c : Int)])) := same_new n3
                have b3 : (upd H10 t3 (.tup [intV zb, .int (c : Int)])) t3 = some (.tup [intV zb, intV c]) := upd_same
                refine ⟨M, v1, rfl, e1 ▸ Mo.get (M := moT) (N := 64) (moT_inj 64) (s11 _ _ k1) (att _ _ b3) kN (by omega), ?_⟩
                have f11 := f10.mono s11.tups
                have k1' := s11 _ _ k1
                have a111 := a110.mono s11.tupK
                generalize upd H10 t3 (.tup [intV zb, .int (c : Int)]) = H11 at s11 f11 k1' a111 ⊢
                refine ⟨.ref M, rfl, intV zn, rfl, .ref pq, rfl, .int (c : Int), rfl, pq, trnV zt, c, intV (tf zt c), rfl, rfl, f11.sqt, itt, Nat.le_of_lt (small1000 (by show 2 ≤ 1000; decide)), fun t4 n4 => ?_⟩
                have s12 : Same H11 (upd H11 t4 (.tup [intV zn, intV (tf zt c)])) := same_new n4
                have b4 : (upd H11 t4 (.tup [intV zn, intV (tf zt c)])) t4 = some (.tup [intV zn, intV (tf zt c)]) := upd_same
                have f12 := f11.mono s12.tups
                have k1'' := s12 _ _ k1'
                have a112 := a111.mono s12.tupK
                have s1012 := s11.trans s12
                generalize upd H11 t4 (.tup [intV zn, intV (tf zt c)]) = H12 at s1012 f12 k1'' a112 b4 ⊢
                have lkv := g2.len
                refine ⟨M, _, rfl, Mo.put (M := moT) (N := 64) (x := v1) (moT_inj 64) k1'' (att2 _ _ b4) kN (by omega) (small1000 (by omega)), ?_⟩
                have tk12 : TupK H12 (upd H12 M (moT.obj (putK kvs' (4 * zn + tf zt c) v1))) := tupK_dic (M := moT) k1''
                have tu12 : Tups H12 (upd H12 M (moT.obj (putK kvs' (4 * zn + tf zt c) v1))) := tups_dic (M := moT) k1''
                refine ⟨true, _, rfl, ?_, f12.mono tu12⟩
                rw [pc, ← List.append_assoc]
                refine ⟨_, _, upd_same, ((k2.mono s1012.tupK).mono tk12).put lb' (a112.mono tk12), g3.put la lb' ?_ lt, ?_, pmono k4 fun _ _ z => (z.mono s1012.tups s1012.tupK).mono tu12 tk12, same_fill (k5.trans s1012) nM0⟩
                · exact rsym _ _ (metL_mem.mpr ⟨zf, zn, zt, lf, by rw [da]; exact gj, by rw [ma]; exact fun z => cf z.symm, by rw [ma]⟩)
                · rw [upd_ne lM]
                  exact s1012 _ _ k3
              · rw [decide_eq_false lt]
                refine iteF ⟨b', _, rfl, ?_, f10⟩
                rw [pc, ← List.append_assoc]
                exact ⟨m', kvs', k1, k2, g3.keep lt, k3, k4, k5⟩
            · rw [decide_eq_false cf]
              rw [if_neg (show ¬ c ≠ (zb, zf, zn, zt).2.1 from cf), List.append_nil] at pc
              refine iteF (iteF ⟨b', _, rfl, ?_, fq8⟩)
              rw [pc]
              exact ⟨m', kvs', g1, g2, g3, g4, g5, g6⟩
          · rintro σ H8 ⟨b', y7, rfl, st8, _⟩
            exact ⟨b', _, _, _, _, y7, rfl, st8⟩
        · rintro σ H7 ⟨b', y3, y4, y5, y6, y7, rfl, m', kvs', g1, g2, g3, g4, g5, g6⟩
          rw [plen pl, List.take_length] at g3
          refine ⟨_, ?_, b', m', kvs', y3, y4, y5, y6, y7, rfl, g1, g2, g3.ok, fun e => ?_, g6, rfl⟩
          · cases b' with
            | false =>
              rw [(g3.no rfl).1]
              exact Nat.lt_succ_self _
            | true =>
              have := g3.yes rfl
              show 2 * mkSum N m' + 1 < 2 * mkSum N m + 1
              omega
          · rw [e] at g3
            exact g3.fin fun a b hr => ⟨prJ_all hG (lkC_lt hG (rsym _ _ hr)) hr, prJ_all hG (lkC_lt hG hr) (rsym _ _ hr)⟩
end
end Bk

namespace Bk
open PySem PySem.Spec PyProof.Rows L2 RZ
theorem mem_mtL {S : Spc} {m b f n c : Nat} {t : Trn} (hb : b < m) (hf : f < 4) (gj : getJ S b f = some (some (n, t))) (hc : c < 4) (cf : c ≠ f) : ((b, f, c), (n, tf t f, tf t c)) ∈ mtL S m := by
  unfold mtL
  rw [List.mem_flatMap]
  refine ⟨b, List.mem_range.mpr hb, ?_⟩
  unfold mtF
  rw [List.mem_flatMap]
  refine ⟨f, List.mem_range.mpr hf, ?_⟩
  rw [gj]
  show _ ∈ mtC b f n t 4
  unfold mtC
  exact List.mem_map.mpr ⟨c, List.mem_filter.mpr ⟨List.mem_range.mpr hc, decide_eq_true cf⟩, rfl⟩
/-- the arcs are alike at a joining's corner -/
def ArcEq (ns : List Int) (x : Qua) (c : Nat) : Prop := arcsN ns x.1 x.2.1 c = arcsN ns x.2.2.1 (tf x.2.2.2 x.2.1) (tf x.2.2.2 c)
theorem fits_true {S : Spc} {ns : List Int} (h : ∀ x ∈ jnL S S.length, ∀ c, c < 4 → c ≠ x.2.1 → ArcEq ns x c) : fitsB S ns = true := by
  unfold fitsB
  rw [List.all_eq_true]
  intro y hy
  obtain ⟨b, f, n, t, c, hb, hf, gj, hc, cf, rfl⟩ := mtL_mem hy
  exact decide_eq_true (h (b, f, n, t) (jnL_mem.mpr ⟨hb, hf, gj⟩) c hc cf)
theorem fits_false {S : Spc} {ns : List Int} {x : Qua} {c : Nat} (hx : x ∈ jnL S S.length) (hc : c < 4) (cf : c ≠ x.2.1) (n : ¬ ArcEq ns x c) : fitsB S ns = false := by
  obtain ⟨hb, hf, gj⟩ := jnL_mem.mp hx
  cases e : fitsB S ns with
  | false => rfl
  | true =>
    unfold fitsB at e
    rw [List.all_eq_true] at e
    exact absurd (of_decide_eq_true (e _ (mem_mtL hb hf gj hc cf))) n
section
variable {P : Program} {w : World} {K : PySem.W.Frag} {mg : Str → Option Value} {base : Heap}
end
end Bk

/-! max and min of a list of ints -/
namespace Bk
open PySem PySem.Spec PyProof.Rows L2
section
variable {X : Cx}
def rMaxI (K : PySem.W.Frag) : List V → Hp → VK → Prop := fun vs H Q => ∃ (p : Addr) (ns : List Int), vs = [.ref p] ∧ SqL K H p (ns.map V.int) ∧ 0 < ns.length ∧ ∀ M, M ∈ ns → (∀ a ∈ ns, a ≤ M) → Q (.int M) H
def rMinI (K : PySem.W.Frag) : List V → Hp → VK → Prop := fun vs H Q => ∃ (p : Addr) (ns : List Int), vs = [.ref p] ∧ SqL K H p (ns.map V.int) ∧ 0 < ns.length ∧ ∀ M, M ∈ ns → (∀ a ∈ ns, M ≤ a) → Q (.int M) H
theorem kMaxI (K : PySem.W.Frag) (hK : X.K = K) (hc : X.calm = true) : CallR X (.builtin "max") (rMaxI K) := by
  subst hK
  rintro pins s σ H vs us Q I r ⟨p, ns, rfl, hs, hne, q⟩
  obtain ⟨its, rv, hl, _⟩ := I.list hs
  rw [Vals.ref1 r]
  have hi : IntsAre its ns := Vals.ints rv
  obtain ⟨xs, e⟩ := hi.allInts.items
  have hns : ns = xs.toList.map (·.1) := by rw [← hi.numsOf, ← nums_intItems, ← e]
  have hsz : 0 < xs.size := by
    have h3 := hne
    rw [hns, List.length_map, Array.length_toList] at h3
    exact h3
  have hL := hl.isList
  rw [e] at hL
  refine max_intList (I.ok.hd hc) hL hsz fun v h' tk hv hk => ?_
  obtain ⟨t, rfl⟩ := intItems_at hv
  obtain ⟨h1, h2⟩ := argBest_gt (numAt xs) (xs.size - 1)
  refine ⟨.int _, H, I.kept hk, ⟨t, rfl⟩, q _ ?_ fun a ha => ?_⟩
  · rw [hns, numAt_eq]
    exact getD_mem (by rw [List.length_map, Array.length_toList]; omega)
  · rw [hns] at ha
    obtain ⟨j, hj, rfl⟩ := mem_getD ha
    rw [List.length_map, Array.length_toList] at hj
    rw [← numAt_eq]
    exact h2 j (by omega)
theorem kMinI (K : PySem.W.Frag) (hK : X.K = K) (hc : X.calm = true) : CallR X (.builtin "min") (rMinI K) := by
  subst hK
  rintro pins s σ H vs us Q I r ⟨p, ns, rfl, hs, hne, q⟩
  obtain ⟨its, rv, hl, _⟩ := I.list hs
  rw [Vals.ref1 r]
  have hi : IntsAre its ns := Vals.ints rv
  obtain ⟨xs, e⟩ := hi.allInts.items
  have hns : ns = xs.toList.map (·.1) := by rw [← hi.numsOf, ← nums_intItems, ← e]
  have hsz : 0 < xs.size := by
    have h3 := hne
    rw [hns, List.length_map, Array.length_toList] at h3
    exact h3
  have hL := hl.isList
  rw [e] at hL
  refine min_intList (I.ok.hd hc) hL hsz fun v h' tk hv hk => ?_
  obtain ⟨t, rfl⟩ := intItems_at hv
  obtain ⟨h1, h2⟩ := argBest_lt (numAt xs) (xs.size - 1)
  refine ⟨.int _, H, I.kept hk, ⟨t, rfl⟩, q _ ?_ fun a ha => ?_⟩
  · rw [hns, numAt_eq]
    exact getD_mem (by rw [List.length_map, Array.length_toList]; omega)
  · rw [hns] at ha
    obtain ⟨j, hj, rfl⟩ := mem_getD ha
    rw [List.length_map, Array.length_toList] at hj
    rw [← numAt_eq]
    exact h2 j (by omega)
end
end Bk

namespace Bk
open PySem PySem.Spec PyProof.Rows L2 RZ
theorem cut_three {ns : List Int} {b : Nat} (h : 7 * b + 6 < ns.length) : cutV (ns.map V.int) (some (7 * (b : Int) + 4)) (some (7 * (b : Int) + 7)) = ([4, 5, 6].map fun s => ns.getD (7 * b + s) 0).map V.int := by
  have e1 : HT.sIx (ns.map V.int).length 0 (some (7 * (b : Int) + 4)) = 7 * b + 4 := by
    rw [show 7 * (b : Int) + 4 = ((7 * b + 4 : Nat) : Int) by omega, HT.sIx_nat, List.length_map]
    omega
  have e2 : HT.sIx (ns.map V.int).length (ns.map V.int).length (some (7 * (b : Int) + 7)) = 7 * b + 7 := by
    rw [show 7 * (b : Int) + 7 = ((7 * b + 7 : Nat) : Int) by omega, HT.sIx_nat, List.length_map]
    omega
  unfold cutV
  rw [e1, e2, show 7 * b + 7 - (7 * b + 4) = 3 by omega]
  refine List.ext_getElem? fun j => ?_
  rw [List.getElem?_take]
  by_cases hj : j < 3
  · rw [if_pos hj, List.getElem?_drop, getD_map (show 7 * b + 4 + j < ns.length by omega)]
    match j, hj with
    | 0, _ => rfl
    | 1, _ => rfl
    | 2, _ => rfl
  · rw [if_neg hj, List.getElem?_eq_none (by simp; omega)]
section
variable {P : Program} {w : World} {K : PySem.W.Frag} {mg : Str → Option Value} {base : Heap}
end
end Bk

namespace Bk
open PySem PySem.Spec PyProof.Rows L2 RZ
def fcT (n : Nat) : PyData := .tuple [intD (n / 4), intD (n % 4)]
def rowsD (rows : List (List Nat)) : PyData := .list (rows.map fun r => .list (r.map fcT))
theorem fct_dps {K : PySem.W.Frag} {H : Hp} {vs : List V} {row : List Nat} (h : Paired (moT.at H) vs row) : DpAll K H vs (row.map fcT) := by
  induction h with
  | nil => exact .nil
  | cons r t ih =>
    obtain ⟨p, rfl, f⟩ := r
    exact .cons (.tup (.inl (.inl f)) (.cons (.int _) (.cons (.int _) .nil))) ih
theorem fct_lay : ∀ t : List Nat, PyData.canLayAll0 (t.map fcT) = true ∧ PyData.depthAll (t.map fcT) ≤ 1
  | [] => by simp [PyData.canLayAll0, PyData.depthAll]
  | x :: t => by
    obtain ⟨h1, h2⟩ := fct_lay t
    simp only [List.map_cons, PyData.canLayAll0, PyData.depthAll, fcT, intD, PyData.canLay0, PyData.depth, h1]
    exact ⟨rfl, by omega⟩
/-! ### each corner of a block is in one row -/
theorem fstE_pw {α : Type} (E : α → α → Bool) : ∀ l : List α, (fstE E l).Pairwise fun y x => E y x = false := by
  refine snoc_ind .nil fun l x ih => ?_
  rw [fstE_snoc]
  split
  · exact ih
  · rename_i h
    refine List.pairwise_append.mpr ⟨ih, List.pairwise_singleton _ _, fun a ha b hb => ?_⟩
    rw [List.mem_singleton.mp hb]
    cases e : E a x with
    | false => rfl
    | true => exact absurd (List.any_eq_true.mpr ⟨a, ha, e⟩) h
theorem fstE_any {α : Type} {E : α → α → Bool} (hE : ∀ x, E x x = true) : ∀ (l : List α) (x : α), x ∈ l → (fstE E l).any (fun y => E y x) = true := by
  refine snoc_ind (fun _ h => absurd h List.not_mem_nil) fun l x ih y hy => ?_
  rw [fstE_snoc]
  rcases List.mem_append.mp hy with hy | hy
  · have := ih y hy
    split
    · exact this
    · rw [List.any_append, this]
      rfl
  · rw [List.mem_singleton.mp hy]
    split
    · assumption
    · rw [List.any_append, List.any_cons, hE x]
      simp
theorem crnE_apart {S : Spc} (hG : Good S) : (crnE S).Pairwise fun a b => ∀ x ∈ a, x ∉ b := by
  have EQ := hangB_eqv (r := fun x y => y ∈ lkC S x) fun x y h => lkC_symm hG h
  unfold crnE rowsE
  rw [List.pairwise_map]
  refine (fstE_pw _ _).imp fun {a b} h x hx hy => ?_
  have h1 := (List.mem_filter.mp hx).2
  have h2 := (List.mem_filter.mp hy).2
  rw [EQ.trans _ _ _ h1 (EQ.symm _ _ h2)] at h
  cases h
theorem crnE_all {S : Spc} (hG : Good S) {n : Nat} (h : n < 4 * S.length) : n ∈ (crnE S).flatten := by
  have EQ := hangB_eqv (r := fun x y => y ∈ lkC S x) fun x y h => lkC_symm hG h
  have z := fstE_any EQ.rfl (List.range (4 * S.length)) n (List.mem_range.mpr h)
  obtain ⟨f, hf, e⟩ := List.any_eq_true.mp z
  rw [List.mem_flatten]
  refine ⟨(List.range (4 * S.length)).filter (hangB (fun x y => y ∈ lkC S x) f), ?_, List.mem_filter.mpr ⟨List.mem_range.mpr h, e⟩⟩
  unfold crnE rowsE
  exact List.mem_map.mpr ⟨f, hf, rfl⟩
theorem crnE_lt {S : Spc} {row : List Nat} (h : row ∈ crnE S) : ∀ m ∈ row, m < 4 * S.length := fun m hm => by
  unfold crnE rowsE at h
  rw [List.mem_map] at h
  obtain ⟨x, _, rfl⟩ := h
  exact List.mem_range.mp (List.mem_filter.mp hm).1
theorem crnE_pos {S : Spc} (h : 1 ≤ S.length) (hG : Good S) : 0 < (crnE S).length := by
  have := crnE_all hG (n := 0) (by omega)
  cases e : crnE S with
  | nil =>
    rw [e] at this
    cases this
  | cons a r => exact Nat.succ_pos _
theorem fstE_len {α : Type} (E : α → α → Bool) : ∀ l : List α, (fstE E l).length ≤ l.length := by
  refine snoc_ind (Nat.le_refl _) fun l x ih => ?_
  rw [fstE_snoc, List.length_append]
  split
  · omega
  · rw [List.length_append]
    omega
theorem crnE_len (S : Spc) : (crnE S).length ≤ 4 * S.length := by
  unfold crnE rowsE
  rw [List.length_map]
  refine Nat.le_trans (fstE_len _ _) ?_
  rw [List.length_range]
  exact Nat.le_refl _
theorem eqv_nilD (ds : List PyData) : PyData.eqv (.list ds) (.list []) = ds.isEmpty := by
  cases ds with
  | nil => rfl
  | cons x r => rfl
theorem valV_of_mem {kvs : List (Nat × V)} {k : Nat} (h : k ∈ kvs.map (·.1)) : ∃ v, valV kvs k = some v ∧ (k, v) ∈ kvs := by
  induction kvs with
  | nil => cases h
  | cons q r ih =>
    by_cases e : q.1 = k
    · exact ⟨q.2, valV_pos e, by rw [← e]; exact List.mem_cons_self⟩
    · rw [List.map_cons] at h
      rcases List.mem_cons.mp h with z | z
      · exact absurd z.symm e
      · obtain ⟨v, h1, h2⟩ := ih z
        exact ⟨v, by rw [valV_neg e]; exact h1, List.mem_cons_of_mem _ h2⟩
theorem valV_not_mem {kvs : List (Nat × V)} {k : Nat} (h : k ∉ kvs.map (·.1)) : valV kvs k = none := by
  cases e : valV kvs k with
  | none => rfl
  | some v => exact absurd (valV_in e) h
theorem putK_old {kvs : List (Nat × V)} {k : Nat} {v : V} (h : k ∈ kvs.map (·.1)) : (putK kvs k v).map (·.1) = kvs.map (·.1) ∧ ∀ q ∈ putK kvs k v, q.2 = v ∨ q ∈ kvs := by
  have any : kvs.any (fun kv => decide (kv.1 = k)) = true := by
    rw [List.any_eq_true]
    obtain ⟨q, hq, e⟩ := List.mem_map.mp h
    exact ⟨q, hq, decide_eq_true e⟩
  unfold putK
  rw [if_pos any]
  refine ⟨?_, fun q hq => ?_⟩
  · rw [List.map_map]
    refine List.map_congr_left fun q _ => ?_
    show (if q.1 = k then (q.1, v) else q).1 = q.1
    split <;> rfl
  · obtain ⟨p, hp, e⟩ := List.mem_map.mp hq
    split at e
    · left
      rw [← e]
    · right
      rw [← e]
      exact hp
end Bk

namespace Bk
open PySem PySem.Spec PyProof.Rows L2 RZ
theorem getD_bd {ns : List Int} {B : Int} (hB : 0 ≤ B) (h : ∀ z ∈ ns, 0 ≤ z ∧ z ≤ B) (k : Nat) : 0 ≤ ns.getD k 0 ∧ ns.getD k 0 ≤ B := by
  rw [List.getD_eq_getElem?_getD]
  cases e : ns[k]? with
  | none => exact ⟨Int.le_refl _, hB⟩
  | some z => exact h z (List.mem_of_getElem? e)
theorem arcs_bd {ns : List Int} (h : ∀ z ∈ ns, 0 ≤ z ∧ z ≤ 1000) (b f c : Nat) : 0 ≤ arcsN ns b f c ∧ arcsN ns b f c ≤ 2000 := by
  have h1 := getD_bd (by decide) h (7 * b + c)
  have h2 := getD_bd (by decide) h (7 * b + quadS c f)
  unfold arcsN
  omega
theorem row_shaped (t : List Nat) : SeqAt.shaped (.list (t.map fcT)) = true := by
  obtain ⟨h1, h2⟩ := fct_lay t
  show (PyData.canLay0 (.list (t.map fcT)) && decide (PyData.depth (.list (t.map fcT)) ≤ 64)) = true
  rw [Bool.and_eq_true]
  exact ⟨by simp only [PyData.canLay0]; exact h1, decide_eq_true (by simp only [PyData.depth]; omega)⟩
theorem crn_hang {S : Spc} (hG : Good S) {row : List Nat} (h : row ∈ crnE S) {n y : Nat} (hn : n ∈ row) (hy : y < 4 * S.length) : Hang (fun x y => y ∈ lkC S x) n y ↔ y ∈ row := by
  have sy : ∀ x y : Nat, y ∈ lkC S x → x ∈ lkC S y := fun x y h => lkC_symm hG h
  unfold crnE rowsE at h
  rw [List.mem_map] at h
  obtain ⟨f, _, rfl⟩ := h
  have h1 := hangB_iff.mp (List.mem_filter.mp hn).2
  rw [List.mem_filter, List.mem_range, hangB_iff]
  exact ⟨fun z => ⟨hy, h1.trans z⟩, fun z => (h1.symm sy).trans z.2⟩
theorem crn_first {S : Spc} (hG : Good S) {row : List Nat} (h : row ∈ crnE S) : ∃ n, row[0]? = some n := by
  have EQ := hangB_eqv (r := fun x y => y ∈ lkC S x) fun x y h => lkC_symm hG h
  unfold crnE rowsE at h
  rw [List.mem_map] at h
  obtain ⟨f, hf, rfl⟩ := h
  have m : f ∈ (List.range (4 * S.length)).filter (hangB (fun x y => y ∈ lkC S x) f) := List.mem_filter.mpr ⟨fstE_sub _ _ _ hf, EQ.rfl f⟩
  cases e : (List.range (4 * S.length)).filter (hangB (fun x y => y ∈ lkC S x) f) with
  | nil =>
    rw [e] at m
    cases m
  | cons a r => exact ⟨a, rfl⟩
def BdV (Z : Prop) (kvs : List (Nat × V)) : Prop := ∀ q ∈ kvs, ∃ z : Int, q.2 = .int z ∧ -(4000 * (kvs.length : Int)) ≤ z ∧ z ≤ 4000 * (kvs.length : Int) ∧ (Z → z = 0)
theorem BdV.snoc {Z : Prop} {kvs : List (Nat × V)} (h : BdV Z kvs) {k : Nat} {z : Int} (h1 : -(4000 * ((kvs.length : Int) + 1)) ≤ z) (h2 : z ≤ 4000 * ((kvs.length : Int) + 1)) (h0 : Z → z = 0) : BdV Z (kvs ++ [(k, .int z)]) := fun q hq => by
  have e : ((kvs ++ [(k, V.int z)]).length : Int) = (kvs.length : Int) + 1 := by
    rw [List.length_append]
    rfl
  rw [e]
  rcases List.mem_append.mp hq with hq | hq
  · obtain ⟨y, e, y1, y2, y3⟩ := h q hq
    exact ⟨y, e, by omega, by omega, y3⟩
  · rw [List.mem_singleton.mp hq]
    exact ⟨z, rfl, h1, h2, h0⟩
theorem BdV.put {Z : Prop} {kvs : List (Nat × V)} (h : BdV Z kvs) {k : Nat} {z : Int} (hk : k ∈ kvs.map (·.1)) (h1 : -(4000 * (kvs.length : Int)) ≤ z) (h2 : z ≤ 4000 * (kvs.length : Int)) (h0 : Z → z = 0) : BdV Z (putK kvs k (.int z)) := fun q hq => by
  obtain ⟨p1, p2⟩ := putK_old (v := .int z) hk
  have e : (putK kvs k (.int z)).length = kvs.length := by
    have := congrArg List.length p1
    rwa [List.length_map, List.length_map] at this
  rw [e]
  rcases p2 q hq with y | y
  · exact ⟨z, y, h1, h2, h0⟩
  · exact h q y
theorem arcs_zero {ns : List Int} (h : ∀ z ∈ ns, z = 0) (b f c : Nat) : arcsN ns b f c = 0 := by
  have g : ∀ k, ns.getD k 0 = 0 := fun k => by
    rw [List.getD_eq_getElem?_getD]
    cases e : ns[k]? with
    | none => rfl
    | some z => exact h z (List.mem_of_getElem? e)
  unfold arcsN
  rw [g, g]
  rfl
theorem eq_nil_or_snoc {α : Type} (l : List α) : l = [] ∨ ∃ a x, l = a ++ [x] := by
  by_cases h : l = []
  · exact .inl h
  · exact .inr ⟨l.dropLast, l.getLast h, (List.dropLast_concat_getLast h).symm⟩
theorem keepF {R p : Addr} {H H' : Hp} {o : HO} (k : Keep R H H') (n : H p = none) : Keep R H (upd H' p o) := fun b u e h => by
  rw [upd_ne (fun z => by
    rw [z, n] at e
    cases e)]
  exact k b u e h
theorem keep_free4 {R p : Addr} {H H' : Hp} (k : Keep R H H') (n : H' p = none) (h : p ≠ R) : H p = none := by
  cases e : H p with
  | none => rfl
  | some o =>
    rw [k _ _ e h] at n
    cases n
/-- what a corner's height is, across a joining -/
def Rn (S : Spc) (ns : List Int) (kvs : List (Nat × V)) (x f : Nat) : Prop := ∀ n t, getJ S (x / 4) f = some (some (n, t)) → f ≠ x % 4 → ∃ z : Int, valV kvs x = some (.int z) ∧ valV kvs (4 * n + tf t (x % 4)) = some (.int (z + arcsN ns (x / 4) f (x % 4) - arcsN ns n (tf t f) (tf t (x % 4))))
theorem Rn.up {S : Spc} {ns : List Int} {kvs kvs' : List (Nat × V)} {x f : Nat} (h : Rn S ns kvs x f) (u : ∀ k v, valV kvs k = some v → valV kvs' k = some v) : Rn S ns kvs' x f := fun n t e n' => by
  obtain ⟨z, h1, h2⟩ := h n t e n'
  exact ⟨z, u _ _ h1, u _ _ h2⟩
theorem val_snoc {kvs : List (Nat × V)} {y : Nat} {x : V} (n : valV kvs y = none) : ∀ k v, valV kvs k = some v → valV (kvs ++ [(y, x)]) k = some v := fun k v e => by
  rw [valV_snoc _ _ _ _ n]
  by_cases c : k = y
  · rw [c, n] at e
    cases e
  · rw [if_neg c]
    exact e
theorem val_same {kvs : List (Nat × V)} {y : Nat} {x : V} (n : valV kvs y = some x) : ∀ k v, valV kvs k = some v → valV (putK kvs y x) k = some v := fun k v e => by
  rw [valV_put]
  by_cases c : k = y
  · rw [if_pos c, ← n, ← c]
    exact e
  · rw [if_neg c]
    exact e
section
variable {P : Program} {w : World} {K : PySem.W.Frag} {mg : Str → Option Value} {base : Heap}
abbrev s_law_heights : Stmt := topS 53
abbrev N_law_heights : List Str := ["space", "bare", "found", "members", "waiting", "block", "tip", "face", "other", "turn", "here"]
theorem sc_law_heights : FnScope N_law_heights ["space", "bare"] (defScope s_law_heights) := ⟨rfl, rfl, rfl, by decide +kernel, rfl, by decide +kernel, by decide +kernel⟩
/-- a height for each corner of a block -/
def HtAt (kvs : List (Nat × V)) (N : Nat) : Prop := (∀ q ∈ kvs, q.1 < N) ∧ ∀ n, n < N → ∃ z : Int, valV kvs n = some (.int z) ∧ -1000000 < z ∧ z < 1000000
def spHeights : Sp := fun vs H Q _ => ∃ (v : V) (a : Addr) (S : Spc) (ns : List Int), vs = [v, .ref a] ∧ ST H v S ∧ Good S ∧ 1 ≤ S.length ∧ S.length < 16 ∧ H a = some (.lst (ns.map V.int)) ∧ ns.length = 7 * S.length ∧ (∀ z ∈ ns, 0 ≤ z ∧ z ≤ 1000) ∧
  ((∃ z ∈ ns, z ≠ 0) → ∀ H', Same H H' → Q .non H') ∧ ∀ H' d kvs, Same H H' → H d = none → H' d = some (moT.obj kvs) → HtAt kvs (4 * S.length) → (∀ x f, x < 4 * S.length → f < 4 → Rn S ns kvs x f) → Q (.ref d) H'
theorem ok_law_heights {f fC fA : Addr} {fd fdC fdA : FuncData} (F : Fun K "_law_heights" "_law_heights" s_law_heights f fd) (F_law_corners : Fun K "_law_corners" "_law_corners" s_law_corners fC fdC) (g_law_corners : mg "_law_corners" = some (.ref fC)) (b_law_corners : Binds K fdC ["space"] []) (G_law_corners : FnOk P w K mg base CX0 2 fC fdC ["space"] spLCorners)
    (F_law_arcs : Fun K "_law_arcs" "_law_arcs" s_law_arcs fA fdA) (g_law_arcs : mg "_law_arcs" = some (.ref fA)) (b_law_arcs : Binds K fdA ["numbers", "block", "face", "tip"] []) (G_law_arcs : FnOk P w K mg base CX0 1 fA fdA ["numbers", "block", "face", "tip"] spLawArcs) (m_range : mg "range" = none) : FnOk P w K mg base CX0 3 f fd ["space", "bare"] spHeights := by
  refine F.ok sc_law_heights (fun vs H Q E h => ?_) (fun cdv A outer s H vs Q E hr h => ?_)
  · obtain ⟨v, a, S, ns, rfl, _⟩ := h
    rfl
  · obtain ⟨v, a, S, ns, rfl, hst, hG, h1, h2, ha, hl, hb, qn, q⟩ := h
    have nd := sc_law_heights.nd
    refine ⟨_, (pss_cons (ps_set (i := 2) nd rfl (.inl rfl) pe_dnewE)
      (pss_cons (ps_for PassesOwn.never rfl (kPiL K rfl (pi_list (pe_call G_law_corners (hr.mono (by first | decide | omega)) (by rfl) g_law_corners F_law_corners.kp b_law_corners .nil pass0 (pa_cons (pv 0) pa_nil)))) (pg_name (i := 3) nd rfl (.inl rfl)) (pss_cons (ps_dput (hu_of hr) (pv 2) (pe_ix (kIxL K rfl) (pv 3) pe_int (fun _ _ => rfl)) pe_int rfl)
      (pss_cons (ps_set (i := 4) nd rfl (.inl rfl) (pe_lst (pa_cons (pe_ix (kIxL K rfl) (pv 3) pe_int (fun _ _ => rfl)) pa_nil)))
      (pss_one (ps_while PassesOwn.never (pt_cmpR (kNeD K rfl hr.units) (pv 4) (pe_lst pa_nil) (nomark _)) (pss_cons (ps_asg (kBM0 K rfl (pe_bm0 PySem.F.plainAttrs_list PySem.F.slot_list_pop PySem.F.type_list_pop mt_pop (pv 4))) (kPgT K rfl (pg_tup (n := 2) rfl (pgs_cons (pg_name (i := 5) nd rfl (.inl rfl)) (pgs_cons (pg_name (i := 6) nd rfl (.inl rfl)) pgs_nil)))))
      (pss_one (ps_for PassesOwn.never rfl (pi_range1 (by rfl) m_range (pa_cons pe_int pa_nil)) (pg_name (i := 7) nd rfl (.inl rfl)) (pss_one (ps_if (pw_and (pt_cmpR op_ne (pv 7) (pv 6) (nomark _)) (pw_and1 (pt_cmpR op_notN (pe_ix (kIxT K rfl) (pe_ix (kIxT K rfl) (pv 0) (pv 5) (fun _ _ => rfl)) (pv 7) (fun _ _ => rfl)) pe_non (nomark _)))).pt (pss_cons (ps_asg (pe_ix (kIxT K rfl) (pe_ix (kIxT K rfl) (pv 0) (pv 5) (fun _ _ => rfl)) (pv 7) (fun _ _ => rfl)) (kPgT K rfl (pg_tup (n := 2) rfl (pgs_cons (pg_name (i := 8) nd rfl (.inl rfl)) (pgs_cons (pg_name (i := 9) nd rfl (.inl rfl)) pgs_nil)))))
      (pss_cons (ps_set (i := 10) nd rfl (.inl rfl) (pe_op op_add (pe_dget (hu_of hr) (pv 2) (pe_tup (pa_cons (pv 5) (pa_cons (pv 6) pa_nil))) (fun _ _ => rfl)) (pe_call G_law_arcs (hr.mono (by first | decide | omega)) (by rfl) g_law_arcs F_law_arcs.kp b_law_arcs .nil pass0 (pa_cons (pv 1) (pa_cons (pv 5) (pa_cons (pv 7) (pa_cons (pv 6) pa_nil)))))))
      (pss_cons (ps_set (i := 10) nd rfl (.inl rfl) (pe_op op_sub (pv 10) (pe_call G_law_arcs (hr.mono (by first | decide | omega)) (by rfl) g_law_arcs F_law_arcs.kp b_law_arcs .nil pass0 (pa_cons (pv 1) (pa_cons (pv 8) (pa_cons (pe_ix (kIxT K rfl) (pv 9) (pv 7) (fun _ _ => rfl)) (pa_cons (pe_ix (kIxT K rfl) (pv 9) (pv 6) (fun _ _ => rfl)) pa_nil)))))))
      (pss_cons (ps_if (pt_cmp (pc_dnotin (hu_of hr) (pe_tup (pa_cons (pv 8) (pa_cons (pe_ix (kIxT K rfl) (pv 9) (pv 6) (fun _ _ => rfl)) pa_nil))) (pv 2))) (pss_one (ps_expr (kBM K rfl (pe_bm PySem.F.plainAttrs_list PySem.F.slot_list_append PySem.F.type_list_append mt_append (pv 4) (pa_cons (pe_tup (pa_cons (pv 8) (pa_cons (pe_ix (kIxT K rfl) (pv 9) (pv 6) (fun _ _ => rfl)) pa_nil))) pa_nil))))) (pss_one (ps_if (pt_cmpR op_ne (pe_dget (hu_of hr) (pv 2) (pe_tup (pa_cons (pv 8) (pa_cons (pe_ix (kIxT K rfl) (pv 9) (pv 6) (fun _ _ => rfl)) pa_nil))) (fun _ _ => rfl)) (pv 10) (nomark _)) (pss_one (ps_ret pe_non)) pss_nil)))
      (pss_one (ps_dput (hu_of hr) (pv 2) (pe_tup (pa_cons (pv 8) (pa_cons (pe_ix (kIxT K rfl) (pv 9) (pv 6) (fun _ _ => rfl)) pa_nil))) (pv 10) rfl)))))) pss_nil))))))))))
      (pss_one (ps_ret (pv 2))))), ?_⟩
    obtain ⟨p, rs, rfl, fp, hbs⟩ := id hst
    have hN : 4 * S.length < 64 := by omega
    generalize eNN : 4 * S.length = N at hN
    refine ⟨moT.obj [], moT.obj_nil, fun D nD => ?_⟩
    have s1 : Same H (upd H D (moT.obj [])) := same_new nD
    have h1D : (upd H D (moT.obj [])) D = some (moT.obj []) := upd_same
    generalize upd H D (moT.obj []) = H1 at s1 h1D ⊢
    refine ⟨.ref p, rfl, .ref p, S, rfl, hst.mono s1.tups, hG, h1, h2, fun H2 l s2 rows => ?_⟩
    obtain ⟨ps, hl2, nl, lps, ndps, pp⟩ := rows
    have h2D := s2 _ _ h1D
    have nD1 : ∀ {b : Addr}, H1 b = none → b ≠ D := fun e z => by
      rw [z, h1D] at e
      cases e
    have lD := nD1 nl
    have lpp := plen pp
    refine ⟨l, rfl, ⟨_, .inl (.inl hl2)⟩, ?_⟩
    have k2 : Keep D H H2 := .of (s1.trans s2)
    have ha2 := (s1.trans s2) _ _ ha
    have aD : a ≠ D := fun z => by
      rw [← z, ha] at nD
      cases nD
    have tupD : ∀ {H'}, Keep D H2 H' → TupK H2 H' := fun k b xs e => k b _ e fun z => by
      rw [z, h2D] at e
      exact moT.obj_tup _ xs (Option.some.inj e)
    have tupsD : ∀ {H'}, Keep D H2 H' → Tups H2 H' := fun k b o xs e => k b _ e fun z => by
      rw [z, h2D] at e
      have e := Option.some.inj e
      cases e
    have sameD : ∀ {H'}, Keep D H2 H' → Same H H' := fun {H'} k b o e => k _ _ ((s1.trans s2) _ _ e) fun z => by
      rw [z, nD] at e
      cases e
    let kys : List (Nat × V) → List Nat := fun kvs => kvs.map (·.1)
    refine for_list (xs := ps.map V.ref) (fun i σ H3 => ∃ kvs y3 y4 y5 y6 y7 y8 y9 y10, σ = [some (.ref p), some (.ref a), some (.ref D), y3, y4, y5, y6, y7, y8, y9, y10] ∧ H3 D = some (moT.obj kvs) ∧ (∀ y, y ∈ kys kvs ↔ y ∈ ((crnE S).take i).flatten) ∧ (kys kvs).Nodup ∧ BdV (∀ z ∈ ns, z = 0) kvs ∧ Keep D H2 H3 ∧ ∀ x ∈ kys kvs, ∀ f, f < 4 → Rn S ns kvs x f) ⟨[], _, _, _, _, _, _, _, _, rfl, h2D, (fun y => Iff.rfl), List.nodup_nil, (fun q hq => absurd hq List.not_mem_nil), Keep.refl _ _, fun x hx => absurd hx List.not_mem_nil⟩ ?_ ?_ ?_
    · rintro i σ H3 _ ⟨kvs, y3, y4, y5, y6, y7, y8, y9, y10, rfl, _, _, _, _, k3, _⟩
      exact .inl (.inl (k3 _ _ hl2 lD))
    · rintro i x σ H3 hx ⟨kvs, y3, y4, y5, y6, y7, y8, y9, y10, rfl, g3, ks3, nd3, b3, k3, rn3⟩
      rw [List.getElem?_map] at hx
      obtain ⟨pi, hpi, rfl⟩ := Option.map_eq_some_iff.mp hx
      obtain ⟨row, hrow, npi, vs, hvs, pvs⟩ := pget' pp hpi
      have rmem : row ∈ crnE S := List.mem_of_getElem? hrow
      obtain ⟨n0, hn0⟩ := crn_first hG rmem
      obtain ⟨v0, hv0, a0⟩ := pget pvs hn0
      have piD := nD1 npi
      have n0r : n0 ∈ row := List.mem_of_getElem? hn0
      have n0N : n0 < N := eNN ▸ crnE_lt rmem n0 n0r
      have hvs3 := k3 _ _ hvs piD
      have a03 := a0.mono (tupD k3)
      -- the first one
      have apart : ∀ y ∈ row, y ∉ kys kvs := fun y hy hk => by
        rw [ks3, List.mem_flatten] at hk
        obtain ⟨ra, hra, hya⟩ := hk
        have ap := crnE_apart hG
        rw [← List.take_append_drop i (crnE S), List.pairwise_append] at ap
        have rd : row ∈ (crnE S).drop i := by
          refine List.mem_of_getElem? (i := 0) ?_
          rw [List.getElem?_drop]
          exact hrow
        exact ap.2.2 ra hra row rd y hya hy
      have kN : ∀ {K' : List (Nat × V)} {r' : List Nat}, kys K' = kys kvs ++ r' → (∀ y ∈ r', y < N) → ∀ q ∈ K', q.1 < 64 := fun {K' r'} e h q hq => by
        have z : q.1 ∈ kys K' := List.mem_map_of_mem hq
        rw [e] at z
        rcases List.mem_append.mp z with z | z
        · rw [ks3, List.mem_flatten] at z
          obtain ⟨ra, hra, hya⟩ := z
          have := crnE_lt (List.mem_of_mem_take hra) _ hya
          omega
        · have := h _ z
          omega
      have lenK : ∀ {K' : List (Nat × V)} {r' : List Nat}, kys K' = kys kvs ++ r' → (∀ y ∈ r', y < N) → r'.Nodup → K'.length ≤ 200 := fun {K' r'} e h hd => by
        have e2 := congrArg List.length e
        rw [List.length_append] at e2
        have l1 := nodup_len nd3 (List.nodup_range (n := 64)) fun x hx => List.mem_range.mpr (by
          rw [ks3, List.mem_flatten] at hx
          obtain ⟨ra, hra, hya⟩ := hx
          have := crnE_lt (List.mem_of_mem_take hra) _ hya
          omega)
        have l2 := nodup_len hd (List.nodup_range (n := N)) fun x hx => List.mem_range.mpr (h x hx)
        rw [List.length_range] at l1 l2
        have l3 : (kys K').length = K'.length := List.length_map _
        omega
      have n0K := apart n0 n0r
      have kv64 : ∀ q ∈ kvs, q.1 < 64 := kN (r' := []) (by rw [List.append_nil]) fun y hy => absurd hy List.not_mem_nil
      have l200 : kvs.length ≤ 200 := lenK (r' := []) (by rw [List.append_nil]) (fun y hy => absurd hy List.not_mem_nil) List.nodup_nil
      have put := Mo.put (M := moT) (N := 64) (x := .int 0) (moT_inj 64) g3 a03 kv64 (by omega) (small1000 (by omega))
      rw [putK_new _ (valV_not_mem n0K)] at put
      refine ⟨.ref D, rfl, .ref pi, rfl, pi, vs, 0, v0, rfl, rfl, .inl (.inl hvs3), atI_nat (j := 0) hv0, D, _, rfl, put, ?_⟩
      have k4 : Keep D H2 (upd H3 D (moT.obj (kvs ++ [(n0, .int 0)]))) := fun b o e z => by
        rw [upd_ne z]
        exact k3 b o e z
      have g4 : (upd H3 D (moT.obj (kvs ++ [(n0, .int 0)]))) D = some (moT.obj (kvs ++ [(n0, .int 0)])) := upd_same
      generalize upd H3 D (moT.obj (kvs ++ [(n0, .int 0)])) = H4 at k4 g4 ⊢
      have hvs4 := k4 _ _ hvs piD
      refine ⟨.ref pi, rfl, pi, vs, 0, v0, rfl, rfl, .inl (.inl hvs4), atI_nat (j := 0) hv0, Nat.le_of_lt (small1000 (by show 1 ≤ 1000; decide)), fun wt nwt => ?_⟩
      have s5 : Same H4 (upd H4 wt (.lst [v0])) := same_new nwt
      have hw5 : (upd H4 wt (.lst [v0])) wt = some (.lst [v0]) := upd_same
      have wD : wt ≠ D := fun z => by
        rw [z, g4] at nwt
        cases nwt
      have wt2 : H2 wt = none := keep_free4 k4 nwt wD
      generalize upd H4 wt (.lst [v0]) = H5 at s5 hw5 ⊢
      have k5 := k4.same s5
      have g5 := s5 _ _ g4
      have a05 := a0.mono (tupD k5)
      have hang : ∀ y, y < N → (Hang (fun x y => y ∈ lkC S x) n0 y ↔ y ∈ row) := fun y hy => crn_hang hG rmem n0r (by omega)
      have lkN : ∀ x y, y ∈ lkC S x → y < N := fun x y h => eNN ▸ lkC_lt hG h
      let W : Nat → L2.St → Hp → Prop := fun k σ H6 => ∃ (kv6 : List (Nat × V)) (r6 wait : List Nat) (ws : List V) (y5 y6 y7 y8 y9 y10 : Option V), σ = [some (.ref p), some (.ref a), some (.ref D), some (.ref pi), some (.ref wt), y5, y6, y7, y8, y9, y10] ∧ H6 D = some (moT.obj kv6) ∧ kys kv6 = kys kvs ++ r6 ∧ BdV (∀ z ∈ ns, z = 0) kv6 ∧
        H6 wt = some (.lst ws) ∧ Paired (moT.at H6) ws wait ∧ Rch (lkC S) (List.range N) n0 r6 wait ∧ Keep D H2 H6 ∧ 2 * (N - r6.length) + wait.length ≤ 2 * N ∧ k = 2 * (N - r6.length) + wait.length ∧ ∀ x ∈ kys kv6, x ∉ wait → ∀ f, f < 4 → Rn S ns kv6 x f
      dsimp only [gName, tSeq]
      refine ⟨W, ⟨_, kvs ++ [(n0, .int 0)], [n0], [n0], [v0], _, _, _, _, _, _, rfl, g5, by show (kvs ++ [(n0, V.int 0)]).map (·.1) = _; rw [List.map_append]; rfl, b3.snoc (by omega) (by omega) (fun _ => rfl), hw5, .cons a05 .nil, .start (List.mem_range.mpr n0N), k5, by show 2 * (N - 1) + 1 ≤ 2 * N; omega, rfl, fun x hx nx f hf => by
        have hx : x ∈ (kvs ++ [(n0, V.int 0)]).map (·.1) := hx
        rw [List.map_append] at hx
        rcases List.mem_append.mp hx with hx | hx
        · exact (rn3 x hx f hf).up (val_snoc (valV_not_mem n0K))
        · exact absurd (List.mem_singleton.mpr (List.mem_singleton.mp hx)) nx⟩, ?_⟩
      rintro k σ H6 ⟨kv6, r6, wait, ws, y5, y6, y7, y8, y9, y10, rfl, g6, ky6, b6, hw6, pw6, C6, k6, m6, rfl, rn6⟩
      refine ⟨.ref wt, rfl, Nat.zero_le _, fun t1 n1 => ?_⟩
      have s7 : Same H6 (upd H6 t1 (.lst [])) := same_new n1
      have h7 : (upd H6 t1 (.lst [])) t1 = some (.lst []) := upd_same
      generalize upd H6 t1 (.lst []) = H7 at s7 h7 ⊢
      have hw7 := s7 _ _ hw6
      have pw7 := pmono pw6 fun _ _ z => z.mono s7.tupK
      refine ⟨.list (wait.map fcT), .list [], .lst (.inl (.inl hw7)) (fct_dps pw7), .lst (.inl (.inl h7)) .nil, row_shaped _, row_shaped [], ?_⟩
      rw [eqv_nilD]
      refine ⟨_, rfl, ?_⟩
      have k7 := k6.same s7
      have g7 := s7 _ _ g6
      have ry : ∀ y ∈ r6, y ∈ row := fun y hy => (hang y (List.mem_range.mp (C6.sub y hy))).mp (C6.hang y hy)
      rcases eq_nil_or_snoc wait with ew | ⟨w1, th, ew⟩
      · subst ew
        refine iteF ?_
        refine ⟨kv6, _, _, _, _, _, _, _, _, rfl, g7, fun y => ?_, ?_, b6, k7, fun x hx f hf => rn6 x hx List.not_mem_nil f hf⟩
        · show y ∈ kys kv6 ↔ _
          rw [ky6, List.mem_append, ks3, List.take_add_one, hrow, List.flatten_append, List.mem_append]
          refine or_congr Iff.rfl ?_
          show y ∈ r6 ↔ y ∈ [row].flatten
          rw [show [row].flatten = row by simp]
          exact ⟨ry y, fun z => (C6.mem y).mpr ((hang y (eNN ▸ crnE_lt rmem y z)).mpr z)⟩
        · rw [ky6, List.nodup_append]
          exact ⟨nd3, C6.nd, fun x hx y hy e => apart y (ry y hy) (e ▸ hx)⟩
      · subst ew
        have hb1 : (!(List.map fcT (w1 ++ [th])).isEmpty) = true := by
          rw [List.map_append]
          cases List.map fcT w1 <;> rfl
        rw [hb1]
        clear hb1
        refine iteT ⟨fun σ' H' => ∃ k', k' < 2 * (N - r6.length) + (w1 ++ [th]).length ∧ W k' σ' H', fun σ' H' z => z, ?_⟩
        obtain ⟨ws1, tv, rfl, p1, pt⟩ := psnoc pw7
        have get1 : (ws1 ++ [tv])[(ws1 ++ [tv]).length - 1]? = some tv := by
          rw [List.length_append, show ws1.length + [tv].length - 1 = ws1.length from rfl, List.getElem?_append_right (Nat.le_refl _), Nat.sub_self]
          rfl
        refine ⟨.ref wt, rfl, .inl ⟨rfl, _, .inl (.inl hw7)⟩, wt, _, tv, rfl, rfl, hw7, get1, ?_⟩
        rw [List.dropLast_concat]
        have t8 : TupK H7 (upd H7 wt (.lst ws1)) := tupK_lst hw7
        have k8 : Keep D H2 (upd H7 wt (.lst ws1)) := keepF k7 wt2
        have g8 : (upd H7 wt (.lst ws1)) D = some (moT.obj kv6) := by
          rw [upd_ne wD.symm]
          exact g7
        have hw8 : (upd H7 wt (.lst ws1)) wt = some (.lst ws1) := upd_same
        generalize upd H7 wt (.lst ws1) = H8 at t8 k8 g8 hw8 ⊢
        have p8 := pmono p1 fun _ _ z => z.mono t8
        obtain ⟨tq, rfl, htq⟩ := pt.mono t8
        have CI := C6.look
        have thr : th ∈ r6 := C6.wt th (List.mem_append_right _ (List.mem_singleton.mpr rfl))
        have thN : th < N := List.mem_range.mp (C6.sub th thr)
        have tb : th / 4 < S.length := by omega
        have tc : th % 4 < 4 := Nat.mod_lt _ (by decide)
        refine ⟨tq, [intV (th / 4), intV (th % 4)], rfl, .inl (.inl htq), rfl, intV (th / 4), [intV (th % 4)], rfl, intV (th % 4), [], rfl, rfl, ?_⟩
        refine ⟨4, rfl, by decide, by decide, ?_⟩
        refine for_range (lo := 0) (n := 4) (fun f σ H9 => ∃ (kv9 : List (Nat × V)) (r9 w9 : List Nat) (ws9 : List V) (y7 y8 y9 y10 : Option V), σ = [some (.ref p), some (.ref a), some (.ref D), some (.ref pi), some (.ref wt), some (intV (th / 4)), some (intV (th % 4)), y7, y8, y9, y10] ∧ H9 D = some (moT.obj kv9) ∧ kys kv9 = kys kvs ++ r9 ∧ BdV (∀ z ∈ ns, z = 0) kv9 ∧
          H9 wt = some (.lst ws9) ∧ Paired (moT.at H9) ws9 w9 ∧ RchIn (lkC S) (List.range N) n0 th (metL S (th / 4) (th % 4) f) r9 w9 ∧ Keep D H2 H9 ∧ 2 * (N - r9.length) + w9.length ≤ 2 * (N - r6.length) + w1.length ∧ (∀ x ∈ kys kv9, x ∉ w9 → x ≠ th → ∀ g, g < 4 → Rn S ns kv9 x g) ∧ ∀ g, g < f → Rn S ns kv9 th g)
          ⟨kv6, r6, w1, ws1, _, _, _, _, rfl, g8, ky6, b6, hw8, p8, CI, k8, Nat.le_refl _, (fun x hx nx nt g hg => rn6 x hx (fun z => (List.mem_append.mp z).elim nx fun z => nt (List.mem_singleton.mp z)) g hg), fun g hg => absurd hg (Nat.not_lt_zero _)⟩ ?_ ?_
        · rintro f σ H9 hf ⟨kv9, r9, w9, ws9, y7, y8, y9, y10, rfl, g9, ky9, b9, hw9, pw9, C9, k9, m9, rn9, rt9⟩
          rw [Int.zero_add]
          have nextF : ∀ {kv' : List (Nat × V)}, (∀ k v, valV kv9 k = some v → valV kv' k = some v) → Rn S ns kv' th f → ∀ g, g < f + 1 → Rn S ns kv' th g := fun u h g hg => by
            rcases Nat.lt_succ_iff_lt_or_eq.mp hg with k | k
            · exact (rt9 g k).up u
            · rw [k]
              exact h
          have st9 : ST H9 (.ref p) S := (hst.mono (sameD k9).tups)
          obtain ⟨j, gj⟩ := hG.l4.get tb hf
          obtain ⟨p', rs', q', vs', x, ep, f1, f2, f3, f4, f5⟩ := st9.face gj
          cases ep
          have mm : metL S (th / 4) (th % 4) (f + 1) = metL S (th / 4) (th % 4) f ++ metJ (th % 4) f j := by
            unfold metL
            rw [List.range_succ, List.flatMap_append, List.flatMap_singleton, gj]
            rfl
          refine ⟨.int (f : Int), rfl, intV (th % 4), rfl, rfl, _, rfl, ?_⟩
          rw [cmp_nat f (th % 4)]
          by_cases cf : f ≠ th % 4
          · rw [decide_eq_true cf]
            refine iteT ?_
            refine ⟨.ref p, rfl, intV (th / 4), rfl, p, rs', _, .ref q', rfl, rfl, f1.sqt, atI_nat f2, .int (f : Int), rfl, q', vs', _, x, rfl, rfl, f3.sqt, atI_nat f4, rfl, _, rfl, ?_⟩
            rw [f5.isN]
            cases j with
            | none =>
              rw [show metJ (th % 4) f none = [] from rfl, List.append_nil] at mm
              refine iteF ⟨kv9, r9, w9, ws9, _, _, _, _, rfl, g9, ky9, b9, hw9, pw9, ?_, k9, m9, rn9, nextF (fun _ _ z => z) fun n t e _ => by rw [gj] at e; cases e⟩
              rw [mm]
              exact C9
            | some k =>
              obtain ⟨n, t⟩ := k
              obtain ⟨pj, pq, rfl, e1, e2⟩ := f5
              have em : metJ (th % 4) f (some (n, t)) = [4 * n + tf t (th % 4)] := by
                show (if f = th % 4 then [] else _) = _
                rw [if_neg cf]
              rw [em] at mm
              obtain ⟨ht, _, _⟩ := hG.both _ _ _ _ gj
              have hn := hG.lt gj
              have tff := tf_lt t ht f hf
              have tfc := tf_lt t ht (th % 4) tc
              have tne : tf t (th % 4) ≠ tf t f := fun z => cf (tf_inj t ht (th % 4) tc f hf z).symm
              have y_lk : 4 * n + tf t (th % 4) ∈ lkC S th := metL_mem.mpr ⟨f, n, t, hf, gj, cf, rfl⟩
              generalize ey : 4 * n + tf t (th % 4) = y at y_lk mm
              have yN : y < N := lkN _ _ y_lk
              have y4 : y / 4 = n := by omega
              have ym : y % 4 = tf t (th % 4) := by omega
              have y_row : y ∈ row := (hang y yN).mp (.step (C9.hang th C9.x) y_lk)
              have yK : y ∉ kys kvs := apart y y_row
              have kin : ∀ z, z ∈ kys kv9 ↔ z ∈ kys kvs ∨ z ∈ r9 := fun z => by rw [ky9, List.mem_append]
              have r9N : ∀ y ∈ r9, y < N := fun y hy => List.mem_range.mp (C9.sub y hy)
              have kv9N := kN ky9 r9N
              have l9 := lenK ky9 r9N C9.nd
              obtain ⟨v1, ve1, vm1⟩ := valV_of_mem (kvs := kv9) ((kin th).mpr (.inr C9.x))
              obtain ⟨z1, ez1, z1a, z1b, z1c⟩ := b9 _ vm1
              have ez1 : v1 = .int z1 := ez1
              subst ez1
              have itf : atI (trnV t) ((f : Nat) : Int) = some (intV (tf t f)) := atI_nat (by unfold trnV; rw [List.getElem?_map, tff.2]; rfl)
              have itc : atI (trnV t) ((th % 4 : Nat) : Int) = some (intV (tf t (th % 4))) := atI_nat (by unfold trnV; rw [List.getElem?_map, tfc.2]; rfl)
              have at_th : ∀ (H : Hp) (q : Addr), H q = some (.tup [intV (th / 4), intV (th % 4)]) → moT.at H (.ref q) th := fun H q e => ⟨q, rfl, e⟩
              have at_y : ∀ (H : Hp) (q : Addr), H q = some (.tup [intV n, intV (tf t (th % 4))]) → moT.at H (.ref q) y := fun H q e => ⟨q, rfl, by
                rw [e, ← y4, ← ym]
                rfl⟩
              refine iteT ?_
              refine ⟨.ref p, rfl, intV (th / 4), rfl, p, rs', _, .ref q', rfl, rfl, f1.sqt, atI_nat f2, .int (f : Int), rfl, q', vs', _, .ref pj, rfl, rfl, f3.sqt, atI_nat f4, pj, [intV n, .ref pq], rfl, e1.sqt, rfl, intV n, _, rfl, .ref pq, [], rfl, rfl, ?_⟩
              -- here
              refine ⟨.ref D, rfl, intV (th / 4), rfl, intV (th % 4), rfl, Nat.le_of_lt (small1000 (by show 2 ≤ 1000; decide)), fun t1 n1 => ?_⟩
              have s10 : Same H9 (upd H9 t1 (.tup [intV (th / 4), intV (th % 4)])) := same_new n1
              have h10 : (upd H9 t1 (.tup [intV (th / 4), intV (th % 4)])) t1 = some (.tup [intV (th / 4), intV (th % 4)]) := upd_same
              generalize upd H9 t1 (.tup [intV (th / 4), intV (th % 4)]) = H10 at s10 h10 ⊢
              refine ⟨D, .int z1, rfl, ve1 ▸ Mo.get (M := moT) (N := 64) (moT_inj 64) (s10 _ _ g9) (at_th _ _ h10) kv9N (by omega), ?_⟩
              have ha9 := (sameD k9) _ _ ha
              refine ⟨.ref a, rfl, intV (th / 4), rfl, .int (f : Int), rfl, intV (th % 4), rfl, a, ns, th / 4, f, th % 4, rfl, s10 _ _ ha9, by omega, hf, tc, fun z => cf z.symm, fun H11 s11 => ?_⟩
              refine ⟨_, _, rfl, rfl, ?_⟩
              have A1 := arcs_bd hb (th / 4) f (th % 4)
              have A2 := arcs_bd hb n (tf t f) (tf t (th % 4))
              have s911 := s10.trans s11
              refine ⟨_, rfl, .ref a, rfl, intV n, rfl, .ref pq, rfl, .int (f : Int), rfl, pq, trnV t, _, intV (tf t f), rfl, rfl, (e2.mono s911.tups).sqt, itf, .ref pq, rfl, intV (th % 4), rfl, pq, trnV t, _, intV (tf t (th % 4)), rfl, rfl, (e2.mono s911.tups).sqt, itc, ?_⟩
              refine ⟨a, ns, n, tf t f, tf t (th % 4), rfl, s911 _ _ ha9, by omega, tff.1, tfc.1, tne, fun H12 s12 => ?_⟩
              refine ⟨_, _, rfl, rfl, ?_⟩
              have s912 := s911.trans s12
              have A3 := fun h : ∀ z ∈ ns, z = 0 => arcs_zero h (th / 4) f (th % 4)
              have A4 := fun h : ∀ z ∈ ns, z = 0 => arcs_zero h n (tf t f) (tf t (th % 4))
              generalize eB1 : arcsN ns (th / 4) f (th % 4) = B1 at A1 A3
              generalize eB2 : arcsN ns n (tf t f) (tf t (th % 4)) = B2 at A2 A4
              have z0 : (∀ z ∈ ns, z = 0) → z1 + B1 - B2 = 0 := fun h => by
                have := z1c h
                have := A3 h
                have := A4 h
                omega
              -- is it there
              refine ⟨intV n, rfl, .ref pq, rfl, intV (th % 4), rfl, pq, trnV t, _, intV (tf t (th % 4)), rfl, rfl, (e2.mono s912.tups).sqt, itc, Nat.le_of_lt (small1000 (by show 2 ≤ 1000; decide)), fun t2 n2 => ?_⟩
              have s13 : Same H12 (upd H12 t2 (.tup [intV n, intV (tf t (th % 4))])) := same_new n2
              have h13 : (upd H12 t2 (.tup [intV n, intV (tf t (th % 4))])) t2 = some (.tup [intV n, intV (tf t (th % 4))]) := upd_same
              generalize upd H12 t2 (.tup [intV n, intV (tf t (th % 4))]) = H13 at s13 h13 ⊢
              have s913 := s912.trans s13
              refine ⟨.ref D, rfl, D, _, rfl, Mo.get (M := moT) (N := 64) (moT_inj 64) (s913 _ _ g9) (at_y _ _ h13) kv9N (by omega), _, rfl, ?_⟩
              by_cases yr : y ∈ r9
              · obtain ⟨v2, ve2, vm2⟩ := valV_of_mem (kvs := kv9) ((kin y).mpr (.inr yr))
                obtain ⟨z2, ez2, z2a, z2b, z2c⟩ := b9 _ vm2
                have ez2 : v2 = .int z2 := ez2
                subst ez2
                rw [ve2]
                refine iteF ?_
                refine ⟨.ref D, rfl, intV n, rfl, .ref pq, rfl, intV (th % 4), rfl, pq, trnV t, _, intV (tf t (th % 4)), rfl, rfl, (e2.mono s913.tups).sqt, itc, Nat.le_of_lt (small1000 (by show 2 ≤ 1000; decide)), fun t3 n3 => ?_⟩
                have s14 : Same H13 (upd H13 t3 (.tup [intV n, intV (tf t (th % 4))])) := same_new n3
                have h14 : (upd H13 t3 (.tup [intV n, intV (tf t (th % 4))])) t3 = some (.tup [intV n, intV (tf t (th % 4))]) := upd_same
                generalize upd H13 t3 (.tup [intV n, intV (tf t (th % 4))]) = H14 at s14 h14 ⊢
                have s914 := s913.trans s14
                refine ⟨D, .int z2, rfl, ve2 ▸ Mo.get (M := moT) (N := 64) (moT_inj 64) (s914 _ _ g9) (at_y _ _ h14) kv9N (by omega), _, rfl, rfl, _, rfl, ?_⟩
                by_cases eq : z2 = z1 + B1 - B2
                · have de : (!decide (V.int z2 = V.int (z1 + B1 - B2))) = false := by rw [eq, decide_eq_true rfl]; rfl
                  refine ite2 (fun z => ?_) (fun z => ?_)
                  · exact absurd (z.symm.trans de) (by decide)
                  refine ⟨_, rfl, .ref D, rfl, intV n, rfl, .ref pq, rfl, intV (th % 4), rfl, pq, trnV t, _, intV (tf t (th % 4)), rfl, rfl, (e2.mono s914.tups).sqt, itc, Nat.le_of_lt (small1000 (by show 2 ≤ 1000; decide)), fun t4 n4 => ?_⟩
                  have s15 : Same H14 (upd H14 t4 (.tup [intV n, intV (tf t (th % 4))])) := same_new n4
                  have h15 : (upd H14 t4 (.tup [intV n, intV (tf t (th % 4))])) t4 = some (.tup [intV n, intV (tf t (th % 4))]) := upd_same
                  generalize upd H14 t4 (.tup [intV n, intV (tf t (th % 4))]) = H15 at s15 h15 ⊢
                  have s915 := s914.trans s15
                  have g15 := s915 _ _ g9
                  have k15 := k9.same s915
                  have put15 := Mo.put (M := moT) (N := 64) (x := .int (z1 + B1 - B2)) (moT_inj 64) g15 (at_y _ _ h15) kv9N (by omega) (small1000 (by omega))
                  refine ⟨D, _, rfl, put15, ?_⟩
                  obtain ⟨pk1, pk2⟩ := putK_old (v := .int (z1 + B1 - B2)) ((kin y).mpr (.inr yr))
                  have tk : TupK H15 (upd H15 D (moT.obj (putK kv9 y (.int (z1 + B1 - B2))))) := tupK_dic (M := moT) g15
                  refine ⟨putK kv9 y (.int (z1 + B1 - B2)), r9, w9, ws9, _, _, _, _, rfl, upd_same, pk1.trans ky9, b9.put ((kin y).mpr (.inr yr)) (by omega) (by omega) z0, ?_, pmono pw9 fun _ _ z => (z.mono s915.tupK).mono tk, ?_, fun b o e z => ?_, m9, ?_, ?_⟩
                  · rw [upd_ne wD]
                    exact s915 _ _ hw9
                  · rw [mm]
                    exact C9.old yr
                  · rw [upd_ne z]
                    exact k15 b o e z
                  · have u15 := val_same (kvs := kv9) (x := .int (z1 + B1 - B2)) (by rw [ve2, eq] : valV kv9 y = some (.int (z1 + B1 - B2)))
                    exact fun x hx nx nt g hg => (rn9 x (by rw [show kys (putK kv9 y (.int (z1 + B1 - B2))) = kys kv9 from pk1] at hx; exact hx) nx nt g hg).up u15
                  · have u15 := val_same (kvs := kv9) (x := .int (z1 + B1 - B2)) (by rw [ve2, eq] : valV kv9 y = some (.int (z1 + B1 - B2)))
                    refine nextF u15 fun n' t' e' _ => ?_
                    rw [gj] at e'
                    cases e'
                    refine ⟨z1, u15 _ _ ve1, ?_⟩
                    rw [ey, eB1, eB2, valV_put, if_pos rfl]
                · have de : (!decide (V.int z2 = V.int (z1 + B1 - B2))) = true := by rw [decide_eq_false (fun z => eq (by injection z))]; rfl
                  refine ite2 (fun z => ?_) (fun z => ?_)
                  · refine qn (Classical.byContradiction fun nz => ?_) H14 (sameD (k9.same s914))
                    have hz : ∀ z ∈ ns, z = 0 := fun z hz => Classical.byContradiction fun n => nz ⟨z, hz, n⟩
                    have := z2c hz
                    have := z0 hz
                    omega
                  · exact absurd de z
              · have nov := valV_not_mem (kvs := kv9) (k := y) fun z => (kin y).mp z |>.elim yK yr
                rw [nov]
                refine iteT ?_
                refine ⟨.ref wt, rfl, .inl ⟨rfl, _, .inl (.inl (s913 _ _ hw9))⟩, intV n, rfl, .ref pq, rfl, intV (th % 4), rfl, pq, trnV t, _, intV (tf t (th % 4)), rfl, rfl, (e2.mono s913.tups).sqt, itc, Nat.le_of_lt (small1000 (by show 2 ≤ 1000; decide)), fun t3 n3 => ?_⟩
                have s14 : Same H13 (upd H13 t3 (.tup [intV n, intV (tf t (th % 4))])) := same_new n3
                have h14 : (upd H13 t3 (.tup [intV n, intV (tf t (th % 4))])) t3 = some (.tup [intV n, intV (tf t (th % 4))]) := upd_same
                generalize upd H13 t3 (.tup [intV n, intV (tf t (th % 4))]) = H14 at s14 h14 ⊢
                have s914 := s913.trans s14
                have hw14 := s914 _ _ hw9
                have l9' : ws9.length ≤ 200 := by
                  have e1 := plen pw9
                  rw [List.length_append, show [th].length = 1 from rfl] at m6
                  omega
                refine ⟨wt, ws9, .ref t3, rfl, rfl, hw14, small1000 (by omega), ?_⟩
                have t15 : TupK H14 (upd H14 wt (.lst (ws9 ++ [.ref t3]))) := tupK_lst hw14
                have u15 : Tups H14 (upd H14 wt (.lst (ws9 ++ [.ref t3]))) := tups_set hw14
                have h15 := t15 _ _ h14
                have k15 : Keep D H2 (upd H14 wt (.lst (ws9 ++ [.ref t3]))) := keepF (k9.same s914) wt2
                have g15 : (upd H14 wt (.lst (ws9 ++ [.ref t3]))) D = some (moT.obj kv9) := by
                  rw [upd_ne wD.symm]
                  exact s914 _ _ g9
                have hw15 : (upd H14 wt (.lst (ws9 ++ [.ref t3]))) wt = some (.lst (ws9 ++ [.ref t3])) := upd_same
                generalize upd H14 wt (.lst (ws9 ++ [.ref t3])) = H15 at t15 u15 h15 k15 g15 hw15 ⊢
                refine ⟨_, rfl, .ref D, rfl, intV n, rfl, .ref pq, rfl, intV (th % 4), rfl, pq, trnV t, _, intV (tf t (th % 4)), rfl, rfl, ((e2.mono s914.tups).mono u15).sqt, itc, Nat.le_of_lt (small1000 (by show 2 ≤ 1000; decide)), fun t4 n4 => ?_⟩
                have s16 : Same H15 (upd H15 t4 (.tup [intV n, intV (tf t (th % 4))])) := same_new n4
                have h16 : (upd H15 t4 (.tup [intV n, intV (tf t (th % 4))])) t4 = some (.tup [intV n, intV (tf t (th % 4))]) := upd_same
                generalize upd H15 t4 (.tup [intV n, intV (tf t (th % 4))]) = H16 at s16 h16 ⊢
                have g16 := s16 _ _ g15
                have put16 := Mo.put (M := moT) (N := 64) (x := .int (z1 + B1 - B2)) (moT_inj 64) g16 (at_y _ _ h16) kv9N (by omega) (small1000 (by omega))
                rw [putK_new _ nov] at put16
                refine ⟨D, _, rfl, put16, ?_⟩
                have tk : TupK H16 (upd H16 D (moT.obj (kv9 ++ [(y, .int (z1 + B1 - B2))]))) := tupK_dic (M := moT) g16
                have CN := C9.new yr y_lk (List.mem_range.mpr yN)
                have rr := rch_room CN List.nodup_range
                rw [List.length_range, List.length_append, show [y].length = 1 from rfl] at rr
                refine ⟨kv9 ++ [(y, .int (z1 + B1 - B2))], r9 ++ [y], w9 ++ [y], ws9 ++ [.ref t3], _, _, _, _, rfl, upd_same, ?_, b9.snoc (by omega) (by omega) z0, ?_, ?_, ?_, fun b o e z => ?_, ?_, ?_, ?_⟩
                · show (kv9 ++ [(y, V.int (z1 + B1 - B2))]).map (·.1) = _
                  rw [List.map_append, ← List.append_assoc, ← ky9]
                  rfl
                · rw [upd_ne wD]
                  exact s16 _ _ hw15
                · exact papp (pmono pw9 fun _ _ z => (((z.mono s914.tupK).mono t15).mono s16.tupK).mono tk) (.cons (((at_y _ _ h15).mono s16.tupK).mono tk) .nil)
                · rw [mm]
                  exact CN
                · rw [upd_ne z]
                  exact (k15.same s16) b o e z
                · rw [List.length_append, List.length_append, show [y].length = 1 from rfl]
                  omega
                · intro x hx nx nt g hg
                  have hx : x ∈ (kv9 ++ [(y, V.int (z1 + B1 - B2))]).map (·.1) := hx
                  rw [List.map_append] at hx
                  have nx1 : x ∉ w9 := fun z => nx (List.mem_append_left _ z)
                  rcases List.mem_append.mp hx with hx | hx
                  · exact (rn9 x hx nx1 nt g hg).up (val_snoc nov)
                  · exact absurd (List.mem_append_right _ (List.mem_singleton.mpr (List.mem_singleton.mp hx))) nx
                · refine nextF (val_snoc nov) fun n' t' e' _ => ?_
                  rw [gj] at e'
                  cases e'
                  refine ⟨z1, val_snoc nov _ _ ve1, ?_⟩
                  rw [ey, eB1, eB2, valV_snoc _ _ _ _ nov, if_pos rfl]
          · rw [decide_eq_false cf]
            have e0 : metJ (th % 4) f j = [] := by
              cases j with
              | none => rfl
              | some k =>
                show (if f = th % 4 then [] else _) = _
                rw [if_pos (Classical.not_not.mp cf)]
            rw [e0, List.append_nil] at mm
            refine iteF (iteF ⟨kv9, r9, w9, ws9, _, _, _, _, rfl, g9, ky9, b9, hw9, pw9, ?_, k9, m9, rn9, nextF (fun _ _ z => z) fun n t e nf => absurd nf cf⟩)
            rw [mm]
            exact C9
        · rintro σ H9 ⟨kv9, r9, w9, ws9, y7, y8, y9, y10, rfl, g9, ky9, b9, hw9, pw9, C9, k9, m9, rn9, rt9⟩
          refine ⟨_, ?_, kv9, r9, w9, ws9, _, _, _, _, _, _, rfl, g9, ky9, b9, hw9, pw9, RchIn.done C9, k9, ?_, rfl, fun x hx nx g hg => by
            by_cases c : x = th
            · rw [c]
              exact rt9 g hg
            · exact rn9 x hx nx c g hg⟩
          · rw [List.length_append, show [th].length = 1 from rfl]
            omega
          · rw [List.length_append, show [th].length = 1 from rfl] at m6
            omega
    · rintro σ H3 ⟨kvs, y3, y4, y5, y6, y7, y8, y9, y10, rfl, g3, ks3, nd3, b3, k3, rn3⟩
      have ks4 : ∀ y, y ∈ kys kvs ↔ y < N := fun y => by
        rw [ks3, List.length_map, lpp, List.take_length]
        constructor
        · intro z
          rw [List.mem_flatten] at z
          obtain ⟨r, hr1, hr2⟩ := z
          exact eNN ▸ crnE_lt hr1 y hr2
        · intro z
          exact crnE_all hG (by omega)
      have len : kvs.length ≤ N := by
        have := nodup_len nd3 (List.nodup_range (n := N)) fun x hx => List.mem_range.mpr ((ks4 x).mp hx)
        rwa [List.length_map, List.length_range] at this
      refine ⟨.ref D, rfl, q H3 D kvs (sameD k3) nD g3 ⟨fun q hq => eNN ▸ (ks4 q.1).mp (List.mem_map_of_mem hq), fun n hn => ?_⟩ fun x f hx hf => rn3 x ((ks4 x).mpr (by omega)) f hf⟩
      obtain ⟨v, e1, e2⟩ := valV_of_mem (kvs := kvs) ((ks4 n).mpr (by omega))
      obtain ⟨z, ez, z1, z2, _⟩ := b3 _ e2
      have ez : v = .int z := ez
      subst ez
      exact ⟨z, e1, by omega, by omega⟩
end
end Bk

namespace Bk
open PySem PySem.Spec PyProof.Rows L2 RZ
def gz (kvs : List (Nat × V)) (n : Nat) : Int := match valV kvs n with | some (.int z) => z | _ => 0
theorem HtAt.gz {kvs : List (Nat × V)} {N n : Nat} (h : HtAt kvs N) (hn : n < N) : valV kvs n = some (.int (gz kvs n)) ∧ -1000000 < gz kvs n ∧ gz kvs n < 1000000 := by
  obtain ⟨z, e, h1, h2⟩ := h.2 n hn
  have e2 : Bk.gz kvs n = z := by
    unfold Bk.gz
    rw [e]
  rw [e2]
  exact ⟨e, h1, h2⟩
theorem nodup_row {S : Spc} {row : List Nat} (h : row ∈ crnE S) : row.length ≤ 4 * S.length := by
  unfold crnE rowsE at h
  rw [List.mem_map] at h
  obtain ⟨x, _, rfl⟩ := h
  refine Nat.le_trans (List.length_filter_le _ _) ?_
  rw [List.length_range]
  exact Nat.le_refl _
theorem getD_set (rs : List Int) (p q : Nat) (x : Int) (h : p < rs.length) : (rs.set p x).getD q 0 = if q = p then x else rs.getD q 0 := by
  rw [List.getD_eq_getElem?_getD, List.getD_eq_getElem?_getD, List.getElem?_set]
  by_cases c : q = p
  · rw [if_pos c.symm, if_pos c, if_pos (by omega)]
    rfl
  · rw [if_neg (fun z => c z.symm), if_neg c]
theorem quadS_in : ∀ c < 4, ∀ f < 4, c ≠ f → 4 ≤ quadS c f ∧ quadS c f < 7 := by decide
/-- no triangles -/
def NoTri (S : Spc) (ns : List Int) : Prop := ∀ b c, b < S.length → c < 4 → ns.getD (7 * b + c) 0 = 0
/-- the quads are those -/
def QuadEq (S : Spc) (rs ns : List Int) : Prop := ∀ b s, b < S.length → 4 ≤ s → s < 7 → rs.getD (7 * b + s) 0 = ns.getD (7 * b + s) 0
/-- a row's triangles are the heights and as many more -/
def RowEq (kvs : List (Nat × V)) (rs : List Int) (row : List Nat) : Prop := ∃ k : Int, ∀ n ∈ row, rs.getD (7 * (n / 4) + n % 4) 0 = gz kvs n + k
theorem gz_eq {kvs : List (Nat × V)} {n : Nat} {z : Int} (h : valV kvs n = some (.int z)) : gz kvs n = z := by
  unfold gz
  rw [h]
theorem laid_fits {S : Spc} {ns rs : List Int} {kvs : List (Nat × V)} (hG : Good S) (hz : NoTri S ns) (rn : ∀ x f, x < 4 * S.length → f < 4 → Rn S ns kvs x f) (A : ∀ row ∈ crnE S, RowEq kvs rs row) (B : QuadEq S rs ns) : fitsB S rs = true := by
  refine fits_true fun x hx c hc cf => ?_
  obtain ⟨b, f, n, t⟩ := x
  obtain ⟨hb, hf, gj⟩ := jnL_mem.mp hx
  have hb : b < S.length := hb
  have hf : f < 4 := hf
  have cf : c ≠ f := cf
  have gj : getJ S b f = some (some (n, t)) := gj
  have ht := (hG.both _ _ _ _ gj).1
  have hn := hG.lt gj
  have tff := (tf_lt t ht f hf).1
  have tfc := (tf_lt t ht c hc).1
  have tne : tf t c ≠ tf t f := fun z => cf (tf_inj t ht c hc f hf z)
  have d1 : (4 * b + c) / 4 = b := by omega
  have d2 : (4 * b + c) % 4 = c := by omega
  have d3 : (4 * n + tf t c) / 4 = n := by omega
  have d4 : (4 * n + tf t c) % 4 = tf t c := by omega
  have lk : 4 * n + tf t c ∈ lkC S (4 * b + c) := by
    unfold lkC
    rw [d1, d2]
    exact metL_mem.mpr ⟨f, n, t, hf, gj, fun z => cf z.symm, rfl⟩
  have X := crnE_all hG (n := 4 * b + c) (by omega)
  rw [List.mem_flatten] at X
  obtain ⟨row, hrow, hX⟩ := X
  have hY : 4 * n + tf t c ∈ row := (crn_hang hG hrow hX (by omega)).mp (.one lk)
  obtain ⟨k, hk⟩ := A row hrow
  obtain ⟨z, v1, v2⟩ := rn (4 * b + c) f (by omega) hf n t (by rw [d1]; exact gj) (by rw [d2]; exact fun z => cf z.symm)
  rw [d1, d2] at v2
  have g1 := gz_eq v1
  have g2 := gz_eq v2
  have k1 := hk _ hX
  have k2 := hk _ hY
  rw [d1, d2, g1] at k1
  rw [d3, d4, g2] at k2
  have q1 := quadS_in c hc f hf cf
  have q2 := quadS_in _ tfc _ tff tne
  have b1 := B b _ hb q1.1 q1.2
  have b2 := B n _ hn q2.1 q2.2
  have z1 := hz b c hb hc
  have z2 := hz n _ hn tfc
  show arcsN rs b f c = arcsN rs n (tf t f) (tf t c)
  unfold arcsN at k2 ⊢
  omega
section
variable {P : Program} {w : World} {K : PySem.W.Frag} {mg : Str → Option Value} {base : Heap}
abbrev s_law_laid : Stmt := topS 54
abbrev N_law_laid : List Str := ["space", "bare", "more", "heights", "found", "k", "members", "least", "block", "tip", "one"]
theorem sc_law_laid : FnScope N_law_laid ["space", "bare", "more"] (defScope s_law_laid) := ⟨rfl, rfl, rfl, by decide +kernel, rfl, by decide +kernel, by decide +kernel⟩
def spLaid : Sp := fun vs H Q _ => ∃ (v : V) (a mo : Addr) (S : Spc) (ns ms : List Int), vs = [v, .ref a, .ref mo] ∧ ST H v S ∧ Good S ∧ 1 ≤ S.length ∧ S.length < 16 ∧ H a = some (.lst (ns.map V.int)) ∧ ns.length = 7 * S.length ∧ (∀ z ∈ ns, 0 ≤ z ∧ z ≤ 1000) ∧
  H mo = some (.lst (ms.map V.int)) ∧ 0 < ms.length ∧ ms.length ≤ 1000 ∧ (∀ z ∈ ms, 0 ≤ z ∧ z ≤ 1000) ∧ NoTri S ns ∧ ((∃ z ∈ ns, z ≠ 0) → ∀ H', Same H H' → Q .non H') ∧ ∀ (H' : Hp) (l : Addr) (rs : List Int), Same H H' → H l = none → H' l = some (.lst (rs.map V.int)) → rs.length = 7 * S.length → (∀ z ∈ rs, 0 ≤ z ∧ z ≤ 10000000) → fitsB S rs = true → QuadEq S rs ns → Q (.ref l) H'
theorem ok_law_laid {f fC fA : Addr} {fd fdC fdA : FuncData} (F : Fun K "_law_laid" "_law_laid" s_law_laid f fd) (F_law_corners : Fun K "_law_corners" "_law_corners" s_law_corners fC fdC) (g_law_corners : mg "_law_corners" = some (.ref fC)) (b_law_corners : Binds K fdC ["space"] []) (G_law_corners : FnOk P w K mg base CX0 2 fC fdC ["space"] spLCorners)
    (F_law_heights : Fun K "_law_heights" "_law_heights" s_law_heights fA fdA) (g_law_heights : mg "_law_heights" = some (.ref fA)) (b_law_heights : Binds K fdA ["space", "bare"] []) (G_law_heights : FnOk P w K mg base CX0 3 fA fdA ["space", "bare"] spHeights) (m_enumerate : mg "enumerate" = none) (m_list : mg "list" = none) (m_min : mg "min" = none) (m_len : mg "len" = none) : FnOk P w K mg base CX0 4 f fd ["space", "bare", "more"] spLaid := by
  refine F.ok sc_law_laid (fun vs H Q E h => ?_) (fun cdv A outer s H vs Q E hr h => ?_)
  · obtain ⟨v, a, mo, S, ns, ms, rfl, _⟩ := h
    rfl
  · obtain ⟨v, a, mo, S, ns, ms, rfl, hst, hG, h1, h2, ha, hl, hb, hm, lm, lm2, mb, hz0, qn, q⟩ := h
    have nd := sc_law_laid.nd
    refine ⟨_, (pss_cons (ps_set (i := 3) nd rfl (.inr rfl) (pe_call G_law_heights (hr.mono (by first | decide | omega)) (by rfl) g_law_heights F_law_heights.kp b_law_heights .nil pass0 (pa_cons (pv 0) (pa_cons (pv 1) pa_nil))))
      (pss_cons (ps_if (pt_cmpR op_isN (pv 3) pe_non (nomark _)) (pss_one (ps_ret pe_non)) pss_nil)
      (pss_cons (ps_set (i := 4) nd rfl (.inl rfl) (pe_callTy (kList K rfl) (by rfl) m_list (by decide +kernel) (pa_cons (pv 1) pa_nil)))
      (pss_cons (ps_for PassesOwn.never rfl (kPiE K rfl (pi_enum (by rfl) m_enumerate (pa_cons (pe_call G_law_corners (hr.mono (by first | decide | omega)) (by rfl) g_law_corners F_law_corners.kp b_law_corners .nil pass0 (pa_cons (pv 0) pa_nil)) pa_nil))) (kPgT K rfl (pg_tup (n := 2) rfl (pgs_cons (pg_name (i := 5) nd rfl (.inl rfl)) (pgs_cons (pg_name (i := 6) nd rfl (.inl rfl)) pgs_nil)))) (pss_cons (ps_set (i := 7) nd rfl (.inl rfl) (pe_callB (kMinI K rfl rfl) (by rfl) m_min (by decide +kernel) (pa_cons (pe_lc (own := [("one", 10)]) (g := gName 10) (tt := tYes) rfl nd (kPiL K rfl (pi_list (pv 6))) (blkOk_by (own := [("one", 10)]) (N := N_law_laid) (sc := defScope s_law_laid) (by decide +kernel)) (fun _ _ _ _ _ => (pg_name (i := 10) nd rfl (Or.inl rfl))) (fun _ _ _ _ _ => pts_nil) (fun _ _ _ _ _ => (pe_dget (hu_of hr) (pv 3) (pv 10) (fun _ _ => rfl)))) pa_nil)))
      (pss_one (ps_for PassesOwn.never rfl (kPiL K rfl (pi_list (pv 6))) (kPgT K rfl (pg_tup (n := 2) rfl (pgs_cons (pg_name (i := 8) nd rfl (.inl rfl)) (pgs_cons (pg_name (i := 9) nd rfl (.inl rfl)) pgs_nil)))) (pss_one (ps_asg (pe_op op_add (pe_op op_sub (pe_dget (hu_of hr) (pv 3) (pe_tup (pa_cons (pv 8) (pa_cons (pv 9) pa_nil))) (fun _ _ => rfl)) (pv 7)) (pe_ix (kIxL K rfl) (pv 2) (pe_op op_modN (pv 5) (pe_callB (kLen K rfl) (by rfl) m_len (by decide +kernel) (pa_cons (pv 2) pa_nil))) (fun _ _ => rfl))) (pg_sub (pv 4) (pe_op op_add (pe_op op_mul pe_int (pv 8)) (pv 9)) set_list)))))))
      (pss_one (ps_ret (pv 4))))))), ?_⟩
    refine ⟨v, rfl, .ref a, rfl, v, a, S, ns, rfl, hst, hG, h1, h2, ha, hl, hb, fun nz H1 s1 => ?_, fun H1 d kvs s1 nd hd ht rn => ?_⟩
    · refine ⟨_, rfl, rfl, _, rfl, iteT ?_⟩
      exact qn nz H1 s1
    refine ⟨_, rfl, rfl, _, rfl, iteF ?_⟩
    have hN : 4 * S.length < 64 := by omega
    have kN : ∀ q ∈ kvs, q.1 < 64 := fun q hq => Nat.lt_trans (ht.1 q hq) hN
    have ha1 := s1 _ _ ha
    refine ⟨.ref a, rfl, a, _, rfl, .inl (.inl (.inl ha1)), fun fo nfo => ?_⟩
    have s2 : Same H1 (upd H1 fo (.lst (ns.map V.int))) := same_new nfo
    have f2 : (upd H1 fo (.lst (ns.map V.int))) fo = some (.lst (ns.map V.int)) := upd_same
    generalize upd H1 fo (.lst (ns.map V.int)) = H2 at s2 f2 ⊢
    refine ⟨v, rfl, v, S, rfl, hst.mono (s1.trans s2).tups, hG, h1, h2, fun H3 l s3 rows => ?_⟩
    obtain ⟨ps, hl3, nl, lps, ndps, pp⟩ := rows
    have f3 := s3 _ _ f2
    have ne2 : ∀ {b : Addr}, H2 b = none → b ≠ fo := fun e z => by
      rw [z, f2] at e
      cases e
    have lF := ne2 nl
    have lpp := plen pp
    have tupF : ∀ {H'}, Keep fo H3 H' → TupK H3 H' := fun k b xs e => k b _ e fun z => by
      rw [z, f3] at e
      cases e
    have sameF : ∀ {H'}, Keep fo H3 H' → Same H1 H' := fun {H'} k b o e => k _ _ ((s2.trans s3) _ _ e) fun z => by
      rw [z, nfo] at e
      cases e
    have nfo0 : H fo = none := s1.free nfo
    refine ⟨l, _, rfl, .inl (.inl hl3), ?_⟩
    refine for_it (walk_enum (xs := ps.map V.ref)) (fun i σ H4 => ∃ (rs : List Int) (y5 y6 y7 y8 y9 : Option V), σ = [some v, some (.ref a), some (.ref mo), some (.ref d), some (.ref fo), y5, y6, y7, y8, y9, none] ∧ H4 fo = some (.lst (rs.map V.int)) ∧ rs.length = 7 * S.length ∧ (∀ z ∈ rs, 0 ≤ z ∧ z ≤ 10000000) ∧ Keep fo H3 H4 ∧ (∀ (j : Nat) (row : List Nat), j < i → (crnE S)[j]? = some row → RowEq kvs rs row) ∧ QuadEq S rs ns) ⟨ns, _, _, _, _, _, rfl, f3, hl, (fun z hz => ⟨(hb z hz).1, by have := (hb z hz).2; omega⟩), Keep.refl _ _, (fun j row h => absurd h (Nat.not_lt_zero _)), fun b s _ _ _ => rfl⟩ ?_ ?_ ?_
    · rintro i σ H4 _ ⟨rs, y5, y6, y7, y8, y9, rfl, _, _, _, k4, _⟩
      exact .inl (.inl (k4 _ _ hl3 lF))
    · rintro i x σ H4 H5 hi ⟨rs, y5, y6, y7, y8, y9, rfl, g4, r4, b4, k4, A4, B4⟩ ⟨T, y, z, rfl, nT, rfl, hy, hz⟩
      obtain rfl : intV i = y := Option.some.inj hy
      have hz : (ps.map V.ref)[i]? = some z := hz
      rw [List.getElem?_map] at hz
      obtain ⟨pi, hpi, rfl⟩ := Option.map_eq_some_iff.mp hz
      obtain ⟨row, hrow, npi, vs, hvs, pvs⟩ := pget' pp hpi
      have rmem : row ∈ crnE S := List.mem_of_getElem? hrow
      have piF := ne2 npi
      have s5 : Same H4 (upd H4 T (.tup [intV i, .ref pi])) := same_new nT
      have hT : SqT K (upd H4 T (.tup [intV i, .ref pi])) T [intV i, .ref pi] := .inl (.inl upd_same)
      generalize upd H4 T (.tup [intV i, .ref pi]) = H5 at s5 hT ⊢
      have k5 := k4.same s5
      have hvs5 := k5 _ _ hvs piF
      have rN : ∀ m ∈ row, m < 4 * S.length := crnE_lt rmem
      refine ⟨T, [intV i, .ref pi], rfl, hT, rfl, intV i, _, rfl, .ref pi, [], rfl, rfl, ?_⟩
      -- the least
      refine ⟨.ref pi, rfl, pi, rfl, ⟨_, .inl (.inl hvs5)⟩, fun D nD => ?_⟩
      refine lc_list (xs := vs) (fun j H6 => H6 D = some (.lst (((row.take j).map (gz kvs)).map V.int)) ∧ Same H5 H6) ⟨upd_same, same_new nD⟩ ?_ ?_ ?_
      · rintro j H6 _ ⟨g6, s6⟩
        exact .inl (.inl (s6 _ _ hvs5))
      · rintro j x H6 hx ⟨g6, s6⟩
        obtain ⟨n, hn, ax⟩ := pget' pvs hx
        have nN := rN n (List.mem_of_getElem? hn)
        have hd6 := (sameF (k5.same s6)) _ _ hd
        have gv := (ht.gz nN).1
        refine ⟨rfl, .ref d, rfl, x, rfl, d, _, rfl, gv ▸ Mo.get (M := moT) (N := 64) (moT_inj 64) hd6 (ax.mono (tupF (k5.same s6))) kN (by omega), _, g6, small1000 ?_, ?_, same_fill s6 nD⟩
        · rw [List.length_map, List.length_map, List.length_take]
          have e1 := nodup_row rmem
          omega
        · rw [upd_same, List.take_add_one, hn, List.map_append, List.map_append]
          rfl
      rintro H6 ⟨g6, s6⟩
      rw [plen pvs, List.take_length] at g6
      obtain ⟨n0, hn0⟩ := crn_first hG rmem
      have r0 : 0 < row.length := (List.getElem?_eq_some_iff.mp hn0).1
      refine ⟨D, _, rfl, .inl (.inl g6), by rw [List.length_map]; exact r0, fun M hM hmin => ?_⟩
      have k6 := k5.same s6
      have g6f := s6 _ _ (s5 _ _ g4)
      obtain ⟨nm, hnm, eM⟩ := List.mem_map.mp hM
      have bM := (ht.gz (rN nm hnm)).2
      rw [eM] at bM
      have hvs6 := k6 _ _ hvs piF
      -- each of the row
      dsimp only [gName]
      refine ⟨.ref pi, rfl, pi, rfl, ⟨_, .inl (.inl hvs6)⟩, ?_⟩
      refine for_list (xs := vs) (fun j σ H7 => ∃ (rs : List Int) (y8 y9 : Option V), σ = [some v, some (.ref a), some (.ref mo), some (.ref d), some (.ref fo), some (intV i), some (.ref pi), some (.int M), y8, y9, none] ∧ H7 fo = some (.lst (rs.map V.int)) ∧ rs.length = 7 * S.length ∧ (∀ z ∈ rs, 0 ≤ z ∧ z ≤ 10000000) ∧ Keep fo H3 H7 ∧ (∀ (j : Nat) (row : List Nat), j < i → (crnE S)[j]? = some row → RowEq kvs rs row) ∧ QuadEq S rs ns ∧ ∀ n ∈ row.take j, rs.getD (7 * (n / 4) + n % 4) 0 = gz kvs n + (ms.getD (i % ms.length) 0 - M)) ⟨rs, _, _, rfl, g6f, r4, b4, k6, A4, B4, fun n hn => absurd hn (by rw [List.take_zero]; exact List.not_mem_nil)⟩ ?_ ?_ ?_
      · rintro j σ H7 _ ⟨rs, y8, y9, rfl, _, _, _, k7, _⟩
        exact .inl (.inl (k7 _ _ hvs piF))
      · rintro j x σ H7 hx ⟨rs, y8, y9, rfl, g7, r7, b7, k7, A7, B7, C7⟩
        obtain ⟨n, hn, t, rfl, htp⟩ := pget' pvs hx
        have nr : n ∈ row := List.mem_of_getElem? hn
        have nN := rN n nr
        have ht7 := (tupF k7) _ _ htp
        refine ⟨t, [intV (n / 4), intV (n % 4)], rfl, .inl (.inl ht7), rfl, intV (n / 4), _, rfl, intV (n % 4), [], rfl, rfl, ?_⟩
        refine ⟨.ref d, rfl, intV (n / 4), rfl, intV (n % 4), rfl, Nat.le_of_lt (small1000 (by show 2 ≤ 1000; decide)), fun t1 n1 => ?_⟩
        have s8 : Same H7 (upd H7 t1 (.tup [intV (n / 4), intV (n % 4)])) := same_new n1
        have a8 : moT.at (upd H7 t1 (.tup [intV (n / 4), intV (n % 4)])) (.ref t1) n := ⟨t1, rfl, upd_same⟩
        generalize upd H7 t1 (.tup [intV (n / 4), intV (n % 4)]) = H8 at s8 a8 ⊢
        have k8 := k7.same s8
        have gv := ht.gz nN
        have hd8 := (sameF k8) _ _ hd
        have hm8 := (sameF k8) _ _ (s1 _ _ hm)
        have g8 := s8 _ _ g7
        refine ⟨d, .int (gz kvs n), rfl, gv.1 ▸ Mo.get (M := moT) (N := 64) (moT_inj 64) hd8 a8 kN (by omega), .int M, rfl, _, _, rfl, rfl, ?_⟩
        have jl : i % ms.length < ms.length := Nat.mod_lt _ lm
        have ef : ((i : Nat) : Int).fmod ((ms.map V.int).length : Int) = ((i % ms.length : Nat) : Int) := by rw [List.length_map]; exact fmod_nat i ms.length
        refine ⟨.ref mo, rfl, intV i, rfl, .ref mo, rfl, mo, _, rfl, .inl (.inl (.inl hm8)), (i : Int), ((ms.map V.int).length : Int), rfl, rfl, by rw [List.length_map]; omega, ?_⟩
        refine ⟨mo, ms.map V.int, _, .int (ms.getD (i % ms.length) 0), rfl, rfl, .inl (.inl hm8), by rw [ef]; exact atI_nat (getD_map jl), ?_⟩
        refine ⟨_, _, rfl, rfl, ?_⟩
        have mz := getD_bd (by decide) mb (i % ms.length)
        have low := hmin (gz kvs n) (List.mem_map_of_mem nr)
        generalize emm : ms.getD (i % ms.length) 0 = mm at mz
        generalize egg : gz kvs n = gg at low gv
        have e9 : (7 : Int) * ((n / 4 : Nat) : Int) + ((n % 4 : Nat) : Int) = ((7 * (n / 4) + n % 4 : Nat) : Int) := by omega
        refine ⟨.ref fo, rfl, intV (n / 4), rfl, 7, ((n / 4 : Nat) : Int), rfl, rfl, .inl (by decide), intV (n % 4), rfl, _, _, rfl, rfl, ?_⟩
        refine ⟨fo, _, _, 7 * (n / 4) + n % 4, rfl, rfl, g8, ?_, rs.set (7 * (n / 4) + n % 4) (gg - M + mm), _, _, rfl, ?_, by rw [List.length_set]; exact r7, fun z hz => ?_, fun b o e z => ?_, ?_, ?_, ?_⟩
        · rw [e9]
          exact ixN_lt (by rw [List.length_map]; omega)
        · rw [upd_same, List.map_set]
        · rcases List.mem_or_eq_of_mem_set hz with hz | rfl
          · exact b7 z hz
          · omega
        · rw [upd_ne z]
          exact k8 b o e z
        · intro j' row' hj' hr'
          obtain ⟨k, hk⟩ := A7 j' row' hj' hr'
          refine ⟨k, fun n' hn' => ?_⟩
          have ap := crnE_apart hG
          have lj := (List.getElem?_eq_some_iff.mp hr').1
          have li := (List.getElem?_eq_some_iff.mp hrow).1
          have nn : n ≠ n' := fun z => by
            have := List.pairwise_iff_getElem.mp ap j' i lj li hj'
            rw [(List.getElem?_eq_some_iff.mp hr').2, (List.getElem?_eq_some_iff.mp hrow).2] at this
            exact this n' hn' (z ▸ nr)
          rw [getD_set _ _ _ _ (by omega), if_neg (by omega)]
          exact hk n' hn'
        · intro b s hb' h4 h7
          rw [getD_set _ _ _ _ (by omega), if_neg (by omega)]
          exact B7 b s hb' h4 h7
        · intro n' hn'
          rw [getD_set _ _ _ _ (by omega)]
          by_cases c : n' = n
          · rw [if_pos (by rw [c]), c, egg]
            omega
          · rw [if_neg (by omega)]
            rw [List.take_add_one, hn] at hn'
            rcases List.mem_append.mp hn' with hn' | hn'
            · rw [← emm]
              exact C7 n' hn'
            · exact absurd (List.mem_singleton.mp hn') c
      · rintro σ H7 ⟨rs, y8, y9, rfl, g7, r7, b7, k7, A7, B7, C7⟩
        rw [plen pvs, List.take_length] at C7
        refine ⟨rs, _, _, _, _, _, rfl, g7, r7, b7, k7, fun j row' hj hr => ?_, B7⟩
        rcases Nat.lt_succ_iff_lt_or_eq.mp hj with hj | hj
        · exact A7 j row' hj hr
        · rw [hj, hrow] at hr
          rw [← Option.some.inj hr]
          exact ⟨_, C7⟩
    · rintro σ H4 ⟨rs, y5, y6, y7, y8, y9, rfl, g4, r4, b4, k4, A4, B4⟩
      refine ⟨.ref fo, rfl, q H4 fo rs (s1.trans (sameF k4)) nfo0 g4 r4 b4 (laid_fits hG hz0 rn (fun row hr => ?_) B4) B4⟩
      obtain ⟨j, hj⟩ := List.mem_iff_getElem?.mp hr
      exact A4 j row (by rw [List.length_map, lpp]; exact (List.getElem?_eq_some_iff.mp hj).1) hj
end
end Bk

namespace Bk
open PySem PySem.Spec PyProof.Rows L2 RZ
theorem rep_flat (m : Nat) : (List.replicate m [V.int 0]).flatten = (List.replicate m (0 : Int)).map V.int := by
  induction m with
  | zero => rfl
  | succ m ih =>
    rw [List.replicate_succ, List.flatten_cons, ih, List.replicate_succ]
    rfl
theorem spr_ne {R p : Addr} {H : Hp} (h : SprOk R H) (n : H p = none) : p ≠ R := fun z => by
  obtain ⟨f, s, k, e, _⟩ := h
  rw [z, e] at n
  cases n
theorem keep_fill9 {R p : Addr} {H H' : Hp} {o : HO} (k : Keep R H H') (n : H p = none) : Keep R H (upd H' p o) := keepF k n
/-- quads of one sort, or none, in each block, no triangles -/
def OneQ (N : Nat) (rs : List Int) : Prop := ∀ b, b < N → ∃ q, 4 ≤ q ∧ q < 7 ∧ ∀ s, s < 7 → s ≠ q → rs.getD (7 * b + s) 0 = 0
theorem OneQ.tri {S : Spc} {rs : List Int} (h : OneQ S.length rs) : NoTri S rs := fun b c hb hc => by
  obtain ⟨q, h1, h2, h3⟩ := h b hb
  exact h3 c (by omega) (by omega)
theorem rep_get (m q : Nat) : (List.replicate m (0 : Int)).getD q 0 = 0 := by
  rw [List.getD_eq_getElem?_getD, List.getElem?_replicate]
  split <;> rfl
theorem OneQ.zero (N m : Nat) : OneQ N (List.replicate m 0) := fun b _ => ⟨4, by decide, by decide, fun s _ _ => rep_get _ _⟩
theorem one_surf {S : Spc} {rs ns : List Int} (h : OneQ S.length ns) (f : fitsB S rs = true) (e : QuadEq S rs ns) : surfB S rs = true := by
  unfold surfB
  rw [f, Bool.true_and, List.all_eq_true]
  intro b hb
  have hb := List.mem_range.mp hb
  obtain ⟨q, h1, h2, h3⟩ := h b hb
  refine decide_eq_true ?_
  have z : ∀ s, 4 ≤ s → s < 7 → s ≠ q → decide (0 < rs.getD (7 * b + s) 0) = false := fun s a b' n => by
    rw [e b s hb a b', h3 s b' n]
    rfl
  unfold quadsAt
  have : q = 4 ∨ q = 5 ∨ q = 6 := by omega
  rcases this with rfl | rfl | rfl
  · rw [List.filter_cons, List.filter_cons, List.filter_cons, z 5 (by decide) (by decide) (by decide), z 6 (by decide) (by decide) (by decide)]
    split <;> simp
  · rw [List.filter_cons, List.filter_cons, List.filter_cons, z 4 (by decide) (by decide) (by decide), z 6 (by decide) (by decide) (by decide)]
    simp only [Bool.false_eq_true, if_false, List.filter_nil]
    split <;> simp
  · rw [List.filter_cons, List.filter_cons, List.filter_cons, z 4 (by decide) (by decide) (by decide), z 5 (by decide) (by decide) (by decide)]
    simp only [Bool.false_eq_true, if_false, List.filter_nil]
    split <;> simp
section
variable {P : Program} {w : World} {K : PySem.W.Frag} {mg : Str → Option Value} {base : Heap}
abbrev s_law_bare : Stmt := topS 55
abbrev N_law_bare : List Str := ["spring", "many", "most", "found", "block"]
theorem sc_law_bare : FnScope N_law_bare ["spring", "many", "most"] (defScope s_law_bare) := ⟨rfl, rfl, rfl, by decide +kernel, rfl, by decide +kernel, by decide +kernel⟩
def spBare : Sp := fun vs H Q _ => ∃ (R : Addr) (N m : Nat), vs = [.ref R, intV N, intV m] ∧ 1 ≤ N ∧ N ≤ 16 ∧ m ≤ 100 ∧ SprOk R H ∧ ∀ (H' : Hp) (l : Addr) (rs : List Int), Keep R H H' → SprOk R H' → H l = none → H' l = some (.lst (rs.map V.int)) → rs.length = 7 * N → (∀ z ∈ rs, 0 ≤ z ∧ z ≤ 1000) → OneQ N rs → Q (.ref l) H'
theorem ok_law_bare {f fD : Addr} {fd fdD : FuncData} (F : Fun K "_law_bare" "_law_bare" s_law_bare f fd) (F_law_draw : Fun K "_law_draw" "_law_draw" s_law_draw fD fdD) (g_law_draw : mg "_law_draw" = some (.ref fD)) (b_law_draw : Binds K fdD ["spring", "many"] []) (G_law_draw : FnOk P w K mg base CX0 1 fD fdD ["spring", "many"] spSDraw) (m_range : mg "range" = none) : FnOk P w K mg base CX0 2 f fd ["spring", "many", "most"] spBare := by
  refine F.ok sc_law_bare (fun vs H Q E h => ?_) (fun cdv A outer s H vs Q E hr h => ?_)
  · obtain ⟨R, N, m, rfl, _⟩ := h
    rfl
  · obtain ⟨R, N, m, rfl, h1, h2, hm, hR, q⟩ := h
    have nd := sc_law_bare.nd
    refine ⟨_, (pss_cons (ps_set (i := 3) nd rfl (.inl rfl) (pe_op op_rep (pe_lst (pa_cons pe_int pa_nil)) (pe_op op_mul pe_int (pv 1))))
      (pss_cons (ps_for PassesOwn.never rfl (pi_range1 (by rfl) m_range (pa_cons (pv 1) pa_nil)) (pg_name (i := 4) nd rfl (.inl rfl)) (pss_one (ps_asg (pe_op op_mul (pe_call G_law_draw (hr.mono (by first | decide | omega)) (by rfl) g_law_draw F_law_draw.kp b_law_draw .nil pass0 (pa_cons (pv 0) (pa_cons (pe_op op_add (pv 2) pe_int) pa_nil))) (pe_call G_law_draw (hr.mono (by first | decide | omega)) (by rfl) g_law_draw F_law_draw.kp b_law_draw .nil pass0 (pa_cons (pv 0) (pa_cons pe_int pa_nil)))) (pg_sub (pv 3) (pe_op op_add (pe_op op_add (pe_op op_mul pe_int (pv 4)) pe_int) (pe_call G_law_draw (hr.mono (by first | decide | omega)) (by rfl) g_law_draw F_law_draw.kp b_law_draw .nil pass0 (pa_cons (pv 0) (pa_cons pe_int pa_nil)))) set_list))))
      (pss_one (ps_ret (pv 3))))), ?_⟩
    refine ⟨Nat.le_of_lt (small1000 (by show 1 ≤ 1000; decide)), fun z nz => ?_⟩
    have s1 : Same H (upd H z (.lst [.int 0])) := same_new nz
    have hz1 : (upd H z (.lst [.int 0])) z = some (.lst [.int 0]) := upd_same
    generalize upd H z (.lst [.int 0]) = H1 at s1 hz1 ⊢
    refine ⟨intV N, rfl, 7, (N : Int), rfl, rfl, .inl (by decide), ?_⟩
    have e7 : (7 * (N : Int)).toNat = 7 * N := by omega
    have r63 : (-(2 ^ 63) : Int) ≤ 7 * (N : Int) ∧ (7 * (N : Int)) < 2 ^ 63 := by omega
    refine ⟨z, _, [.int 0], rfl, rfl, hz1, r63.1, r63.2, ?_, fun l nl => ?_⟩
    · rw [e7]
      exact Nat.le_of_lt (small1000 (by show 1 * (7 * N) ≤ 1000; omega))
    rw [e7, rep_flat]
    have lR := spr_ne (hR.same s1) nl
    have nl0 : H l = none := s1.free nl
    have h2' : (upd H1 l (.lst ((List.replicate (7 * N) (0 : Int)).map V.int))) l = some (.lst ((List.replicate (7 * N) (0 : Int)).map V.int)) := upd_same
    have s2 : Same H1 (upd H1 l (.lst ((List.replicate (7 * N) (0 : Int)).map V.int))) := same_new nl
    generalize upd H1 l (.lst ((List.replicate (7 * N) (0 : Int)).map V.int)) = H2 at s2 h2' ⊢
    refine ⟨_, rfl, (N : Int), rfl, by omega, by omega, ?_⟩
    refine for_range (lo := 0) (n := ((N : Int)).toNat) (fun i σ H3 => ∃ (rs : List Int) (y4 : Option V), σ = [some (.ref R), some (intV N), some (intV m), some (.ref l), y4] ∧ H3 l = some (.lst (rs.map V.int)) ∧ rs.length = 7 * N ∧ (∀ z ∈ rs, 0 ≤ z ∧ z ≤ 1000) ∧ Keep R H H3 ∧ SprOk R H3 ∧ (∀ b, b < i → ∃ q, 4 ≤ q ∧ q < 7 ∧ ∀ s, s < 7 → s ≠ q → rs.getD (7 * b + s) 0 = 0) ∧ ∀ b s, i ≤ b → s < 7 → rs.getD (7 * b + s) 0 = 0) ⟨_, _, rfl, h2', List.length_replicate, (fun z hz => by rw [List.eq_of_mem_replicate hz]; decide), .of (s1.trans s2), hR.same (s1.trans s2), (fun b h => absurd h (Nat.not_lt_zero _)), fun b s _ _ => rep_get _ _⟩ ?_ ?_
    · rintro i σ H3 hi ⟨rs, y4, rfl, g3, r3', b3, k3, hR3, o3, p3⟩
      have iN : i < N := by omega
      refine ⟨.ref R, rfl, intV m, rfl, (m : Int), 1, rfl, rfl, R, _, rfl, by omega, by omega, hR3, fun H4 r1 k4 hR4 r10 r11 => ?_⟩
      refine ⟨.ref R, rfl, R, 2, rfl, by decide, by decide, hR4, fun H5 r2 k5 hR5 r20 r21 => ?_⟩
      refine ⟨r1, r2, rfl, rfl, .inl ⟨by omega, by omega⟩, ?_⟩
      have pb : 0 ≤ r1 * r2 ∧ r1 * r2 ≤ 1000 := by
        have : r2 = 0 ∨ r2 = 1 := by omega
        rcases this with rfl | rfl
        · rw [Int.mul_zero]
          decide
        · rw [Int.mul_one]
          omega
      refine ⟨.ref l, rfl, _, rfl, 7, _, rfl, rfl, .inl (by decide), _, _, rfl, rfl, .ref R, rfl, R, 3, rfl, by decide, by decide, hR5, fun H6 r3 k6 hR6 r30 r31 => ?_⟩
      obtain ⟨c, rfl⟩ : ∃ c : Nat, r3 = (c : Int) := ⟨r3.toNat, by omega⟩
      have e9 : (7 : Int) * (0 + (i : Int)) + 4 + (c : Int) = ((7 * i + 4 + c : Nat) : Int) := by omega
      have g6 := k6 _ _ (k5 _ _ (k4 _ _ g3 lR) lR) lR
      have k36 := (k3.trans k4).trans (k5.trans k6)
      refine ⟨_, _, rfl, rfl, l, _, _, 7 * i + 4 + c, rfl, rfl, g6, ?_, rs.set (7 * i + 4 + c) (r1 * r2), _, rfl, ?_, by rw [List.length_set]; exact r3', fun z hz => ?_, keep_fill9 k36 nl0, hR6.set lR.symm, fun b hb => ?_, fun b s hb hs => ?_⟩
      · rw [e9]
        exact ixN_lt (by rw [List.length_map]; omega)
      · rw [upd_same, List.map_set]
      · rcases List.mem_or_eq_of_mem_set hz with hz | rfl
        · exact b3 z hz
        · exact pb
      · rcases Nat.lt_succ_iff_lt_or_eq.mp hb with hb | hb
        · obtain ⟨q', a1, a2, a3⟩ := o3 b hb
          refine ⟨q', a1, a2, fun s hs hn => ?_⟩
          rw [getD_set _ _ _ _ (by omega), if_neg (by omega)]
          exact a3 s hs hn
        · refine ⟨4 + c, by omega, by omega, fun s hs hn => ?_⟩
          rw [getD_set _ _ _ _ (by omega), if_neg (by omega)]
          exact p3 b s (by omega) hs
      · rw [getD_set _ _ _ _ (by omega), if_neg (by omega)]
        exact p3 b s (by omega) hs
    · rintro σ H3 ⟨rs, y4, rfl, g3, r3, b3, k3, hR3, o3, p3⟩
      exact ⟨.ref l, rfl, q H3 l rs k3 hR3 nl0 g3 r3 b3 fun b hb => o3 b (by omega)⟩
abbrev s_law_surface : Stmt := topS 56
abbrev N_law_surface : List Str := ["spring", "space", "most", "more", "turn", "found", "k"]
theorem sc_law_surface : FnScope N_law_surface ["spring", "space", "most"] (defScope s_law_surface) := ⟨rfl, rfl, rfl, by decide +kernel, rfl, by decide +kernel, by decide +kernel⟩
def spSurface : Sp := fun vs H Q _ => ∃ (R : Addr) (v : V) (S : Spc) (m : Nat), vs = [.ref R, v, intV m] ∧ m ≤ 100 ∧ ST H v S ∧ Good S ∧ 1 ≤ S.length ∧ S.length < 16 ∧ SprOk R H ∧ ∀ (H' : Hp) (l : Addr) (rs : List Int), Keep R H H' → SprOk R H' → H l = none → H' l = some (.lst (rs.map V.int)) → rs.length = 7 * S.length → (∀ z ∈ rs, 0 ≤ z ∧ z ≤ 10000000) → surfB S rs = true → Q (.ref l) H'
theorem ok_law_surface {f fD fB fL : Addr} {fd fdD fdB fdL : FuncData} (F : Fun K "_law_surface" "_law_surface" s_law_surface f fd) (F_law_draw : Fun K "_law_draw" "_law_draw" s_law_draw fD fdD) (g_law_draw : mg "_law_draw" = some (.ref fD)) (b_law_draw : Binds K fdD ["spring", "many"] []) (G_law_draw : FnOk P w K mg base CX0 1 fD fdD ["spring", "many"] spSDraw)
    (F_law_bare : Fun K "_law_bare" "_law_bare" s_law_bare fB fdB) (g_law_bare : mg "_law_bare" = some (.ref fB)) (b_law_bare : Binds K fdB ["spring", "many", "most"] []) (G_law_bare : FnOk P w K mg base CX0 2 fB fdB ["spring", "many", "most"] spBare)
    (F_law_laid : Fun K "_law_laid" "_law_laid" s_law_laid fL fdL) (g_law_laid : mg "_law_laid" = some (.ref fL)) (b_law_laid : Binds K fdL ["space", "bare", "more"] []) (G_law_laid : FnOk P w K mg base CX0 4 fL fdL ["space", "bare", "more"] spLaid) (m_range : mg "range" = none) (m_len : mg "len" = none) : FnOk P w K mg base CX0 5 f fd ["spring", "space", "most"] spSurface := by
  refine F.ok sc_law_surface (fun vs H Q E h => ?_) (fun cdv A outer s H vs Q E hr h => ?_)
  · obtain ⟨R, v, S, m, rfl, _⟩ := h
    rfl
  · obtain ⟨R, v, S, m, rfl, hm, hst, hG, h1, h2, hR, q⟩ := h
    have nd := sc_law_surface.nd
    refine ⟨_, (pss_cons (ps_setLc (i := 3) (own := [("k", 6)]) (g := gName 6) (tt := tYes) rfl nd rfl rfl (sw_true rfl rfl rfl (by decide +kernel)) (pi_range1 (by rfl) m_range (pa_cons pe_int pa_nil)) (blkOk_by (own := [("k", 6)]) (N := N_law_surface) (sc := defScope s_law_surface) (by decide +kernel)) (fun _ _ _ _ _ => (pg_name (i := 6) nd rfl (Or.inl rfl))) (fun _ _ _ _ _ => pts_nil) (fun _ _ _ _ _ => (pe_ix (kIxL K rfl) (pe_lst (pa_cons pe_int (pa_cons pe_int (pa_cons pe_int (pa_cons (pe_call G_law_draw (hr.mono (by first | decide | omega)) (by rfl) g_law_draw F_law_draw.kp b_law_draw .nil pass0 (pa_cons (pv 0) (pa_cons pe_int pa_nil))) pa_nil))))) (pe_call G_law_draw (hr.mono (by first | decide | omega)) (by rfl) g_law_draw F_law_draw.kp b_law_draw .nil pass0 (pa_cons (pv 0) (pa_cons pe_int pa_nil))) (fun _ _ => rfl))))
      (pss_cons (ps_for PassesOwn.never rfl (pi_range1 (by rfl) m_range (pa_cons pe_int pa_nil)) (pg_name (i := 4) nd rfl (.inl rfl)) (pss_cons (ps_set (i := 5) nd rfl (.inl rfl) (pe_call G_law_laid (hr.mono (by first | decide | omega)) (by rfl) g_law_laid F_law_laid.kp b_law_laid .nil pass0 (pa_cons (pv 1) (pa_cons (pe_call G_law_bare (hr.mono (by first | decide | omega)) (by rfl) g_law_bare F_law_bare.kp b_law_bare .nil pass0 (pa_cons (pv 0) (pa_cons (pe_callB (kLen K rfl) (by rfl) m_len (by decide +kernel) (pa_cons (pv 1) pa_nil)) (pa_cons (pv 2) pa_nil)))) (pa_cons (pv 3) pa_nil)))))
      (pss_one (ps_if (pt_cmpR op_notN (pv 5) pe_non (nomark _)) (pss_one (ps_ret (pv 5))) pss_nil))))
      (pss_one (ps_ret (pe_call G_law_laid (hr.mono (by first | decide | omega)) (by rfl) g_law_laid F_law_laid.kp b_law_laid .nil pass0 (pa_cons (pv 1) (pa_cons (pe_op op_rep (pe_lst (pa_cons pe_int pa_nil)) (pe_op op_mul pe_int (pe_callB (kLen K rfl) (by rfl) m_len (by decide +kernel) (pa_cons (pv 1) pa_nil)))) (pa_cons (pv 3) pa_nil)))))))), ?_⟩
    obtain ⟨p, rs0, rfl, fp, hbs⟩ := id hst
    have lrs := plen hbs
    refine ⟨12, rfl, by decide, by decide, fun D nD => ?_⟩
    have DR := spr_ne hR nD
    refine lc_range (lo := 0) (n := 12) (fun i H1 => ∃ ms : List Int, H1 D = some (.lst (ms.map V.int)) ∧ ms.length = i ∧ (∀ z ∈ ms, 0 ≤ z ∧ z ≤ 1000) ∧ Keep R H H1 ∧ SprOk R H1) ⟨[], upd_same, rfl, (fun z hz => absurd hz List.not_mem_nil), .of (same_new nD), hR.same (same_new nD)⟩ ?_ ?_
    · rintro i H1 hi ⟨ms, g1, r1, b1, k1, hR1⟩
      refine ⟨rfl, .ref R, rfl, R, 3, rfl, by decide, by decide, hR1, fun H2 x1 k2 hR2 x10 x11 => ?_⟩
      refine ⟨Nat.le_of_lt (small1000 (by show 4 ≤ 1000; decide)), fun t nt => ?_⟩
      have s3 : Same H2 (upd H2 t (.lst [.int 0, .int 0, .int 1, .int x1])) := same_new nt
      have h3 : (upd H2 t (.lst [.int 0, .int 0, .int 1, .int x1])) t = some (.lst [.int 0, .int 0, .int 1, .int x1]) := upd_same
      have tR := spr_ne hR2 nt
      generalize upd H2 t (.lst [.int 0, .int 0, .int 1, .int x1]) = H3 at s3 h3 ⊢
      refine ⟨.ref R, rfl, R, 4, rfl, by decide, by decide, hR2.same s3, fun H4 x2 k4 hR4 x20 x21 => ?_⟩
      obtain ⟨e, he, e0, e1⟩ : ∃ e : Int, atI [V.int 0, .int 0, .int 1, .int x1] x2 = some (.int e) ∧ 0 ≤ e ∧ e ≤ 1000 := by
        have : x2 = 0 ∨ x2 = 1 ∨ x2 = 2 ∨ x2 = 3 := by omega
        rcases this with rfl | rfl | rfl | rfl
        · exact ⟨0, rfl, by decide, by decide⟩
        · exact ⟨0, rfl, by decide, by decide⟩
        · exact ⟨1, rfl, by decide, by decide⟩
        · exact ⟨x1, rfl, by omega, by omega⟩
      have k14 := ((k1.trans k2).same s3).trans k4
      refine ⟨t, _, x2, .int e, rfl, rfl, .inl (.inl (k4 _ _ h3 tR)), he, ?_⟩
      have g4 := k4 _ _ (s3 _ _ (k2 _ _ g1 DR)) DR
      refine ⟨_, g4, small1000 (by rw [List.length_map]; omega), ms ++ [e], ?_, by rw [List.length_append, r1]; rfl, fun z hz => ?_, keepF k14 nD, hR4.set DR.symm⟩
      · rw [upd_same, List.map_append]
        rfl
      · rcases List.mem_append.mp hz with hz | hz
        · exact b1 z hz
        · rw [List.mem_singleton.mp hz]
          exact ⟨e0, e1⟩
    · rintro H1 ⟨ms, g1, r1, b1, k1, hR1⟩
      have stk : ∀ {H'}, Keep R H H' → ST H' (.ref p) S := fun k => hst.mono (hR.tups k)
      have fpk : ∀ {H'}, Keep R H H' → FT H' p rs0 := fun k => fp.mono (hR.tups k)
      dsimp only [gName]
      refine ⟨8, rfl, by decide, by decide, ?_⟩
      refine for_range (lo := 0) (n := 8) (fun i σ H2 => ∃ (y4 y5 : Option V), σ = [some (.ref R), some (.ref p), some (intV m), some (.ref D), y4, y5, none] ∧ H2 D = some (.lst (ms.map V.int)) ∧ Keep R H H2 ∧ SprOk R H2) ⟨_, _, rfl, g1, k1, hR1⟩ ?_ ?_
      · rintro i σ H2 hi ⟨y4, y5, rfl, g2, k2, hR2⟩
        refine ⟨.ref p, rfl, .ref R, rfl, .ref p, rfl, p, rs0, rfl, .inr (fpk k2).sqt, intV m, rfl, R, S.length, m, congrArg (fun z => [V.ref R, z, intV m]) (show V.int (rs0.length : Int) = intV S.length by rw [lrs]; rfl), h1, by omega, hm, hR2, fun H3 b ns k3 hR3 nb hb lb bb oq => ?_⟩
        have k23 := k2.trans k3
        have g3 := k3 _ _ g2 DR
        refine ⟨.ref D, rfl, .ref p, b, D, S, ns, ms, rfl, stk k23, hG, h1, h2, hb, lb, bb, g3, by omega, by omega, b1, oq.tri, fun _ H4 s4 => ?_, fun H4 l rs s4 nl hl4 rl rb ff fq => ?_⟩
        · refine ⟨_, rfl, rfl, _, rfl, iteF ⟨_, _, rfl, s4 _ _ g3, k23.same s4, hR3.same s4⟩⟩
        · refine ⟨_, rfl, rfl, _, rfl, iteT ?_⟩
          exact ⟨.ref l, rfl, q H4 l rs (k23.same s4) (hR3.same s4) (keep_free4 k23 nl (spr_ne hR3 nl)) hl4 rl rb (one_surf oq ff fq)⟩
      · rintro σ H2 ⟨y4, y5, rfl, g2, k2, hR2⟩
        refine ⟨.ref p, rfl, Nat.le_of_lt (small1000 (by show 1 ≤ 1000; decide)), fun z nz => ?_⟩
        have s3 : Same H2 (upd H2 z (.lst [.int 0])) := same_new nz
        have hz3 : (upd H2 z (.lst [.int 0])) z = some (.lst [.int 0]) := upd_same
        generalize upd H2 z (.lst [.int 0]) = H3 at s3 hz3 ⊢
        refine ⟨.ref p, rfl, p, rs0, rfl, .inr (fpk (k2.same s3)).sqt, 7, (rs0.length : Int), rfl, rfl, .inl (by decide), ?_⟩
        have e7 : (7 * (rs0.length : Int)).toNat = 7 * S.length := by omega
        have r63 : (-(2 ^ 63) : Int) ≤ 7 * (rs0.length : Int) ∧ (7 * (rs0.length : Int)) < 2 ^ 63 := by omega
        refine ⟨z, _, [.int 0], rfl, rfl, hz3, r63.1, r63.2, ?_, fun b nb => ?_⟩
        · rw [e7]
          exact Nat.le_of_lt (small1000 (by show 1 * (7 * S.length) ≤ 1000; omega))
        rw [e7, rep_flat]
        have s4 : Same H3 (upd H3 b (.lst ((List.replicate (7 * S.length) (0 : Int)).map V.int))) := same_new nb
        have h4 : (upd H3 b (.lst ((List.replicate (7 * S.length) (0 : Int)).map V.int))) b = some (.lst ((List.replicate (7 * S.length) (0 : Int)).map V.int)) := upd_same
        generalize upd H3 b (.lst ((List.replicate (7 * S.length) (0 : Int)).map V.int)) = H4 at s4 h4 ⊢
        have k4 := (k2.same s3).same s4
        have g4 := s4 _ _ (s3 _ _ g2)
        have hR4 := (hR2.same s3).same s4
        refine ⟨.ref D, rfl, .ref p, b, D, S, _, ms, rfl, stk k4, hG, h1, h2, h4, List.length_replicate, (fun z hz => by rw [List.eq_of_mem_replicate hz]; decide), g4, by omega, by omega, b1, (OneQ.zero S.length _).tri, fun ⟨z, hz, nz⟩ => absurd (List.eq_of_mem_replicate hz) nz, fun H5 l rs s5 nl hl5 rl rb ff fq => ?_⟩
        exact q H5 l rs (k4.same s5) (hR4.same s5) (keep_free4 k4 nl (spr_ne hR4 nl)) hl5 rl rb (one_surf (OneQ.zero _ _) ff fq)
end
end Bk

namespace Bk
open PySem PySem.Spec PyProof.Rows L2 RZ
/-- zip of two variables, each a list or a tuple -/
def iZipQ (K : PySem.W.Frag) (i j : Nat) : TI := fun σ H R => ∃ a b xs ys, σ[i]? = some (some (V.ref a)) ∧ σ[j]? = some (some (V.ref b)) ∧ (SqL K H a xs ∨ SqT K H a xs) ∧ (SqL K H b ys ∨ SqT K H b ys) ∧ ∀ J G, ZipIt a b xs ys J G → G H → R J H
theorem kPiZQ {X : Cx} (K : PySem.W.Frag) {tg l : Expr} {i j : Nat} (h : X.K = K) (x1 : PI X tg l (iZipA X.K (tCons (tVar i) (tCons (tVar j) tNil)))) (x2 : PI X tg l (iZipM X.K (tCons (tVar i) (tCons (tVar j) tNil)))) (x3 : PI X tg l (iZipW X.K (tCons (tVar i) (tCons (tVar j) tNil)))) : PI X tg l (iZipQ K i j) := by
  subst h
  refine ⟨fun pins s σ H R I hw => ?_⟩
  obtain ⟨a, b, xs, ys, e1, e2, h1, h2, q⟩ := hw
  rcases h1 with h1 | h1
  · rcases h2 with h2 | h2
    · exact x1.run pins s σ H R I ⟨.ref a, e1, .ref b, e2, a, b, xs, ys, rfl, .inl ⟨h1, h2, q _ _ ⟨walk_zip rfl, fun _ _ m1 m2 z => ⟨sqL_at m1 z.1, sqL_at m2 z.2⟩⟩ ⟨h1, h2⟩⟩⟩
    · exact x2.run pins s σ H R I ⟨.ref a, e1, .ref b, e2, a, b, xs, ys, rfl, h1, h2, q _ _ ⟨walk_zipM, fun _ _ m1 m2 z => ⟨sqL_at m1 z.1, sqT_at m2 z.2⟩⟩ ⟨h1, h2⟩⟩
  · rcases h2 with h2 | h2
    · exact x3.run pins s σ H R I ⟨.ref a, e1, .ref b, e2, a, b, xs, ys, rfl, h1, h2, q _ _ ⟨walk_zipW, fun _ _ m1 m2 z => ⟨sqT_at m1 z.1, sqL_at m2 z.2⟩⟩ ⟨h1, h2⟩⟩
    · exact x1.run pins s σ H R I ⟨.ref a, e1, .ref b, e2, a, b, xs, ys, rfl, .inr ⟨h1, h2, q _ _ ⟨walk_zipT, fun _ _ m1 m2 z => ⟨sqT_at m1 z.1, sqT_at m2 z.2⟩⟩ ⟨h1, h2⟩⟩⟩
section
variable {P : Program} {w : World} {K : PySem.W.Frag} {mg : Str → Option Value} {base : Heap}
abbrev ssum_of : Stmt := topS 43
abbrev Nsum_of : List Str := ["one", "other", "first", "second"]
theorem scsum_of : FnScope Nsum_of ["one", "other"] (defScope ssum_of) := ⟨rfl, rfl, rfl, by decide +kernel, rfl, by decide +kernel, by decide +kernel⟩
/-- two lists' sum -/
def sumL (ns ms : List Int) : List Int := List.zipWith (· + ·) ns ms
def spSumOf : Sp := fun vs H Q _ => ∃ (va vb : V) (ns ms : List Int) (m : Nat), vs = [va, vb] ∧ Hd H va ns ∧ Hd H vb ms ∧ ns.length = 7 * m ∧ ms.length = 7 * m ∧ 0 < m ∧ m ≤ 100 ∧ (∀ x ∈ ns, 0 ≤ x) ∧ (∀ x ∈ ms, 0 ≤ x) ∧
  ∀ H' l, Same H H' → H l = none → H' l = some (.lst ((sumL ns ms).map V.int)) → Q (.ref l) H'
theorem oksum_of {f fA : Addr} {fd fdA : FuncData} (F : Fun K "sum_of" "sum_of" ssum_of f fd) (Fare_numbers : Fun K "are_numbers" "are_numbers" sare_numbers fA fdA) (gare_numbers : mg "are_numbers" = some (.ref fA)) (bare_numbers : Binds K fdA ["thing"] []) (Gare_numbers : FnOk P w K mg base CX0 2 fA fdA ["thing"] spAreNum) (m_len : mg "len" = none) (m_zip : mg "zip" = none) : FnOk P w K mg base CX0 3 f fd ["one", "other"] spSumOf := by
  refine F.ok scsum_of (fun vs H Q E h => ?_) (fun cdv A outer s H vs Q E hr h => ?_)
  · obtain ⟨va, vb, ns, ms, m, rfl, _⟩ := h
    rfl
  · obtain ⟨va, vb, ns, ms, m, rfl, ha, hb, ln, lm, m0, m1, hn, hm, q⟩ := h
    have nd := scsum_of.nd
    refine ⟨_, (pss_cons (ps_if (pw_or (pt_not (pt_val (pe_call Gare_numbers (hr.mono (by first | decide | omega)) (by rfl) gare_numbers Fare_numbers.kp bare_numbers .nil pass0 (pa_cons (pv 0) pa_nil)))) (pw_or1 (pt_not (pt_val (pe_call Gare_numbers (hr.mono (by first | decide | omega)) (by rfl) gare_numbers Fare_numbers.kp bare_numbers .nil pass0 (pa_cons (pv 1) pa_nil)))))).pt (pss_one ps_never) pss_nil)
      (pss_cons (ps_if (pt_cmpR op_ne (pe_callB (kLen K rfl) (by rfl) m_len (by decide +kernel) (pa_cons (pv 0) pa_nil)) (pe_callB (kLen K rfl) (by rfl) m_len (by decide +kernel) (pa_cons (pv 1) pa_nil)) (nomark _)) (pss_one ps_never) pss_nil)
      (pss_one (ps_ret (pe_lc (own := [("first", 2), ("second", 3)]) (tt := tYes) rfl nd (kPiZQ K rfl (pi_zipA (by rfl) m_zip (pa_cons (pv 0) (pa_cons (pv 1) pa_nil))) (pi_zipM (by rfl) m_zip (pa_cons (pv 0) (pa_cons (pv 1) pa_nil))) (pi_zipW (by rfl) m_zip (pa_cons (pv 0) (pa_cons (pv 1) pa_nil)))) (blkOk_by (own := [("first", 2), ("second", 3)]) (N := Nsum_of) (sc := defScope ssum_of) (by decide +kernel)) (fun _ _ _ _ _ => (kPgT K rfl (pg_tup (n := 2) rfl (pgs_cons (pg_name (i := 2) nd rfl (Or.inl rfl)) (pgs_cons (pg_name (i := 3) nd rfl (Or.inl rfl)) pgs_nil))))) (fun _ _ _ _ _ => pts_nil) (fun _ _ _ _ _ => (pe_op op_add (pv 2) (pv 3)))))))), ?_⟩
    refine ⟨va, rfl, va, ns, m, rfl, ha, ln, m0, m1, hn, fun H1 s1 => ?_⟩
    refine ⟨true, rfl, ?_⟩
    refine iteF ?_
    refine ⟨vb, rfl, vb, ms, m, rfl, hb.same s1, lm, m0, m1, hm, fun H2 s2 => ?_⟩
    refine ⟨true, rfl, ?_⟩
    refine iteF ?_
    obtain ⟨a, rfl, h2a⟩ := (ha.same (s1.trans s2)).sq (K := K)
    obtain ⟨b, rfl, h2b⟩ := (hb.same (s1.trans s2)).sq (K := K)
    have or3 : ∀ {a : Addr} {xs : List V}, (SqL K H2 a xs ∨ SqT K H2 a xs) → (SqL K H2 a xs ∨ SqT K H2 a xs) := fun h => h
    refine ⟨.ref a, rfl, a, _, rfl, h2a, .ref b, rfl, b, _, rfl, h2b, rfl, false, ?_, iteF ?_⟩
    · refine congrArg V.bl ?_
      rw [List.length_map, List.length_map, ln, lm]
      exact congrArg (!·) (decide_eq_true rfl)
    have lmin : min (ns.map V.int).length (ms.map V.int).length = 7 * m := by
      rw [List.length_map, List.length_map, ln, lm, Nat.min_self]
    refine ⟨a, b, _, _, rfl, rfl, h2a, h2b, fun J G Z hG D nD => ?_⟩
    refine lc_it Z.walk (fun i H3 => H3 D = some (.lst (((sumL ns ms).take i).map V.int)) ∧ Same H2 H3) ⟨upd_same, same_new nD⟩ (fun i H3 _ z => Z.stay _ _ (fun o e => z.2 _ _ e) (fun o e => z.2 _ _ e) hG) ?_ ?_
    · rintro i v H3 H4 hi ⟨h3, s3⟩ ⟨T, x, y, rfl, nT, rfl, hx, hy⟩
      rw [lmin] at hi
      have en : ns[i]? = some ns[i] := List.getElem?_eq_getElem (by omega)
      have em : ms[i]? = some ms[i] := List.getElem?_eq_getElem (by omega)
      have ex : V.int ns[i] = x := by
        have hx : (ns.map V.int)[i]? = some x := hx
        rw [List.getElem?_map, en] at hx
        exact Option.some.inj hx
      have ey : V.int ms[i] = y := by
        have hy : (ms.map V.int)[i]? = some y := hy
        rw [List.getElem?_map, em] at hy
        exact Option.some.inj hy
      subst ex ey
      have s4 : Same H3 (upd H3 T (.tup [.int ns[i], .int ms[i]])) := same_new nT
      refine ⟨T, [.int ns[i], .int ms[i]], rfl, .inl (.inl upd_same), rfl, .int ns[i], [.int ms[i]], rfl, .int ms[i], [], rfl, rfl, rfl, ?_⟩
      generalize upd H3 T (.tup [.int ns[i], .int ms[i]]) = H4 at s4 ⊢
      refine ⟨.int ns[i], rfl, .int ms[i], rfl, ns[i], ms[i], rfl, rfl, _, s4 _ _ h3, small1000 (by rw [List.length_map, List.length_take]; omega), ?_, same_fill (s3.trans s4) nD⟩
      have es : (sumL ns ms)[i]? = some (ns[i] + ms[i]) := by
        unfold sumL
        rw [List.getElem?_zipWith, en, em]
      rw [upd_same, List.take_add_one, es, List.map_append]
      rfl
    · rintro H3 ⟨h3, s3⟩
      have ls : (sumL ns ms).length = 7 * m := by
        unfold sumL
        rw [List.length_zipWith, ln, lm, Nat.min_self]
      rw [lmin, ← ls, List.take_length] at h3
      exact q H3 D ((s1.trans s2).trans s3) ((s1.trans s2).free nD) h3
end
end Bk

namespace Bk
open PySem PySem.Spec PyProof.Rows L2 RZ
theorem sumL_nn : ∀ ns ms : List Int, (∀ x ∈ ns, 0 ≤ x) → (∀ x ∈ ms, 0 ≤ x) → ∀ z ∈ sumL ns ms, 0 ≤ z
  | [], _, _, _, z, h => absurd h (by simp [sumL])
  | _ :: _, [], _, _, z, h => absurd h (by simp [sumL])
  | a :: ns, b :: ms, h1, h2, z, h => by
    have h : z ∈ (a + b) :: sumL ns ms := h
    rcases List.mem_cons.mp h with rfl | h
    · exact Int.add_nonneg (h1 a List.mem_cons_self) (h2 b List.mem_cons_self)
    · exact sumL_nn ns ms (fun x k => h1 x (List.mem_cons_of_mem _ k)) (fun x k => h2 x (List.mem_cons_of_mem _ k)) z h
section
variable {P : Program} {w : World} {K : PySem.W.Frag} {mg : Str → Option Value} {base : Heap}
abbrev sgo_together : Stmt := topS 41
abbrev Ngo_together : List Str := ["space", "one", "other", "whole", "told", "numbers"]
theorem scgo_together : FnScope Ngo_together ["space", "one", "other"] (defScope sgo_together) := ⟨rfl, rfl, rfl, by decide +kernel, rfl, by decide +kernel, by decide +kernel⟩
def spTogether : Sp := fun vs H Q _ => ∃ (N : Addr → Prop) (v va vb : V) (d : PyData) (S : Spc) (ns ms : List Int), vs = [v, va, vb] ∧ Dq N H v d ∧ norm d = nS S ∧ Good S ∧ 1 ≤ S.length ∧ S.length < 16 ∧ Hd H va ns ∧ Hd H vb ms ∧ ns.length = 7 * S.length ∧ ms.length = 7 * S.length ∧ (∀ x ∈ ns, 0 ≤ x) ∧ (∀ x ∈ ms, 0 ≤ x) ∧
  ∀ H', Same H H' → Q (.bl (surfB S ns && surfB S ms && surfB S (sumL ns ms))) H'
theorem okgo_together {f fS fI fU : Addr} {fd fdS fdI fdU : FuncData} (F : Fun K "go_together" "go_together" sgo_together f fd) (Fspace_of : Fun K "space_of" "space_of" sspace_of fS fdS) (gspace_of : mg "space_of" = some (.ref fS)) (bspace_of : Binds K fdS ["blocks"] []) (Gspace_of : FnOk P w K mg base CX0 6 fS fdS ["blocks"] spSpace)
    (Fis_surface : Fun K "is_surface" "is_surface" sis_surface fI fdI) (gis_surface : mg "is_surface" = some (.ref fI)) (bis_surface : Binds K fdI ["space", "numbers"] []) (Gis_surface : FnOk P w K mg base CX0 8 fI fdI ["space", "numbers"] spSurf)
    (Fsum_of : Fun K "sum_of" "sum_of" ssum_of fU fdU) (gsum_of : mg "sum_of" = some (.ref fU)) (bsum_of : Binds K fdU ["one", "other"] []) (Gsum_of : FnOk P w K mg base CX0 3 fU fdU ["one", "other"] spSumOf) (m_all : mg "all" = none) : FnOk P w K mg base CX0 9 f fd ["space", "one", "other"] spTogether := by
  refine F.ok scgo_together (fun vs H Q E h => ?_) (fun cdv A outer s H vs Q E hr h => ?_)
  · obtain ⟨N, v, va, vb, d, S, ns, ms, rfl, _⟩ := h
    rfl
  · obtain ⟨N, v, va, vb, d, S, ns, ms, rfl, hd, hn, hG, h1, h2, ha, hb, la, lb, pa, pb, q⟩ := h
    have nd := scgo_together.nd
    refine ⟨_, (pss_cons (ps_set (i := 3) nd rfl (.inr rfl) (pe_call Gspace_of (hr.mono (by first | decide | omega)) (by rfl) gspace_of Fspace_of.kp bspace_of .nil pass0 (pa_cons (pv 0) pa_nil)))
      (pss_cons (ps_setLc (i := 4) (own := [("numbers", 5)]) (g := gName 5) (tt := tYes) rfl nd rfl rfl (sw_true rfl rfl rfl (by decide +kernel)) (kPiT K rfl (pi_tup (pe_tupF (pa_cons (pv 1) (pa_cons (pv 2) pa_nil))))) (blkOk_by (own := [("numbers", 5)]) (N := Ngo_together) (sc := defScope sgo_together) (by decide +kernel)) (fun _ _ _ _ _ => (pg_name (i := 5) nd rfl (Or.inl rfl))) (fun _ _ _ _ _ => pts_nil) (fun _ _ _ _ _ => (pe_call Gis_surface (hr.mono (by first | decide | omega)) (by rfl) gis_surface Fis_surface.kp bis_surface .nil pass0 (pa_cons (pv 3) (pa_cons (pv 5) pa_nil)))))
      (pss_one (ps_ret (pe_and (pe_callB (kAll K rfl rfl) (by rfl) m_all (by decide +kernel) (pa_cons (pv 4) pa_nil)) (pe_one (pe_call Gis_surface (hr.mono (by first | decide | omega)) (by rfl) gis_surface Fis_surface.kp bis_surface .nil pass0 (pa_cons (pv 3) (pa_cons (pe_call Gsum_of (hr.mono (by first | decide | omega)) (by rfl) gsum_of Fsum_of.kp bsum_of .nil pass0 (pa_cons (pv 1) (pa_cons (pv 2) pa_nil))) pa_nil))))))))), ?_⟩
    refine ⟨v, rfl, N, v, d, S, rfl, hd, hn, hG, h1, by omega, fun H1 u s1 st1 => ?_⟩
    refine ⟨va, rfl, vb, rfl, Nat.le_of_lt (small1000 (by show 2 ≤ 1000; decide)), fun t o nt dt => ?_⟩
    have s2 : Same H1 (upd H1 t (.frz o (.tup [va, vb]))) := same_new nt
    have ft : FT (upd H1 t (.frz o (.tup [va, vb]))) t [va, vb] := FT.new dt
    generalize upd H1 t (.frz o (.tup [va, vb])) = H2 at s2 ft ⊢
    refine ⟨t, rfl, ⟨_, ft.sqt⟩, fun D nD => ?_⟩
    have s12 := s1.trans s2
    have each : ∀ (x : V) (ks : List Int), Hd H x ks → ks.length = 7 * S.length → (∀ z ∈ ks, 0 ≤ z) → ∀ (H3 : Hp) (Q' : VK), Same H2 H3 → (∀ H', Same H3 H' → Q' (.bl (surfB S ks)) H') → spSurf [u, x] H3 Q' E0 := fun x ks hx lx px H3 Q' s3 q' =>
      ⟨fun _ => False, u, x, shutD S, S, ks, rfl, (st1.mono (s2.trans s3).tups).dq, norm_shut S, hG, h1, h2, hx.same (s12.trans s3), lx, px, q'⟩
    refine lc_tup (xs := [va, vb]) (fun i H3 => H3 D = some (.lst (([surfB S ns, surfB S ms].take i).map V.bl)) ∧ Same H2 H3) ⟨upd_same, same_new nD⟩ ?_ ?_ ?_
    · rintro i H3 _ ⟨h3, s3⟩
      exact (ft.mono s3.tups).sqt
    · rintro i x H3 hx ⟨h3, s3⟩
      refine ⟨rfl, u, rfl, x, rfl, ?_⟩
      match i, hx with
      | 0, hx =>
        obtain rfl : va = x := Option.some.inj hx
        refine each va ns ha la pa H3 (fun y H4 => ∃ acc, H4 D = some (HO.lst acc) ∧ acc.length < sizeLine ∧ (upd H4 D (HO.lst (acc ++ [y])) D = some (.lst ([surfB S ns].map V.bl)) ∧ Same H2 (upd H4 D (HO.lst (acc ++ [y]))))) s3 fun H4 s4 => ⟨_, s4 _ _ h3, small1000 (by show 0 ≤ 1000; decide), upd_same, same_fill (s3.trans s4) nD⟩
      | 1, hx =>
        obtain rfl : vb = x := Option.some.inj hx
        refine each vb ms hb lb pb H3 (fun y H4 => ∃ acc, H4 D = some (HO.lst acc) ∧ acc.length < sizeLine ∧ (upd H4 D (HO.lst (acc ++ [y])) D = some (.lst ([surfB S ns, surfB S ms].map V.bl)) ∧ Same H2 (upd H4 D (HO.lst (acc ++ [y]))))) s3 fun H4 s4 => ⟨_, s4 _ _ h3, small1000 (by show 1 ≤ 1000; decide), upd_same, same_fill (s3.trans s4) nD⟩
      | i + 2, hx => simp at hx
    · rintro H3 ⟨h3, s3⟩
      have h3 : H3 D = some (.lst ([surfB S ns, surfB S ms].map V.bl)) := h3
      refine ⟨.ref D, rfl, D, _, rfl, .inl (.inl h3), _, rfl, ?_⟩
      rw [show ([surfB S ns, surfB S ms].all id) = (surfB S ns && surfB S ms) by simp]
      cases e : (surfB S ns && surfB S ms) with
      | false =>
        rw [e, Bool.false_and] at q
        exact iteF (q H3 (s12.trans s3))
      | true =>
        rw [e, Bool.true_and] at q
        refine iteT ⟨u, rfl, va, rfl, vb, rfl, va, vb, ns, ms, S.length, rfl, ha.same (s12.trans s3), hb.same (s12.trans s3), la, lb, h1, by omega, pa, pb, fun H4 l s4 nl h4 => ?_⟩
        refine ⟨fun _ => False, u, .ref l, shutD S, S, sumL ns ms, rfl, (st1.mono ((s2.trans s3).trans s4).tups).dq, norm_shut S, hG, h1, h2, ⟨l, rfl, .inl h4⟩, ?_, sumL_nn ns ms pa pb, fun H5 s5 => q H5 (((s12.trans s3).trans s4).trans s5)⟩
        unfold sumL
        rw [List.length_zipWith, la, lb, Nat.min_self]
end
end Bk

namespace Bk
open PySem PySem.Spec PyProof.Rows L2 RZ
/-- a triangle for each of these (block, corner) -/
def dueL (N : Nat) (row : List Nat) : List Int := (List.range (7 * N)).map fun k => if k % 7 < 4 ∧ 4 * (k / 7) + k % 7 ∈ row then 1 else 0
theorem dueL_len (N : Nat) (row : List Nat) : (dueL N row).length = 7 * N := by
  unfold dueL
  rw [List.length_map, List.length_range]
theorem dueL_get {N : Nat} {row : List Nat} {k : Nat} (h : k < 7 * N) : (dueL N row)[k]? = some (if k % 7 < 4 ∧ 4 * (k / 7) + k % 7 ∈ row then 1 else 0) := by
  unfold dueL
  rw [List.getElem?_map, List.getElem?_range h]
  rfl
theorem dueL_set {N : Nat} {row : List Nat} {n : Nat} (h : n < 4 * N) : (dueL N row).set (7 * (n / 4) + n % 4) 1 = dueL N (row ++ [n]) := by
  refine List.ext_getElem? fun k => ?_
  by_cases hk : k < 7 * N
  · rw [dueL_get hk]
    by_cases e : k = 7 * (n / 4) + n % 4
    · rw [← e, List.getElem?_set_self (by rw [dueL_len]; exact hk), if_pos ⟨by omega, List.mem_append_right _ (List.mem_singleton.mpr (by omega))⟩]
    · rw [List.getElem?_set_ne (fun z => e z.symm), dueL_get hk]
      by_cases c : k % 7 < 4 ∧ 4 * (k / 7) + k % 7 ∈ row
      · rw [if_pos c, if_pos ⟨c.1, List.mem_append_left _ c.2⟩]
      · rw [if_neg c, if_neg]
        rintro ⟨c1, c2⟩
        rcases List.mem_append.mp c2 with c2 | c2
        · exact c ⟨c1, c2⟩
        · rw [List.mem_singleton] at c2
          omega
  · rw [List.getElem?_eq_none (by rw [List.length_set, dueL_len]; omega), List.getElem?_eq_none (by rw [dueL_len]; omega)]
theorem dueL_nil (N : Nat) : dueL N [] = List.replicate (7 * N) 0 := by
  refine List.ext_getElem? fun k => ?_
  by_cases hk : k < 7 * N
  · rw [dueL_get hk, if_neg (fun z => List.not_mem_nil z.2), List.getElem?_replicate, if_pos hk]
  · rw [List.getElem?_eq_none (by rw [dueL_len]; omega), List.getElem?_eq_none (by rw [List.length_replicate]; omega)]
theorem dueL_nn {N : Nat} {row : List Nat} : ∀ x ∈ dueL N row, 0 ≤ x := by
  intro x hx
  unfold dueL at hx
  rw [List.mem_map] at hx
  obtain ⟨k, _, rfl⟩ := hx
  split <;> decide
section
variable {P : Program} {w : World} {K : PySem.W.Frag} {mg : Str → Option Value} {base : Heap}
abbrev scorner_surface : Stmt := topS 42
abbrev Ncorner_surface : List Str := ["space", "corner", "whole", "corners", "numbers", "block", "sort"]
theorem sccorner_surface : FnScope Ncorner_surface ["space", "corner"] (defScope scorner_surface) := ⟨rfl, rfl, rfl, by decide +kernel, rfl, by decide +kernel, by decide +kernel⟩
def spCSurf (xc : Addr) : Sp := fun vs H Q E => ∃ (N : Addr → Prop) (v : V) (i : Int) (d : PyData) (S : Spc), vs = [v, .int i] ∧ Dq N H v d ∧ norm d = nS S ∧ Good S ∧ 1 ≤ S.length ∧ S.length < 16 ∧
  (∀ (k : Nat) row, i = (k : Int) → (crnE S)[k]? = some row → ∀ H' l, Same H H' → H l = none → H' l = some (.lst ((dueL S.length row).map V.int)) → Q (.ref l) H') ∧ ((i < 0 ∨ ((crnE S).length : Int) ≤ i) → ∀ H', Same H H' → E (.ref xc) none H')
theorem okcorner_surface {f fS fC fB xNoCorner : Addr} {fd fdS fdC fdB : FuncData} {tS : Tok} (F : Fun K "corner_surface" "corner_surface" scorner_surface f fd) (TNoCorner : ExF K mg "NoCorner" xNoCorner) (Fspace_of : Fun K "space_of" "space_of" sspace_of fS fdS) (gspace_of : mg "space_of" = some (.ref fS)) (bspace_of : Binds K fdS ["blocks"] []) (Gspace_of : FnOk P w K mg base CX0 6 fS fdS ["blocks"] spSpace)
    (Fcorners_of : Fun K "corners_of" "corners_of" scorners_of fC fdC) (gcorners_of : mg "corners_of" = some (.ref fC)) (bcorners_of : Binds K fdC ["space"] []) (Gcorners_of : FnOk P w K mg base CX0 7 fC fdC ["space"] spCornersOf)
    (Fis_below : Fun K "is_below" "is_below" sis_below fB fdB) (gis_below : mg "is_below" = some (.ref fB)) (bis_below : Binds K fdB ["thing", "many"] []) (Gis_below : FnOk P w K mg base CX0 2 fB fdB ["thing", "many"] spBelow)
    (g_SORTS : mg "SORTS" = some (.int 7 tS)) (m_len : mg "len" = none) : FnOk P w K mg base (L2.CX P w) 8 f fd ["space", "corner"] (spCSurf xNoCorner) := by
  have r_SORTS : RelV (V.int 7) (.int 7 tS) := ⟨_, rfl⟩
  refine F.okX sccorner_surface (fun vs H Q E h => ?_) (fun cdv A outer s H vs Q E hr h => ?_)
  · obtain ⟨N, v, i, d, S, rfl, _⟩ := h
    rfl
  · obtain ⟨N, v, i, d, S, rfl, hd, hn, hG, h1, h2, q, qe⟩ := h
    have nd := sccorner_surface.nd
    refine ⟨_, (pss_cons (ps_set (i := 2) nd rfl (.inl rfl) (pe_call Gspace_of (hr.mono (by first | decide | omega)) (by rfl) gspace_of Fspace_of.kp bspace_of .nil pass0 (pa_cons (pv 0) pa_nil)))
      (pss_cons (ps_set (i := 3) nd rfl (.inl rfl) (pe_call Gcorners_of (hr.mono (by first | decide | omega)) (by rfl) gcorners_of Fcorners_of.kp bcorners_of .nil pass0 (pa_cons (pv 2) pa_nil)))
      (pss_cons (ps_if (pt_not (pt_val (pe_call Gis_below (hr.mono (by first | decide | omega)) (by rfl) gis_below Fis_below.kp bis_below .nil pass0 (pa_cons (pv 1) (pa_cons (pe_callB (kLen K rfl) (by rfl) m_len (by decide +kernel) (pa_cons (pv 3) pa_nil)) pa_nil))))) (pss_one (ps_raise rfl (takes_of rfl rfl rfl rfl) (pmk_own PySem.F.excBase_ValueError TNoCorner.x TNoCorner.g TNoCorner.k (raises_own TNoCorner.b TNoCorner.t) (by exact rfl)))) pss_nil)
      (pss_cons (ps_set (i := 4) nd rfl (.inl rfl) (pe_op op_rep (pe_lst (pa_cons pe_int pa_nil)) (pe_op op_mul (pe_glob (by rfl) g_SORTS r_SORTS) (pe_callB (kLen K rfl) (by rfl) m_len (by decide +kernel) (pa_cons (pv 2) pa_nil)))))
      (pss_cons (ps_for (passes_of rfl) rfl (kPiL K rfl (pi_list (pe_ix (kIxL K rfl) (pv 3) (pv 1) (fun _ _ => rfl)))) (kPgT K rfl (pg_tup (n := 2) rfl (pgs_cons (pg_name (i := 5) nd rfl (.inl rfl)) (pgs_cons (pg_name (i := 6) nd rfl (.inl rfl)) pgs_nil)))) (pss_one (ps_asg pe_int (pg_sub (pv 4) (pe_op op_add (pe_op op_mul (pe_glob (by rfl) g_SORTS r_SORTS) (pv 5)) (pv 6)) set_list))))
      (pss_one (ps_ret (pv 4)))))))), ?_⟩
    refine ⟨v, rfl, N, v, d, S, rfl, hd, hn, hG, h1, by omega, fun H1 u s1 st1 => ?_⟩
    refine ⟨u, rfl, fun _ => False, u, shutD S, S, rfl, st1.dq, norm_shut S, hG, h1, h2, fun H2 l s2 hrows => ?_⟩
    obtain ⟨ps, hl, nl, lps, nd, hp⟩ := hrows
    have lp := plen hp
    have hlen : ((ps.map V.ref).length : Int) = ((crnE S).length : Int) := by rw [List.length_map, lp]
    refine ⟨.int i, rfl, .ref l, rfl, l, _, rfl, .inl (.inl (.inl hl)), i, (crnE S).length, by rw [hlen]; rfl, _, rfl, ?_⟩
    have s12 := s1.trans s2
    by_cases hi : 0 ≤ i ∧ i < ((crnE S).length : Int)
    · rw [decide_eq_true hi.1, decide_eq_true hi.2]
      refine iteF ?_
      obtain ⟨k, rfl⟩ : ∃ k : Nat, i = (k : Int) := ⟨i.toNat, by omega⟩
      have hk : k < (crnE S).length := by omega
      obtain ⟨p, rs, rfl, fp, hbs⟩ := id st1
      have lrs := plen hbs
      have hrow : (crnE S)[k]? = some (crnE S)[k] := List.getElem?_eq_getElem hk
      generalize (crnE S)[k] = row at hrow
      have q := q k row rfl hrow
      refine ⟨Nat.le_of_lt (small1000 (by show 1 ≤ 1000; decide)), fun z nz => ?_⟩
      have s3 : Same H2 (upd H2 z (.lst [.int 0])) := same_new nz
      have hz : (upd H2 z (.lst [.int 0])) z = some (.lst [.int 0]) := upd_same
      generalize upd H2 z (.lst [.int 0]) = H3 at s3 hz ⊢
      refine ⟨.ref p, rfl, p, rs, rfl, .inr (fp.mono (s2.trans s3).tups).sqt, 7, (rs.length : Int), rfl, rfl, .inl (by decide), ?_⟩
      have e7 : (7 * (rs.length : Int)).toNat = 7 * S.length := by omega
      have r63 : (-(2 ^ 63) : Int) ≤ 7 * (rs.length : Int) ∧ (7 * (rs.length : Int)) < 2 ^ 63 := by omega
      refine ⟨z, _, [.int 0], rfl, rfl, hz, r63.1, r63.2, ?_, fun n nn => ?_⟩
      · rw [e7]
        exact Nat.le_of_lt (small1000 (by show 1 * (7 * S.length) ≤ 1000; omega))
      rw [e7, rep_flat, ← dueL_nil]
      have s4 : Same H3 (upd H3 n (.lst ((dueL S.length []).map V.int))) := same_new nn
      have h4 : (upd H3 n (.lst ((dueL S.length []).map V.int))) n = some (.lst ((dueL S.length []).map V.int)) := upd_same
      generalize upd H3 n (.lst ((dueL S.length []).map V.int)) = H4 at s4 h4 ⊢
      have n2 : H2 n = none := s3.free nn
      obtain ⟨pr, hpr, npr, vs, hvs, pvs⟩ := pget hp hrow
      have hpr' : (ps.map V.ref)[k]? = some (.ref pr) := by rw [List.getElem?_map, hpr]; rfl
      have s24 := s3.trans s4
      have rlt : ∀ m ∈ row, m < 4 * S.length := fun m hm => by
        have z : row ∈ crnE S := List.mem_of_getElem? hrow
        unfold crnE rowsE at z
        rw [List.mem_map] at z
        obtain ⟨x, _, rfl⟩ := z
        exact List.mem_range.mp (List.mem_filter.mp hm).1
      refine ⟨.ref l, rfl, .int (k : Int), rfl, l, _, (k : Int), .ref pr, rfl, rfl, .inl (.inl (s24 _ _ hl)), atI_nat hpr', pr, rfl, ⟨vs, .inl (.inl (s24 _ _ hvs))⟩, ?_⟩
      refine for_list (xs := vs) (fun j σ H5 => ∃ y5 y6, σ = [some v, some (.int (k : Int)), some (.ref p), some (.ref l), some (.ref n), y5, y6] ∧ H5 n = some (.lst ((dueL S.length (row.take j)).map V.int)) ∧ Same H2 H5) ⟨none, none, rfl, h4, s24⟩ ?_ ?_ ?_
      · rintro j σ H5 _ ⟨y5, y6, rfl, h5, s5⟩
        exact .inl (.inl (s5 _ _ hvs))
      · rintro j x σ H5 hx ⟨y5, y6, rfl, h5, s5⟩
        obtain ⟨m, hm, t, rfl, ht⟩ := pget' pvs hx
        have mlt := rlt m (List.mem_of_getElem? hm)
        have e9 : (7 : Int) * ((m / 4 : Nat) : Int) + ((m % 4 : Nat) : Int) = ((7 * (m / 4) + m % 4 : Nat) : Int) := by omega
        refine ⟨t, [intV (m / 4), intV (m % 4)], rfl, .inl (.inl (s5 _ _ ht)), rfl, intV (m / 4), [intV (m % 4)], rfl, intV (m % 4), [], rfl, rfl, ?_⟩
        refine ⟨.ref n, rfl, intV (m / 4), rfl, 7, ((m / 4 : Nat) : Int), rfl, rfl, .inl (by decide), intV (m % 4), rfl, _, _, rfl, rfl, ?_⟩
        refine ⟨n, _, _, 7 * (m / 4) + m % 4, rfl, rfl, h5, ?_, _, _, rfl, ?_, same_fill s5 n2⟩
        · rw [e9]
          exact ixN_lt (by rw [List.length_map, dueL_len]; omega)
        · rw [upd_same, List.take_add_one, hm]
          show some (HO.lst ((List.map V.int (dueL S.length (row.take j))).set (7 * (m / 4) + m % 4) (V.int 1))) = some (HO.lst ((dueL S.length (row.take j ++ [m])).map V.int))
          rw [← dueL_set mlt, List.map_set]
      · rintro σ H5 ⟨y5, y6, rfl, h5, s5⟩
        rw [plen pvs, List.take_length] at h5
        exact ⟨.ref n, rfl, q H5 n (s12.trans s5) (s12.free n2) h5⟩
    · have hf : (decide (0 ≤ i) && decide (i < ((crnE S).length : Int))) = false := by
        by_cases h0 : 0 ≤ i
        · rw [decide_eq_true h0, decide_eq_false (fun z => hi ⟨h0, z⟩)]
          rfl
        · rw [decide_eq_false h0]
          rfl
      rw [hf]
      exact iteT (qe (by omega) _ s12)
end
end Bk

namespace Bk
open PySem PySem.Spec PyProof.Rows L2 RZ
theorem fn_calm {P : Program} {w : World} {K : PySem.W.Frag} {mg : Str → Option Value} {base : Heap} {k : Nat} {f : Addr} {fd : FuncData} {ps : List Str} {sp sp' : Sp} (F : FnOk P w K mg base (L2.CX P w) k f fd ps sp) (h : ∀ vs H Q E, sp' vs H Q E → sp vs H Q fun _ _ _ => False) : FnOk P w K mg base CX0 k f fd ps sp' :=
  ⟨fun vs H Q E z => F.len vs H Q _ (h vs H Q E z), fun A outer s H args us vs Q E hr e0 hb r z => codeAny_mono (F.run A outer s H args us vs Q (fun _ _ _ => False) hr e0 hb r (h vs H Q E z)) fun out s' left => by
    match out, left with
    | .error u, left =>
      obtain ⟨_, _, _, _, _, _, _, _, _, _, _, _, z⟩ := left
      exact z.elim
    | .ok (.ret u), left => exact left
    | .ok .next, left => exact left
    | .ok .brk, left => exact left
    | .ok .cont, left => exact left⟩
def spCSurf0 : Sp := fun vs H Q _ => ∃ (N : Addr → Prop) (v : V) (d : PyData) (S : Spc) (k : Nat) (row : List Nat), vs = [v, intV k] ∧ Dq N H v d ∧ norm d = nS S ∧ Good S ∧ 1 ≤ S.length ∧ S.length < 16 ∧ (crnE S)[k]? = some row ∧
  ∀ H' l, Same H H' → H l = none → H' l = some (.lst ((dueL S.length row).map V.int)) → Q (.ref l) H'
theorem cSurf0 {P : Program} {w : World} {K : PySem.W.Frag} {mg : Str → Option Value} {base : Heap} {f xc : Addr} {fd : FuncData} (F : FnOk P w K mg base (L2.CX P w) 8 f fd ["space", "corner"] (spCSurf xc)) : FnOk P w K mg base CX0 8 f fd ["space", "corner"] spCSurf0 :=
  fn_calm F fun vs H Q E ⟨N, v, d, S, k, row, e, hd, hn, hG, h1, h2, hr, q⟩ => by
    subst e
    refine ⟨N, v, (k : Int), d, S, rfl, hd, hn, hG, h1, h2, fun k' row' e hr' H' l s n hl => ?_, fun z H' s => ?_⟩
    · obtain rfl : k = k' := by omega
      rw [hr] at hr'
      cases hr'
      exact q H' l s n hl
    · have := (List.getElem?_eq_some_iff.mp hr).1
      omega
theorem quad_ge : ∀ f < 4, ∀ c < 4, c ≠ f → 4 ≤ quadS c f ∧ quadS c f < 7 := by decide +kernel
theorem due_getD {N : Nat} {row : List Nat} {k : Nat} (h : k < 7 * N) : (dueL N row).getD k 0 = if k % 7 < 4 ∧ 4 * (k / 7) + k % 7 ∈ row then 1 else 0 := by
  rw [List.getD_eq_getElem?_getD, dueL_get h]
  rfl
theorem due_quad {N : Nat} {row : List Nat} {b s : Nat} (hb : b < N) (h4 : 4 ≤ s) (h7 : s < 7) : (dueL N row).getD (7 * b + s) 0 = 0 := by
  rw [due_getD (by omega), if_neg]
  rintro ⟨z, _⟩
  omega
theorem due_arcs {N : Nat} {row : List Nat} {b f c : Nat} (hb : b < N) (hf : f < 4) (hc : c < 4) (hcf : c ≠ f) : arcsN (dueL N row) b f c = if 4 * b + c ∈ row then 1 else 0 := by
  obtain ⟨q1, q2⟩ := quad_ge f hf c hc hcf
  unfold arcsN
  rw [due_quad hb q1 q2, due_getD (by omega), Int.add_zero, show (7 * b + c) % 7 = c by omega, show (7 * b + c) / 7 = b by omega]
  by_cases z : 4 * b + c ∈ row
  · rw [if_pos ⟨hc, z⟩, if_pos z]
  · rw [if_neg (fun y => z y.2), if_neg z]
theorem row_step {S : Spc} (hG : Good S) {row : List Nat} (h : row ∈ crnE S) {b f n : Nat} {t : Trn} {c : Nat} (hf : f < 4) (gj : getJ S b f = some (some (n, t))) (hc : c < 4) (cf : c ≠ f) : 4 * b + c ∈ row ↔ 4 * n + tf t c ∈ row := by
  have hr : 4 * n + tf t c ∈ lkC S (4 * b + c) := metL_mem.mpr ⟨f, n, t, hf, by rw [show (4 * b + c) / 4 = b by omega]; exact gj, by rw [show (4 * b + c) % 4 = c by omega]; exact fun z => cf z.symm, by rw [show (4 * b + c) % 4 = c by omega]⟩
  unfold crnE rowsE at h
  rw [List.mem_map] at h
  obtain ⟨x, _, rfl⟩ := h
  rw [List.mem_filter, List.mem_filter, List.mem_range, List.mem_range, hangB_iff, hangB_iff]
  exact ⟨fun z => ⟨lkC_lt hG hr, z.2.trans (.one hr)⟩, fun z => ⟨lkC_lt hG (lkC_symm hG hr), z.2.trans (.one (lkC_symm hG hr))⟩⟩
theorem sum_getD {ns ms : List Int} (h : ns.length = ms.length) (k : Nat) : (sumL ns ms).getD k 0 = ns.getD k 0 + ms.getD k 0 := by
  rw [List.getD_eq_getElem?_getD, List.getD_eq_getElem?_getD, List.getD_eq_getElem?_getD]
  unfold sumL
  rw [List.getElem?_zipWith]
  by_cases c : k < ns.length
  · rw [List.getElem?_eq_getElem c, List.getElem?_eq_getElem (show k < ms.length by omega)]
    rfl
  · rw [List.getElem?_eq_none (by omega), List.getElem?_eq_none (l := ms) (by omega)]
    rfl
theorem sum_arcs {ns ms : List Int} (h : ns.length = ms.length) (b f c : Nat) : arcsN (sumL ns ms) b f c = arcsN ns b f c + arcsN ms b f c := by
  unfold arcsN
  rw [sum_getD h, sum_getD h]
  omega
theorem flat_agree {N : Nat} {ns : List Int} (h : ∀ b, b < N → ∀ s, 4 ≤ s → s < 7 → ns.getD (7 * b + s) 0 = 0) : ((List.range N).all fun b => decide ((quadsAt ns (7 * b)).length ≤ 1)) = true := by
  rw [List.all_eq_true]
  intro b hb
  rw [List.mem_range] at hb
  have e : quadsAt ns (7 * b) = [] := by
    unfold quadsAt
    rw [List.filter_eq_nil_iff]
    intro s hs
    have : s = 4 ∨ s = 5 ∨ s = 6 := by simpa using hs
    rw [h b hb s (by omega) (by omega)]
    decide
  rw [e]
  exact decide_eq_true (Nat.zero_le 1)
theorem fits_of {S : Spc} {ns : List Int} (h : ∀ b f n t c, b < S.length → f < 4 → getJ S b f = some (some (n, t)) → c < 4 → c ≠ f → arcsN ns b f c = arcsN ns n (tf t f) (tf t c)) : fitsB S ns = true := by
  unfold fitsB
  rw [List.all_eq_true]
  intro x hx
  obtain ⟨b, f, n, t, c, hb, hf, gj, hc, cf, rfl⟩ := mtL_mem hx
  exact decide_eq_true (h b f n t c hb hf gj hc cf)
theorem due_step {S : Spc} (hG : Good S) {row : List Nat} (h : row ∈ crnE S) {b f n : Nat} {t : Trn} {c : Nat} (hb : b < S.length) (hf : f < 4) (gj : getJ S b f = some (some (n, t))) (hc : c < 4) (cf : c ≠ f) : arcsN (dueL S.length row) b f c = arcsN (dueL S.length row) n (tf t f) (tf t c) := by
  obtain ⟨ht, _, _⟩ := hG.both _ _ _ _ gj
  rw [due_arcs hb hf hc cf, due_arcs (hG.lt gj) (tf_lt t ht f hf).1 (tf_lt t ht c hc).1 fun z => cf (tf_inj t ht c hc f hf z)]
  by_cases z : 4 * b + c ∈ row
  · rw [if_pos z, if_pos ((row_step hG h hf gj hc cf).mp z)]
  · rw [if_neg z, if_neg fun y => z ((row_step hG h hf gj hc cf).mpr y)]
theorem surf_due {S : Spc} (hG : Good S) {row : List Nat} (h : row ∈ crnE S) : surfB S (dueL S.length row) = true := by
  unfold surfB
  rw [fits_of fun b f n t c hb hf gj hc cf => due_step hG h hb hf gj hc cf, flat_agree fun b hb s h4 h7 => due_quad hb h4 h7]
  rfl
end Bk

namespace Bk
open PySem PySem.Spec PyProof.Rows L2 RZ
/-! ### sums and multiples of what fits -/
theorem fits_iff {S : Spc} {ns : List Int} (hG : Good S) : fitsB S ns = true ↔ ∀ b f n t, getJ S b f = some (some (n, t)) → ∀ c, c < 4 → c ≠ f → arcsN ns b f c = arcsN ns n (tf t f) (tf t c) := by
  refine ⟨fun h b f n t e c hc cf => ?_, fun h => fits_true fun x hx c hc cf => h _ _ _ _ (jnL_mem.mp hx).2.2 c hc cf⟩
  have lb := hG.l4.of e
  refine Classical.byContradiction fun w => ?_
  have := fits_false (S := S) (ns := ns) (x := (b, f, n, t)) (c := c) (jnL_mem.mpr ⟨lb.1, lb.2, e⟩) hc cf w
  rw [h] at this
  cases this
def tmL (ns : List Int) (k : Int) : List Int := ns.map fun z => z * k
def difL (ns ms : List Int) : List Int := List.zipWith (· - ·) ns ms
theorem tm_getD (ns : List Int) (k : Int) (q : Nat) : (tmL ns k).getD q 0 = ns.getD q 0 * k := by
  unfold tmL
  rw [List.getD_eq_getElem?_getD, List.getD_eq_getElem?_getD, List.getElem?_map]
  cases ns[q]? with
  | none => exact (Int.zero_mul k).symm
  | some z => rfl
theorem dif_getD {ns ms : List Int} (h : ns.length = ms.length) (k : Nat) : (difL ns ms).getD k 0 = ns.getD k 0 - ms.getD k 0 := by
  rw [List.getD_eq_getElem?_getD, List.getD_eq_getElem?_getD, List.getD_eq_getElem?_getD]
  unfold difL
  rw [List.getElem?_zipWith]
  by_cases c : k < ns.length
  · rw [List.getElem?_eq_getElem c, List.getElem?_eq_getElem (show k < ms.length by omega)]
    rfl
  · rw [List.getElem?_eq_none (by omega), List.getElem?_eq_none (l := ms) (by omega)]
    rfl
theorem tm_arcs (ns : List Int) (k : Int) (b f c : Nat) : arcsN (tmL ns k) b f c = arcsN ns b f c * k := by
  unfold arcsN
  rw [tm_getD, tm_getD, Int.add_mul]
theorem dif_arcs {ns ms : List Int} (h : ns.length = ms.length) (b f c : Nat) : arcsN (difL ns ms) b f c = arcsN ns b f c - arcsN ms b f c := by
  unfold arcsN
  rw [dif_getD h, dif_getD h]
  omega
theorem fits_sum {S : Spc} (hG : Good S) {ns ms : List Int} (h : ns.length = ms.length) (h1 : fitsB S ns = true) (h2 : fitsB S ms = true) : fitsB S (sumL ns ms) = true := by
  rw [fits_iff hG] at h1 h2 ⊢
  intro b f n t e c hc cf
  rw [sum_arcs h, sum_arcs h, h1 b f n t e c hc cf, h2 b f n t e c hc cf]
theorem fits_dif {S : Spc} (hG : Good S) {ns ms : List Int} (h : ns.length = ms.length) (h1 : fitsB S ns = true) (h2 : fitsB S ms = true) : fitsB S (difL ns ms) = true := by
  rw [fits_iff hG] at h1 h2 ⊢
  intro b f n t e c hc cf
  rw [dif_arcs h, dif_arcs h, h1 b f n t e c hc cf, h2 b f n t e c hc cf]
theorem fits_tm {S : Spc} (hG : Good S) {ns : List Int} (k : Int) (h1 : fitsB S ns = true) : fitsB S (tmL ns k) = true := by
  rw [fits_iff hG] at h1 ⊢
  intro b f n t e c hc cf
  rw [tm_arcs, tm_arcs, h1 b f n t e c hc cf]
theorem surf_fits {S : Spc} {ns : List Int} (h : surfB S ns = true) : fitsB S ns = true := by
  unfold surfB at h
  rw [Bool.and_eq_true] at h
  exact h.1
theorem quads_le {ns ms : List Int} {f : Nat} (h : ∀ s, 4 ≤ s → s < 7 → 0 < ms.getD (f + s) 0 → 0 < ns.getD (f + s) 0) : (quadsAt ms f).length ≤ (quadsAt ns f).length := by
  unfold quadsAt
  rw [← List.countP_eq_length_filter, ← List.countP_eq_length_filter]
  refine List.countP_mono_left fun s hs p => ?_
  have : s = 4 ∨ s = 5 ∨ s = 6 := by simpa using hs
  exact decide_eq_true (h s (by omega) (by omega) (of_decide_eq_true p))
theorem surf_less {S : Spc} {ns ms : List Int} (h : surfB S ns = true) (f : fitsB S ms = true) (l : ∀ b s, b < S.length → 4 ≤ s → s < 7 → 0 < ms.getD (7 * b + s) 0 → 0 < ns.getD (7 * b + s) 0) : surfB S ms = true := by
  unfold surfB at h ⊢
  rw [Bool.and_eq_true, List.all_eq_true] at h
  rw [f, Bool.true_and, List.all_eq_true]
  intro b hb
  have h2 := of_decide_eq_true (h.2 b hb)
  exact decide_eq_true (Nat.le_trans (quads_le fun s a b' => l b s (List.mem_range.mp hb) a b') h2)
theorem getD_nn {ns : List Int} (h : ∀ z ∈ ns, 0 ≤ z) (k : Nat) : 0 ≤ ns.getD k 0 := by
  rw [List.getD_eq_getElem?_getD]
  cases e : ns[k]? with
  | none => exact Int.le_refl _
  | some z => exact h z (List.mem_of_getElem? e)
theorem surf_tm {S : Spc} (hG : Good S) {ns : List Int} {k : Int} (hk : 1 ≤ k) (p : ∀ z ∈ ns, 0 ≤ z) (h : surfB S ns = true) : surfB S (tmL ns k) = true ∧ surfB S (sumL ns (tmL ns k)) = true := by
  have f := surf_fits h
  have ll : ns.length = (tmL ns k).length := (List.length_map _).symm
  have pos : ∀ x : Int, 0 ≤ x → 0 < x * k → 0 < x := fun x h0 h1 => by
    rcases Int.lt_or_eq_of_le h0 with z | z
    · exact z
    · rw [← z, Int.zero_mul] at h1
      exact absurd h1 (by decide)
  refine ⟨surf_less h (fits_tm hG k f) fun b s _ _ _ z => ?_, surf_less h (fits_sum hG ll f (fits_tm hG k f)) fun b s _ _ _ z => ?_⟩
  · rw [tm_getD] at z
    exact pos _ (getD_nn p _) z
  · rw [sum_getD ll, tm_getD] at z
    have h0 := getD_nn p (7 * b + s)
    rcases Int.lt_or_eq_of_le h0 with y | y
    · exact y
    · rw [← y, Int.zero_mul] at z
      exact absurd z (by decide)
theorem surf_tip {S : Spc} (hG : Good S) {row : List Nat} (hr : row ∈ crnE S) {ms : List Int} (l : ms.length = 7 * S.length) (h : surfB S ms = true) : surfB S (sumL (dueL S.length row) ms) = true := by
  have ll : (dueL S.length row).length = ms.length := by rw [dueL_len, l]
  refine surf_less h (fits_sum hG ll (surf_fits (surf_due hG hr)) (surf_fits h)) fun b s hb h4 h7 z => ?_
  rw [sum_getD ll, due_quad hb h4 h7, Int.zero_add] at z
  exact z
/-- two sorts of quads somewhere -/
def twoB (N : Nat) (ns : List Int) : Bool := (List.range N).any fun b => decide (1 < (quadsAt ns (7 * b)).length)
theorem surf_two {S : Spc} {ns : List Int} (f : fitsB S ns = true) : surfB S ns = !twoB S.length ns := by
  unfold surfB twoB
  rw [f, Bool.true_and, List.not_any_eq_all_not]
  refine congrArg (List.all (List.range S.length)) (funext fun b => ?_)
  by_cases c : (quadsAt ns (7 * b)).length ≤ 1
  · rw [decide_eq_true c, decide_eq_false (by omega)]
    rfl
  · rw [decide_eq_false c, decide_eq_true (by omega)]
    rfl
end Bk

namespace Bk
open PySem PySem.Spec PyProof.Rows L2 RZ
local macro_rules | `(tactic| walk_at "g") => `(tactic| (repeat first | refine ⟨_, rfl, ?_⟩ | refine ⟨cpow, ?_⟩ | refine ⟨_, _, rfl, rfl, ?_⟩ | refine ⟨rfl, ?_⟩))
theorem cut_47 {ns : List Int} {b : Nat} (h : 7 * b + 6 < ns.length) : cutV (ns.map V.int) (some (0 + (b : Int) * 7 + 4)) (some (0 + (b : Int) * 7 + 7)) = ([4, 5, 6].map fun s => ns.getD (7 * b + s) 0).map V.int := by
  rw [show (0 : Int) + (b : Int) * 7 + 4 = 7 * (b : Int) + 4 by omega, show (0 : Int) + (b : Int) * 7 + 7 = 7 * (b : Int) + 7 by omega]
  exact cut_three h
theorem range7 (N : Nat) (h : N ≤ 100) : RgC 0 ((7 * N : Nat) : Int) 7 N := by
  have : ∀ N < 101, Builtin.Range.small 0 ((7 * N : Nat) : Int) 7 = true ∧ Builtin.Range.rangeSize 0 ((7 * N : Nat) : Int) 7 = (N : Int) := by decide +kernel
  obtain ⟨h1, h2⟩ := this N (by omega)
  exact ⟨by decide, by decide, h1, h2⟩
section
variable {P : Program} {w : World} {K : PySem.W.Frag} {mg : Str → Option Value} {base : Heap}
abbrev sarcs : Stmt := topS 34
abbrev Narcs : List Str := ["numbers", "block", "face", "corner"]
theorem scarcs : FnScope Narcs ["numbers", "block", "face", "corner"] (defScope sarcs) := ⟨rfl, rfl, rfl, by decide +kernel, rfl, by decide +kernel, by decide +kernel⟩
theorem kb_arcs_c {f : Addr} {fd : FuncData} (F : Fun K "arcs" "arcs" sarcs f fd) : KBn K fd ["numbers", "block", "face", "corner"] 3 ["corner"] (fun us ws => us ++ ws) (fun vs zs => vs ++ zs) := by
  obtain ⟨oc, od, kV, doc, pm, an, cdv, ct, osl, rfl, lk, hcd⟩ := F.ex
  exact ⟨fun s us ws _ l1 l2 => match us, ws, l1, l2 with | [_, _, _], [_], _, _ => .of_eq rfl, fun r1 r2 => r1.append r2⟩
def spArcs : Sp := fun vs H Q _ => ∃ (v : V) (ns : List Int) (m b f c : Nat), vs = [v, intV b, intV f, intV c] ∧ Hd H v ns ∧ ns.length = 7 * m ∧ m ≤ 100 ∧ (∀ x ∈ ns, 0 ≤ x) ∧ b < m ∧ f < 4 ∧ c < 4 ∧ c ≠ f ∧ ∀ H', Same H H' → Q (.int (arcsN ns b f c)) H'
theorem okarcs {f fN fB fA : Addr} {fd fdN fdB fdA : FuncData} {tS : Tok} (F : Fun K "arcs" "arcs" sarcs f fd)
    (Fare_numbers : Fun K "are_numbers" "are_numbers" sare_numbers fN fdN) (gare_numbers : mg "are_numbers" = some (.ref fN)) (bare_numbers : Binds K fdN ["thing"] []) (Gare_numbers : FnOk P w K mg base CX0 2 fN fdN ["thing"] spAreNum)
    (Fis_below : Fun K "is_below" "is_below" sis_below fB fdB) (gis_below : mg "is_below" = some (.ref fB)) (bis_below : Binds K fdB ["thing", "many"] []) (Gis_below : FnOk P w K mg base CX0 2 fB fdB ["thing", "many"] spBelow)
    (Farcs_at : Fun K "arcs_at" "arcs_at" sarcs_at fA fdA) (garcs_at : mg "arcs_at" = some (.ref fA)) (barcs_at : Binds K fdA ["numbers", "block", "face", "corner"] []) (Garcs_at : FnOk P w K mg base CX0 2 fA fdA ["numbers", "block", "face", "corner"] spArcsAt)
    (g_SORTS : mg "SORTS" = some (.int 7 tS)) (m_len : mg "len" = none) : FnOk P w K mg base CX0 3 f fd ["numbers", "block", "face", "corner"] spArcs := by
  have r_SORTS : RelV (V.int 7) (.int 7 tS) := ⟨_, rfl⟩
  refine F.ok scarcs (fun vs H Q E h => ?_) (fun cdv A outer s H vs Q E hr h => ?_)
  · obtain ⟨v, ns, m, b, f, c, rfl, _⟩ := h
    rfl
  · obtain ⟨v, ns, m, b, f, c, rfl, hv, hl, hm, hn, hb, hf, hc, hcf, q⟩ := h
    have nd := scarcs.nd
    refine ⟨_, (pss_cons (ps_if (pt_not (pt_val (pe_call Gare_numbers (hr.mono (by first | decide | omega)) (by rfl) gare_numbers Fare_numbers.kp bare_numbers .nil pass0 (pa_cons (pv 0) pa_nil)))) (pss_one ps_never) pss_nil)
      (pss_cons (ps_if (pw_or (pt_not (pt_val (pe_call Gis_below (hr.mono (by first | decide | omega)) (by rfl) gis_below Fis_below.kp bis_below .nil pass0 (pa_cons (pv 1) (pa_cons (pe_op op_fdivN (pe_callB (kLen K rfl) (by rfl) m_len (by decide +kernel) (pa_cons (pv 0) pa_nil)) (pe_glob (by rfl) g_SORTS r_SORTS)) pa_nil))))) (pw_or1 (pt_not (pt_val (pe_call Gis_below (hr.mono (by first | decide | omega)) (by rfl) gis_below Fis_below.kp bis_below .nil pass0 (pa_cons (pv 2) (pa_cons pe_int pa_nil))))))).pt (pss_one ps_never) pss_nil)
      (pss_cons (ps_if (pw_or (pt_not (pt_val (pe_call Gis_below (hr.mono (by first | decide | omega)) (by rfl) gis_below Fis_below.kp bis_below .nil pass0 (pa_cons (pv 3) (pa_cons pe_int pa_nil))))) (pw_or1 (pt_cmpR op_eq (pv 3) (pv 2) (nomark _)))).pt (pss_one ps_never) pss_nil)
      (pss_one (ps_ret (pe_call Garcs_at (hr.mono (by first | decide | omega)) (by rfl) garcs_at Farcs_at.kp barcs_at .nil pass0 (pa_cons (pv 0) (pa_cons (pv 1) (pa_cons (pv 2) (pa_cons (pv 3) pa_nil)))))))))), ?_⟩
    refine ⟨v, rfl, v, ns, m, rfl, hv, hl, by omega, hm, hn, fun H1 s1 => ?_⟩
    refine ⟨_, rfl, iteF ?_⟩
    have hv1 := hv.same s1
    obtain ⟨a, rfl, hq⟩ := hv1.sq (K := K)
    have l7 : (ns.map V.int).length = 7 * m := by rw [List.length_map, hl]
    have below : ∀ {x n : Nat}, x < n → (decide ((0 : Int) ≤ (x : Int)) && decide ((x : Int) < (n : Int))) = true := fun {x n} h => by
      rw [decide_eq_true (show (0 : Int) ≤ (x : Int) by omega), decide_eq_true (show (x : Int) < (n : Int) by omega)]
      rfl
    have f7 : ((ns.map V.int).length : Int).fdiv 7 = (m : Int) := by
      rw [l7, show (7 : Int) = ((7 : Nat) : Int) from rfl, fdiv_nat]
      omega
    refine ⟨intV b, rfl, .ref a, rfl, a, _, rfl, hq, _, _, rfl, rfl, ⟨by decide, by decide⟩, (b : Int), m, congrArg (fun z => [intV b, V.int z]) f7, ?_⟩
    rw [below hb]
    refine ⟨_, rfl, iteF ⟨intV f, rfl, (f : Int), 4, rfl, ?_⟩⟩
    rw [below hf]
    refine ⟨_, rfl, iteF ⟨intV c, rfl, (c : Int), 4, rfl, ?_⟩⟩
    rw [below hc]
    refine ⟨_, rfl, iteF ?_⟩
    walk_at "g"
    rw [show decide (intV c = intV f) = false from decide_eq_false fun z => hcf (by injection z with z; omega)]
    refine iteF ?_
    walk_at "g"
    exact ⟨.ref a, ns, b, f, c, rfl, hv1, by omega, hf, hc, hcf, q _ s1⟩
end
end Bk

namespace Bk
open PySem PySem.Spec PyProof.Rows L2 RZ
local macro_rules | `(tactic| walk_at "g") => `(tactic| (repeat first | refine ⟨_, rfl, ?_⟩ | refine ⟨cpow, ?_⟩ | refine ⟨wideM, ?_⟩ | refine ⟨_, _, rfl, rfl, ?_⟩ | refine ⟨rfl, ?_⟩))
section
variable {P : Program} {w : World} {K : PySem.W.Frag} {mg : Str → Option Value} {base : Heap}
/-! ### _renamed_joining -/
abbrev s_renamed_joining : Stmt := topS 23
abbrev N_renamed_joining : List Str := ["joining", "order", "turns", "back", "other", "turn", "place", "corner"]
theorem sc_renamed_joining : FnScope N_renamed_joining ["joining", "order", "turns", "back"] (defScope s_renamed_joining) := ⟨rfl, rfl, rfl, by decide +kernel, rfl, by decide +kernel, by decide +kernel⟩
def spRenJ : Sp := fun vs H Q _ => ∃ (N N2 : Addr → Prop) (jv ov tv bv : V) (od td : PyData) (n : Nat) (o : List Nat) (ts : List Trn) (bk : Trn) (j : Jn), vs = [jv, ov, tv, bv] ∧ JAt H jv j ∧ Jok n j ∧ Dq N H ov od ∧ norm od = .list (o.map intD) ∧ Dq N2 H tv td ∧ norm td = trnsD ts ∧ Names n o ts ∧ n ≤ 60 ∧
  TAt H bv bk ∧ bk ∈ allTurns ∧ ∀ H' v', Same H H' → JAt H' v' (renJ o ts bk j) → Q v' H'
theorem ok_renamed_joining {f : Addr} {fd : FuncData} (F : Fun K "_renamed_joining" "_renamed_joining" s_renamed_joining f fd) (m_tuple : mg "tuple" = none) : FnOk P w K mg base CX0 1 f fd ["joining", "order", "turns", "back"] spRenJ := by
  refine F.ok sc_renamed_joining (fun vs H Q E h => ?_) (fun cdv A outer s H vs Q E hr h => ?_)
  · obtain ⟨N, N2, jv, ov, tv, bv, od, td, n, o, ts, bk, j, rfl, _⟩ := h
    rfl
  · obtain ⟨N, N2, jv, ov, tv, bv, od, td, n, o, ts, bk, j, rfl, hj, hjo, ho, no, ht, nt, hn, n60, ⟨pb, rfl, fb⟩, hbk, q⟩ := h
    have nd := sc_renamed_joining.nd
    refine ⟨_, (pss_cons (ps_if (pt_cmpR op_isN (pv 0) pe_non (nomark _)) (pss_one (ps_ret pe_non)) pss_nil)
      (pss_cons (ps_asg (pv 0) (kPgT K rfl (pg_tup (n := 2) rfl (pgs_cons (pg_name (i := 4) nd rfl (.inl rfl)) (pgs_cons (pg_name (i := 5) nd rfl (.inr rfl)) pgs_nil)))))
      (pss_cons (ps_set (i := 6) nd rfl (.inr rfl) (pe_idxE (kBM K rfl (pe_bm PySem.F.plainAttrs_list PySem.F.slot_list_index PySem.F.type_list_index (kIndexI K rfl) (pv 1) (pa_cons (pv 4) pa_nil))) (pe_bmF PySem.F.plainAttrs_tuple PySem.F.slot_tuple_index PySem.F.type_tuple_index (kTupIxN K rfl) (pv 1) (pa_cons (pv 4) pa_nil))))
      (pss_one (ps_ret (pe_tupF (pa_cons (pv 6) (pa_cons (pe_callTy (kTupleF K rfl) (by rfl) m_tuple (by decide +kernel) (pa_cons (pe_lc (own := [("corner", 7)]) (g := gName 7) (tt := tYes) rfl nd (kPiT K rfl (pi_tup (pv 3))) (blkOk_by (own := [("corner", 7)]) (N := N_renamed_joining) (sc := defScope s_renamed_joining) (by decide +kernel)) (fun _ _ _ _ _ => (pg_name (i := 7) nd rfl (Or.inl rfl))) (fun _ _ _ _ _ => pts_nil) (fun _ _ _ _ _ => (pe_ix (kIxE K rfl) (pe_ix (kIxE K rfl) (pv 2) (pv 6) (fun _ _ => rfl)) (pe_ix (kIxT K rfl) (pv 5) (pv 7) (fun _ _ => rfl)) (fun _ _ => rfl)))) pa_nil)) pa_nil)))))))), ?_⟩
    refine ⟨jv, rfl, rfl, ?_⟩
    rw [hj.isN]
    refine ⟨_, rfl, ?_⟩
    cases j with
    | none => exact iteT (q H _ (Same.refl H) rfl)
    | some k =>
      obtain ⟨b, t⟩ := k
      obtain ⟨hb, htm⟩ := hjo b t rfl
      obtain ⟨pj, pq, rfl, f1, f2⟩ := hj
      obtain ⟨mb, ib⟩ := hn.idx hb
      refine iteF ⟨.ref pj, rfl, pj, _, rfl, f1.sqt, rfl, _, _, rfl, _, _, rfl, rfl, ?_⟩
      -- place
      obtain ⟨a, rfl, ha⟩ := turn_of (K := K) ho no
      refine idxE a o b (fun R z => ⟨_, rfl, z⟩) (fun R z => ⟨_, rfl, z⟩) ha mb (by rw [hn.lo]; omega) ?_
      obtain ⟨_, _, et, mt⟩ := hn.at ib
      obtain ⟨a2, ys, x2, dx, rfl, hq, ly, hx2, hxd, nx⟩ := turns_at (K := K) ht nt et
      obtain ⟨a3, rfl, h3⟩ := turn_of (K := K) hxd nx
      have lbk := turns4 bk hbk
      refine ⟨intV (o.idxOf b), rfl, .ref pb, rfl, pb, rfl, ⟨_, fb.sqt⟩, fun D nD => ?_⟩
      refine lc_tup (xs := trnV bk) (fun i H2 => H2 = upd H D (.lst (((bk.take i).map fun c => tf (tsAt ts (o.idxOf b)) (tf t c)).map intV))) rfl ?_ ?_ ?_
      · rintro i H2 _ rfl
        exact (fb.mono (same_new nD).tups).sqt
      · rintro i x H2 hx rfl
        obtain ⟨c, rfl, hc⟩ : ∃ c, x = intV c ∧ bk[i]? = some c := by
          unfold trnV at hx
          rw [List.getElem?_map] at hx
          cases e : bk[i]? with
          | none => rw [e] at hx; cases hx
          | some c => rw [e] at hx; exact ⟨c, (Option.some.inj hx).symm, rfl⟩
        have c4 := lbk.2.1 c (List.mem_of_getElem? hc)
        have htf := tf_lt t htm c c4
        have htf2 := tf_lt _ mt (tf t c) htf.1
        have s2 : Same H (upd H D (.lst (((bk.take i).map fun c => tf (tsAt ts (o.idxOf b)) (tf t c)).map intV))) := same_new nD
        refine ⟨rfl, .ref a2, rfl, intV (o.idxOf b), rfl, ixS (hq.imp (fun z => s2.seq z) (fun z => s2.sqt z)) (atI_nat hx2) ?_⟩
        refine ⟨.ref pq, rfl, intV c, rfl, pq, trnV t, c, intV (tf t c), rfl, rfl, (f2.mono s2.tups).sqt, atI_nat (by unfold trnV; rw [List.getElem?_map, htf.2]; rfl), ?_⟩
        refine ixE (seq_same h3 s2) (atI_nat (v := intV (tf (tsAt ts (o.idxOf b)) (tf t c))) (by unfold trnV; rw [List.getElem?_map, htf2.2]; rfl)) ?_
        refine ⟨_, upd_same, small1000 (by rw [List.length_map, List.length_map, List.length_take, lbk.1]; omega), ?_⟩
        rw [upd_upd, take_succ_map hc, List.map_append]
        rfl
      · rintro H2 rfl
        rw [show (trnV bk).length = bk.length from List.length_map .., List.take_length]
        generalize hw : (bk.map fun c => tf (tsAt ts (o.idxOf b)) (tf t c)) = w
        have s2 : Same H (upd H D (.lst (w.map intV))) := same_new nD
        have h2 : (upd H D (.lst (w.map intV))) D = some (.lst (trnV w)) := upd_same
        generalize upd H D (.lst (w.map intV)) = H2 at s2 h2 ⊢
        refine ⟨D, _, rfl, .inl ⟨.inl (.inl h2), fun p2 o2 np2 d2 => ?_⟩⟩
        have s3 : Same H2 (upd H2 p2 (.frz o2 (.tup (trnV w)))) := same_new np2
        have ft : FT (upd H2 p2 (.frz o2 (.tup (trnV w)))) p2 (trnV w) := FT.new d2
        generalize upd H2 p2 (.frz o2 (.tup (trnV w))) = H3 at s3 ft ⊢
        refine ⟨Nat.le_of_lt (small1000 (by show 2 ≤ 1000; decide)), fun p3 o3 np3 d3 => ?_⟩
        have s4 : Same H3 (upd H3 p3 (.frz o3 (.tup [intV (o.idxOf b), .ref p2]))) := same_new np3
        refine q _ _ ((s2.trans s3).trans s4) ?_
        show JAt _ _ (some (o.idxOf b, bk.map fun c => tf (tsAt ts (o.idxOf b)) (tf t c)))
        rw [hw]
        exact ⟨p3, p2, rfl, FT.new d3, ft.mono s4.tups⟩
/-! ### _renamed_block -/
abbrev s_renamed_block : Stmt := topS 22
abbrev N_renamed_block : List Str := ["space", "order", "turns", "place", "block", "back", "face"]
theorem sc_renamed_block : FnScope N_renamed_block ["space", "order", "turns", "place"] (defScope s_renamed_block) := ⟨rfl, rfl, rfl, by decide +kernel, rfl, by decide +kernel, by decide +kernel⟩
def spRenB : Sp := fun vs H Q _ => ∃ (N N2 : Addr → Prop) (v ov tv : V) (od td : PyData) (S : Spc) (o : List Nat) (ts : List Trn) (k : Nat), vs = [v, ov, tv, intV k] ∧ ST H v S ∧ Good S ∧ Dq N H ov od ∧ norm od = .list (o.map intD) ∧ Dq N2 H tv td ∧ norm td = trnsD ts ∧ Names S.length o ts ∧ S.length ≤ 60 ∧
  k < S.length ∧ ∀ H' v', Same H H' → BT H' v' (renB S o ts k) → Q v' H'
theorem ok_renamed_block {f fC fJ : Addr} {fd fdC fdJ : FuncData} (F : Fun K "_renamed_block" "_renamed_block" s_renamed_block f fd)
    (Fcontrary : Fun K "contrary" "contrary" scontrary fC fdC) (gcontrary : mg "contrary" = some (.ref fC)) (bcontrary : Binds K fdC ["turn"] []) (Gcontrary : FnOk P w K mg base CX0 1 fC fdC ["turn"] spBackE)
    (F_renamed_joining : Fun K "_renamed_joining" "_renamed_joining" s_renamed_joining fJ fdJ) (g_renamed_joining : mg "_renamed_joining" = some (.ref fJ)) (b_renamed_joining : Binds K fdJ ["joining", "order", "turns", "back"] []) (G_renamed_joining : FnOk P w K mg base CX0 1 fJ fdJ ["joining", "order", "turns", "back"] spRenJ)
    (m_tuple : mg "tuple" = none) : FnOk P w K mg base CX0 2 f fd ["space", "order", "turns", "place"] spRenB := by
  refine F.ok sc_renamed_block (fun vs H Q E h => ?_) (fun cdv A outer s H vs Q E hr h => ?_)
  · obtain ⟨N, N2, v, ov, tv, od, td, S, o, ts, k, rfl, _⟩ := h
    rfl
  · obtain ⟨N, N2, v, ov, tv, od, td, S, o, ts, k, rfl, hv, hG, ho, no, ht, nt, hn, n60, hk, q⟩ := h
    have nd := sc_renamed_block.nd
    refine ⟨_, (pss_cons (ps_set (i := 4) nd rfl (.inr rfl) (pe_ix (kIxT K rfl) (pv 0) (pe_ix (kIxE K rfl) (pv 1) (pv 3) (fun _ _ => rfl)) (fun _ _ => rfl)))
      (pss_cons (ps_set (i := 5) nd rfl (.inr rfl) (pe_call Gcontrary (hr.mono (by first | decide | omega)) (by rfl) gcontrary Fcontrary.kp bcontrary .nil pass0 (pa_cons (pe_ix (kIxE K rfl) (pv 2) (pv 3) (fun _ _ => rfl)) pa_nil)))
      (pss_one (ps_ret (pe_callTy (kTupleF K rfl) (by rfl) m_tuple (by decide +kernel) (pa_cons (pe_lc (own := [("face", 6)]) (g := gName 6) (tt := tYes) rfl nd (kPiT K rfl (pi_tup (pv 5))) (blkOk_by (own := [("face", 6)]) (N := N_renamed_block) (sc := defScope s_renamed_block) (by decide +kernel)) (fun _ _ _ _ _ => (pg_name (i := 6) nd rfl (Or.inl rfl))) (fun _ _ _ _ _ => pts_nil) (fun _ _ _ _ _ => (pe_call G_renamed_joining (hr.mono (by first | decide | omega)) (by rfl) g_renamed_joining F_renamed_joining.kp b_renamed_joining .nil pass0 (pa_cons (pe_ix (kIxT K rfl) (pv 4) (pv 6) (fun _ _ => rfl)) (pa_cons (pv 1) (pa_cons (pv 2) (pa_cons (pv 5) pa_nil))))))) pa_nil)))))), ?_⟩
    obtain ⟨eo, lo, et, mt⟩ := hn.at hk
    obtain ⟨a, rfl, ha⟩ := turn_of (K := K) ho no
    obtain ⟨a2, ys, x2, dx, rfl, hq, ly, hx2, hxd, nx⟩ := turns_at (K := K) ht nt et
    obtain ⟨a3, rfl, h3⟩ := turn_of (K := K) hxd nx
    obtain ⟨b4, bat, bmem⟩ := back4 mt
    obtain ⟨j0, hj0⟩ := hG.l4.get (b := tf o k) (f := 0) lo (by decide)
    obtain ⟨p, rs, pb, vb, x0, rfl, f1, k1, f2, _, _⟩ := hv.face hj0
    refine ⟨.ref p, rfl, .ref a, rfl, intV k, rfl, ixE ha (atI_nat (v := intV (tf o k)) (by unfold trnV; rw [List.getElem?_map, eo]; rfl)) ?_⟩
    refine ⟨p, rs, (tf o k : Nat), .ref pb, rfl, rfl, f1.sqt, atI_nat k1, ?_⟩
    -- back
    refine ⟨.ref a2, rfl, intV k, rfl, ixS hq (atI_nat hx2) ?_⟩
    refine backE h3 mt (fun H1 pbk s1 n1 T1 => ?_)
    obtain ⟨pbk', e1, T1⟩ := T1
    cases e1
    refine ⟨.ref pbk, rfl, pbk, rfl, ⟨_, T1.sqt⟩, fun D nD => ?_⟩
    refine lc_tup (xs := trnV (back (tsAt ts k))) (fun i H2 => ∃ ws, H2 D = some (.lst ws) ∧ Paired (JAt H2) ws (((back (tsAt ts k)).take i).map fun f => renJ o ts (back (tsAt ts k)) ((getJ S (tf o k) f).getD none)) ∧ Same H1 H2) ⟨[], upd_same, .nil, same_new nD⟩ ?_ ?_ ?_
    · rintro i H2 _ ⟨ws, h2, t2, s2⟩
      exact (T1.mono s2.tups).sqt
    · rintro i x H2 hx ⟨ws, h2, t2, s2⟩
      obtain ⟨c, rfl, hc⟩ : ∃ c, x = intV c ∧ (back (tsAt ts k))[i]? = some c := by
        unfold trnV at hx
        rw [List.getElem?_map] at hx
        cases e : (back (tsAt ts k))[i]? with
        | none => rw [e] at hx; cases hx
        | some c => rw [e] at hx; exact ⟨c, (Option.some.inj hx).symm, rfl⟩
      have c4 := bmem c (List.mem_of_getElem? hc)
      obtain ⟨j, hj⟩ := hG.l4.get (b := tf o k) (f := c) lo c4
      obtain ⟨p', rs', pb', vb', x, ep, f1', k1', f2', k2', jx⟩ := hv.face hj
      cases ep
      obtain rfl := f1.inj f1'
      rw [k1] at k1'
      cases k1'
      obtain rfl := f2.inj f2'
      have sA := s1.trans s2
      refine ⟨rfl, .ref pb, rfl, intV c, rfl, pb, vb, c, x, rfl, rfl, (f2.mono sA.tups).sqt, atI_nat k2', ?_⟩
      refine ⟨.ref a, rfl, .ref a2, rfl, .ref pbk, rfl, N, N2, x, .ref a, .ref a2, .ref pbk, od, td, S.length, o, ts, back (tsAt ts k), j, rfl, jx.mono sA.tups, hG.jokAt hj, ho.same sA, no, ht.same sA, nt, hn, n60, ⟨pbk, rfl, T1.mono s2.tups⟩, back_mem mt, fun H3 v3 s3 j3 => ?_⟩
      have h3 := s3 _ _ h2
      refine ⟨ws, h3, small1000 (by rw [plen t2, List.length_map, List.length_take, b4]; omega), ws ++ [v3], upd_same, ?_, same_fill (s2.trans s3) nD⟩
      rw [take_succ_map hc, hj]
      exact papp (pmono t2 fun _ _ z => z.mono (s3.tups.trans (tups_set h3))) (.cons (j3.mono (tups_set h3)) .nil)
    · rintro H2 ⟨ws, h2, t2, s2⟩
      rw [show (trnV (back (tsAt ts k))).length = (back (tsAt ts k)).length from List.length_map .., List.take_length] at t2
      refine ⟨D, ws, rfl, .inl ⟨.inl (.inl h2), fun p2 o2 np2 d2 => ?_⟩⟩
      have s3 : Same H2 (upd H2 p2 (.frz o2 (.tup ws))) := same_new np2
      exact q _ _ ((s1.trans s2).trans s3) ⟨p2, ws, rfl, FT.new d2, pmono t2 fun _ _ z => z.mono s3.tups⟩
/-! ### renamed -/
abbrev srenamed : Stmt := topS 21
abbrev Nrenamed : List Str := ["space", "order", "turns", "whole", "many", "turn", "place"]
theorem screnamed : FnScope Nrenamed ["space", "order", "turns"] (defScope srenamed) := ⟨rfl, rfl, rfl, by decide +kernel, rfl, by decide +kernel, by decide +kernel⟩
def spRenamed : Sp := fun vs H Q _ => ∃ (N N1 N2 : Addr → Prop) (v ov tv : V) (d od td : PyData) (S : Spc) (o : List Nat) (ts : List Trn), vs = [v, ov, tv] ∧ Dq N H v d ∧ norm d = nS S ∧ Good S ∧ 1 ≤ S.length ∧ S.length ≤ 60 ∧ Dq N1 H ov od ∧ norm od = .list (o.map intD) ∧ Dq N2 H tv td ∧ norm td = trnsD ts ∧ Names S.length o ts ∧
  ∀ H' v', Same H H' → ST H' v' (renS S o ts) → Q v' H'
theorem okrenamed {f fX fO fL fT fB : Addr} {fd fdX fdO fdL fdT fdB : FuncData} (F : Fun K "renamed" "renamed" srenamed f fd)
    (Fspace_of : Fun K "space_of" "space_of" sspace_of fX fdX) (gspace_of : mg "space_of" = some (.ref fX)) (bspace_of : Binds K fdX ["blocks"] []) (Gspace_of : FnOk P w K mg base CX0 6 fX fdX ["blocks"] spSpace)
    (Fis_order : Fun K "is_order" "is_order" sis_order fO fdO) (gis_order : mg "is_order" = some (.ref fO)) (bis_order : Binds K fdO ["thing", "many"] []) (Gis_order : FnOk P w K mg base CX0 2 fO fdO ["thing", "many"] spOrder)
    (Fis_listed : Fun K "is_listed" "is_listed" sis_listed fL fdL) (gis_listed : mg "is_listed" = some (.ref fL)) (bis_listed : Binds K fdL ["thing"] []) (Gis_listed : FnOk P w K mg base CX0 1 fL fdL ["thing"] spListed)
    (Fis_turn : Fun K "is_turn" "is_turn" sis_turn fT fdT) (gis_turn : mg "is_turn" = some (.ref fT)) (bis_turn : Binds K fdT ["thing"] []) (Gis_turn : FnOk P w K mg base CX0 3 fT fdT ["thing"] spTurn)
    (F_renamed_block : Fun K "_renamed_block" "_renamed_block" s_renamed_block fB fdB) (g_renamed_block : mg "_renamed_block" = some (.ref fB)) (b_renamed_block : Binds K fdB ["space", "order", "turns", "place"] []) (G_renamed_block : FnOk P w K mg base CX0 2 fB fdB ["space", "order", "turns", "place"] spRenB)
    (m_len : mg "len" = none) (m_tuple : mg "tuple" = none) (m_all : mg "all" = none) (m_range : mg "range" = none) : FnOk P w K mg base CX0 7 f fd ["space", "order", "turns"] spRenamed := by
  refine F.ok screnamed (fun vs H Q E h => ?_) (fun cdv A outer s H vs Q E hr h => ?_)
  · obtain ⟨N, N1, N2, v, ov, tv, d, od, td, S, o, ts, rfl, _⟩ := h
    rfl
  · obtain ⟨N, N1, N2, v, ov, tv, d, od, td, S, o, ts, rfl, hd, nd0, hG, hl1, hl2, ho, no, ht, nt, hn, q⟩ := h
    have nd := screnamed.nd
    refine ⟨_, (pss_cons (ps_set (i := 3) nd rfl (.inr rfl) (pe_call Gspace_of (hr.mono (by first | decide | omega)) (by rfl) gspace_of Fspace_of.kp bspace_of .nil pass0 (pa_cons (pv 0) pa_nil)))
      (pss_cons (ps_set (i := 4) nd rfl (.inl rfl) (pe_callB (kLen K rfl) (by rfl) m_len (by decide +kernel) (pa_cons (pv 3) pa_nil)))
      (pss_cons (ps_if (pt_not (pt_val (pe_call Gis_order (hr.mono (by first | decide | omega)) (by rfl) gis_order Fis_order.kp bis_order .nil pass0 (pa_cons (pv 1) (pa_cons (pv 4) pa_nil))))) (pss_one ps_never) pss_nil)
      (pss_cons (ps_if (pw_or (pt_not (pt_val (pe_call Gis_listed (hr.mono (by first | decide | omega)) (by rfl) gis_listed Fis_listed.kp bis_listed .nil pass0 (pa_cons (pv 2) pa_nil)))) (pw_or (pt_cmpR op_ne (pe_callB (kLen K rfl) (by rfl) m_len (by decide +kernel) (pa_cons (pv 2) pa_nil)) (pv 4) (nomark _)) (pw_or1 (pt_not (pt_val (pe_callB (kAll K rfl rfl) (by rfl) m_all (by decide +kernel) (pa_cons (pe_lc (own := [("turn", 5)]) (g := gName 5) (tt := tYes) rfl nd (kPiS K rfl (pv 2)) (blkOk_by (own := [("turn", 5)]) (N := Nrenamed) (sc := defScope srenamed) (by decide +kernel)) (fun _ _ _ _ _ => (pg_name (i := 5) nd rfl (Or.inl rfl))) (fun _ _ _ _ _ => pts_nil) (fun _ _ _ _ _ => (pe_call Gis_turn (hr.mono (by first | decide | omega)) (by rfl) gis_turn Fis_turn.kp bis_turn .nil pass0 (pa_cons (pv 5) pa_nil)))) pa_nil))))))).pt (pss_one ps_never) pss_nil)
      (pss_one (ps_ret (pe_callTy (kTupleF K rfl) (by rfl) m_tuple (by decide +kernel) (pa_cons (pe_lc (own := [("place", 6)]) (g := gName 6) (tt := tYes) rfl nd (pi_range1 (by rfl) m_range (pa_cons (pv 4) pa_nil)) (blkOk_by (own := [("place", 6)]) (N := Nrenamed) (sc := defScope srenamed) (by decide +kernel)) (fun _ _ _ _ _ => (pg_name (i := 6) nd rfl (Or.inl rfl))) (fun _ _ _ _ _ => pts_nil) (fun _ _ _ _ _ => (pe_call G_renamed_block (hr.mono (by first | decide | omega)) (by rfl) g_renamed_block F_renamed_block.kp b_renamed_block .nil pass0 (pa_cons (pv 3) (pa_cons (pv 1) (pa_cons (pv 2) (pa_cons (pv 6) pa_nil))))))) pa_nil)))))))), ?_⟩
    refine ⟨v, rfl, N, v, d, S, rfl, hd, nd0, hG, hl1, by omega, fun H1 u s1 st1 => ?_⟩
    have st1' := st1
    obtain ⟨p, rs, rfl, f1, b1⟩ := st1
    have lrs : rs.length = S.length := plen b1
    refine ⟨.ref p, rfl, p, rs, rfl, .inr f1.sqt, ?_⟩
    refine ⟨ov, rfl, V.int rs.length, rfl, N1, ov, od, o, rs.length, rfl, ho.same s1, no, by rw [lrs]; exact hn.o, by omega, fun H2 s2 => ⟨_, rfl, iteF ?_⟩⟩
    have ht2 := ht.same (s1.trans s2)
    obtain ⟨a, xs, ds, rfl, hq, _, hds, en⟩ := ht2.seq (K := K) nt
    have lxs : xs.length = S.length := by rw [hds.len, norm_len en, hn.l]
    have sq : isSeqD td = true := by
      cases td <;> first | rfl | (simp only [norm, trnsD] at nt; cases nt)
    refine ⟨.ref a, rfl, N2, .ref a, td, rfl, ht2, fun H3 s3 => ?_⟩
    rw [sq]
    refine ⟨_, rfl, iteF ?_⟩
    have hq3 := hq.imp (fun z => s3.seq z) (fun z => s3.sqt z)
    refine ⟨.ref a, rfl, a, xs, rfl, hq3, V.int rs.length, rfl, rfl, _, rfl, iteNS (by rw [lxs, lrs]) ?_⟩
    refine ⟨.ref a, rfl, a, xs, rfl, hq3, fun J C hJ hC => ?_⟩
    intro D nD
    refine lc_seq (xs := xs) hJ (fun i H4 => H4 D = some (.lst ((List.replicate i true).map V.bl)) ∧ Same H3 H4) ⟨upd_same, same_new nD⟩ ?_ ?_ ?_
    · rintro i H4 ⟨h4, s4⟩
      exact SeqIt.mono K hJ (fun o e => s4 _ _ e) hC
    · rintro i x H4 hx ⟨h4, s4⟩
      obtain ⟨dx, hdx, hxd⟩ := hds.get hx
      obtain ⟨t, hti, et⟩ := norm_at en hdx
      have lk := (List.getElem?_eq_some_iff.mp hx).1
      refine ⟨rfl, x, rfl, N2, x, dx, t, rfl, hxd.same (s3.trans s4), et, hn.t t (List.mem_of_getElem? hti), fun H5 s5 => ?_⟩
      refine ⟨_, s5 _ _ h4, small1000 (by rw [List.length_map, List.length_replicate]; omega), ?_, same_fill (s4.trans s5) nD⟩
      rw [upd_same, List.replicate_succ', List.map_append]
      rfl
    · rintro H4 ⟨h4, s4⟩
      have eall : (List.replicate xs.length true).all id = true := by
        rw [List.all_eq_true]
        intro y hy
        rw [List.eq_of_mem_replicate hy]
        rfl
      refine ⟨D, _, rfl, .inl (.inl h4), _, rfl, ?_⟩
      rw [eall]
      refine iteF ?_
      have s14 := (s2.trans s3).trans s4
      refine ⟨V.int rs.length, rfl, (rs.length : Int), rfl, by omega, by omega, fun D2 nD2 => ?_⟩
      rw [lrs, Int.toNat_natCast]
      refine lc_range (lo := 0) (n := S.length) (fun i H5 => ∃ ws, H5 D2 = some (.lst ws) ∧ Paired (BT H5) ws ((List.range i).map (renB S o ts)) ∧ Same H4 H5) ⟨[], upd_same, .nil, same_new nD2⟩ ?_ ?_
      · rintro i H5 hi ⟨ws, h5, t5, s5⟩
        rw [Int.zero_add]
        have s15 := s14.trans s5
        refine ⟨rfl, .ref p, rfl, ov, rfl, .ref a, rfl, intV i, rfl, N1, N2, .ref p, ov, .ref a, od, td, S, o, ts, i, rfl, st1'.mono s15.tups, hG, ho.same (s1.trans s15), no, ht.same (s1.trans s15), nt, hn, hl2, hi, fun H6 v6 s6 b6 => ?_⟩
        have h6 := s6 _ _ h5
        refine ⟨ws, h6, small1000 (by rw [plen t5, List.length_map, List.length_range]; omega), ws ++ [v6], upd_same, ?_, same_fill (s5.trans s6) nD2⟩
        rw [List.range_succ, List.map_append]
        exact papp (pmono t5 fun _ _ z => z.mono (s6.tups.trans (tups_set h6))) (.cons (b6.mono (tups_set h6)) .nil)
      · rintro H5 ⟨ws, h5, t5, s5⟩
        refine ⟨D2, ws, rfl, .inl ⟨.inl (.inl h5), fun p2 o2 np2 d2 => ?_⟩⟩
        have s6 : Same H5 (upd H5 p2 (.frz o2 (.tup ws))) := same_new np2
        exact q _ _ (((s1.trans s14).trans s5).trans s6) ⟨p2, ws, rfl, FT.new d2, pmono t5 fun _ _ z => z.mono s6.tups⟩
end
end Bk

namespace Bk
open PySem PySem.Spec PyProof.Rows L2 RZ
local macro_rules | `(tactic| walk_at "g") => `(tactic| (repeat first | refine ⟨_, rfl, ?_⟩ | refine ⟨cpow, ?_⟩ | refine ⟨wideM, ?_⟩ | refine ⟨_, _, rfl, rfl, ?_⟩ | refine ⟨rfl, ?_⟩))
section
variable {P : Program} {w : World} {K : PySem.W.Frag} {mg : Str → Option Value} {base : Heap}
/-! ### _law_names -/
theorem rgV_nat (n : Nat) : rgV 0 (n : Int) = (List.range n).map intV := by
  unfold rgV
  rw [show ((n : Int) - 0).toNat = n by omega]
  exact List.map_congr_left fun x _ => by
    show V.int (0 + (x : Int)) = V.int (x : Int)
    rw [Int.zero_add]
structure NamesAt (H0 H : Hp) (R po pt : Addr) (o : List Nat) (ws : List V) (ts : List Trn) (n : Nat) : Prop where
  ho : H po = some (.lst (trnV o))
  ht : H pt = some (.lst ws)
  hw : Paired (TAt H) ws ts
  ok : Names n o ts
  ao : Away R po H
  at_ : Away R pt H
  ne : po ≠ pt
  fo : H0 po = none
  ft : H0 pt = none
def spNames : Sp := fun vs H Q _ => ∃ (R : Addr) (n : Nat), vs = [.ref R, intV n] ∧ 1 ≤ n ∧ n ≤ 60 ∧ ReelOk R H ∧
  ∀ H' p po pt o ws ts, Keep R H H' → Aw R H H' → ReelOk R H' → FT H' p [.ref po, .ref pt] → NamesAt H H' R po pt o ws ts n → Q (.ref p) H'
end
end Bk

namespace Bk
open PySem PySem.Spec PyProof.Rows L2 RZ
local macro_rules | `(tactic| walk_at "g") => `(tactic| (repeat first | refine ⟨_, rfl, ?_⟩ | refine ⟨cpow, ?_⟩ | refine ⟨wideM, ?_⟩ | refine ⟨_, _, rfl, rfl, ?_⟩ | refine ⟨rfl, ?_⟩))
/-! ### renamed spaces, face by face -/
theorem spc_ext {U W : Spc} (l : U.length = W.length) (h4 : L4 U) (h4' : L4 W) (h : ∀ b g, b < U.length → g < 4 → getJ U b g = getJ W b g) : U = W := by
  apply List.ext_getElem l
  intro b hb hb'
  have e1 : U[b]? = some U[b] := List.getElem?_eq_getElem hb
  have e2 : W[b]? = some W[b] := List.getElem?_eq_getElem hb'
  have l1 := h4 _ (List.getElem_mem hb)
  have l2 := h4' _ (List.getElem_mem hb')
  apply List.ext_getElem (l1.trans l2.symm)
  intro g hg hg'
  have := h b g hb (by omega)
  unfold getJ at this
  rw [e1, e2] at this
  have z : U[b][g]? = W[b][g]? := this
  rw [List.getElem?_eq_getElem hg, List.getElem?_eq_getElem hg'] at z
  exact Option.some.inj z
theorem tf_eq {t : Trn} {i c : Nat} (h : t[i]? = some c) : tf t i = c := by
  unfold tf
  rw [h]
  rfl
theorem range_tf {b : Trn} (h : b.length = 4) : b = (List.range 4).map (tf b) := by
  apply List.ext_getElem (by rw [h]; rfl)
  intro i h1 h2
  rw [List.getElem_map, List.getElem_range]
  exact (tf_eq (List.getElem?_eq_getElem h1)).symm
theorem tf_map {w : Trn} {f : Nat → Nat} {c : Nat} (hc : c < w.length) : tf (w.map f) c = f (tf w c) := by
  unfold tf
  rw [List.getElem?_map, List.getElem?_eq_getElem hc]
  rfl
def tJ (S : Spc) (o : List Nat) (ts : List Trn) (b g : Nat) : Jn := renJ o ts (back (tsAt ts b)) ((getJ S (tf o b) (tf (back (tsAt ts b)) g)).getD none)
theorem getJ_ren {S : Spc} {o : List Nat} {ts : List Trn} {b g : Nat} (hb : b < S.length) (hg : g < 4) (ht : tsAt ts b ∈ allTurns) : getJ (renS S o ts) b g = some (tJ S o ts b g) := by
  have e1 : (renS S o ts)[b]? = some (renB S o ts b) := by
    unfold renS
    rw [List.getElem?_map, List.getElem?_range hb]
    rfl
  unfold getJ
  rw [e1]
  show (renB S o ts b)[g]? = _
  unfold renB
  rw [List.getElem?_map, ((back4 ht).2.1 g hg).1]
  rfl
theorem renS_l4 {S : Spc} {o : List Nat} {ts : List Trn} (h : Names S.length o ts) : L4 (renS S o ts) := fun b hb => by
  unfold renS at hb
  obtain ⟨k, hk, rfl⟩ := List.mem_map.mp hb
  exact renB_len (h.at (List.mem_range.mp hk)).2.2.2
/-- all turns are there and back -/
theorem there {t : Trn} (h : t ∈ allTurns) {f : Nat} (hf : f < 4) : tf t f < 4 ∧ tf (back t) (tf t f) = f := ⟨(tf_lt t h f hf).1, tf_back t h f hf⟩
theorem backto {t : Trn} (h : t ∈ allTurns) {g : Nat} (hg : g < 4) : tf (back t) g < 4 ∧ tf t (tf (back t) g) = g := by
  have hb := back_mem h
  have := there hb hg
  rw [back_back t h] at this
  exact this
theorem map_set4 {α : Type} {F G : Nat → α} {g0 : Nat} (hg : g0 < 4) (h : ∀ g < 4, g ≠ g0 → F g = G g) : ((List.range 4).map F).set g0 (G g0) = (List.range 4).map G := by
  apply List.ext_getElem (by rw [List.length_set, List.length_map, List.length_map])
  intro i h1 h2
  rw [List.length_map, List.length_range] at h2
  rw [List.getElem_set, List.getElem_map, List.getElem_map, List.getElem_range]
  by_cases e : g0 = i
  · rw [if_pos e, e]
  · rw [if_neg e]
    exact h i h2 (fun z => e z.symm)
/-- what stands so far -/
structure Part (S : Spc) (o : List Nat) (ts : List Trn) (k f : Nat) (U : Spc) : Prop where
  l : U.length = S.length
  l4 : L4 U
  at_ : ∀ b g, b < S.length → g < 4 → getJ U b g = some (if b < k ∨ (b = k ∧ tf (back (tsAt ts b)) g < f) then tJ S o ts b g else none)
theorem Part.zero (S : Spc) (o : List Nat) (ts : List Trn) : Part S o ts 0 0 (freeS S.length) := by
  refine ⟨List.length_replicate, (freeS_good _).l4, fun b g hb hg => ?_⟩
  obtain ⟨z, hz⟩ := (freeS_good S.length).l4.get (b := b) (f := g) (by unfold freeS; rw [List.length_replicate]; exact hb) hg
  rw [hz, freeS_get hz, if_neg (by omega)]
theorem Part.next {S : Spc} {o : List Nat} {ts : List Trn} {k : Nat} {U : Spc} (h : Part S o ts k 4 U) (hn : Names S.length o ts) : Part S o ts (k + 1) 0 U := by
  refine ⟨h.l, h.l4, fun b g hb hg => ?_⟩
  rw [h.at_ b g hb hg]
  have := (backto (hn.at hb).2.2.2 hg).1
  by_cases e : b < k ∨ (b = k ∧ tf (back (tsAt ts b)) g < 4)
  · rw [if_pos e, if_pos (by omega)]
  · rw [if_neg e, if_neg (by omega)]
theorem Part.skip {S : Spc} {o : List Nat} {ts : List Trn} {k f : Nat} {U : Spc} (h : Part S o ts k f U) (hn : Names S.length o ts) (hk : k < S.length) (e : getJ S (tf o k) f = some none) : Part S o ts k (f + 1) U := by
  refine ⟨h.l, h.l4, fun b g hb hg => ?_⟩
  rw [h.at_ b g hb hg]
  by_cases e1 : b < k ∨ (b = k ∧ tf (back (tsAt ts b)) g < f)
  · rw [if_pos e1, if_pos (by omega)]
  · rw [if_neg e1]
    by_cases e2 : b < k ∨ (b = k ∧ tf (back (tsAt ts b)) g < f + 1)
    · rw [if_pos e2]
      obtain ⟨rfl, e3⟩ : b = k ∧ tf (back (tsAt ts b)) g = f := by omega
      unfold tJ
      rw [e3, e]
      rfl
    · rw [if_neg e2]
theorem Part.put {S : Spc} {o : List Nat} {ts : List Trn} {k f n : Nat} {t : Trn} {U : Spc} (h : Part S o ts k f U) (hn : Names S.length o ts) (hk : k < S.length) (hf : f < 4) (e : getJ S (tf o k) f = some (some (n, t))) :
    Part S o ts k (f + 1) (setJ U k (tf (tsAt ts k) f) (renJ o ts (back (tsAt ts k)) (some (n, t)))) := by
  have mt := (hn.at hk).2.2.2
  have th := there mt hf
  refine ⟨by rw [setJ_len]; exact h.l, h.l4.set _ _ _, fun b g hb hg => ?_⟩
  rw [getJ_set, h.at_ b g hb hg]
  by_cases c : b = k ∧ g = tf (tsAt ts k) f
  · obtain ⟨rfl, rfl⟩ := c
    rw [if_pos ⟨rfl, rfl⟩, Option.map_some]
    have e2 : (if b < b ∨ (b = b ∧ tf (back (tsAt ts b)) (tf (tsAt ts b) f) < f + 1) then tJ S o ts b (tf (tsAt ts b) f) else none) = tJ S o ts b (tf (tsAt ts b) f) := if_pos (.inr ⟨rfl, by rw [th.2]; omega⟩)
    rw [e2]
    unfold tJ
    rw [th.2, e]
    rfl
  · rw [if_neg c]
    have nf : b = k → tf (back (tsAt ts b)) g ≠ f := fun z z2 => c ⟨z, by
      subst z
      have := (backto mt hg).2
      rw [z2] at this
      exact this.symm⟩
    by_cases e1 : b < k ∨ (b = k ∧ tf (back (tsAt ts b)) g < f)
    · rw [if_pos e1, if_pos (by omega)]
    · rw [if_neg e1, if_neg (fun z => e1 (by
        rcases z with z | ⟨z1, z2⟩
        · exact .inl z
        · have := nf z1
          exact .inr ⟨z1, by omega⟩))]
theorem Part.done {S : Spc} {o : List Nat} {ts : List Trn} {U : Spc} (h : Part S o ts S.length 0 U) (hn : Names S.length o ts) : U = renS S o ts := by
  refine spc_ext (h.l.trans (renS_len S o ts).symm) h.l4 (renS_l4 hn) fun b g hb hg => ?_
  rw [h.l] at hb
  rw [h.at_ b g hb hg, getJ_ren hb hg (hn.at hb).2.2.2, if_pos (.inl hb)]
/-- the turn so far -/
def turnTo (tk : Trn) (X : Nat → Nat) (c : Nat) : List Nat := (List.range 4).map fun g => if tf (back tk) g < c then X (tf (back tk) g) else 0
theorem turnTo_zero (tk : Trn) (X : Nat → Nat) : turnTo tk X 0 = [0, 0, 0, 0] := rfl
theorem turnTo_set {tk : Trn} (h : tk ∈ allTurns) (X : Nat → Nat) {c : Nat} (hc : c < 4) : (turnTo tk X c).set (tf tk c) (X c) = turnTo tk X (c + 1) := by
  have th := there h hc
  unfold turnTo
  have e : X c = (fun g => if tf (back tk) g < c + 1 then X (tf (back tk) g) else 0) (tf tk c) := by
    show X c = if tf (back tk) (tf tk c) < c + 1 then X (tf (back tk) (tf tk c)) else 0
    rw [th.2, if_pos (by omega)]
  rw [e]
  refine map_set4 (F := fun g => if tf (back tk) g < c then X (tf (back tk) g) else 0) (G := fun g => if tf (back tk) g < c + 1 then X (tf (back tk) g) else 0) th.1 fun g hg ne => ?_
  show (if tf (back tk) g < c then X (tf (back tk) g) else 0) = if tf (back tk) g < c + 1 then X (tf (back tk) g) else 0
  have nc : tf (back tk) g ≠ c := fun z => ne (by
    have := (backto h hg).2
    rw [z] at this
    exact this.symm)
  by_cases e1 : tf (back tk) g < c
  · rw [if_pos e1, if_pos (by omega)]
  · rw [if_neg e1, if_neg (by omega)]
theorem turnTo_all {tk : Trn} (h : tk ∈ allTurns) (X : Nat → Nat) : turnTo tk X 4 = (back tk).map X := by
  have e := range_tf (back4 h).1
  unfold turnTo
  conv => rhs; rw [e, List.map_map]
  refine List.map_congr_left fun g hg => ?_
  rw [if_pos (backto h (List.mem_range.mp hg)).1]
  rfl
end Bk

namespace Bk
open PySem PySem.Spec PyProof.Rows L2 RZ
/-! ### turns put together -/
/-- first a, then b -/
def cmp (a b : Trn) : Trn := a.map (tf b)
def idT : Trn := [0, 1, 2, 3]
theorem cmp_turn : ∀ a ∈ allTurns, ∀ b ∈ allTurns, cmp a b ∈ allTurns ∧ back (cmp a b) = cmp (back b) (back a) := by decide +kernel
theorem cmp_back : ∀ a ∈ allTurns, cmp a (back a) = idT ∧ cmp (back a) a = idT := by decide +kernel
theorem idT_turn : idT ∈ allTurns ∧ back idT = idT := by decide +kernel
theorem tf_cmp {a b : Trn} (ha : a ∈ allTurns) {c : Nat} (hc : c < 4) : tf (cmp a b) c = tf b (tf a c) := tf_map (by rw [(turns4 a ha).1]; exact hc)
theorem map_lt {b : Trn} {f g : Nat → Nat} (hb : ∀ c ∈ b, c < 4) (h : ∀ c < 4, f c = g c) : b.map f = b.map g := List.map_congr_left fun c hc => h c (hb c hc)
theorem lt4 {t : Trn} (h : t ∈ allTurns) : ∀ c ∈ t, c < 4 := (turns4 t h).2.1
/-- a renamed joining's turn -/
theorem ren_turn {bk t u : Trn} (hb : bk ∈ allTurns) (ht : t ∈ allTurns) : (bk.map fun c => tf u (tf t c)) = cmp (cmp bk t) u := by
  unfold cmp
  rw [List.map_map]
  rfl
theorem cmp_assoc {a b c : Trn} (ha : a ∈ allTurns) (hb : b ∈ allTurns) : cmp (cmp a b) c = cmp a (cmp b c) := by
  have h : ∀ x < 4, (tf c ∘ tf b) x = tf (cmp b c) x := fun x hx => (tf_cmp hb hx).symm
  show (a.map (tf b)).map (tf c) = a.map (tf (cmp b c))
  rw [List.map_map]
  exact map_lt (lt4 ha) h
theorem cmp_id {a : Trn} (ha : a ∈ allTurns) : cmp a idT = a ∧ cmp idT a = a := by
  constructor
  · have h : ∀ c < 4, tf idT c = id c := by decide
    show a.map (tf idT) = a
    rw [map_lt (lt4 ha) h, List.map_id]
  · exact (range_tf (turns4 a ha).1).symm
theorem tf_injM {t : Trn} (h : t ∈ allTurns) {a b : Nat} (ha : a < 4) (hb : b < 4) (e : tf t a = tf t b) : a = b := by
  have h1 := (there h ha).2
  rw [e, (there h hb).2] at h1
  exact h1.symm
/-! ### orders -/
theorem Names.nd {n : Nat} {o : List Nat} {ts : List Trn} (h : Names n o ts) : o.Nodup := h.o.symm.nodup List.nodup_range
theorem Names.at_idx {n : Nat} {o : List Nat} {ts : List Trn} (h : Names n o ts) {b : Nat} (hb : b < n) : tf o (o.idxOf b) = b := by
  have hm := (h.idx hb).1
  have hl : o.idxOf b < o.length := List.idxOf_lt_length_iff.mpr hm
  refine tf_eq ?_
  rw [List.getElem?_eq_getElem hl, List.getElem_idxOf]
theorem Names.idx_at {n : Nat} {o : List Nat} {ts : List Trn} (h : Names n o ts) {k : Nat} (hk : k < n) : o.idxOf (tf o k) = k := by
  obtain ⟨e, l, _, _⟩ := h.at hk
  have e2 : o[o.idxOf (tf o k)]? = some (tf o k) := by
    have hl : o.idxOf (tf o k) < o.length := List.idxOf_lt_length_iff.mpr (List.mem_of_getElem? e)
    rw [List.getElem?_eq_getElem hl, List.getElem_idxOf]
  exact nd_ix h.nd e2 e
theorem tsAt_eq {ts : List Trn} {k : Nat} {t : Trn} (h : ts[k]? = some t) : tsAt ts k = t := by
  unfold tsAt
  rw [h]
  rfl
theorem tsAt_map {α : Type} {l : List α} {f : α → Trn} {k : Nat} {x : α} (h : l[k]? = some x) : tsAt (l.map f) k = f x := tsAt_eq (by rw [List.getElem?_map, h]; rfl)
theorem tf_mapat {l : List Nat} {f : Nat → Nat} {k x : Nat} (h : l[k]? = some x) : tf (l.map f) k = f x := tf_eq (by rw [List.getElem?_map, h]; rfl)
/-- where a face goes -/
theorem tJ_some {S : Spc} {o : List Nat} {ts : List Trn} {b g n : Nat} {t : Trn} (h : getJ S (tf o b) (tf (back (tsAt ts b)) g) = some (some (n, t))) : tJ S o ts b g = some (o.idxOf n, (back (tsAt ts b)).map fun c => tf (tsAt ts (o.idxOf n)) (tf t c)) := by
  unfold tJ
  rw [h]
  rfl
theorem tJ_none {S : Spc} {o : List Nat} {ts : List Trn} {b g : Nat} (h : getJ S (tf o b) (tf (back (tsAt ts b)) g) = some none) : tJ S o ts b g = none := by
  unfold tJ
  rw [h]
  rfl
theorem ren_get {S : Spc} {o : List Nat} {ts : List Trn} (hG : Good S) (hn : Names S.length o ts) {b g : Nat} (hb : b < S.length) (hg : g < 4) : ∃ j, getJ S (tf o b) (tf (back (tsAt ts b)) g) = some j ∧ getJ (renS S o ts) b g = some (renJ o ts (back (tsAt ts b)) j) := by
  obtain ⟨_, lo, _, mt⟩ := hn.at hb
  obtain ⟨j, hj⟩ := hG.l4.get (b := tf o b) (f := tf (back (tsAt ts b)) g) lo (backto mt hg).1
  refine ⟨j, hj, ?_⟩
  rw [getJ_ren hb hg mt]
  unfold tJ
  rw [hj]
  rfl
theorem good_ren {S : Spc} {o : List Nat} {ts : List Trn} (hG : Good S) (hn : Names S.length o ts) : Good (renS S o ts) := by
  refine ⟨renS_l4 hn, fun b g m u e => ?_⟩
  obtain ⟨hb, hg⟩ := (renS_l4 hn).of e
  rw [renS_len] at hb
  obtain ⟨j, hj, ej⟩ := ren_get hG hn hb hg
  obtain ⟨_, lo, _, mt⟩ := hn.at hb
  rw [ej] at e
  cases j with
  | none => cases e
  | some x =>
    obtain ⟨n, t⟩ := x
    obtain ⟨htm, hne, hbk⟩ := hG.both _ _ _ _ hj
    have nl := hG.lt hj
    obtain ⟨_, im⟩ := hn.idx nl
    obtain ⟨_, _, _, mtm⟩ := hn.at im
    have hbm := back_mem mt
    have e' := Option.some.inj (Option.some.inj e)
    injection e' with e1 e2
    rw [ren_turn hbm htm] at e2
    have c1 := cmp_turn _ hbm _ htm
    have c2 := cmp_turn _ c1.1 _ mtm
    subst e1 e2
    have f4 := (backto mt hg).1
    have eg : tf (cmp (cmp (back (tsAt ts b)) t) (tsAt ts (o.idxOf n))) g = tf (tsAt ts (o.idxOf n)) (tf t (tf (back (tsAt ts b)) g)) := by
      rw [tf_cmp c1.1 hg, tf_cmp hbm hg]
    have t4 := (there htm f4).1
    refine ⟨c2.1, fun z => ?_, ?_⟩
    · rw [eg] at z
      injection z with z1 z2
      refine hne (Prod.ext ?_ ?_)
      · show n = tf o b
        rw [← z1, hn.at_idx nl]
      · show tf t _ = _
        rw [z1] at z2
        have := (there mt t4).2
        rw [z2] at this
        exact this.symm
    · rw [eg]
      have hg2 := (there mtm t4).1
      rw [getJ_ren im hg2 mtm]
      have hx : getJ S (tf o (o.idxOf n)) (tf (back (tsAt ts (o.idxOf n))) (tf (tsAt ts (o.idxOf n)) (tf t (tf (back (tsAt ts b)) g)))) = some (some (tf o b, back t)) := by
        rw [hn.at_idx nl, (there mtm t4).2]
        exact hbk
      rw [tJ_some hx, hn.idx_at hb, ren_turn (back_mem mtm) (back_mem htm), c2.2, c1.2, back_back _ mt]
      rw [cmp_assoc (back_mem mtm) (back_mem htm)]
/-! ### renamed twice, renamed back -/
def bothT (ts : List Trn) (o2 : List Nat) (ts2 : List Trn) : List Trn := (List.range o2.length).map fun k => cmp (tsAt ts (tf o2 k)) (tsAt ts2 k)
theorem bothT_at {n : Nat} {o o2 : List Nat} {ts ts2 : List Trn} (h : Names n o ts) (h2 : Names n o2 ts2) {k : Nat} (hk : k < n) : tsAt (bothT ts o2 ts2) k = cmp (tsAt ts (tf o2 k)) (tsAt ts2 k) := by
  unfold bothT
  exact tsAt_map (by rw [List.getElem?_range (by rw [h2.lo]; exact hk)])
theorem names_both {n : Nat} {o o2 : List Nat} {ts ts2 : List Trn} (h : Names n o ts) (h2 : Names n o2 ts2) : Names n (o2.map (tf o)) (bothT ts o2 ts2) := by
  refine ⟨?_, by unfold bothT; rw [List.length_map, List.length_range, h2.lo], fun t ht => ?_⟩
  · have e : (List.range n).map (tf o) = o := by
      apply List.ext_getElem (by rw [List.length_map, List.length_range, h.lo])
      intro i h1 hi
      rw [List.getElem_map, List.getElem_range]
      exact tf_eq (List.getElem?_eq_getElem hi)
    refine (h2.o.map (tf o)).trans ?_
    rw [e]
    exact h.o
  · unfold bothT at ht
    obtain ⟨k, hk, rfl⟩ := List.mem_map.mp ht
    rw [List.mem_range, h2.lo] at hk
    obtain ⟨_, lo, _, m2⟩ := h2.at hk
    exact (cmp_turn _ (h.at lo).2.2.2 _ m2).1
theorem ren_ren {S : Spc} {o o2 : List Nat} {ts ts2 : List Trn} (hG : Good S) (h : Names S.length o ts) (h2 : Names S.length o2 ts2) : renS (renS S o ts) o2 ts2 = renS S (o2.map (tf o)) (bothT ts o2 ts2) := by
  have h3 := names_both h h2
  have h2' : Names (renS S o ts).length o2 ts2 := by rw [renS_len]; exact h2
  refine spc_ext (by rw [renS_len, renS_len, renS_len]) (renS_l4 h2') (renS_l4 h3) fun b g hb hg => ?_
  rw [renS_len, renS_len] at hb
  obtain ⟨e2, lo2, _, m2⟩ := h2.at hb
  obtain ⟨_, _, _, m1⟩ := h.at lo2
  obtain ⟨j3, hj3, ej3⟩ := ren_get hG h3 hb hg
  obtain ⟨j2, hj2, ej2⟩ := ren_get (good_ren hG h) h2' (by rw [renS_len]; exact hb) hg
  obtain ⟨j1, hj1, ej1⟩ := ren_get hG h lo2 (backto m2 hg).1
  rw [ej2, ej3]
  rw [ej1] at hj2
  have e12 := Option.some.inj hj2
  have hb3 := bothT_at h h2 hb
  have eo : tf (o2.map (tf o)) b = tf o (tf o2 b) := tf_mapat e2
  have cb := cmp_turn _ m1 _ m2
  rw [eo, hb3, cb.2, tf_cmp (back_mem m2) hg, hj1] at hj3
  have e13 := Option.some.inj hj3
  subst e13 e12
  rw [hb3, cb.2]
  cases j1 with
  | none => rfl
  | some x =>
    obtain ⟨n, t⟩ := x
    obtain ⟨nl, tm⟩ := hG.jokAt hj1 n t rfl
    obtain ⟨_, i1⟩ := h.idx nl
    obtain ⟨_, i2⟩ := h2.idx i1
    have ei : (o2.map (tf o)).idxOf n = o2.idxOf (o.idxOf n) := by
      have e4 : (o2.map (tf o))[o2.idxOf (o.idxOf n)]? = some n := by
        rw [List.getElem?_map, (h2.at i2).1, h2.at_idx i1]
        show some (tf o (o.idxOf n)) = some n
        rw [h.at_idx nl]
      have := h3.idx_at i2
      rw [tf_eq e4] at this
      exact this
    obtain ⟨_, _, _, mA⟩ := h.at i1
    obtain ⟨_, _, _, mB⟩ := h2.at i2
    show some (some (o2.idxOf (o.idxOf n), (back (tsAt ts2 b)).map fun c => tf (tsAt ts2 (o2.idxOf (o.idxOf n))) (tf ((back (tsAt ts (tf o2 b))).map fun c => tf (tsAt ts (o.idxOf n)) (tf t c)) c))) =
      some (some ((o2.map (tf o)).idxOf n, (cmp (back (tsAt ts2 b)) (back (tsAt ts (tf o2 b)))).map fun c => tf (tsAt (bothT ts o2 ts2) ((o2.map (tf o)).idxOf n)) (tf t c)))
    have c0 := cmp_turn _ (back_mem m2) _ (back_mem m1)
    have c1 := cmp_turn _ (back_mem m1) _ tm
    have c2 := cmp_turn _ c1.1 _ mA
    rw [ei, bothT_at h h2 i2, h2.at_idx i1, ren_turn (back_mem m1) tm, ren_turn (back_mem m2) c2.1, ren_turn c0.1 tm]
    rw [cmp_assoc (back_mem m2) c2.1, cmp_assoc c1.1 mA, cmp_assoc (back_mem m1) tm, ← cmp_assoc (back_mem m2) (back_mem m1), ← cmp_assoc c0.1 tm]
theorem ren_id {S : Spc} (hG : Good S) {ts : List Trn} (ht : ∀ k < S.length, tsAt ts k = idT) (l : ts.length = S.length) : renS S (List.range S.length) ts = S := by
  have hn : Names S.length (List.range S.length) ts := by
    refine ⟨.refl _, l, fun t h => ?_⟩
    obtain ⟨k, hk⟩ := List.mem_iff_getElem?.mp h
    have := ht k (by have := (List.getElem?_eq_some_iff.mp hk).1; omega)
    rw [tsAt_eq hk] at this
    rw [this]
    exact idT_turn.1
  refine spc_ext (renS_len _ _ _) (renS_l4 hn) hG.l4 fun b g hb hg => ?_
  rw [renS_len] at hb
  obtain ⟨j, hj, ej⟩ := ren_get hG hn hb hg
  have eb : tf (List.range S.length) b = b := tf_eq (List.getElem?_range hb)
  have id4 : ∀ c < 4, tf idT c = c := by decide
  rw [ht b hb, idT_turn.2] at hj ej
  rw [eb, id4 g hg] at hj
  rw [ej, hj]
  cases j with
  | none => rfl
  | some x =>
    obtain ⟨n, t⟩ := x
    obtain ⟨nl, tm⟩ := hG.jokAt hj n t rfl
    have ei : (List.range S.length).idxOf n = n := by
      have := hn.idx_at nl
      rw [tf_eq (List.getElem?_range nl)] at this
      exact this
    show some (some ((List.range S.length).idxOf n, idT.map fun c => tf (tsAt ts ((List.range S.length).idxOf n)) (tf t c))) = some (some (n, t))
    rw [ei, ht n nl, ren_turn idT_turn.1 tm, (cmp_id tm).2, (cmp_id tm).1]
def placesOf (n : Nat) (o : List Nat) : List Nat := (List.range n).map fun b => o.idxOf b
theorem places_at {n : Nat} {o : List Nat} {k : Nat} (hk : k < n) : (placesOf n o)[k]? = some (o.idxOf k) := by
  unfold placesOf
  rw [List.getElem?_map, List.getElem?_range hk]
  rfl
theorem names_back {n : Nat} {o : List Nat} {ts : List Trn} (h : Names n o ts) : Names n (placesOf n o) ((placesOf n o).map fun k => back (tsAt ts k)) := by
  have hl : (placesOf n o).length = n := by unfold placesOf; rw [List.length_map, List.length_range]
  refine ⟨?_, by rw [List.length_map, hl], fun t ht => ?_⟩
  · have e : (List.range n).map (fun k => o.idxOf (tf o k)) = List.range n := by
      conv => rhs; rw [← List.map_id (List.range n)]
      exact List.map_congr_left fun k hk => h.idx_at (List.mem_range.mp hk)
    have e2 : (List.range n).map (tf o) = o := by
      apply List.ext_getElem (by rw [List.length_map, List.length_range, h.lo])
      intro i h1 hi
      rw [List.getElem_map, List.getElem_range]
      exact tf_eq (List.getElem?_eq_getElem hi)
    have p1 : (placesOf n o).Perm (o.map fun b => o.idxOf b) := by
      unfold placesOf
      exact (h.o.symm).map _
    refine p1.trans ?_
    have e3 : (o.map fun b => o.idxOf b) = (List.range n).map (fun k => o.idxOf (tf o k)) := by
      conv => lhs; rw [← e2, List.map_map]
      rw [e2]
      rfl
    rw [e3, e]
  · obtain ⟨k, hk, rfl⟩ := List.mem_map.mp ht
    unfold placesOf at hk
    obtain ⟨b, hb, rfl⟩ := List.mem_map.mp hk
    exact back_mem (h.at (h.idx (List.mem_range.mp hb)).2).2.2.2
theorem ren_back {S : Spc} {o : List Nat} {ts : List Trn} (hG : Good S) (h : Names S.length o ts) : renS (renS S o ts) (placesOf S.length o) ((placesOf S.length o).map fun k => back (tsAt ts k)) = S := by
  have hb := names_back h
  rw [ren_ren hG h hb]
  have e1 : (placesOf S.length o).map (tf o) = List.range S.length := by
    unfold placesOf
    rw [List.map_map]
    conv => rhs; rw [← List.map_id (List.range S.length)]
    exact List.map_congr_left fun k hk => h.at_idx (List.mem_range.mp hk)
  rw [e1]
  refine ren_id hG (fun k hk => ?_) (by have := (names_both h hb).l; exact this)
  rw [bothT_at h hb hk, tsAt_map (places_at hk), tf_eq (places_at hk)]
  exact (cmp_back _ (h.at (h.idx hk).2).2.2.2).1
end Bk

namespace Bk
open PySem PySem.Spec PyProof.Rows L2 RZ
/-! ### parted, joined, beside: renamed -/
theorem Good.part {S : Spc} (h : Good S) {b f n : Nat} {t : Trn} (e : getJ S b f = some (some (n, t))) : Good (setJ (setJ S b f none) n (tf t f) none) := by
  obtain ⟨ht, hne, hbk⟩ := h.both _ _ _ _ e
  have hf := (h.l4.of e).2
  refine ⟨(h.l4.set _ _ _).set _ _ _, fun x y m u g => ?_⟩
  have G : ∀ x y, getJ (setJ (setJ S b f none) n (tf t f) none) x y = if x = n ∧ y = tf t f then (getJ S x y).map fun _ => none else if x = b ∧ y = f then (getJ S x y).map fun _ => none else getJ S x y := fun x y => by
    rw [getJ_set, getJ_set]
    by_cases c1 : x = n ∧ y = tf t f
    · rw [if_pos c1, if_pos c1]
      by_cases c2 : x = b ∧ y = f
      · exact absurd (Prod.ext (c1.1.symm.trans c2.1) (c1.2.symm.trans c2.2)) hne
      · rw [if_neg c2]
    · rw [if_neg c1, if_neg c1]
  rw [G] at g ⊢
  by_cases c1 : x = n ∧ y = tf t f
  · rw [if_pos c1] at g
    cases hz : getJ S x y with
    | none => rw [hz] at g; cases g
    | some z => rw [hz] at g; cases g
  · rw [if_neg c1] at g
    by_cases c2 : x = b ∧ y = f
    · rw [if_pos c2] at g
      cases hz : getJ S x y with
      | none => rw [hz] at g; cases g
      | some z => rw [hz] at g; cases g
    · rw [if_neg c2] at g
      obtain ⟨hu, q2, q3⟩ := h.both _ _ _ _ g
      have hy := (h.l4.of g).2
      refine ⟨hu, q2, ?_⟩
      rw [if_neg, if_neg]
      · exact q3
      · rintro ⟨rfl, hz⟩
        rw [hz, e] at q3
        have e2 := Option.some.inj (Option.some.inj q3)
        injection e2 with e2 e3
        refine c1 ⟨e2.symm, ?_⟩
        have := tf_back u hu y hy
        rw [hz, ← e3] at this
        exact this.symm
      · rintro ⟨rfl, hz⟩
        rw [hz, hbk] at q3
        have e2 := Option.some.inj (Option.some.inj q3)
        injection e2 with e2 e3
        refine c2 ⟨e2.symm, ?_⟩
        have e4 : t = u := by rw [← back_back t ht, e3, back_back u hu]
        subst e4
        have a1 := tf_back t ht y hy
        have a2 := tf_back t ht f hf
        rw [hz] at a1
        omega
/-- beside, as plain lists -/
def besS (S U : Spc) : Spc := S ++ shS S.length U
theorem shS_len (m : Nat) (S : Spc) : (shS m S).length = S.length := by
  unfold shS
  rw [List.length_map]
theorem besS_len (S U : Spc) : (besS S U).length = S.length + U.length := by
  unfold besS
  rw [List.length_append, shS_len]
theorem shS_shS (m k : Nat) (S : Spc) : shS m (shS k S) = shS (k + m) S := by
  unfold shS
  rw [List.map_map]
  refine List.map_congr_left fun b _ => ?_
  show shB m (shB k b) = shB (k + m) b
  unfold shB
  rw [List.map_map]
  refine List.map_congr_left fun j _ => ?_
  cases j with
  | none => rfl
  | some x =>
    obtain ⟨n, t⟩ := x
    show some (n + k + m, t) = some (n + (k + m), t)
    rw [Nat.add_assoc]
theorem shS_app (m : Nat) (S U : Spc) : shS m (S ++ U) = shS m S ++ shS m U := by
  unfold shS
  rw [List.map_append]
theorem besS_assoc (S U W : Spc) : besS (besS S U) W = besS S (besS U W) := by
  unfold besS
  rw [List.length_append, shS_len, shS_app, shS_shS, List.append_assoc, Nat.add_comm S.length]

def partS (S : Spc) (b f n : Nat) (t : Trn) : Spc := setJ (setJ S b f none) n (tf t f) none
theorem partS_len (S : Spc) (b f n : Nat) (t : Trn) : (partS S b f n t).length = S.length := by
  unfold partS
  rw [setJ_len, setJ_len]
theorem ren_set {S : Spc} {o : List Nat} {ts : List Trn} (h4 : L4 S) (hn : Names S.length o ts) {b f : Nat} {j : Jn} (hb : b < S.length) (hf : f < 4) :
    renS (setJ S b f j) o ts = setJ (renS S o ts) (o.idxOf b) (tf (tsAt ts (o.idxOf b)) f) (renJ o ts (back (tsAt ts (o.idxOf b))) j) := by
  have hn' : Names (setJ S b f j).length o ts := by rw [setJ_len]; exact hn
  refine spc_ext (by rw [renS_len, setJ_len, setJ_len, renS_len]) (renS_l4 hn') ((renS_l4 hn).set _ _ _) fun x g hx hg => ?_
  rw [renS_len, setJ_len] at hx
  obtain ⟨_, lo, _, mt⟩ := hn.at hx
  obtain ⟨_, ib⟩ := hn.idx hb
  obtain ⟨_, _, _, mb⟩ := hn.at ib
  obtain ⟨j0, hj0⟩ := h4.get (b := tf o x) (f := tf (back (tsAt ts x)) g) lo (backto mt hg).1
  rw [getJ_set, getJ_ren (by rw [setJ_len]; exact hx) hg mt, getJ_ren hx hg mt]
  unfold tJ
  rw [getJ_set, hj0]
  by_cases c : tf o x = b ∧ tf (back (tsAt ts x)) g = f
  · have c' : x = o.idxOf b ∧ g = tf (tsAt ts (o.idxOf b)) f := by
      have e1 : x = o.idxOf b := by rw [← c.1, hn.idx_at hx]
      refine ⟨e1, ?_⟩
      rw [← e1, ← c.2, (backto mt hg).2]
    rw [if_pos c, if_pos c', ← c'.1]
    rfl
  · have c' : ¬ (x = o.idxOf b ∧ g = tf (tsAt ts (o.idxOf b)) f) := fun z => c ⟨by rw [z.1, hn.at_idx hb], by rw [z.2, z.1, (there mb hf).2]⟩
    rw [if_neg c, if_neg c']
/-- the turn of a renamed joining -/
def inner (o : List Nat) (ts : List Trn) (b n : Nat) (t : Trn) : Trn := cmp (cmp (back (tsAt ts (o.idxOf b))) t) (tsAt ts (o.idxOf n))
theorem inner_turn {n0 : Nat} {o : List Nat} {ts : List Trn} (hn : Names n0 o ts) {b n f : Nat} {t : Trn} (hb : b < n0) (hnn : n < n0) (ht : t ∈ allTurns) (hf : f < 4) :
    inner o ts b n t ∈ allTurns ∧ tf (inner o ts b n t) (tf (tsAt ts (o.idxOf b)) f) = tf (tsAt ts (o.idxOf n)) (tf t f) ∧ back (inner o ts b n t) = inner o ts n b (back t) ∧ tf (tsAt ts (o.idxOf b)) f < 4 := by
  obtain ⟨_, _, _, mb⟩ := hn.at (hn.idx hb).2
  obtain ⟨_, _, _, mn⟩ := hn.at (hn.idx hnn).2
  have hbm := back_mem mb
  have c1 := cmp_turn _ hbm _ ht
  have c2 := cmp_turn _ c1.1 _ mn
  have th := there mb hf
  refine ⟨c2.1, ?_, ?_, th.1⟩
  · unfold inner
    rw [tf_cmp c1.1 th.1, tf_cmp hbm th.1, th.2]
  · unfold inner
    rw [c2.2, c1.2, back_back _ mb, cmp_assoc (back_mem mn) (back_mem ht)]
theorem renJ_inner {n0 : Nat} {o : List Nat} {ts : List Trn} (hn : Names n0 o ts) {b n : Nat} {t : Trn} (hb : b < n0) (ht : t ∈ allTurns) : renJ o ts (back (tsAt ts (o.idxOf b))) (some (n, t)) = some (o.idxOf n, inner o ts b n t) := by
  obtain ⟨_, _, _, mb⟩ := hn.at (hn.idx hb).2
  show some (o.idxOf n, _) = _
  rw [ren_turn (back_mem mb) ht]
  rfl
theorem ren_face {S : Spc} {o : List Nat} {ts : List Trn} (h4 : L4 S) (hn : Names S.length o ts) {b f : Nat} {j : Jn} (e : getJ S b f = some j) : getJ (renS S o ts) (o.idxOf b) (tf (tsAt ts (o.idxOf b)) f) = some (renJ o ts (back (tsAt ts (o.idxOf b))) j) := by
  obtain ⟨hb, hf⟩ := h4.of e
  obtain ⟨_, ib⟩ := hn.idx hb
  obtain ⟨_, _, _, mb⟩ := hn.at ib
  rw [getJ_ren ib (there mb hf).1 mb]
  unfold tJ
  rw [hn.at_idx hb, (there mb hf).2, e]
  rfl
theorem ren_part {S : Spc} {o : List Nat} {ts : List Trn} (hG : Good S) (hn : Names S.length o ts) {b f n : Nat} {t : Trn} (e : getJ S b f = some (some (n, t))) :
    renS (partS S b f n t) o ts = partS (renS S o ts) (o.idxOf b) (tf (tsAt ts (o.idxOf b)) f) (o.idxOf n) (inner o ts b n t) := by
  obtain ⟨hb, hf⟩ := hG.l4.of e
  obtain ⟨htm, _, _⟩ := hG.both _ _ _ _ e
  have nl := hG.lt e
  unfold partS
  rw [ren_set (hG.l4.set _ _ _) (by rw [setJ_len]; exact hn) (by rw [setJ_len]; exact nl) (tf_lt t htm f hf).1, ren_set hG.l4 hn hb hf, (inner_turn hn hb nl htm hf).2.1]
  rfl
theorem ren_join {S : Spc} {o : List Nat} {ts : List Trn} (hG : Good S) (hn : Names S.length o ts) {b f n : Nat} {t : Trn} (hb : b < S.length) (hf : f < 4) (nl : n < S.length) (htm : t ∈ allTurns) :
    renS (joinJ S b f n t) o ts = joinJ (renS S o ts) (o.idxOf b) (tf (tsAt ts (o.idxOf b)) f) (o.idxOf n) (inner o ts b n t) := by
  unfold joinJ
  rw [ren_set (hG.l4.set _ _ _) (by rw [setJ_len]; exact hn) (by rw [setJ_len]; exact nl) (tf_lt t htm f hf).1, ren_set hG.l4 hn hb hf, (inner_turn hn hb nl htm hf).2.1]
  rw [renJ_inner hn hb htm, renJ_inner hn nl (back_mem htm), (inner_turn hn hb nl htm hf).2.2.1]
theorem map_none {x : Option Jn} {j k : Jn} (h : x = some j) : (x.map fun _ => k) = some k := by
  rw [h]
  rfl
theorem join_part {S : Spc} (hG : Good S) {b f n : Nat} {t : Trn} (e : getJ S b f = some (some (n, t))) : joinJ (partS S b f n t) b f n t = S := by
  obtain ⟨htm, hne, hbk⟩ := hG.both _ _ _ _ e
  refine spc_ext (by rw [joinJ_len, partS_len]) ((((hG.l4.set _ _ _).set _ _ _).set _ _ _).set _ _ _) hG.l4 fun x g _ _ => ?_
  unfold joinJ partS
  rw [getJ_set, getJ_set, getJ_set, getJ_set]
  by_cases c1 : x = n ∧ g = tf t f
  · have c2 : ¬ (x = b ∧ g = f) := fun z => hne (Prod.ext (c1.1.symm.trans z.1) (c1.2.symm.trans z.2))
    rw [if_pos c1, if_neg c2, if_pos c1, if_neg c2, c1.1, c1.2, hbk]
    rfl
  · by_cases c2 : x = b ∧ g = f
    · rw [if_neg c1, if_pos c2, if_neg c1, if_pos c2, c2.1, c2.2, e]
      rfl
    · rw [if_neg c1, if_neg c2, if_neg c1, if_neg c2]
theorem part_join {S : Spc} (hG : Good S) {b f n : Nat} {t : Trn} (ht : t ∈ allTurns) (h1 : getJ S b f = some none) (h2 : getJ S n (tf t f) = some none) (hne : (n, tf t f) ≠ (b, f)) : partS (joinJ S b f n t) n (tf t f) b (back t) = S := by
  have hf := (hG.l4.of h1).2
  refine spc_ext (by rw [partS_len, joinJ_len]) ((((hG.l4.set _ _ _).set _ _ _).set _ _ _).set _ _ _) hG.l4 fun x g _ _ => ?_
  unfold joinJ partS
  rw [tf_back t ht f hf, getJ_set, getJ_set, getJ_set, getJ_set]
  by_cases c2 : x = b ∧ g = f
  · have c1 : ¬ (x = n ∧ g = tf t f) := fun z => hne (Prod.ext (z.1.symm.trans c2.1) (z.2.symm.trans c2.2))
    rw [if_pos c2, if_neg c1, if_neg c1, if_pos c2, c2.1, c2.2, h1]
    rfl
  · by_cases c1 : x = n ∧ g = tf t f
    · rw [if_neg c2, if_pos c1, if_pos c1, if_neg c2, c1.1, c1.2, h2]
      rfl
    · rw [if_neg c2, if_neg c1, if_neg c1, if_neg c2]
/-- two of unlike joinings at a face are not equal -/
theorem eqvAll_false : ∀ {xs ys : List PyData} {i : Nat} {x y : PyData}, xs[i]? = some x → ys[i]? = some y → PyData.eqv x y = false → PyData.eqvAll xs ys = false
  | [], _, i, x, y, h, _, _ => by simp at h
  | _ :: _, [], i, x, y, _, h, _ => by simp at h
  | a :: xs, b :: ys, 0, x, y, h1, h2, e => by
    have e1 : a = x := by simpa using h1
    have e2 : b = y := by simpa using h2
    subst e1 e2
    simp only [PyData.eqvAll, e, Bool.false_and]
  | a :: xs, b :: ys, i + 1, x, y, h1, h2, e => by
    have := eqvAll_false (xs := xs) (ys := ys) (i := i) (by simpa using h1) (by simpa using h2) e
    simp only [PyData.eqvAll, this, Bool.and_false]
theorem spc_unlike {S U : Spc} {b f n : Nat} {t : Trn} (h1 : getJ S b f = some none) (h2 : getJ U b f = some (some (n, t))) : PyData.eqv (shutD S) (shutD U) = false := by
  unfold getJ at h1 h2
  cases hs : S[b]? with
  | none => rw [hs] at h1; cases h1
  | some x =>
    cases hu : U[b]? with
    | none => rw [hu] at h2; cases h2
    | some y =>
      rw [hs] at h1
      rw [hu] at h2
      have h1' : x[f]? = some none := h1
      have h2' : y[f]? = some (some (n, t)) := h2
      simp only [shutD, PyData.eqv]
      refine eqvAll_false (i := b) (x := .tuple (x.map jD)) (y := .tuple (y.map jD)) (by rw [List.getElem?_map, hs]; rfl) (by rw [List.getElem?_map, hu]; rfl) ?_
      simp only [PyData.eqv]
      refine eqvAll_false (i := f) (x := .none) (y := jD (some (n, t))) (by rw [List.getElem?_map, h1']; rfl) (by rw [List.getElem?_map, h2']; rfl) ?_
      simp only [jD, PyData.eqv]
/-- two beside each other, the other way about -/
def otherWay (s u : Nat) : List Nat := (List.range s).map (fun k => u + k) ++ List.range u
theorem other_names (s u : Nat) : Names (u + s) (otherWay s u) (List.replicate (s + u) idT) := by
  refine ⟨?_, by rw [List.length_replicate]; omega, fun t h => by rw [List.eq_of_mem_replicate h]; exact idT_turn.1⟩
  have e : List.range (u + s) = List.range u ++ (List.range s).map (fun k => u + k) := List.range_add
  rw [e]
  exact List.perm_append_comm
theorem other_at {s u k : Nat} : (k < s → (otherWay s u)[k]? = some (u + k)) ∧ (∀ i, i < u → (otherWay s u)[s + i]? = some i) := by
  unfold otherWay
  constructor
  · intro h
    rw [List.getElem?_append_left (by rw [List.length_map, List.length_range]; exact h), List.getElem?_map, List.getElem?_range h]
    rfl
  · intro i h
    rw [List.getElem?_append_right (by rw [List.length_map, List.length_range]; omega), List.length_map, List.length_range, Nat.add_sub_cancel_left, List.getElem?_range h]
theorem ren_bes {S U : Spc} (hS : Good S) (hU : Good U) : renS (besS U S) (otherWay S.length U.length) (List.replicate (S.length + U.length) idT) = besS S U := by
  have lb := besS_len U S
  have hn : Names (besS U S).length (otherWay S.length U.length) (List.replicate (S.length + U.length) idT) := by
    rw [lb]
    exact other_names _ _
  have hG : Good (besS U S) := hU.twice hS
  have hG2 : Good (besS S U) := hS.twice hU
  have hts : ∀ k < S.length + U.length, tsAt (List.replicate (S.length + U.length) idT) k = idT := fun k hk => tsAt_eq (by rw [List.getElem?_replicate, if_pos hk])
  have id4 : ∀ c < 4, tf idT c = c := by decide
  have ridx : ∀ {n : Nat} {t : Trn}, n < (besS U S).length → t ∈ allTurns → renJ (otherWay S.length U.length) (List.replicate (S.length + U.length) idT) idT (some (n, t)) = some ((otherWay S.length U.length).idxOf n, t) := fun {n t} hnl ht => by
    show some (_, idT.map fun c => tf (tsAt _ _) (tf t c)) = _
    rw [hts _ (by have := (hn.idx hnl).2; rw [lb] at this; omega), ren_turn idT_turn.1 ht, (cmp_id ht).2, (cmp_id ht).1]
  refine spc_ext (by rw [renS_len, lb, besS_len]; omega) (renS_l4 hn) hG2.l4 fun b g hb hg => ?_
  rw [renS_len] at hb
  obtain ⟨j, hj, ej⟩ := ren_get hG hn hb hg
  rw [lb] at hb
  rw [hts b (by omega), idT_turn.2] at hj ej
  rw [id4 g hg] at hj
  rw [ej]
  by_cases c : b < S.length
  · rw [tf_eq (other_at.1 c)] at hj
    unfold besS at hj ⊢
    rw [getJ_right, getJ_sh] at hj
    rw [getJ_left c]
    cases hx : getJ S b g with
    | none => rw [hx] at hj; cases hj
    | some x =>
      rw [hx] at hj
      cases x with
      | none =>
        cases hj
        rfl
      | some y =>
        obtain ⟨n, t⟩ := y
        obtain ⟨nl, tm⟩ := hS.jokAt hx n t rfl
        cases hj
        have h1 := hn.idx_at (k := n) (by rw [lb]; omega)
        rw [tf_eq (other_at.1 nl)] at h1
        show some (renJ _ _ idT (some (n + U.length, t))) = _
        rw [ridx (by rw [lb]; omega) tm, Nat.add_comm n, h1]
  · obtain ⟨i, rfl⟩ : ∃ i, b = S.length + i := ⟨b - S.length, by omega⟩
    have hi : i < U.length := by omega
    rw [tf_eq ((other_at (k := 0)).2 i hi)] at hj
    unfold besS at hj ⊢
    rw [getJ_left hi] at hj
    rw [getJ_right, getJ_sh, hj]
    cases j with
    | none => rfl
    | some y =>
      obtain ⟨n, t⟩ := y
      obtain ⟨nl, tm⟩ := hU.jokAt hj n t rfl
      have h1 := hn.idx_at (k := S.length + n) (by rw [lb]; omega)
      rw [tf_eq ((other_at (k := 0)).2 n nl)] at h1
      show some (renJ _ _ idT (some (n, t))) = some (some (n + S.length, t))
      rw [ridx (by rw [lb]; omega) tm, h1, Nat.add_comm]
end Bk

namespace Bk
open PySem PySem.Spec PyProof.Rows L2 RZ
/-- sorted(xs), things that read as data of one kind -/
def rSortG {β : Type} (K : PySem.W.Frag) (enc : β → PyData) (At : Hp → V → β → Prop) : List V → Hp → VK → Prop := fun vs H Q => ∃ (a : Addr) (xs : List V) (bs : List β), vs = [.ref a] ∧ SqL K H a xs ∧ Paired (At H) xs bs ∧ ∀ l ys, H l = none → Paired (At H) ys (bs.mergeSort (PySem.W.dataLe false enc)) → Q (.ref l) (upd H l (.lst ys))
theorem kSortG {β : Type} {X : Cx} {K : PySem.W.Frag} {enc : β → PyData} {At : Hp → V → β → Prop} (h : X.K = K) (hat : ∀ H v b, At H v b → ∃ p, v = .ref p ∧ Dp K H v (enc b)) (hal : ∀ b b', PySem.W.alike (enc b) (enc b') = true) (hk : ∀ bs : List β, PySem.W.Sortable (bs.map enc)) (hd : ∀ b, (enc b).depth ≤ 4) (hu : X.A.units + 8 < cLine) : CallR X (.builtin "sorted") (rSortG K enc At) := by
  subst h
  rintro pins s σ H vs us Q I r ⟨a, xs, bs, rfl, hs, hp, q⟩
  obtain ⟨its, rv, hl, hz⟩ := I.list hs
  rw [Vals.ref1 r]
  have go : ∀ {xs : List V} {its : List Value} {bs : List β}, Vals xs its → Paired (At H) xs bs → PySem.W.EachIs (fun v b => ∃ p, v = Value.ref p ∧ At H (.ref p) b) its bs ∧ PySem.W.EachIs (fun v b => ∃ as, Reads s.heap v (enc b) as) its bs := by
    intro xs its bs rv hp
    induction hp generalizing its with
    | nil =>
      cases rv
      exact ⟨.nil, .nil⟩
    | cons x t ih =>
      cases rv with
      | cons r rr =>
        obtain ⟨p, rfl, dp⟩ := hat _ _ _ x
        obtain ⟨as, rd⟩ := Dp.reads I _ _ _ dp r
        obtain ⟨e1, e2⟩ := ih rr
        cases r
        exact ⟨.cons ⟨p, rfl, x⟩ e1, .cons ⟨as, rd⟩ e2⟩
  obtain ⟨e1, e2⟩ := go rv hp
  refine PySem.W.sorted_data hl.isList e1 e2 (PySem.W.AllAlike.of hal) (hk bs) (by rw [← e1.length, ← rv.length]; exact hz) (fun b _ => by have := hd b; omega) fun out lo eo => ?_
  have back : ∀ {out : List Value} {bs : List β}, PySem.W.EachIs (fun v b => ∃ p, v = Value.ref p ∧ At H (.ref p) b) out bs → ∃ ys, Vals ys out ∧ Paired (At H) ys bs := by
    intro out bs e
    induction e with
    | nil => exact ⟨[], .nil, .nil⟩
    | cons x t ih =>
      obtain ⟨p, rfl, z⟩ := x
      obtain ⟨ys, v, pp⟩ := ih
      exact ⟨.ref p :: ys, .cons rfl v, .cons z pp⟩
  obtain ⟨ys, vy, py⟩ := back eo
  obtain ⟨ep, he'⟩ := PyProof.Rows.sortedAll_at s.heap its out.toArray
  have hlen : ys.length ≤ sizeLine := by
    rw [vy.length, lo, ← e1.length, ← rv.length]
    exact hz
  exact ⟨.ref _, upd H (s.heap.objs.size + 1) (.lst ys), I.laid (t' := s.toks) (fun _ _ => PyProof.Rows.sortedAll_old) (Nat.le_succ _) ⟨hlen, out, ep, vy, he'⟩, rfl, q _ _ (I.hok.fresh (Nat.le_succ _)) py⟩
end Bk

/-! A surface's numbers, renamed. -/
namespace Bk
open PySem PySem.Spec PyProof.Rows L2 RZ
/-- the old sort of a new one -/
def sortB (t : Trn) (s : Nat) : Nat := if s < 4 then tf (back t) s else quadS (tf (back t) 0) (tf (back t) (s - 3))
theorem sortB_lt : ∀ t ∈ allTurns, ∀ s < 7, sortB t s < 7 ∧ (s < 4 → sortB t s < 4) ∧ (4 ≤ s → 4 ≤ sortB t s) := by decide +kernel
theorem sortB_tri : ∀ t ∈ allTurns, ∀ c < 4, sortB t (tf t c) = c := by decide +kernel
theorem sortB_quad : ∀ t ∈ allTurns, ∀ f < 4, ∀ c < 4, c ≠ f → sortB t (quadS (tf t c) (tf t f)) = quadS c f ∧ quadS (tf t c) (tf t f) < 7 ∧ 4 ≤ quadS (tf t c) (tf t f) := by decide +kernel
theorem sortB_perm : ∀ t ∈ allTurns, ([4, 5, 6].map (sortB t)).isPerm [4, 5, 6] = true := by decide +kernel
def calledL (N : Nat) (ns : List Int) (o : List Nat) (ts : List Trn) : List Int := (List.range (7 * N)).map fun k => ns.getD (7 * tf o (k / 7) + sortB (tsAt ts (k / 7)) (k % 7)) 0
theorem called_len (N : Nat) (ns : List Int) (o : List Nat) (ts : List Trn) : (calledL N ns o ts).length = 7 * N := by
  unfold calledL
  rw [List.length_map, List.length_range]
theorem called_get {N : Nat} {ns : List Int} {o : List Nat} {ts : List Trn} {k : Nat} (h : k < 7 * N) : (calledL N ns o ts)[k]? = some (ns.getD (7 * tf o (k / 7) + sortB (tsAt ts (k / 7)) (k % 7)) 0) := by
  unfold calledL
  rw [List.getElem?_map, List.getElem?_range h]
  rfl
theorem called_getD {N : Nat} {ns : List Int} {o : List Nat} {ts : List Trn} {b s : Nat} (hb : b < N) (hs : s < 7) : (calledL N ns o ts).getD (7 * b + s) 0 = ns.getD (7 * tf o b + sortB (tsAt ts b) s) 0 := by
  rw [List.getD_eq_getElem?_getD, called_get (by omega), show (7 * b + s) / 7 = b by omega, show (7 * b + s) % 7 = s by omega]
  rfl
theorem called_nn {N : Nat} {ns : List Int} {o : List Nat} {ts : List Trn} (h : ∀ x ∈ ns, 0 ≤ x) : ∀ x ∈ calledL N ns o ts, 0 ≤ x := fun x hx => by
  unfold calledL at hx
  rw [List.mem_map] at hx
  obtain ⟨k, _, rfl⟩ := hx
  rw [List.getD_eq_getElem?_getD]
  cases e : ns[7 * tf o (k / 7) + sortB (tsAt ts (k / 7)) (k % 7)]? with
  | none => exact Int.le_refl _
  | some y => exact h y (List.mem_of_getElem? e)
theorem arcs_called {N : Nat} {ns : List Int} {o : List Nat} {ts : List Trn} (hn : Names N o ts) {k f c : Nat} (hk : k < N) (hf : f < 4) (hc : c < 4) (cf : c ≠ f) : arcsN (calledL N ns o ts) k (tf (tsAt ts k) f) (tf (tsAt ts k) c) = arcsN ns (tf o k) f c := by
  have ht := (hn.at hk).2.2.2
  obtain ⟨q1, q2, q3⟩ := sortB_quad _ ht f hf c hc cf
  have l1 := (tf_lt _ ht c hc).1
  unfold arcsN
  rw [called_getD hk (by omega), called_getD hk q2, sortB_tri _ ht c hc, q1]
theorem tf_ren {t tb tn : Trn} (hb : tb ∈ allTurns) {f : Nat} (hf : f < 4) : tf ((back tb).map fun c => tf tn (tf t c)) (tf tb f) = tf tn (tf t f) := by
  obtain ⟨l1, e1⟩ := there hb hf
  rw [tf_map (by rw [(back4 hb).1]; exact l1), e1]
theorem fits_called {S : Spc} {ns : List Int} {o : List Nat} {ts : List Trn} (hG : Good S) (hn : Names S.length o ts) : fitsB (renS S o ts) (calledL S.length ns o ts) = fitsB S ns := by
  have hG' := good_ren hG hn
  apply bool_ext
  rw [fits_iff hG', fits_iff hG]
  constructor
  · intro h b f n t gj c hc cf
    obtain ⟨lb, lf⟩ := hG.l4.of gj
    have ht := (hG.both _ _ _ _ gj).1
    have ln := hG.lt gj
    have hk := (hn.idx lb).2
    have hm := (hn.idx ln).2
    have ht1 := (hn.at hk).2.2.2
    have ht2 := (hn.at hm).2.2.2
    have rf := ren_face hG.l4 hn gj
    have e := h _ _ _ _ rf (tf (tsAt ts (o.idxOf b)) c) (tf_lt _ ht1 c hc).1 (fun z => cf (tf_injM ht1 hc lf z))
    rw [arcs_called hn hk lf hc cf, hn.at_idx lb, tf_ren ht1 lf, tf_ren ht1 hc, arcs_called hn hm (tf_lt t ht f lf).1 (tf_lt t ht c hc).1 (fun z => cf (tf_injM ht hc lf z)), hn.at_idx ln] at e
    exact e
  · intro h b g n' t' gj c' hc' cf'
    obtain ⟨lb, lg⟩ := hG'.l4.of gj
    rw [renS_len] at lb
    have ht1 := (hn.at lb).2.2.2
    obtain ⟨j, e1, e2⟩ := ren_get hG hn lb lg
    rw [gj] at e2
    cases j with
    | none => cases e2
    | some z =>
      obtain ⟨n, t⟩ := z
      have e2 := Option.some.inj (Option.some.inj e2)
      obtain ⟨en, et⟩ := Prod.mk.inj e2
      have ln := hG.lt e1
      have ht := (hG.both _ _ _ _ e1).1
      have hm := (hn.idx ln).2
      obtain ⟨lf, ef⟩ := backto ht1 lg
      obtain ⟨lc, ec⟩ := backto ht1 hc'
      have cf : tf (back (tsAt ts b)) c' ≠ tf (back (tsAt ts b)) g := fun z => cf' (by rw [← ec, ← ef, z])
      have e := h _ _ _ _ e1 (tf (back (tsAt ts b)) c') lc cf
      rw [← arcs_called hn lb lf lc cf, ef, ec] at e
      rw [e, en, et, ← hn.at_idx ln, ← arcs_called hn hm (tf_lt t ht _ lf).1 (tf_lt t ht _ lc).1 (fun z => cf (tf_injM ht lc lf z)), hn.at_idx ln]
      have u1 := tf_ren (t := t) (tn := tsAt ts (o.idxOf n)) ht1 lf
      have u2 := tf_ren (t := t) (tn := tsAt ts (o.idxOf n)) ht1 lc
      rw [ef] at u1
      rw [ec] at u2
      rw [u1, u2]
theorem range_tfN {n : Nat} {o : List Nat} (h : o.length = n) : o = (List.range n).map (tf o) := by
  apply List.ext_getElem (by rw [h, List.length_map, List.length_range])
  intro i h1 h2
  rw [List.getElem_map, List.getElem_range]
  exact (tf_eq (List.getElem?_eq_getElem h1)).symm
theorem quads_called {N : Nat} {ns : List Int} {o : List Nat} {ts : List Trn} (hn : Names N o ts) {k : Nat} (hk : k < N) : (quadsAt (calledL N ns o ts) (7 * k)).length = (quadsAt ns (7 * tf o k)).length := by
  have ht := (hn.at hk).2.2.2
  have e1 : quadsAt (calledL N ns o ts) (7 * k) = [4, 5, 6].filter ((fun s => decide (0 < ns.getD (7 * tf o k + s) 0)) ∘ sortB (tsAt ts k)) := by
    unfold quadsAt
    refine List.filter_congr fun s hs => ?_
    have hs : s < 7 := by
      simp only [List.mem_cons, List.not_mem_nil, or_false] at hs
      omega
    rw [called_getD hk hs]
    rfl
  rw [e1]
  have e2 : ([4, 5, 6].filter ((fun s => decide (0 < ns.getD (7 * tf o k + s) 0)) ∘ sortB (tsAt ts k))).length = (([4, 5, 6].map (sortB (tsAt ts k))).filter fun s => decide (0 < ns.getD (7 * tf o k + s) 0)).length := by
    rw [List.filter_map, List.length_map]
  rw [e2]
  exact ((List.isPerm_iff.mp (sortB_perm _ ht)).filter _).length_eq
theorem agree_called {N : Nat} {ns : List Int} {o : List Nat} {ts : List Trn} (hn : Names N o ts) : ((List.range N).all fun b => decide ((quadsAt (calledL N ns o ts) (7 * b)).length ≤ 1)) = (List.range N).all fun b => decide ((quadsAt ns (7 * b)).length ≤ 1) := by
  have e1 : ((List.range N).all fun b => decide ((quadsAt (calledL N ns o ts) (7 * b)).length ≤ 1)) = (List.range N).all ((fun b => decide ((quadsAt ns (7 * b)).length ≤ 1)) ∘ tf o) := by
    apply bool_ext
    rw [List.all_eq_true, List.all_eq_true]
    constructor <;> intro h b hb <;> have := h b hb
    · rw [quads_called hn (List.mem_range.mp hb)] at this
      exact this
    · rw [quads_called hn (List.mem_range.mp hb)]
      exact this
  rw [e1, ← List.all_map, ← range_tfN hn.lo]
  exact hn.o.all_eq
theorem surf_called {S : Spc} {ns : List Int} {o : List Nat} {ts : List Trn} (hG : Good S) (hn : Names S.length o ts) : surfB (renS S o ts) (calledL S.length ns o ts) = surfB S ns := by
  unfold surfB
  rw [fits_called hG hn, renS_len, agree_called hn]
theorem sum_getDR {ns ms : List Int} {i : Nat} (h : ns.length = ms.length) : (sumL ns ms).getD i 0 = ns.getD i 0 + ms.getD i 0 := by
  unfold sumL
  rw [List.getD_eq_getElem?_getD, List.getD_eq_getElem?_getD, List.getD_eq_getElem?_getD, List.getElem?_zipWith]
  by_cases hi : i < ns.length
  · rw [List.getElem?_eq_getElem hi, List.getElem?_eq_getElem (by omega)]
    rfl
  · rw [List.getElem?_eq_none (by omega), List.getElem?_eq_none (by omega)]
    rfl
theorem sum_called {N : Nat} {ns ms : List Int} {o : List Nat} {ts : List Trn} (h : ns.length = ms.length) : sumL (calledL N ns o ts) (calledL N ms o ts) = calledL N (sumL ns ms) o ts := by
  refine List.ext_getElem? fun k => ?_
  by_cases hk : k < 7 * N
  · rw [called_get hk, sum_getDR h]
    unfold sumL
    rw [List.getElem?_zipWith, called_get hk, called_get hk]
  · rw [List.getElem?_eq_none (by unfold sumL; rw [List.length_zipWith, called_len, called_len]; omega), List.getElem?_eq_none (by rw [called_len]; omega)]
end Bk

/-! The corners' surfaces, renamed. -/
namespace Bk
open PySem PySem.Spec PyProof.Rows L2 RZ
/-- a block's corner, called otherwise; and back -/
def phiN (o : List Nat) (ts : List Trn) (n : Nat) : Nat := 4 * o.idxOf (n / 4) + tf (tsAt ts (o.idxOf (n / 4))) (n % 4)
def psiN (o : List Nat) (ts : List Trn) (n : Nat) : Nat := 4 * tf o (n / 4) + tf (back (tsAt ts (n / 4))) (n % 4)
theorem phi_at {N : Nat} {o : List Nat} {ts : List Trn} (hn : Names N o ts) {n : Nat} (h : n < 4 * N) : phiN o ts n < 4 * N ∧ phiN o ts n / 4 = o.idxOf (n / 4) ∧ phiN o ts n % 4 = tf (tsAt ts (o.idxOf (n / 4))) (n % 4) := by
  have lb : n / 4 < N := by omega
  have hk := (hn.idx lb).2
  have lt := (tf_lt _ (hn.at hk).2.2.2 (n % 4) (Nat.mod_lt _ (by decide))).1
  unfold phiN
  omega
theorem psi_at {N : Nat} {o : List Nat} {ts : List Trn} (hn : Names N o ts) {n : Nat} (h : n < 4 * N) : psiN o ts n < 4 * N ∧ psiN o ts n / 4 = tf o (n / 4) ∧ psiN o ts n % 4 = tf (back (tsAt ts (n / 4))) (n % 4) := by
  have lb : n / 4 < N := by omega
  obtain ⟨_, h2, _, h4⟩ := hn.at lb
  have lt := (backto h4 (Nat.mod_lt n (by decide))).1
  unfold psiN
  omega
theorem psi_phi {N : Nat} {o : List Nat} {ts : List Trn} (hn : Names N o ts) {n : Nat} (h : n < 4 * N) : psiN o ts (phiN o ts n) = n := by
  obtain ⟨_, e1, e2⟩ := phi_at hn h
  have lb : n / 4 < N := by omega
  have hk := (hn.idx lb).2
  unfold psiN
  rw [e1, e2, hn.at_idx lb, (there (hn.at hk).2.2.2 (Nat.mod_lt n (by decide))).2]
  omega
theorem phi_psi {N : Nat} {o : List Nat} {ts : List Trn} (hn : Names N o ts) {n : Nat} (h : n < 4 * N) : phiN o ts (psiN o ts n) = n := by
  obtain ⟨_, e1, e2⟩ := psi_at hn h
  have lb : n / 4 < N := by omega
  unfold phiN
  rw [e1, e2, hn.idx_at lb, (backto (hn.at lb).2.2.2 (Nat.mod_lt n (by decide))).2]
  omega
theorem mem_phi {N : Nat} {o : List Nat} {ts : List Trn} (hn : Names N o ts) {row : List Nat} (hr : ∀ m ∈ row, m < 4 * N) {n : Nat} (h : n < 4 * N) : n ∈ row.map (phiN o ts) ↔ psiN o ts n ∈ row := by
  rw [List.mem_map]
  constructor
  · rintro ⟨m, hm, rfl⟩
    rw [psi_phi hn (hr m hm)]
    exact hm
  · intro hm
    exact ⟨_, hm, phi_psi hn h⟩
theorem due_called {N : Nat} {o : List Nat} {ts : List Trn} (hn : Names N o ts) {row : List Nat} (hr : ∀ m ∈ row, m < 4 * N) : calledL N (dueL N row) o ts = dueL N (row.map (phiN o ts)) := by
  refine List.ext_getElem? fun k => ?_
  by_cases hk : k < 7 * N
  · have lb : k / 7 < N := by omega
    have ls : k % 7 < 7 := Nat.mod_lt _ (by decide)
    obtain ⟨_, h2, _, h4⟩ := hn.at lb
    obtain ⟨b1, b2, b3⟩ := sortB_lt _ h4 (k % 7) ls
    rw [called_get hk, dueL_get hk, due_getD (by omega), show (7 * tf o (k / 7) + sortB (tsAt ts (k / 7)) (k % 7)) / 7 = tf o (k / 7) by omega, show (7 * tf o (k / 7) + sortB (tsAt ts (k / 7)) (k % 7)) % 7 = sortB (tsAt ts (k / 7)) (k % 7) by omega]
    refine congrArg some ?_
    by_cases c : k % 7 < 4
    · have e : sortB (tsAt ts (k / 7)) (k % 7) = tf (back (tsAt ts (k / 7))) (k % 7) := by
        unfold sortB
        rw [if_pos c]
      have lt4 := b2 c
      have hp : psiN o ts (4 * (k / 7) + k % 7) = 4 * tf o (k / 7) + sortB (tsAt ts (k / 7)) (k % 7) := by
        unfold psiN
        rw [show (4 * (k / 7) + k % 7) / 4 = k / 7 by omega, show (4 * (k / 7) + k % 7) % 4 = k % 7 by omega, e]
      have := mem_phi hn hr (n := 4 * (k / 7) + k % 7) (by omega)
      rw [hp] at this
      by_cases m : 4 * tf o (k / 7) + sortB (tsAt ts (k / 7)) (k % 7) ∈ row
      · rw [if_pos ⟨lt4, m⟩, if_pos ⟨c, this.mpr m⟩]
      · rw [if_neg (fun z => m z.2), if_neg (fun z => m (this.mp z.2))]
    · have ge := b3 (by omega)
      rw [if_neg (fun z => by omega), if_neg (fun z => c z.1)]
  · rw [List.getElem?_eq_none (by rw [called_len]; omega), List.getElem?_eq_none (by rw [dueL_len]; omega)]
/-! ### corners -/
theorem lk_phi {S : Spc} {o : List Nat} {ts : List Trn} (hG : Good S) (hn : Names S.length o ts) {x y : Nat} (hx : x < 4 * S.length) (h : y ∈ lkC S x) : phiN o ts y ∈ lkC (renS S o ts) (phiN o ts x) := by
  obtain ⟨f, n, t, hf, gj, cf, rfl⟩ := metL_mem.mp h
  have lb : x / 4 < S.length := by omega
  have hc : x % 4 < 4 := Nat.mod_lt _ (by decide)
  have ht := (hG.both _ _ _ _ gj).1
  have ln := hG.lt gj
  have hk := (hn.idx lb).2
  have ht1 := (hn.at hk).2.2.2
  have rf := ren_face hG.l4 hn gj
  obtain ⟨_, e1, e2⟩ := phi_at hn hx
  have lt := (tf_lt t ht _ hc).1
  refine metL_mem.mpr ⟨tf (tsAt ts (o.idxOf (x / 4))) f, o.idxOf n, _, (tf_lt _ ht1 f hf).1, by rw [e1]; exact rf, fun z => cf (tf_injM ht1 hf hc (by rw [z, e2])), ?_⟩
  rw [e2, tf_ren ht1 hc]
  unfold phiN
  rw [show (4 * n + tf t (x % 4)) / 4 = n by omega, show (4 * n + tf t (x % 4)) % 4 = tf t (x % 4) by omega]
theorem lk_psi {S : Spc} {o : List Nat} {ts : List Trn} (hG : Good S) (hn : Names S.length o ts) {x y : Nat} (hx : x < 4 * S.length) (h : y ∈ lkC (renS S o ts) x) : psiN o ts y ∈ lkC S (psiN o ts x) := by
  obtain ⟨f, n', t', hf, gj, cf, rfl⟩ := metL_mem.mp h
  have lb : x / 4 < S.length := by omega
  have hc : x % 4 < 4 := Nat.mod_lt _ (by decide)
  have ht1 := (hn.at lb).2.2.2
  obtain ⟨j, g1, g2⟩ := ren_get hG hn lb hf
  rw [gj] at g2
  cases j with
  | none => cases g2
  | some z =>
    obtain ⟨n, t⟩ := z
    obtain ⟨en, et⟩ := Prod.mk.inj (Option.some.inj (Option.some.inj g2))
    have ln := hG.lt g1
    have ht := (hG.both _ _ _ _ g1).1
    have hm := (hn.idx ln).2
    have ht2 := (hn.at hm).2.2.2
    obtain ⟨_, e1, e2⟩ := psi_at hn hx
    obtain ⟨lf, ef⟩ := backto ht1 hf
    obtain ⟨lc, ec⟩ := backto ht1 hc
    refine metL_mem.mpr ⟨tf (back (tsAt ts (x / 4))) f, n, t, lf, by rw [e1]; exact g1, fun z => cf (by rw [← ef, z, e2, ec]), ?_⟩
    have u := tf_ren (t := t) (tn := tsAt ts (o.idxOf n)) ht1 lc
    rw [ec, ← et] at u
    have lt := (tf_lt t ht _ lc).1
    have lt2 := (tf_lt _ ht2 _ lt).1
    rw [u, en, e2]
    unfold psiN
    rw [show (4 * o.idxOf n + tf (tsAt ts (o.idxOf n)) (tf t (tf (back (tsAt ts (x / 4))) (x % 4)))) / 4 = o.idxOf n by omega, show (4 * o.idxOf n + tf (tsAt ts (o.idxOf n)) (tf t (tf (back (tsAt ts (x / 4))) (x % 4)))) % 4 = tf (tsAt ts (o.idxOf n)) (tf t (tf (back (tsAt ts (x / 4))) (x % 4))) by omega, hn.at_idx ln, (there ht2 lt).2]
theorem hang_phi {S : Spc} {o : List Nat} {ts : List Trn} (hG : Good S) (hn : Names S.length o ts) {x y : Nat} (hx : x < 4 * S.length) (h : Hang (fun x y => y ∈ lkC S x) x y) : y < 4 * S.length ∧ Hang (fun x y => y ∈ lkC (renS S o ts) x) (phiN o ts x) (phiN o ts y) := by
  induction h with
  | rfl => exact ⟨hx, .rfl _⟩
  | step a r ih => exact ⟨lkC_lt hG r, .step ih.2 (lk_phi hG hn ih.1 r)⟩
theorem hang_psi {S : Spc} {o : List Nat} {ts : List Trn} (hG : Good S) (hn : Names S.length o ts) {x y : Nat} (hx : x < 4 * S.length) (h : Hang (fun x y => y ∈ lkC (renS S o ts) x) x y) : y < 4 * S.length ∧ Hang (fun x y => y ∈ lkC S x) (psiN o ts x) (psiN o ts y) := by
  induction h with
  | rfl => exact ⟨hx, .rfl _⟩
  | step a r ih => exact ⟨by have := lkC_lt (good_ren hG hn) r; rw [renS_len] at this; exact this, .step ih.2 (lk_psi hG hn ih.1 r)⟩
/-- the corner that a block's corner belongs to -/
noncomputable def rowOf (S : Spc) (x : Nat) : List Nat := (List.range (4 * S.length)).filter (hangB (fun x y => y ∈ lkC S x) x)
theorem rowOf_mem {S : Spc} {x y : Nat} : y ∈ rowOf S x ↔ y < 4 * S.length ∧ Hang (fun x y => y ∈ lkC S x) x y := by
  unfold rowOf
  rw [List.mem_filter, List.mem_range, hangB_iff]
theorem crn_mem {S : Spc} (hG : Good S) {row : List Nat} : row ∈ crnE S ↔ ∃ x, x < 4 * S.length ∧ row = rowOf S x := by
  have EQ := hangB_eqv (r := fun x y => y ∈ lkC S x) fun x y h => lkC_symm hG h
  unfold crnE rowsE
  rw [List.mem_map]
  constructor
  · rintro ⟨x, hx, rfl⟩
    exact ⟨x, List.mem_range.mp (fstE_sub _ _ x hx), rfl⟩
  · rintro ⟨x, hx, rfl⟩
    obtain ⟨f, hf, e⟩ := List.any_eq_true.mp (fstE_any EQ.rfl _ x (List.mem_range.mpr hx))
    refine ⟨f, hf, List.filter_congr fun y _ => bool_ext ⟨fun z => EQ.trans _ _ _ (EQ.symm _ _ e) z, fun z => EQ.trans _ _ _ e z⟩⟩
theorem row_phi {S : Spc} {o : List Nat} {ts : List Trn} (hG : Good S) (hn : Names S.length o ts) {x : Nat} (hx : x < 4 * S.length) {n : Nat} : n ∈ rowOf (renS S o ts) (phiN o ts x) ↔ n ∈ (rowOf S x).map (phiN o ts) := by
  rw [rowOf_mem, renS_len, List.mem_map]
  constructor
  · rintro ⟨h1, h2⟩
    have := hang_psi hG hn (phi_at hn hx).1 h2
    rw [psi_phi hn hx] at this
    exact ⟨_, rowOf_mem.mpr ⟨(psi_at hn h1).1, this.2⟩, phi_psi hn h1⟩
  · rintro ⟨m, hm, rfl⟩
    obtain ⟨m1, m2⟩ := rowOf_mem.mp hm
    exact ⟨(phi_at hn m1).1, (hang_phi hG hn hx m2).2⟩
theorem due_ext {N : Nat} {a b : List Nat} (h : ∀ n, n < 4 * N → (n ∈ a ↔ n ∈ b)) : dueL N a = dueL N b := by
  unfold dueL
  refine List.map_congr_left fun k hk => ?_
  rw [List.mem_range] at hk
  by_cases c : k % 7 < 4
  · have := h (4 * (k / 7) + k % 7) (by omega)
    by_cases m : 4 * (k / 7) + k % 7 ∈ a
    · rw [if_pos ⟨c, m⟩, if_pos ⟨c, this.mp m⟩]
    · rw [if_neg (fun z => m z.2), if_neg (fun z => m (this.mpr z.2))]
  · rw [if_neg (fun z => c z.1), if_neg (fun z => c z.1)]
theorem due_inj {N : Nat} {a b : List Nat} (h : dueL N a = dueL N b) {n : Nat} (hn : n < 4 * N) (m : n ∈ a) : n ∈ b := by
  have e : (dueL N a).getD (7 * (n / 4) + n % 4) 0 = (dueL N b).getD (7 * (n / 4) + n % 4) 0 := by rw [h]
  have hk : 7 * (n / 4) + n % 4 < 7 * N := by omega
  rw [due_getD hk, due_getD hk, show (7 * (n / 4) + n % 4) % 7 = n % 4 by omega, show (7 * (n / 4) + n % 4) / 7 = n / 4 by omega, show 4 * (n / 4) + n % 4 = n by omega, if_pos ⟨Nat.mod_lt n (by decide), m⟩] at e
  by_cases z : n ∈ b
  · exact z
  · rw [if_neg (fun y => z y.2)] at e
    cases e
theorem crn_nd {S : Spc} (hG : Good S) {F : List Nat → List Nat} {N : Nat} (hF : ∀ a ∈ crnE S, ∀ b ∈ crnE S, (∀ x ∈ a, x ∉ b) → (∃ x, x ∈ a) → dueL N (F a) ≠ dueL N (F b)) : ((crnE S).map fun r => dueL N (F r)).Nodup := by
  show List.Pairwise _ _
  rw [List.pairwise_map]
  refine (crnE_apart hG).imp_of_mem fun {a b} ha hb h => hF a ha b hb h ?_
  obtain ⟨x, hx, rfl⟩ := (crn_mem hG).mp ha
  exact ⟨x, rowOf_mem.mpr ⟨hx, .rfl x⟩⟩
/-- the corners' surfaces renamed are those of the renamed space -/
theorem rows_called {S : Spc} {o : List Nat} {ts : List Trn} (hG : Good S) (hn : Names S.length o ts) : ((crnE S).map fun r => calledL S.length (dueL S.length r) o ts).Perm ((crnE (renS S o ts)).map fun r => dueL S.length r) := by
  have hG' := good_ren hG hn
  have e1 : ((crnE S).map fun r => calledL S.length (dueL S.length r) o ts) = (crnE S).map fun r => dueL S.length (r.map (phiN o ts)) :=
    List.map_congr_left fun r hr => due_called hn (crnE_lt hr)
  rw [e1]
  refine (List.perm_ext_iff_of_nodup ?_ ?_).mpr fun d => ?_
  · refine crn_nd hG (F := fun r => r.map (phiN o ts)) fun a ha b hb h ⟨x, hx⟩ e => ?_
    have lx := crnE_lt ha x hx
    have := due_inj e (phi_at hn lx).1 (List.mem_map.mpr ⟨x, hx, rfl⟩)
    rw [mem_phi hn (crnE_lt hb) (phi_at hn lx).1, psi_phi hn lx] at this
    exact h x hx this
  · refine crn_nd hG' (F := fun r => r) fun a ha b hb h ⟨x, hx⟩ e => ?_
    have lx := crnE_lt ha x hx
    rw [renS_len] at lx
    exact h x hx (due_inj e lx hx)
  · rw [List.mem_map, List.mem_map]
    constructor
    · rintro ⟨r, hr, rfl⟩
      obtain ⟨x, hx, rfl⟩ := (crn_mem hG).mp hr
      exact ⟨rowOf (renS S o ts) (phiN o ts x), (crn_mem hG').mpr ⟨_, by rw [renS_len]; exact (phi_at hn hx).1, rfl⟩, due_ext fun n _ => row_phi hG hn hx⟩
    · rintro ⟨r, hr, rfl⟩
      obtain ⟨z, hz, rfl⟩ := (crn_mem hG').mp hr
      rw [renS_len] at hz
      have lx := (psi_at hn hz).1
      refine ⟨rowOf S (psiN o ts z), (crn_mem hG).mpr ⟨_, lx, rfl⟩, ?_⟩
      refine (due_ext fun n _ => ?_).symm
      have := row_phi hG hn lx (n := n)
      rw [phi_psi hn hz] at this
      exact this
end Bk

namespace Bk
open PySem PySem.Spec PyProof.Rows L2 RZ
local macro_rules | `(tactic| walk_at "g") => `(tactic| (repeat first | refine ⟨_, rfl, ?_⟩ | refine ⟨cpow, ?_⟩ | refine ⟨_, _, rfl, rfl, ?_⟩ | refine ⟨rfl, ?_⟩))
def valC (ns : List Int) (o : List Nat) (ts : List Trn) (j : Nat) : Int := ns.getD (7 * tf o (j / 7) + sortB (tsAt ts (j / 7)) (j % 7)) 0
/-- the renamed numbers, as far as they are laid -/
def partC (N : Nat) (ns : List Int) (o : List Nat) (ts : List Trn) (d : Nat → Bool) : List Int := (List.range (7 * N)).map fun j => if d j = true then valC ns o ts j else 0
theorem partC_len {N : Nat} {ns : List Int} {o : List Nat} {ts : List Trn} {d : Nat → Bool} : (partC N ns o ts d).length = 7 * N := by
  unfold partC
  rw [List.length_map, List.length_range]
theorem partC_get {N : Nat} {ns : List Int} {o : List Nat} {ts : List Trn} {d : Nat → Bool} {j : Nat} (h : j < 7 * N) : (partC N ns o ts d)[j]? = some (if d j = true then valC ns o ts j else 0) := by
  unfold partC
  rw [List.getElem?_map, List.getElem?_range h]
  rfl
theorem partC_set {N : Nat} {ns : List Int} {o : List Nat} {ts : List Trn} {d d' : Nat → Bool} {p : Nat} (hp : p < 7 * N) (hd : ∀ j, j < 7 * N → d' j = (d j || decide (j = p))) : (partC N ns o ts d).set p (valC ns o ts p) = partC N ns o ts d' := by
  refine List.ext_getElem? fun j => ?_
  by_cases hj : j < 7 * N
  · rw [partC_get hj, hd j hj]
    by_cases e : j = p
    · rw [← e, List.getElem?_set_self (by rw [partC_len]; exact hj), decide_eq_true rfl, Bool.or_true, if_pos rfl]
    · rw [List.getElem?_set_ne (fun z => e z.symm), partC_get hj, decide_eq_false e, Bool.or_false]
  · rw [List.getElem?_eq_none (by rw [List.length_set, partC_len]; omega), List.getElem?_eq_none (by rw [partC_len]; omega)]
theorem partC_congr {N : Nat} {ns : List Int} {o : List Nat} {ts : List Trn} {d d' : Nat → Bool} (hd : ∀ j, j < 7 * N → d j = d' j) : partC N ns o ts d = partC N ns o ts d' :=
  List.map_congr_left fun j hj => by rw [hd j (List.mem_range.mp hj)]
def dnC (ts : List Trn) (k c f j : Nat) : Bool := decide (j / 7 < k) || (decide (j / 7 = k) && (decide (sortB (tsAt ts k) (j % 7) < c ∧ sortB (tsAt ts k) (j % 7) < 4) || decide (4 ≤ sortB (tsAt ts k) (j % 7) ∧ sortB (tsAt ts k) (j % 7) < 4 + f)))
theorem sort_tri_iff : ∀ t ∈ allTurns, ∀ c < 4, ∀ s < 7, (sortB t s = c ↔ s = tf t c) := by decide +kernel
theorem sort_quad_iff : ∀ t ∈ allTurns, ∀ f < 3, ∀ s < 7, (sortB t s = 4 + f ↔ s = quadS (tf t 0) (tf t (f + 1))) := by decide +kernel
theorem dn_tri {ts : List Trn} {k c j : Nat} (ht : tsAt ts k ∈ allTurns) (hc : c < 4) : dnC ts k (c + 1) 0 j = (dnC ts k c 0 j || decide (j = 7 * k + tf (tsAt ts k) c)) := by
  have h := sort_tri_iff _ ht c hc (j % 7) (Nat.mod_lt _ (by decide))
  have l := (tf_lt _ ht c hc).1
  unfold dnC
  generalize sortB (tsAt ts k) (j % 7) = b at h ⊢
  generalize tf (tsAt ts k) c = u at h l ⊢
  apply bool_ext
  simp only [Bool.or_eq_true, Bool.and_eq_true, decide_eq_true_eq]
  omega
theorem dn_quad {ts : List Trn} {k f j : Nat} (ht : tsAt ts k ∈ allTurns) (hf : f < 3) : dnC ts k 4 (f + 1) j = (dnC ts k 4 f j || decide (j = 7 * k + quadS (tf (tsAt ts k) 0) (tf (tsAt ts k) (f + 1)))) := by
  have h := sort_quad_iff _ ht f hf (j % 7) (Nat.mod_lt _ (by decide))
  have l := (sortB_quad _ ht (f + 1) (by omega) 0 (by decide) (by omega)).2.1
  unfold dnC
  generalize sortB (tsAt ts k) (j % 7) = b at h ⊢
  generalize quadS (tf (tsAt ts k) 0) (tf (tsAt ts k) (f + 1)) = u at h l ⊢
  apply bool_ext
  simp only [Bool.or_eq_true, Bool.and_eq_true, decide_eq_true_eq]
  omega
theorem dn_next {ts : List Trn} {k j : Nat} (ht : tsAt ts k ∈ allTurns) : dnC ts k 4 3 j = dnC ts (k + 1) 0 0 j := by
  have h := (sortB_lt _ ht (j % 7) (Nat.mod_lt _ (by decide))).1
  unfold dnC
  generalize sortB (tsAt ts k) (j % 7) = b at h ⊢
  generalize sortB (tsAt ts (k + 1)) (j % 7) = b2
  apply bool_ext
  simp only [Bool.or_eq_true, Bool.and_eq_true, decide_eq_true_eq]
  omega
section
variable {P : Program} {w : World} {K : PySem.W.Frag} {mg : Str → Option Value} {base : Heap}
/-- an order and turns, as lists that are none of the spring -/
structure NmS (R po pt : Addr) (H : Hp) (n : Nat) (o : List Nat) (ws : List V) (ts : List Trn) : Prop where
  nepo : po ≠ R
  nept : pt ≠ R
  ho : H po = some (.lst (trnV o))
  ht : H pt = some (.lst ws)
  p : Paired (TAt H) ws ts
  nm : Names n o ts
abbrev s_law_names : Stmt := topS 57
abbrev N_law_names : List Str := ["spring", "space", "left", "order", "block"]
theorem sc_law_names : FnScope N_law_names ["spring", "space"] (defScope s_law_names) := ⟨rfl, rfl, rfl, by decide +kernel, rfl, by decide +kernel, by decide +kernel⟩
def spNamesS : Sp := fun vs H Q _ => ∃ (R : Addr) (v : V) (S : Spc), vs = [.ref R, v] ∧ SprOk R H ∧ ST H v S ∧ 1 ≤ S.length ∧ S.length ≤ 12 ∧
  ∀ H' p po pt o ws ts, Keep R H H' → SprOk R H' → FT H' p [.ref po, .ref pt] → NmS R po pt H' S.length o ws ts → Q (.ref p) H'
theorem ok_law_names {f fD fW : Addr} {fd fdD fdW : FuncData} (F : Fun K "_law_names" "_law_names" s_law_names f fd) (F_law_draw : Fun K "_law_draw" "_law_draw" s_law_draw fD fdD) (g_law_draw : mg "_law_draw" = some (.ref fD)) (b_law_draw : Binds K fdD ["spring", "many"] []) (G_law_draw : FnOk P w K mg base CX0 1 fD fdD ["spring", "many"] spSDraw)
    (F_law_way : Fun K "_law_way" "_law_way" s_law_way fW fdW) (g_law_way : mg "_law_way" = some (.ref fW)) (b_law_way : Binds K fdW ["spring", "face", "goal"] []) (G_law_way : FnOk P w K mg base CX0 2 fW fdW ["spring", "face", "goal"] spWayS)
    (m_range : mg "range" = none) (m_list : mg "list" = none) (m_len : mg "len" = none) : FnOk P w K mg base CX0 3 f fd ["spring", "space"] spNamesS := by
  refine F.ok sc_law_names (fun vs H Q E h => ?_) (fun cdv A outer s H vs Q E hr h => ?_)
  · obtain ⟨R, v, S, rfl, _⟩ := h
    rfl
  · obtain ⟨R, v, S, rfl, hR, hst, hn1, hn2, q⟩ := h
    have nd := sc_law_names.nd
    refine ⟨_, (pss_cons (ps_set (i := 2) nd rfl (.inr rfl) (pe_listRg rfl (by rfl) m_list (prg_1 (by rfl) m_range (pe_callB (kLen K rfl) (by rfl) m_len (by decide +kernel) (pa_cons (pv 1) pa_nil)))))
      (pss_cons (ps_setLc (i := 3) (own := [("block", 4)]) (g := gName 4) (tt := tYes) rfl nd rfl rfl (sw_true rfl rfl rfl (by decide +kernel)) (kPiT K rfl (pi_tup (pv 1))) (blkOk_by (own := [("block", 4)]) (N := N_law_names) (sc := defScope s_law_names) (by decide +kernel)) (fun _ _ _ _ _ => (pg_name (i := 4) nd rfl (Or.inl rfl))) (fun _ _ _ _ _ => pts_nil) (fun _ _ _ _ _ => (kBM K rfl (pe_bm PySem.F.plainAttrs_list PySem.F.slot_list_pop PySem.F.type_list_pop mt_popAt (pv 2) (pa_cons (pe_call G_law_draw (hr.mono (by first | decide | omega)) (by rfl) g_law_draw F_law_draw.kp b_law_draw .nil pass0 (pa_cons (pv 0) (pa_cons (pe_callB (kLen K rfl) (by rfl) m_len (by decide +kernel) (pa_cons (pv 2) pa_nil)) pa_nil))) pa_nil)))))
      (pss_one (ps_ret (pe_tupF (pa_cons (pv 3) (pa_cons (pe_lc (own := [("block", 4)]) (g := gName 4) (tt := tYes) rfl nd (kPiT K rfl (pi_tup (pv 1))) (blkOk_by (own := [("block", 4)]) (N := N_law_names) (sc := defScope s_law_names) (by decide +kernel)) (fun _ _ _ _ _ => (pg_name (i := 4) nd rfl (Or.inl rfl))) (fun _ _ _ _ _ => pts_nil) (fun _ _ _ _ _ => (pe_call G_law_way (hr.mono (by first | decide | omega)) (by rfl) g_law_way F_law_way.kp b_law_way .nil pass0 (pa_cons (pv 0) (pa_cons pe_int (pa_cons (pe_call G_law_draw (hr.mono (by first | decide | omega)) (by rfl) g_law_draw F_law_draw.kp b_law_draw .nil pass0 (pa_cons (pv 0) (pa_cons pe_int pa_nil))) pa_nil)))))) pa_nil))))))), ?_⟩
    have neR : ∀ {H : Hp} {p : Addr}, SprOk R H → H p = none → p ≠ R := fun {H p} ⟨f, s, n, e, _⟩ z y => by
      rw [y, e] at z
      cases z
    obtain ⟨pS, rs, rfl, fp, hb⟩ := id hst
    have lrs : rs.length = S.length := plen hb
    refine ⟨.ref pS, rfl, pS, rs, rfl, .inr fp.sqt, (rs.length : Int), rfl, .of_le (by decide) (by omega) (by decide) (by omega), fun L nL => ?_⟩
    rw [rgV_nat, lrs]
    have LR := neR hR nL
    have h1 : (upd H L (.lst ((List.range S.length).map intV))) L = some (.lst (trnV (List.range S.length))) := upd_same
    have s1 : Same H (upd H L (.lst ((List.range S.length).map intV))) := same_new nL
    have hR1 := hR.same s1
    generalize upd H L (.lst ((List.range S.length).map intV)) = H1 at h1 s1 hR1 ⊢
    have fp1 := fp.mono s1.tups
    -- order
    refine ⟨.ref pS, rfl, pS, rfl, ⟨_, fp1.sqt⟩, fun D nD => ?_⟩
    have DR := neR hR1 nD
    have nLD : L ≠ D := ne_of_none h1 nD
    refine lc_tup (xs := rs) (fun i H3 => ∃ fs gs, H3 L = some (.lst (trnV fs)) ∧ H3 D = some (.lst (trnV gs)) ∧ (gs ++ fs).Perm (List.range S.length) ∧ gs.length = i ∧ SprOk R H3 ∧ Keep R H H3)
      ⟨List.range S.length, [], by rw [upd_ne nLD]; exact h1, upd_same, .refl _, rfl, hR1.same (same_new nD), Keep.of (s1.trans (same_new nD))⟩ ?_ ?_ ?_
    · rintro i H3 _ ⟨fs, gs, _, _, _, _, hR3, k3⟩
      exact (fp.mono (hR.tups k3)).sqt
    · rintro i x H3 hx ⟨fs, gs, h3, h3', pm, rfl, hR3, k3⟩
      have hi : gs.length < S.length := by rw [← lrs]; exact (List.getElem?_eq_some_iff.mp hx).1
      have hl : fs.length = S.length - gs.length := by
        have := pm.length_eq
        rw [List.length_append, List.length_range] at this
        omega
      have lm : (trnV fs).length = fs.length := List.length_map ..
      refine ⟨rfl, .ref L, rfl, .inl ⟨rfl, _, .inl (.inl h3)⟩, .ref R, rfl, .ref L, rfl, L, _, rfl, .inl (.inl (.inl h3)), R, ((trnV fs).length : Int), rfl, by rw [lm]; omega, by rw [lm]; omega, hR3, fun H4 r k4 hR4 r0 r1 => ?_⟩
      rw [lm] at r1
      obtain ⟨y, hy⟩ : ∃ y, fs[r.toNat]? = some y := ⟨_, List.getElem?_eq_getElem (by omega)⟩
      have h4 := k4 _ _ h3 LR
      have h4' := k4 _ _ h3' DR
      refine ⟨L, _, r, r.toNat, intV y, rfl, rfl, h4, by omega, by omega, pop_ix lm r0 r1, by unfold trnV; rw [List.getElem?_map, hy]; rfl, ?_⟩
      have ee : (trnV fs).eraseIdx r.toNat = trnV (fs.eraseIdx r.toNat) := erase_map
      rw [ee]
      have h5 : (upd H4 L (.lst (trnV (fs.eraseIdx r.toNat)))) L = some (.lst (trnV (fs.eraseIdx r.toNat))) := upd_same
      have h5' : (upd H4 L (.lst (trnV (fs.eraseIdx r.toNat)))) D = some (.lst (trnV gs)) := by rw [upd_ne nLD.symm]; exact h4'
      have hR5 : SprOk R (upd H4 L (.lst (trnV (fs.eraseIdx r.toNat)))) := hR4.set LR.symm
      have k5 : Keep R H (upd H4 L (.lst (trnV (fs.eraseIdx r.toNat)))) := keep_fill (k3.trans k4) nL
      generalize upd H4 L (.lst (trnV (fs.eraseIdx r.toNat))) = H5 at h5 h5' hR5 k5 ⊢
      refine ⟨_, h5', small1000 (by unfold trnV; rw [List.length_map]; omega), fs.eraseIdx r.toNat, gs ++ [y], by rw [upd_ne nLD]; exact h5, by rw [upd_same]; unfold trnV; rw [List.map_append]; rfl, ?_, by rw [List.length_append]; rfl, hR5.set DR.symm, keep_fill k5 (s1.free nD)⟩
      rw [List.append_assoc]
      exact ((pperm_erase hy).append_left gs).trans pm
    · rintro H3 ⟨fs, gs, h3, h3', pm, lg, hR3, k3⟩
      have el : fs = [] := by
        have := pm.length_eq
        rw [List.length_append, List.length_range] at this
        exact List.length_eq_zero_iff.mp (by omega)
      subst el
      rw [List.append_nil] at pm
      -- turns
      refine ⟨.ref D, rfl, .ref pS, rfl, pS, rfl, ⟨_, (fp.mono (hR.tups k3)).sqt⟩, fun D2 nD2 => ?_⟩
      have D2R := neR hR3 nD2
      have nDD : D ≠ D2 := ne_of_none h3' nD2
      have hD2 : H D2 = none := k3.free nD2 D2R
      refine lc_tup (xs := rs) (fun i H4 => ∃ ws ts, H4 D2 = some (.lst ws) ∧ Paired (TAt H4) ws ts ∧ ts.length = i ∧ (∀ t ∈ ts, t ∈ allTurns) ∧ H4 D = some (.lst (trnV gs)) ∧ SprOk R H4 ∧ Keep R H H4)
        ⟨[], [], upd_same, .nil, rfl, fun t h => (by cases h), by rw [upd_ne nDD]; exact h3', hR3.same (same_new nD2), k3.same (same_new nD2)⟩ ?_ ?_ ?_
      · rintro i H4 _ ⟨ws, ts, _, _, _, _, _, hR4, k4⟩
        exact (fp.mono (hR.tups k4)).sqt
      · rintro i x H4 hx ⟨ws, ts, h4, t4, hl, hm, h4', hR4, k4⟩
        have hi : i < S.length := by rw [← lrs]; exact (List.getElem?_eq_some_iff.mp hx).1
        refine ⟨rfl, .ref R, rfl, .ref R, rfl, R, 4, rfl, by decide, by decide, hR4, fun H5 r k5 hR5 r0 r1 => ?_⟩
        obtain ⟨g, rfl⟩ : ∃ g : Nat, r = (g : Int) := ⟨r.toNat, by omega⟩
        refine ⟨R, 0, g, rfl, by decide, by omega, hR5, fun H6 p t k6 hR6 np ft ht _ => ?_⟩
        have h6 := k6 _ _ (k5 _ _ h4 D2R) D2R
        have tp : Tups H4 H6 := hR4.tups (k5.trans k6)
        have tf := tups_set (o := .lst (ws ++ [.ref p])) h6
        refine ⟨ws, h6, small1000 (by rw [plen t4, hl]; omega), ws ++ [.ref p], ts ++ [t], upd_same, papp (pmono t4 fun _ _ z => z.mono (tp.trans tf)) (.cons ⟨p, rfl, ft.mono tf⟩ .nil), by rw [List.length_append, hl]; rfl, fun u hu => ?_, by rw [upd_ne nDD]; exact k6 _ _ (k5 _ _ h4' DR) DR, hR6.set D2R.symm, keep_fill ((k4.trans k5).trans k6) hD2⟩
        rcases List.mem_append.mp hu with z | z
        · exact hm u z
        · rw [List.mem_singleton.mp z]
          exact ht
      · rintro H4 ⟨ws, ts, h4, t4, hl, hm, h4', hR4, k4⟩
        refine ⟨Nat.le_of_lt (small1000 (by show 2 ≤ 1000; decide)), fun p o np dn => ?_⟩
        have s5 : Same H4 (upd H4 p (.frz o (.tup [.ref D, .ref D2]))) := same_new np
        exact q _ p D D2 gs ws ts (k4.same s5) (hR4.same s5) (FT.new dn) ⟨DR, D2R, s5 _ _ h4', s5 _ _ h4, pmono t4 fun _ _ z => z.mono s5.tups, ⟨pm, by rw [hl, lrs], hm⟩⟩
abbrev s_law_sort : Stmt := topS 58
abbrev N_law_sort : List Str := ["one", "other"]
theorem sc_law_sort : FnScope N_law_sort ["one", "other"] (defScope s_law_sort) := ⟨rfl, rfl, rfl, by decide +kernel, rfl, by decide +kernel, by decide +kernel⟩
def spLSort : Sp := fun vs H Q _ => ∃ x y : Nat, vs = [intV x, intV y] ∧ x < 4 ∧ y < 4 ∧ x ≠ y ∧ Q (intV (quadS x y)) H
theorem ok_law_sort {f : Addr} {fd : FuncData} (F : Fun K "_law_sort" "_law_sort" s_law_sort f fd) (m_max : mg "max" = none) (m_min : mg "min" = none) : FnOk P w K mg base CX0 1 f fd ["one", "other"] spLSort := by
  refine F.ok sc_law_sort (fun vs H Q E h => ?_) (fun cdv A outer s H vs Q E hr h => ?_)
  · obtain ⟨x, y, rfl, _⟩ := h
    rfl
  · obtain ⟨x, y, rfl, hx, hy, hxy, q⟩ := h
    have nd := sc_law_sort.nd
    refine ⟨_, (pss_one (ps_ret (pe_ifExp (pt_cmpR op_eq (pe_callB (call_min2 rfl) (by rfl) m_min (by decide +kernel) (pa_cons (pv 0) (pa_cons (pv 1) pa_nil))) pe_int (nomark _)) (pe_op op_add pe_int (pe_callB (call_max2 rfl) (by rfl) m_max (by decide +kernel) (pa_cons (pv 0) (pa_cons (pv 1) pa_nil)))) (pe_op op_sub (pe_op op_sub pe_int (pv 0)) (pv 1))))), ?_⟩
    refine ⟨intV x, rfl, intV y, rfl, (x : Int), (y : Int), rfl, rfl, _, rfl, ?_⟩
    have dz : decide (V.int (if (y : Int) < (x : Int) then (y : Int) else (x : Int)) = V.int 0) = decide (x = 0 ∨ y = 0) := by
      by_cases c : x = 0 ∨ y = 0
      · rw [decide_eq_true c]
        exact decide_eq_true (congrArg V.int (by split <;> omega))
      · rw [decide_eq_false c]
        exact decide_eq_false fun z => c (by injection z with z; split at z <;> omega)
    rw [dz]
    unfold quadS at q
    refine ite2 (fun e => ?_) (fun e => ?_)
    · have e := of_decide_eq_true e
      rw [if_pos e] at q
      refine ⟨intV x, rfl, intV y, rfl, (x : Int), (y : Int), rfl, 3, _, rfl, rfl, ?_⟩
      have e9 : (3 : Int) + (if (y : Int) > (x : Int) then (y : Int) else (x : Int)) = ((3 + x + y : Nat) : Int) := by split <;> omega
      dsimp only []
      rw [e9]
      exact q
    · have e : ¬ (x = 0 ∨ y = 0) := fun z => e (decide_eq_true z)
      rw [if_neg e] at q
      refine ⟨intV x, rfl, 9, (x : Int), rfl, rfl, intV y, rfl, _, (y : Int), rfl, rfl, ?_⟩
      have e9 : (9 : Int) - (x : Int) - (y : Int) = ((9 - x - y : Nat) : Int) := by omega
      dsimp only []
      rw [e9]
      exact q
abbrev s_law_called : Stmt := topS 59
abbrev N_law_called : List Str := ["numbers", "order", "turns", "found", "k", "block", "tip", "far"]
theorem sc_law_called : FnScope N_law_called ["numbers", "order", "turns"] (defScope s_law_called) := ⟨rfl, rfl, rfl, by decide +kernel, rfl, by decide +kernel, by decide +kernel⟩
def spCalled : Sp := fun vs H Q _ => ∃ (a po pt : Addr) (ns : List Int) (N : Nat) (o : List Nat) (ws : List V) (ts : List Trn), vs = [.ref a, .ref po, .ref pt] ∧ H a = some (.lst (ns.map V.int)) ∧ ns.length = 7 * N ∧ H po = some (.lst (trnV o)) ∧ H pt = some (.lst ws) ∧ Paired (TAt H) ws ts ∧ Names N o ts ∧ N ≤ 12 ∧
  ∀ H' l, Same H H' → H l = none → H' l = some (.lst ((calledL N ns o ts).map V.int)) → Q (.ref l) H'
theorem ok_law_called {f fS : Addr} {fd fdS : FuncData} (F : Fun K "_law_called" "_law_called" s_law_called f fd) (F_law_sort : Fun K "_law_sort" "_law_sort" s_law_sort fS fdS) (g_law_sort : mg "_law_sort" = some (.ref fS)) (b_law_sort : Binds K fdS ["one", "other"] []) (G_law_sort : FnOk P w K mg base CX0 1 fS fdS ["one", "other"] spLSort)
    (m_len : mg "len" = none) (m_range : mg "range" = none) (m_enumerate : mg "enumerate" = none) : FnOk P w K mg base CX0 2 f fd ["numbers", "order", "turns"] spCalled := by
  refine F.ok sc_law_called (fun vs H Q E h => ?_) (fun cdv A outer s H vs Q E hr h => ?_)
  · obtain ⟨a, po, pt, ns, N, o, ws, ts, rfl, _⟩ := h
    rfl
  · obtain ⟨a, po, pt, ns, N, o, ws, ts, rfl, ha, la, ho, ht, hp, hn, hN, q⟩ := h
    have nd := sc_law_called.nd
    refine ⟨_, (pss_cons (ps_set (i := 3) nd rfl (.inl rfl) (pe_op op_rep (pe_lst (pa_cons pe_int pa_nil)) (pe_callB (kLen K rfl) (by rfl) m_len (by decide +kernel) (pa_cons (pv 0) pa_nil))))
      (pss_cons (ps_for PassesOwn.never rfl (kPiE K rfl (pi_enum (by rfl) m_enumerate (pa_cons (pv 1) pa_nil))) (kPgT K rfl (pg_tup (n := 2) rfl (pgs_cons (pg_name (i := 4) nd rfl (.inl rfl)) (pgs_cons (pg_name (i := 5) nd rfl (.inl rfl)) pgs_nil)))) (pss_cons (ps_for PassesOwn.never rfl (pi_range1 (by rfl) m_range (pa_cons pe_int pa_nil)) (pg_name (i := 6) nd rfl (.inl rfl)) (pss_one (ps_asg (pe_ix (kIxL K rfl) (pv 0) (pe_op op_add (pe_op op_mul pe_int (pv 5)) (pv 6)) (fun _ _ => rfl)) (pg_sub (pv 3) (pe_op op_add (pe_op op_mul pe_int (pv 4)) (pe_ix (kIxT K rfl) (pe_ix (kIxL K rfl) (pv 2) (pv 4) (fun _ _ => rfl)) (pv 6) (fun _ _ => rfl))) set_list))))
      (pss_one (ps_for PassesOwn.never rfl (pi_range2 (by rfl) m_range (pa_cons pe_int (pa_cons pe_int pa_nil))) (pg_name (i := 7) nd rfl (.inl rfl)) (pss_one (ps_asg (pe_ix (kIxL K rfl) (pv 0) (pe_op op_add (pe_op op_add (pe_op op_mul pe_int (pv 5)) pe_int) (pv 7)) (fun _ _ => rfl)) (pg_sub (pv 3) (pe_op op_add (pe_op op_mul pe_int (pv 4)) (pe_call G_law_sort (hr.mono (by first | decide | omega)) (by rfl) g_law_sort F_law_sort.kp b_law_sort .nil pass0 (pa_cons (pe_ix (kIxT K rfl) (pe_ix (kIxL K rfl) (pv 2) (pv 4) (fun _ _ => rfl)) pe_int (fun _ _ => rfl)) (pa_cons (pe_ix (kIxT K rfl) (pe_ix (kIxL K rfl) (pv 2) (pv 4) (fun _ _ => rfl)) (pv 7) (fun _ _ => rfl)) pa_nil)))) set_list)))))))
      (pss_one (ps_ret (pv 3))))), ?_⟩
    have lo := hn.lo
    have lws : ws.length = N := (plen hp).trans hn.l
    refine ⟨Nat.le_of_lt (small1000 (by show 1 ≤ 1000; decide)), fun z nz => ?_⟩
    have s1 : Same H (upd H z (.lst [.int 0])) := same_new nz
    have hz : (upd H z (.lst [.int 0])) z = some (.lst [.int 0]) := upd_same
    generalize upd H z (.lst [.int 0]) = H1 at s1 hz ⊢
    refine ⟨.ref a, rfl, a, _, rfl, .inl (.inl (.inl (s1 _ _ ha))), z, _, [.int 0], rfl, rfl, hz, by rw [List.length_map]; omega, by rw [List.length_map]; omega, ?_, fun l nl => ?_⟩
    · rw [List.length_map, la]
      exact Nat.le_of_lt (small1000 (by show 1 * (((7 * N : Nat) : Int).toNat) ≤ 1000; omega))
    have e0 : (List.replicate (((ns.map V.int).length : Nat) : Int).toNat [V.int 0]).flatten = (partC N ns o ts (dnC ts 0 0 0)).map V.int := by
      rw [rep_flat, List.length_map, la, Int.toNat_natCast]
      refine congrArg (List.map V.int) (List.ext_getElem? fun j => ?_)
      by_cases hj : j < 7 * N
      · rw [partC_get hj, List.getElem?_replicate, if_pos hj, if_neg]
        unfold dnC
        simp only [Bool.or_eq_true, Bool.and_eq_true, decide_eq_true_eq]
        omega
      · rw [List.getElem?_eq_none (by rw [List.length_replicate]; omega), List.getElem?_eq_none (by rw [partC_len]; omega)]
    rw [e0]
    have s2 : Same H1 (upd H1 l (.lst ((partC N ns o ts (dnC ts 0 0 0)).map V.int))) := same_new nl
    have h2 : (upd H1 l (.lst ((partC N ns o ts (dnC ts 0 0 0)).map V.int))) l = some (.lst ((partC N ns o ts (dnC ts 0 0 0)).map V.int)) := upd_same
    have nlH : H l = none := s1.free nl
    have s12 := s1.trans s2
    generalize upd H1 l (.lst ((partC N ns o ts (dnC ts 0 0 0)).map V.int)) = H2 at s2 h2 s12 ⊢
    refine ⟨.ref po, rfl, po, trnV o, rfl, .inl (.inl (s12 _ _ ho)), ?_⟩
    refine for_it (walk_enum (xs := trnV o)) (fun i σ H3 => ∃ y4 y5 y6 y7, σ = [some (.ref a), some (.ref po), some (.ref pt), some (.ref l), y4, y5, y6, y7] ∧ H3 l = some (.lst ((partC N ns o ts (dnC ts i 0 0)).map V.int)) ∧ Same H H3) ⟨_, _, _, _, rfl, h2, s12⟩ ?_ ?_ ?_
    · rintro i σ H3 _ ⟨y4, y5, y6, y7, rfl, _, s3⟩
      exact .inl (.inl (s3 _ _ ho))
    · rintro i x σ H3 H4 hi ⟨y4, y5, y6, y7, rfl, h3, s3⟩ ⟨T, y, zz, rfl, nT, rfl, hy, hzz⟩
      obtain rfl : intV i = y := Option.some.inj hy
      have hi : i < N := by
        have : i < (trnV o).length := hi
        unfold trnV at this
        rw [List.length_map, lo] at this
        exact this
      obtain ⟨ho1, ho2, ht1, ht2⟩ := hn.at hi
      obtain rfl : intV (tf o i) = zz := by
        have hzz : (trnV o)[i]? = some zz := hzz
        unfold trnV at hzz
        rw [List.getElem?_map, ho1] at hzz
        exact Option.some.inj hzz
      obtain ⟨w, hw, pw, rfl, fw⟩ := pget hp ht1
      have s4 : Same H3 (upd H3 T (.tup [intV i, intV (tf o i)])) := same_new nT
      have hT : SqT K (upd H3 T (.tup [intV i, intV (tf o i)])) T [intV i, intV (tf o i)] := .inl (.inl upd_same)
      have h4 := s4 _ _ h3
      generalize upd H3 T (.tup [intV i, intV (tf o i)]) = H4 at s4 hT h4 ⊢
      have s34 := s3.trans s4
      refine ⟨T, [intV i, intV (tf o i)], rfl, hT, rfl, intV i, _, rfl, intV (tf o i), [], rfl, rfl, ?_⟩
      refine ⟨4, rfl, by decide, by decide, ?_⟩
      refine for_range (lo := 0) (n := 4) (fun c σ H5 => ∃ y6, σ = [some (.ref a), some (.ref po), some (.ref pt), some (.ref l), some (intV i), some (intV (tf o i)), y6, y7] ∧ H5 l = some (.lst ((partC N ns o ts (dnC ts i c 0)).map V.int)) ∧ Same H H5) ⟨_, rfl, h4, s34⟩ ?_ ?_
      · rintro c σ H5 hc ⟨y6, rfl, h5, s5⟩
        rw [Int.zero_add]
        have lc := tf_lt _ ht2 c hc
        have vp : valC ns o ts (7 * i + tf (tsAt ts i) c) = ns.getD (7 * tf o i + c) 0 := by
          unfold valC
          rw [show (7 * i + tf (tsAt ts i) c) / 7 = i by omega, show (7 * i + tf (tsAt ts i) c) % 7 = tf (tsAt ts i) c by omega, sortB_tri _ ht2 c hc]
        refine ⟨.ref a, rfl, intV (tf o i), rfl, 7, (tf o i : Int), rfl, rfl, .inl (by decide), .int (c : Int), rfl, _, _, rfl, rfl, a, _, _, .int (ns.getD (7 * tf o i + c) 0), rfl, rfl, .inl (.inl (s5 _ _ ha)), at_of (j := 7 * tf o i + c) (by omega) (getD_map (by omega)), ?_⟩
        refine ⟨.ref l, rfl, intV i, rfl, 7, (i : Int), rfl, rfl, .inl (by decide), .ref pt, rfl, intV i, rfl, pt, ws, (i : Int), .ref pw, rfl, rfl, .inl (.inl (s5 _ _ ht)), atI_nat hw, .int (c : Int), rfl, pw, trnV (tsAt ts i), (c : Int), intV (tf (tsAt ts i) c), rfl, rfl, (fw.mono s5.tups).sqt, atI_nat (by unfold trnV; rw [List.getElem?_map, lc.2]; rfl), _, _, rfl, rfl, ?_⟩
        refine ⟨l, _, _, 7 * i + tf (tsAt ts i) c, rfl, rfl, h5, ?_, _, rfl, ?_, same_fill s5 nlH⟩
        · rw [show (7 : Int) * (i : Int) + ((tf (tsAt ts i) c : Nat) : Int) = ((7 * i + tf (tsAt ts i) c : Nat) : Int) by omega]
          exact ixN_lt (by rw [List.length_map, partC_len]; omega)
        · rw [upd_same, ← vp]
          show some (HO.lst ((List.map V.int (partC N ns o ts (dnC ts i c 0))).set (7 * i + tf (tsAt ts i) c) (V.int (valC ns o ts (7 * i + tf (tsAt ts i) c))))) = _
          rw [← List.map_set, partC_set (by omega) fun j _ => dn_tri ht2 hc]
      · rintro σ H5 ⟨y6, rfl, h5, s5⟩
        refine ⟨1, 4, rfl, ⟨by decide, by decide, by decide, by decide⟩, ?_⟩
        refine for_range (lo := 1) (n := ((4 : Int) - 1).toNat) (fun f σ H6 => ∃ y7, σ = [some (.ref a), some (.ref po), some (.ref pt), some (.ref l), some (intV i), some (intV (tf o i)), y6, y7] ∧ H6 l = some (.lst ((partC N ns o ts (dnC ts i 4 f)).map V.int)) ∧ Same H H6) ⟨_, rfl, h5, s5⟩ ?_ ?_
        · rintro f σ H6 hf ⟨y7, rfl, h6, s6⟩
          have hf : f < 3 := hf
          rw [show (1 : Int) + (f : Int) = ((f + 1 : Nat) : Int) by omega]
          have lf := tf_lt _ ht2 (f + 1) (by omega)
          have l0 := tf_lt _ ht2 0 (by decide)
          obtain ⟨q1, q2, q3⟩ := sortB_quad _ ht2 (f + 1) (by omega) 0 (by decide) (by omega)
          have vp : valC ns o ts (7 * i + quadS (tf (tsAt ts i) 0) (tf (tsAt ts i) (f + 1))) = ns.getD (7 * tf o i + 3 + (f + 1)) 0 := by
            unfold valC
            rw [show (7 * i + quadS (tf (tsAt ts i) 0) (tf (tsAt ts i) (f + 1))) / 7 = i by omega, show (7 * i + quadS (tf (tsAt ts i) 0) (tf (tsAt ts i) (f + 1))) % 7 = quadS (tf (tsAt ts i) 0) (tf (tsAt ts i) (f + 1)) by omega, q1]
            refine congrArg (fun z => ns.getD z 0) ?_
            show 7 * tf o i + (if (0 = 0 ∨ f + 1 = 0) then 3 + 0 + (f + 1) else 9 - 0 - (f + 1)) = _
            rw [if_pos (.inl rfl)]
            omega
          refine ⟨.ref a, rfl, intV (tf o i), rfl, 7, (tf o i : Int), rfl, rfl, .inl (by decide), _, 3, rfl, rfl, .int ((f + 1 : Nat) : Int), rfl, _, _, rfl, rfl, a, _, _, .int (ns.getD (7 * tf o i + 3 + (f + 1)) 0), rfl, rfl, .inl (.inl (s6 _ _ ha)), at_of (j := 7 * tf o i + 3 + (f + 1)) (by omega) (getD_map (by omega)), ?_⟩
          have at0 : atI (trnV (tsAt ts i)) 0 = some (intV (tf (tsAt ts i) 0)) := atI_nat (j := 0) (by unfold trnV; rw [List.getElem?_map, l0.2]; rfl)
          have atf : atI (trnV (tsAt ts i)) ((f + 1 : Nat) : Int) = some (intV (tf (tsAt ts i) (f + 1))) := atI_nat (by unfold trnV; rw [List.getElem?_map, lf.2]; rfl)
          have tw := (fw.mono s6.tups).sqt (K := K)
          refine ⟨.ref l, rfl, intV i, rfl, 7, (i : Int), rfl, rfl, .inl (by decide), .ref pt, rfl, intV i, rfl, pt, ws, (i : Int), .ref pw, rfl, rfl, .inl (.inl (s6 _ _ ht)), atI_nat hw, pw, trnV (tsAt ts i), 0, intV (tf (tsAt ts i) 0), rfl, rfl, tw, at0, .ref pt, rfl, intV i, rfl, pt, ws, (i : Int), .ref pw, rfl, rfl, .inl (.inl (s6 _ _ ht)), atI_nat hw, .int ((f + 1 : Nat) : Int), rfl, pw, trnV (tsAt ts i), _, intV (tf (tsAt ts i) (f + 1)), rfl, rfl, tw, atf, ?_⟩
          refine ⟨tf (tsAt ts i) 0, tf (tsAt ts i) (f + 1), rfl, l0.1, lf.1, fun z => absurd (tf_injM ht2 (by decide) (by omega) z) (by omega), _, _, rfl, rfl, ?_⟩
          refine ⟨l, _, _, 7 * i + quadS (tf (tsAt ts i) 0) (tf (tsAt ts i) (f + 1)), rfl, rfl, h6, ?_, _, rfl, ?_, same_fill s6 nlH⟩
          · rw [show (7 : Int) * (i : Int) + ((quadS (tf (tsAt ts i) 0) (tf (tsAt ts i) (f + 1)) : Nat) : Int) = ((7 * i + quadS (tf (tsAt ts i) 0) (tf (tsAt ts i) (f + 1)) : Nat) : Int) by omega]
            exact ixN_lt (by rw [List.length_map, partC_len]; omega)
          · rw [upd_same, ← vp]
            show some (HO.lst ((List.map V.int (partC N ns o ts (dnC ts i 4 f))).set (7 * i + quadS (tf (tsAt ts i) 0) (tf (tsAt ts i) (f + 1))) (V.int (valC ns o ts (7 * i + quadS (tf (tsAt ts i) 0) (tf (tsAt ts i) (f + 1))))))) = _
            rw [← List.map_set, partC_set (by omega) fun j _ => dn_quad ht2 hf]
        · rintro σ H6 ⟨y7, rfl, h6, s6⟩
          have h6 : H6 l = some (.lst ((partC N ns o ts (dnC ts i 4 3)).map V.int)) := h6
          rw [partC_congr fun j _ => dn_next ht2] at h6
          exact ⟨_, _, _, _, rfl, h6, s6⟩
    · rintro σ H3 ⟨y4, y5, y6, y7, rfl, h3, s3⟩
      have e : partC N ns o ts (dnC ts (trnV o).length 0 0) = calledL N ns o ts := by
        refine List.map_congr_left fun j hj => ?_
        rw [List.mem_range] at hj
        have : (trnV o).length = N := by unfold trnV; rw [List.length_map, lo]
        rw [this, if_pos]
        · rfl
        · unfold dnC
          rw [decide_eq_true (show j / 7 < N by omega)]
          rfl
      rw [e] at h3
      exact ⟨.ref l, rfl, q _ l s3 nlH h3⟩
abbrev s_law_arcs_right : Stmt := topS 60
abbrev N_law_arcs_right : List Str := ["numbers", "other", "order", "turns", "k", "block", "face", "tip", "there"]
theorem sc_law_arcs_right : FnScope N_law_arcs_right ["numbers", "other", "order", "turns"] (defScope s_law_arcs_right) := ⟨rfl, rfl, rfl, by decide +kernel, rfl, by decide +kernel, by decide +kernel⟩
def spARight : Sp := fun vs H Q _ => ∃ (a c po pt : Addr) (ns : List Int) (N : Nat) (o : List Nat) (ws : List V) (ts : List Trn), vs = [.ref a, .ref c, .ref po, .ref pt] ∧ H a = some (.lst (ns.map V.int)) ∧ H c = some (.lst ((calledL N ns o ts).map V.int)) ∧ ns.length = 7 * N ∧ (∀ x ∈ ns, 0 ≤ x) ∧ H po = some (.lst (trnV o)) ∧ H pt = some (.lst ws) ∧ Paired (TAt H) ws ts ∧ Names N o ts ∧ N ≤ 12 ∧
  ∀ H', Same H H' → Q (.bl true) H'
theorem ok_law_arcs_right {f fA : Addr} {fd fdA : FuncData} (F : Fun K "_law_arcs_right" "_law_arcs_right" s_law_arcs_right f fd) (Farcs : Fun K "arcs" "arcs" sarcs fA fdA) (garcs : mg "arcs" = some (.ref fA)) (kbarcs_corner : KBn K fdA ["numbers", "block", "face", "corner"] 3 ["corner"] (fun us ws => us ++ ws) (fun vs zs => vs ++ zs)) (Garcs : FnOk P w K mg base CX0 3 fA fdA ["numbers", "block", "face", "corner"] spArcs)
    (m_range : mg "range" = none) (m_enumerate : mg "enumerate" = none) : FnOk P w K mg base CX0 4 f fd ["numbers", "other", "order", "turns"] spARight := by
  refine F.ok sc_law_arcs_right (fun vs H Q E h => ?_) (fun cdv A outer s H vs Q E hr h => ?_)
  · obtain ⟨a, c, po, pt, ns, N, o, ws, ts, rfl, _⟩ := h
    rfl
  · obtain ⟨a, c, po, pt, ns, N, o, ws, ts, rfl, ha, hc, la, h0, ho, ht, hp, hn, hN, q⟩ := h
    have nd := sc_law_arcs_right.nd
    refine ⟨_, (pss_cons (ps_for PassesOwn.never rfl (kPiE K rfl (pi_enum (by rfl) m_enumerate (pa_cons (pv 2) pa_nil))) (kPgT K rfl (pg_tup (n := 2) rfl (pgs_cons (pg_name (i := 4) nd rfl (.inl rfl)) (pgs_cons (pg_name (i := 5) nd rfl (.inl rfl)) pgs_nil)))) (pss_one (ps_for PassesOwn.never rfl (pi_range1 (by rfl) m_range (pa_cons pe_int pa_nil)) (pg_name (i := 6) nd rfl (.inl rfl)) (pss_one (ps_for PassesOwn.never rfl (pi_range1 (by rfl) m_range (pa_cons pe_int pa_nil)) (pg_name (i := 7) nd rfl (.inl rfl)) (pss_one (ps_if (pt_cmpR op_ne (pv 7) (pv 6) (nomark _)) (pss_cons (ps_set (i := 8) nd rfl (.inl rfl) (pe_callN Garcs (hr.mono (by first | decide | omega)) (by rfl) garcs Farcs.kp kbarcs_corner pass0 (pa_cons (pv 1) (pa_cons (pv 4) (pa_cons (pe_ix (kIxT K rfl) (pe_ix (kIxL K rfl) (pv 3) (pv 4) (fun _ _ => rfl)) (pv 6) (fun _ _ => rfl)) pa_nil))) (pk_cons (pe_ix (kIxT K rfl) (pe_ix (kIxL K rfl) (pv 3) (pv 4) (fun _ _ => rfl)) (pv 7) (fun _ _ => rfl)) pk_nil)))
      (pss_one (ps_if (pt_cmpR op_ne (pe_callN Garcs (hr.mono (by first | decide | omega)) (by rfl) garcs Farcs.kp kbarcs_corner pass0 (pa_cons (pv 0) (pa_cons (pv 5) (pa_cons (pv 6) pa_nil))) (pk_cons (pv 7) pk_nil)) (pv 8) (nomark _)) (pss_one (ps_ret pe_bl)) pss_nil))) pss_nil)))))))
      (pss_one (ps_ret pe_bl))), ?_⟩
    have lo := hn.lo
    have h0c := called_nn (N := N) (ns := ns) (o := o) (ts := ts) h0
    refine ⟨.ref po, rfl, po, trnV o, rfl, .inl (.inl ho), ?_⟩
    refine for_it (walk_enum (xs := trnV o)) (fun i σ H3 => ∃ y4 y5 y6 y7 y8, σ = [some (.ref a), some (.ref c), some (.ref po), some (.ref pt), y4, y5, y6, y7, y8] ∧ Same H H3) ⟨_, _, _, _, _, rfl, Same.refl _⟩ ?_ ?_ ?_
    · rintro i σ H3 _ ⟨y4, y5, y6, y7, y8, rfl, s3⟩
      exact .inl (.inl (s3 _ _ ho))
    · rintro i x σ H3 H4 hi ⟨y4, y5, y6, y7, y8, rfl, s3⟩ ⟨T, y, zz, rfl, nT, rfl, hy, hzz⟩
      obtain rfl : intV i = y := Option.some.inj hy
      have hi : i < N := by
        have : i < (trnV o).length := hi
        unfold trnV at this
        rw [List.length_map, lo] at this
        exact this
      obtain ⟨ho1, ho2, ht1, ht2⟩ := hn.at hi
      obtain rfl : intV (tf o i) = zz := by
        have hzz : (trnV o)[i]? = some zz := hzz
        unfold trnV at hzz
        rw [List.getElem?_map, ho1] at hzz
        exact Option.some.inj hzz
      obtain ⟨w, hw, pw, rfl, fw⟩ := pget hp ht1
      have s4 : Same H3 (upd H3 T (.tup [intV i, intV (tf o i)])) := same_new nT
      have hT : SqT K (upd H3 T (.tup [intV i, intV (tf o i)])) T [intV i, intV (tf o i)] := .inl (.inl upd_same)
      generalize upd H3 T (.tup [intV i, intV (tf o i)]) = H4 at s4 hT ⊢
      refine ⟨T, [intV i, intV (tf o i)], rfl, hT, rfl, intV i, _, rfl, intV (tf o i), [], rfl, rfl, ?_⟩
      refine ⟨4, rfl, by decide, by decide, ?_⟩
      refine for_range (lo := 0) (n := 4) (fun f σ H5 => ∃ y6 y7 y8, σ = [some (.ref a), some (.ref c), some (.ref po), some (.ref pt), some (intV i), some (intV (tf o i)), y6, y7, y8] ∧ Same H H5) ⟨_, _, _, rfl, s3.trans s4⟩ ?_ ?_
      · rintro f σ H5 hf ⟨y6, y7, y8, rfl, s5⟩
        rw [Int.zero_add]
        refine ⟨4, rfl, by decide, by decide, ?_⟩
        refine for_range (lo := 0) (n := 4) (fun p σ H6 => ∃ y7 y8, σ = [some (.ref a), some (.ref c), some (.ref po), some (.ref pt), some (intV i), some (intV (tf o i)), some (.int (f : Int)), y7, y8] ∧ Same H H6) ⟨_, _, rfl, s5⟩ ?_ ?_
        · rintro p σ H6 hpp ⟨y7, y8, rfl, s6⟩
          rw [Int.zero_add]
          refine ⟨.int (p : Int), rfl, .int (f : Int), rfl, rfl, _, rfl, ite2 (fun e => ?_) (fun _ => ?_)⟩
          · have pf : p ≠ f := fun z => by
              subst z
              simp at e
            have lf := tf_lt _ ht2 f hf
            have lp := tf_lt _ ht2 p hpp
            have tw := (fw.mono s6.tups).sqt (K := K)
            have atf : atI (trnV (tsAt ts i)) (f : Int) = some (intV (tf (tsAt ts i) f)) := atI_nat (by unfold trnV; rw [List.getElem?_map, lf.2]; rfl)
            have atp : atI (trnV (tsAt ts i)) (p : Int) = some (intV (tf (tsAt ts i) p)) := atI_nat (by unfold trnV; rw [List.getElem?_map, lp.2]; rfl)
            refine ⟨.ref c, rfl, intV i, rfl, .ref pt, rfl, intV i, rfl, pt, ws, (i : Int), .ref pw, rfl, rfl, .inl (.inl (s6 _ _ ht)), atI_nat hw, .int (f : Int), rfl, pw, trnV (tsAt ts i), _, intV (tf (tsAt ts i) f), rfl, rfl, tw, atf, .ref pt, rfl, intV i, rfl, pt, ws, (i : Int), .ref pw, rfl, rfl, .inl (.inl (s6 _ _ ht)), atI_nat hw, .int (p : Int), rfl, pw, trnV (tsAt ts i), _, intV (tf (tsAt ts i) p), rfl, rfl, tw, atp, rfl, rfl, ?_⟩
            refine ⟨.ref c, calledL N ns o ts, N, i, tf (tsAt ts i) f, tf (tsAt ts i) p, rfl, ⟨c, rfl, .inl (s6 _ _ hc)⟩, called_len _ _ _ _, by omega, h0c, hi, lf.1, lp.1, fun z => pf (tf_injM ht2 hpp hf z), fun H7 s7 => ?_⟩
            rw [arcs_called hn hi hf hpp pf]
            refine ⟨.ref a, rfl, intV (tf o i), rfl, .int (f : Int), rfl, .int (p : Int), rfl, rfl, rfl, ?_⟩
            refine ⟨.ref a, ns, N, tf o i, f, p, rfl, ⟨a, rfl, .inl ((s6.trans s7) _ _ ha)⟩, la, by omega, h0, ho2, hf, hpp, pf, fun H8 s8 => ?_⟩
            exact ⟨.int (arcsN ns (tf o i) f p), rfl, rfl, _, rfl, iteNS rfl ⟨_, _, rfl, (s6.trans s7).trans s8⟩⟩
          · exact ⟨_, _, rfl, s6⟩
        · rintro σ H6 ⟨y7, y8, rfl, s6⟩
          exact ⟨_, _, _, rfl, s6⟩
      · rintro σ H5 ⟨y6, y7, y8, rfl, s5⟩
        exact ⟨_, _, _, _, _, rfl, s5⟩
    · rintro σ H3 ⟨y4, y5, y6, y7, y8, rfl, s3⟩
      exact q _ s3
end
end Bk

/-! Lists of lists of numbers, sorted. -/
namespace Bk
open PySem PySem.Spec PyProof.Rows L2 RZ
def encI (ns : List Int) : PyData := .list (ns.map PyData.int)
def LiAt (H : Hp) (v : V) (ns : List Int) : Prop := ∃ p, v = .ref p ∧ H p = some (.lst (ns.map V.int))
theorem li_at {K : PySem.W.Frag} : ∀ H v b, LiAt H v b → ∃ p, v = .ref p ∧ Dp K H v (encI b) := fun H v b ⟨p, e, h⟩ => ⟨p, e, by
  subst e
  exact .lst (.inl (.inl h)) (dp_ints b)⟩
theorem li_alike : ∀ b b', PySem.W.alike (encI b) (encI b') = true := fun b b' => by
  unfold encI
  rw [PySem.W.alike]
  exact PySem.W.alike_ints b b'
theorem li_key (bs : List (List Int)) : PySem.W.Sortable (bs.map encI) := PySem.W.Sortable.others fun b => ⟨nofun, nofun⟩
theorem li_deep (b : List Int) : (encI b).depth ≤ 4 := by
  unfold encI
  rw [PyData.depth, PySem.W.depth_ints]
  decide
theorem sort_perm {a b : List (List Int)} (h : a.Perm b) : a.mergeSort (PySem.W.dataLe false encI) = b.mergeSort (PySem.W.dataLe false encI) := by
  have e : PySem.W.dataLe false encI = fun p q => decide (p ≤ q) := PySem.W.dataLe_rows (fun b => b)
  rw [e]
  have tr : ∀ a b c : List Int, decide (a ≤ b) = true → decide (b ≤ c) = true → decide (a ≤ c) = true := fun a b c h k => decide_eq_true (List.le_trans (of_decide_eq_true h) (of_decide_eq_true k))
  have to : ∀ a b : List Int, (decide (a ≤ b) || decide (b ≤ a)) = true := fun a b => by
    rcases List.le_total a b with h | h
    · rw [decide_eq_true h, Bool.true_or]
    · rw [decide_eq_true h, Bool.or_true]
  exact List.Perm.eq_of_pairwise (le := fun a b => decide (a ≤ b) = true) (fun a b _ _ h k => List.le_antisymm (of_decide_eq_true h) (of_decide_eq_true k)) (List.pairwise_mergeSort tr to a) (List.pairwise_mergeSort tr to b) (((List.mergeSort_perm a _).trans h).trans (List.mergeSort_perm b _).symm)
theorem LiAt.mono {H H' : Hp} {v : V} {b : List Int} (h : LiAt H v b) (k : ∀ p xs, H p = some (.lst xs) → v = .ref p → H' p = some (.lst xs)) : LiAt H' v b := by
  obtain ⟨p, e, h⟩ := h
  exact ⟨p, e, k _ _ h e⟩
theorem lis_dp {K : PySem.W.Frag} {H : Hp} {ys : List V} {bs : List (List Int)} (h : Paired (LiAt H) ys bs) : DpAll K H ys (bs.map encI) := by
  induction h with
  | nil => exact .nil
  | cons x t ih =>
    obtain ⟨p, rfl, d⟩ := li_at (K := K) _ _ _ x
    exact .cons d ih
theorem lis_shaped (bs : List (List Int)) : SeqAt.shaped (.list (bs.map encI)) = true := by
  have h : ∀ bs : List (List Int), PyData.canLayAll0 (bs.map encI) = true ∧ PyData.depthAll (bs.map encI) ≤ 2 := by
    intro bs
    induction bs with
    | nil => simp [PyData.canLayAll0, PyData.depthAll]
    | cons b bs ih =>
      have l := ints_lay b
      simp only [List.map_cons, PyData.canLayAll0, PyData.depthAll, encI, PyData.canLay0, PyData.depth, ih.1, l.1, Bool.and_self, true_and]
      have := l.2
      have := ih.2
      omega
  have l := h bs
  have h2 : PyData.depth (.list (bs.map encI)) ≤ 64 := by
    simp only [PyData.depth]
    omega
  show (PyData.canLay0 (.list (bs.map encI)) && decide (PyData.depth (.list (bs.map encI)) ≤ 64)) = true
  rw [Bool.and_eq_true]
  exact ⟨by simp only [PyData.canLay0]; exact l.1, decide_eq_true h2⟩
theorem lis_eqv (bs : List (List Int)) : PyData.eqv (.list (bs.map encI)) (.list (bs.map encI)) = true := SeqAt.eqv_refl _ (SeqAt.canLay_of_shaped (lis_shaped bs))
end Bk

namespace Bk
open PySem PySem.Spec PyProof.Rows L2 RZ
theorem NmS.keep {R po pt : Addr} {H H' : Hp} {n : Nat} {o : List Nat} {ws : List V} {ts : List Trn} (h : NmS R po pt H n o ws ts) (r : SprOk R H) (k : Keep R H H') : NmS R po pt H' n o ws ts :=
  ⟨h.nepo, h.nept, k _ _ h.ho h.nepo, k _ _ h.ht h.nept, pmono h.p fun _ _ z => z.mono (r.tups k), h.nm⟩
theorem sumL_nn' {ns ms : List Int} (h1 : ∀ x ∈ ns, 0 ≤ x) (h2 : ∀ x ∈ ms, 0 ≤ x) : ∀ z ∈ sumL ns ms, 0 ≤ z := fun z hz => by
  unfold sumL at hz
  obtain ⟨i, hi, e⟩ := List.getElem_of_mem hz
  rw [List.length_zipWith] at hi
  rw [List.getElem_zipWith] at e
  have := h1 _ (List.getElem_mem (show i < ns.length by omega))
  have := h2 _ (List.getElem_mem (show i < ms.length by omega))
  omega
section
variable {P : Program} {w : World} {K : PySem.W.Frag} {mg : Str → Option Value} {base : Heap}
abbrev s_law_right : Stmt := topS 61
abbrev N_law_right : List Str := ["spring", "space", "twin", "order", "turns", "numbers", "more", "at", "other", "others", "one", "two"]
theorem sc_law_right : FnScope N_law_right ["spring", "space", "twin", "order", "turns"] (defScope s_law_right) := ⟨rfl, rfl, rfl, by decide +kernel, rfl, by decide +kernel, by decide +kernel⟩
def spRightR : Sp := fun vs H Q _ => ∃ (R : Addr) (v v2 : V) (po pt : Addr) (S : Spc) (o : List Nat) (ws : List V) (ts : List Trn), vs = [.ref R, v, v2, .ref po, .ref pt] ∧ SprOk R H ∧ ST H v S ∧ Good S ∧ 1 ≤ S.length ∧ S.length ≤ 12 ∧ NmS R po pt H S.length o ws ts ∧ ST H v2 (renS S o ts) ∧
  ∀ H', Keep R H H' → SprOk R H' → Q (.bl true) H'
set_option maxHeartbeats 40000000 in
theorem ok_law_right {f fD fS fC fA fF fI fT : Addr} {fd fdD fdS fdC fdA fdF fdI fdT : FuncData} (F : Fun K "_law_right" "_law_right" s_law_right f fd) (F_law_draw : Fun K "_law_draw" "_law_draw" s_law_draw fD fdD) (g_law_draw : mg "_law_draw" = some (.ref fD)) (b_law_draw : Binds K fdD ["spring", "many"] []) (G_law_draw : FnOk P w K mg base CX0 1 fD fdD ["spring", "many"] spSDraw)
    (F_law_surface : Fun K "_law_surface" "_law_surface" s_law_surface fS fdS) (g_law_surface : mg "_law_surface" = some (.ref fS)) (b_law_surface : Binds K fdS ["spring", "space", "most"] []) (G_law_surface : FnOk P w K mg base CX0 5 fS fdS ["spring", "space", "most"] spSurface)
    (F_law_called : Fun K "_law_called" "_law_called" s_law_called fC fdC) (g_law_called : mg "_law_called" = some (.ref fC)) (b_law_called : Binds K fdC ["numbers", "order", "turns"] []) (G_law_called : FnOk P w K mg base CX0 2 fC fdC ["numbers", "order", "turns"] spCalled)
    (F_law_arcs_right : Fun K "_law_arcs_right" "_law_arcs_right" s_law_arcs_right fA fdA) (g_law_arcs_right : mg "_law_arcs_right" = some (.ref fA)) (b_law_arcs_right : Binds K fdA ["numbers", "other", "order", "turns"] []) (G_law_arcs_right : FnOk P w K mg base CX0 4 fA fdA ["numbers", "other", "order", "turns"] spARight)
    (Ffits : Fun K "fits" "fits" sfits fF fdF) (gfits : mg "fits" = some (.ref fF)) (bfits : Binds K fdF ["space", "numbers"] []) (Gfits : FnOk P w K mg base CX0 7 fF fdF ["space", "numbers"] spFits)
    (Fis_surface : Fun K "is_surface" "is_surface" sis_surface fI fdI) (gis_surface : mg "is_surface" = some (.ref fI)) (bis_surface : Binds K fdI ["space", "numbers"] []) (Gis_surface : FnOk P w K mg base CX0 8 fI fdI ["space", "numbers"] spSurf)
    (Fgo_together : Fun K "go_together" "go_together" sgo_together fT fdT) (ggo_together : mg "go_together" = some (.ref fT)) (bgo_together : Binds K fdT ["space", "one", "other"] []) (Ggo_together : FnOk P w K mg base CX0 9 fT fdT ["space", "one", "other"] spTogether)
    (m_len : mg "len" = none) (m_zip : mg "zip" = none) : FnOk P w K mg base CX0 10 f fd ["spring", "space", "twin", "order", "turns"] spRightR := by
  refine F.ok sc_law_right (fun vs H Q E h => ?_) (fun cdv A outer s H vs Q E hr h => ?_)
  · obtain ⟨R, v, v2, po, pt, S, o, ws, ts, rfl, _⟩ := h
    rfl
  · obtain ⟨R, v, v2, po, pt, S, o, ws, ts, rfl, hR, hst, hG, hn1, hn2, hnm, hst2, q⟩ := h
    have nd := sc_law_right.nd
    refine ⟨_, (pss_cons (ps_set (i := 5) nd rfl (.inl rfl) (pe_call G_law_surface (hr.mono (by first | decide | omega)) (by rfl) g_law_surface F_law_surface.kp b_law_surface .nil pass0 (pa_cons (pv 0) (pa_cons (pv 1) (pa_cons pe_int pa_nil)))))
      (pss_cons (ps_set (i := 6) nd rfl (.inl rfl) (pe_call G_law_surface (hr.mono (by first | decide | omega)) (by rfl) g_law_surface F_law_surface.kp b_law_surface .nil pass0 (pa_cons (pv 0) (pa_cons (pv 1) (pa_cons pe_int pa_nil)))))
      (pss_cons (ps_if (pt_cmpR op_eq (pe_call G_law_draw (hr.mono (by first | decide | omega)) (by rfl) g_law_draw F_law_draw.kp b_law_draw .nil pass0 (pa_cons (pv 0) (pa_cons pe_int pa_nil))) pe_int (nomark _)) (pss_cons (ps_set (i := 7) nd rfl (.inl rfl) (pe_call G_law_draw (hr.mono (by first | decide | omega)) (by rfl) g_law_draw F_law_draw.kp b_law_draw .nil pass0 (pa_cons (pv 0) (pa_cons (pe_callB (kLen K rfl) (by rfl) m_len (by decide +kernel) (pa_cons (pv 5) pa_nil)) pa_nil))))
      (pss_one (ps_asg (pe_op op_add (pe_ix (kIxL K rfl) (pv 5) (pv 7) (fun _ _ => rfl)) pe_int) (pg_sub (pv 5) (pv 7) set_list)))) pss_nil)
      (pss_cons (ps_if (pt_cmpR op_eq (pe_call G_law_draw (hr.mono (by first | decide | omega)) (by rfl) g_law_draw F_law_draw.kp b_law_draw .nil pass0 (pa_cons (pv 0) (pa_cons pe_int pa_nil))) pe_int (nomark _)) (pss_one (ps_setLc (i := 5) (own := [("one", 10), ("two", 11)]) (tt := tYes) rfl nd rfl rfl (sw_true rfl rfl rfl (by decide +kernel)) (kPiZ K rfl (pi_zipA (by rfl) m_zip (pa_cons (pv 5) (pa_cons (pv 6) pa_nil)))) (blkOk_by (own := [("one", 10), ("two", 11)]) (N := N_law_right) (sc := defScope s_law_right) (by decide +kernel)) (fun _ _ _ _ _ => (kPgT K rfl (pg_tup (n := 2) rfl (pgs_cons (pg_name (i := 10) nd rfl (Or.inl rfl)) (pgs_cons (pg_name (i := 11) nd rfl (Or.inl rfl)) pgs_nil))))) (fun _ _ _ _ _ => pts_nil) (fun _ _ _ _ _ => (pe_op op_add (pv 10) (pv 11))))) pss_nil)
      (pss_cons (ps_set (i := 8) nd rfl (.inl rfl) (pe_call G_law_called (hr.mono (by first | decide | omega)) (by rfl) g_law_called F_law_called.kp b_law_called .nil pass0 (pa_cons (pv 5) (pa_cons (pv 3) (pa_cons (pv 4) pa_nil)))))
      (pss_cons (ps_set (i := 9) nd rfl (.inl rfl) (pe_call G_law_called (hr.mono (by first | decide | omega)) (by rfl) g_law_called F_law_called.kp b_law_called .nil pass0 (pa_cons (pv 6) (pa_cons (pv 3) (pa_cons (pv 4) pa_nil)))))
      (pss_cons (ps_if (pw_or (pt_not (pt_val (pe_call G_law_arcs_right (hr.mono (by first | decide | omega)) (by rfl) g_law_arcs_right F_law_arcs_right.kp b_law_arcs_right .nil pass0 (pa_cons (pv 5) (pa_cons (pv 8) (pa_cons (pv 3) (pa_cons (pv 4) pa_nil))))))) (pw_or1 (pt_cmpR op_ne (pe_call Gfits (hr.mono (by first | decide | omega)) (by rfl) gfits Ffits.kp bfits .nil pass0 (pa_cons (pv 1) (pa_cons (pv 5) pa_nil))) (pe_call Gfits (hr.mono (by first | decide | omega)) (by rfl) gfits Ffits.kp bfits .nil pass0 (pa_cons (pv 2) (pa_cons (pv 8) pa_nil))) (nomark _)))).pt (pss_one (ps_ret pe_bl)) pss_nil)
      (pss_cons (ps_if (pt_cmpR op_ne (pe_call Gis_surface (hr.mono (by first | decide | omega)) (by rfl) gis_surface Fis_surface.kp bis_surface .nil pass0 (pa_cons (pv 1) (pa_cons (pv 5) pa_nil))) (pe_call Gis_surface (hr.mono (by first | decide | omega)) (by rfl) gis_surface Fis_surface.kp bis_surface .nil pass0 (pa_cons (pv 2) (pa_cons (pv 8) pa_nil))) (nomark _)) (pss_one (ps_ret pe_bl)) pss_nil)
      (pss_one (ps_ret (pe_cmpR op_eq (pe_call Ggo_together (hr.mono (by first | decide | omega)) (by rfl) ggo_together Fgo_together.kp bgo_together .nil pass0 (pa_cons (pv 1) (pa_cons (pv 5) (pa_cons (pv 6) pa_nil)))) (pe_call Ggo_together (hr.mono (by first | decide | omega)) (by rfl) ggo_together Fgo_together.kp bgo_together .nil pass0 (pa_cons (pv 2) (pa_cons (pv 8) (pa_cons (pv 9) pa_nil)))) (nomark _)))))))))))), ?_⟩
    have neR : ∀ {H : Hp} {p : Addr}, SprOk R H → H p = none → p ≠ R := fun {H p} ⟨f, s, n, e, _⟩ z y => by
      rw [y, e] at z
      cases z
    have hl2 : (renS S o ts).length = S.length := renS_len _ _ _
    have hG' := good_ren hG hnm.nm
    refine ⟨.ref R, rfl, v, rfl, R, v, S, 2, rfl, by decide, hst, hG, hn1, by omega, hR, fun H1 a ns k1 hR1 na ha la ba _ => ?_⟩
    have aR : a ≠ R := fun z => by
      rw [z] at ha
      obtain ⟨f', s', n', e', _⟩ := hR
      rw [z, e'] at na
      cases na
    refine ⟨.ref R, rfl, v, rfl, R, v, S, 2, rfl, by decide, hst.mono (hR.tups k1), hG, hn1, by omega, hR1, fun H2 b ms k2 hR2 nb hb lb bb _ => ?_⟩
    have bR : b ≠ R := neR hR1 nb
    have ha2 := k2 _ _ ha aR
    have k02 := k1.trans k2
    have ab : a ≠ b := ne_of_none ha nb
    have nbH : H b = none := k1.free nb bR
    have nn0 : ∀ x ∈ ns, 0 ≤ x := fun x hx => (ba x hx).1
    have mm0 : ∀ x ∈ ms, 0 ≤ x := fun x hx => (bb x hx).1
    try dsimp only [gName]
    refine seq_of (a := tIfS _ _ _) (fun σ' H' => ∃ (y7 : Option V) (ns' : List Int), σ' = [some (.ref R), some v, some v2, some (.ref po), some (.ref pt), some (.ref a), some (.ref b), y7, none, none, none, none] ∧ H' a = some (.lst (ns'.map V.int)) ∧ ns'.length = 7 * S.length ∧ (∀ x ∈ ns', 0 ≤ x) ∧ H' b = some (.lst (ms.map V.int)) ∧ SprOk R H' ∧ Keep R H H') ?_ (fun rest hr => ?_)
    rotate_left
    · refine ⟨.ref R, rfl, R, 3, rfl, by decide, by decide, hR2, fun H3 r k3 hR3 r0 r1 => ⟨rfl, _, rfl, ite2 (fun e => ?_) (fun e => ?_)⟩⟩
      · have ha3 := k3 _ _ ha2 aR
        refine ⟨.ref R, rfl, .ref a, rfl, a, _, rfl, .inl (.inl (.inl ha3)), R, ((ns.map V.int).length : Int), rfl, by rw [List.length_map]; omega, by rw [List.length_map]; omega, hR3, fun H4 r2 k4 hR4 r20 r21 => ?_⟩
        rw [List.length_map] at r21
        obtain ⟨j, rfl⟩ : ∃ j : Nat, r2 = (j : Int) := ⟨r2.toNat, by omega⟩
        have ha4 := k4 _ _ ha3 aR
        have jl : j < ns.length := by omega
        refine ⟨.ref a, rfl, .int (j : Int), rfl, a, _, (j : Int), .int (ns.getD j 0), rfl, rfl, .inl (.inl ha4), atI_nat (getD_map jl), _, 1, rfl, rfl, ?_⟩
        refine ⟨.ref a, rfl, .int (j : Int), rfl, a, _, _, j, rfl, rfl, ha4, ixN_lt (by rw [List.length_map]; exact jl), ?_⟩
        refine hr _ _ ⟨_, ns.set j (ns.getD j 0 + 1), rfl, ?_, by rw [List.length_set, la], fun x hx => ?_, ?_, hR4.set aR.symm, keep_fill ((k02.trans k3).trans k4) na⟩
        · rw [upd_same, List.map_set]
        · rcases List.mem_or_eq_of_mem_set hx with z | z
          · exact nn0 x z
          · have : 0 ≤ ns.getD j 0 := by
              rw [List.getD_eq_getElem?_getD, List.getElem?_eq_getElem jl]
              exact nn0 _ (List.getElem_mem jl)
            omega
        · rw [upd_ne ab.symm]
          exact k4 _ _ (k3 _ _ hb bR) bR
      · exact hr _ _ ⟨none, ns, rfl, k3 _ _ ha2 aR, la, nn0, k3 _ _ hb bR, hR3, k02.trans k3⟩
    rintro σ H5 ⟨y7, ns1, rfl, ha5, la1, nn1, hb5, hR5, k5⟩
    try dsimp only [gName]
    refine seq_of (a := tIfS _ _ _) (fun σ' H' => ∃ (c : Addr) (ns' : List Int), σ' = [some (.ref R), some v, some v2, some (.ref po), some (.ref pt), some (.ref c), some (.ref b), y7, none, none, none, none] ∧ H' c = some (.lst (ns'.map V.int)) ∧ ns'.length = 7 * S.length ∧ (∀ x ∈ ns', 0 ≤ x) ∧ H' b = some (.lst (ms.map V.int)) ∧ SprOk R H' ∧ Keep R H H') ?_ (fun rest hr => ?_)
    rotate_left
    · refine ⟨.ref R, rfl, R, 3, rfl, by decide, by decide, hR5, fun H6 r k6 hR6 r0 r1 => ⟨rfl, _, rfl, ite2 (fun e => ?_) (fun e => ?_)⟩⟩
      · have ha6 := k6 _ _ ha5 aR
        have hb6 := k6 _ _ hb5 bR
        have lmin : min (ns1.map V.int).length (ms.map V.int).length = 7 * S.length := by
          rw [List.length_map, List.length_map, la1, lb, Nat.min_self]
        refine ⟨.ref a, rfl, .ref b, rfl, a, b, _, _, rfl, .inl ⟨.inl (.inl ha6), .inl (.inl hb6)⟩, fun J G Z hGZ D nD => ?_⟩
        have DR := neR hR6 nD
        refine lc_it Z.walk (fun i H3 => H3 D = some (.lst (((sumL ns1 ms).take i).map V.int)) ∧ Same H6 H3) ⟨upd_same, same_new nD⟩ (fun i H3 _ z => Z.stay _ _ (fun o e => z.2 _ _ e) (fun o e => z.2 _ _ e) hGZ) ?_ ?_
        · rintro i w H3 H4 hi ⟨h3, s3⟩ ⟨T, x, y, rfl, nT, rfl, hx, hy⟩
          rw [lmin] at hi
          have en : ns1[i]? = some ns1[i] := List.getElem?_eq_getElem (by omega)
          have em : ms[i]? = some ms[i] := List.getElem?_eq_getElem (by omega)
          have ex : V.int ns1[i] = x := by
            have hx : (ns1.map V.int)[i]? = some x := hx
            rw [List.getElem?_map, en] at hx
            exact Option.some.inj hx
          have ey : V.int ms[i] = y := by
            have hy : (ms.map V.int)[i]? = some y := hy
            rw [List.getElem?_map, em] at hy
            exact Option.some.inj hy
          subst ex ey
          have s4 : Same H3 (upd H3 T (.tup [.int ns1[i], .int ms[i]])) := same_new nT
          refine ⟨T, [.int ns1[i], .int ms[i]], rfl, .inl (.inl upd_same), rfl, .int ns1[i], [.int ms[i]], rfl, .int ms[i], [], rfl, rfl, rfl, ?_⟩
          generalize upd H3 T (.tup [.int ns1[i], .int ms[i]]) = H4 at s4 ⊢
          refine ⟨.int ns1[i], rfl, .int ms[i], rfl, ns1[i], ms[i], rfl, rfl, _, s4 _ _ h3, small1000 (by rw [List.length_map, List.length_take]; omega), ?_, same_fill (s3.trans s4) nD⟩
          have es : (sumL ns1 ms)[i]? = some (ns1[i] + ms[i]) := by
            unfold sumL
            rw [List.getElem?_zipWith, en, em]
          rw [upd_same, List.take_add_one, es, List.map_append]
          rfl
        · rintro H3 ⟨h3, s3⟩
          have ls : (sumL ns1 ms).length = 7 * S.length := by
            unfold sumL
            rw [List.length_zipWith, la1, lb, Nat.min_self]
          rw [lmin, ← ls, List.take_length] at h3
          exact hr _ _ ⟨D, _, rfl, h3, ls, sumL_nn' nn1 mm0, s3 _ _ hb6, hR6.same s3, (k5.trans k6).same s3⟩
      · exact hr _ _ ⟨a, ns1, rfl, k6 _ _ ha5 aR, la1, nn1, k6 _ _ hb5 bR, hR6, k5.trans k6⟩
    rintro σ H7 ⟨c, ns2, rfl, hc7, la2, nn2, hb7, hR7, k7⟩
    have hm7 := hnm.keep hR k7
    have st7 := hst.mono (hR.tups k7)
    have st72 := hst2.mono (hR.tups k7)
    refine ⟨.ref c, rfl, .ref po, rfl, .ref pt, rfl, c, po, pt, ns2, S.length, o, ws, ts, rfl, hc7, la2, hm7.ho, hm7.ht, hm7.p, hm7.nm, hn2, fun H8 e s8 ne he => ?_⟩
    have hm8 := hm7.keep hR7 (.of s8)
    refine ⟨.ref b, rfl, .ref po, rfl, .ref pt, rfl, b, po, pt, ms, S.length, o, ws, ts, rfl, s8 _ _ hb7, lb, hm8.ho, hm8.ht, hm8.p, hm8.nm, hn2, fun H9 g s9 ng hg => ?_⟩
    have s79 := s8.trans s9
    have hm9 := hm7.keep hR7 (.of s79)
    have hc9 := s79 _ _ hc7
    have he9 := s9 _ _ he
    have ec := called_nn (N := S.length) (ns := ns2) (o := o) (ts := ts) nn2
    have eg := called_nn (N := S.length) (ns := ms) (o := o) (ts := ts) mm0
    refine ⟨.ref c, rfl, .ref e, rfl, .ref po, rfl, .ref pt, rfl, c, e, po, pt, ns2, S.length, o, ws, ts, rfl, hc9, he9, la2, nn2, hm9.ho, hm9.ht, hm9.p, hm9.nm, hn2, fun H10 s10 => ⟨true, rfl, iteF ?_⟩⟩
    have s710 := s79.trans s10
    refine ⟨v, rfl, .ref c, rfl, fun _ => False, v, .ref c, shutD S, S, ns2, rfl, (st7.mono s710.tups).dq, norm_shut S, hG, hn1, by omega, ⟨c, rfl, .inl (s710 _ _ hc7)⟩, la2, nn2, fun H11 s11 => ?_⟩
    have s711 := s710.trans s11
    refine ⟨v2, rfl, .ref e, rfl, fun _ => False, v2, .ref e, shutD (renS S o ts), renS S o ts, calledL S.length ns2 o ts, rfl, (st72.mono s711.tups).dq, norm_shut _, hG', by omega, by omega, ⟨e, rfl, .inl ((s10.trans s11) _ _ he9)⟩, by rw [called_len, hl2], ec, fun H12 s12 => ?_⟩
    rw [fits_called hG hnm.nm]
    refine ⟨rfl, _, rfl, iteNS rfl ?_⟩
    have s712 := s711.trans s12
    refine ⟨v, rfl, .ref c, rfl, fun _ => False, v, .ref c, shutD S, S, ns2, rfl, (st7.mono s712.tups).dq, norm_shut S, hG, hn1, by omega, ⟨c, rfl, .inl (s712 _ _ hc7)⟩, la2, nn2, fun H13 s13 => ?_⟩
    have s713 := s712.trans s13
    refine ⟨v2, rfl, .ref e, rfl, fun _ => False, v2, .ref e, shutD (renS S o ts), renS S o ts, calledL S.length ns2 o ts, rfl, (st72.mono s713.tups).dq, norm_shut _, hG', by omega, by omega, ⟨e, rfl, .inl ((((s10.trans s11).trans s12).trans s13) _ _ he9)⟩, by rw [called_len, hl2], ec, fun H14 s14 => ?_⟩
    rw [surf_called hG hnm.nm]
    refine ⟨rfl, _, rfl, iteNS rfl ?_⟩
    have s714 := s713.trans s14
    refine ⟨v, rfl, .ref c, rfl, .ref b, rfl, fun _ => False, v, .ref c, .ref b, shutD S, S, ns2, ms, rfl, (st7.mono s714.tups).dq, norm_shut S, hG, hn1, by omega, ⟨c, rfl, .inl (s714 _ _ hc7)⟩, ⟨b, rfl, .inl (s714 _ _ hb7)⟩, la2, lb, nn2, mm0, fun H15 s15 => ?_⟩
    have s715 := s714.trans s15
    have s915 := ((((s10.trans s11).trans s12).trans s13).trans s14).trans s15
    refine ⟨v2, rfl, .ref e, rfl, .ref g, rfl, fun _ => False, v2, .ref e, .ref g, shutD (renS S o ts), renS S o ts, calledL S.length ns2 o ts, calledL S.length ms o ts, rfl, (st72.mono s715.tups).dq, norm_shut _, hG', by omega, by omega, ⟨e, rfl, .inl (s915 _ _ he9)⟩, ⟨g, rfl, .inl (s915 _ _ hg)⟩, by rw [called_len, hl2], by rw [called_len, hl2], ec, eg, fun H16 s16 => ?_⟩
    rw [surf_called hG hnm.nm, surf_called hG hnm.nm, sum_called (by rw [la2, lb]), surf_called hG hnm.nm]
    refine ⟨rfl, ?_⟩
    dsimp only []
    rw [decide_eq_true rfl]
    exact q _ (k7.same (s715.trans s16)) (hR7.same (s715.trans s16))
end
end Bk

namespace Bk
open PySem PySem.Spec PyProof.Rows L2 RZ
theorem shut_shaped {S : Spc} (h : Sb S) : SeqAt.shaped (shutD S) = true := by
  have go1 : ∀ b : Blk, PyData.canLayAll0 (b.map jD) = true := fun b => by
    induction b with
    | nil => rfl
    | cons j b ih =>
      simp only [List.map_cons, PyData.canLayAll0, (jD_lay j).1, Bool.true_and]
      exact ih
  have go2 : ∀ S : Spc, PyData.canLayAll0 (S.map fun b => .tuple (b.map jD)) = true := fun S => by
    induction S with
    | nil => rfl
    | cons b S ih =>
      simp only [List.map_cons, PyData.canLayAll0, PyData.canLay0, go1 b, Bool.true_and]
      exact ih
  have hd := (shut_tiny h).k
  show (PyData.canLay0 (shutD S) && decide ((shutD S).depth ≤ 64)) = true
  rw [Bool.and_eq_true]
  exact ⟨by simp only [shutD, PyData.canLay0]; exact go2 S, decide_eq_true (by omega)⟩
theorem shut_eqv {S : Spc} (h : Sb S) : PyData.eqv (shutD S) (shutD S) = true := SeqAt.eqv_refl _ (SeqAt.canLay_of_shaped (shut_shaped h))
theorem lst_norms (ts : List Trn) : norm (.list (ts.map fun t => PyData.list (t.map intD))) = trnsD ts := by
  have h : ∀ ts : List Trn, norms (ts.map fun t => PyData.list (t.map intD)) = ts.map nT := by
    intro ts
    induction ts with
    | nil => simp only [List.map_nil, norms]
    | cons t ts ih => simp only [List.map_cons, norms, ih, norm_list, nT]
  simp only [norm, h, trnsD]
/-- lists of numbers, none of them D -/
def LiN (D : Addr) (H : Hp) (v : V) (ns : List Int) : Prop := ∃ p, v = .ref p ∧ p ≠ D ∧ H p = some (.lst (ns.map V.int))
theorem LiN.keep {D : Addr} {H H' : Hp} {v : V} {ns : List Int} (h : LiN D H v ns) (k : ∀ p o, H p = some o → p ≠ D → H' p = some o) : LiN D H' v ns := by
  obtain ⟨p, e, n, h⟩ := h
  exact ⟨p, e, n, k _ _ h n⟩
theorem LiN.at {D : Addr} {H : Hp} {v : V} {ns : List Int} (h : LiN D H v ns) : LiAt H v ns := by
  obtain ⟨p, e, n, h⟩ := h
  exact ⟨p, e, h⟩
def TrN (D : Addr) (H : Hp) (v : V) (t : Trn) : Prop := ∃ p, v = .ref p ∧ p ≠ D ∧ H p = some (.lst (trnV t))
theorem TrN.keep {D : Addr} {H H' : Hp} {v : V} {t : Trn} (h : TrN D H v t) (k : ∀ p o, H p = some o → p ≠ D → H' p = some o) : TrN D H' v t := by
  obtain ⟨p, e, n, h⟩ := h
  exact ⟨p, e, n, k _ _ h n⟩
theorem trns_dqs {D : Addr} {H : Hp} {xs : List V} {ts : List Trn} (h : Paired (TrN D H) xs ts) : Dqs (fun _ => False) H xs (ts.map fun t => PyData.list (t.map intD)) := by
  induction h with
  | nil => exact .nil
  | cons x t ih =>
    obtain ⟨p, rfl, _, h⟩ := x
    exact .cons (.lst h (fun z => z) (dqs_ints _)) ih
section
variable {P : Program} {w : World} {K : PySem.W.Frag} {mg : Str → Option Value} {base : Heap}
theorem ST.dpS {H : Hp} {v : V} {S : Spc} (h : ST H v S) : Dp K H v (shutD S) := (h.dq (N := fun _ => False)).dp
theorem neSS {H : Hp} {x y : V} {S : Spc} {Q : VK} (hb : Sb S) (hx : ST H x S) (hy : ST H y S) (q : Q (.bl false) H) : rNeD K x y H Q :=
  ⟨shutD S, shutD S, hx.dpS, hy.dpS, shut_shaped hb, shut_shaped hb, by rw [shut_eqv hb]; exact q⟩
abbrev slaw : Stmt := topS 62
abbrev Nlaw : List Str := ["script", "spring", "turn", "space", "order", "turns", "twin", "again", "ones", "back", "ways", "k", "block", "tip"]
theorem sclaw : FnScope Nlaw ["script"] (defScope slaw) := ⟨rfl, rfl, rfl, by decide +kernel, rfl, by decide +kernel, by decide +kernel⟩
def spLaw (K : PySem.W.Frag) : Sp := fun vs H Q _ => ∃ (a : Addr) (ns : List Int), vs = [.ref a] ∧ SqL K H a (ns.map V.int) ∧ ns.length ≤ 63 ∧ ∀ H', Q (.bl true) H'
set_option maxHeartbeats 40000000 in
theorem ok_law {f fG fD fS fN fX fR fC fU fO : Addr} {fd fdG fdD fdS fdN fdX fdR fdC fdU fdO : FuncData} (F : Fun K "law" "law" slaw f fd)
    (F_law_spring : Fun K "_law_spring" "_law_spring" s_law_spring fG fdG) (g_law_spring : mg "_law_spring" = some (.ref fG)) (b_law_spring : Binds K fdG ["script"] []) (G_law_spring : FnOk P w K mg base CX0 1 fG fdG ["script"] (spSpring K))
    (F_law_draw : Fun K "_law_draw" "_law_draw" s_law_draw fD fdD) (g_law_draw : mg "_law_draw" = some (.ref fD)) (b_law_draw : Binds K fdD ["spring", "many"] []) (G_law_draw : FnOk P w K mg base CX0 1 fD fdD ["spring", "many"] spSDraw)
    (F_law_space : Fun K "_law_space" "_law_space" s_law_space fS fdS) (g_law_space : mg "_law_space" = some (.ref fS)) (b_law_space : Binds K fdS ["spring", "most"] []) (G_law_space : FnOk P w K mg base CX0 3 fS fdS ["spring", "most"] spSpaceS)
    (F_law_names : Fun K "_law_names" "_law_names" s_law_names fN fdN) (g_law_names : mg "_law_names" = some (.ref fN)) (b_law_names : Binds K fdN ["spring", "space"] []) (G_law_names : FnOk P w K mg base CX0 3 fN fdN ["spring", "space"] spNamesS)
    (Frenamed : Fun K "renamed" "renamed" srenamed fX fdX) (grenamed : mg "renamed" = some (.ref fX)) (brenamed : Binds K fdX ["space", "order", "turns"] []) (Grenamed : FnOk P w K mg base CX0 7 fX fdX ["space", "order", "turns"] spRenamed)
    (F_law_right : Fun K "_law_right" "_law_right" s_law_right fR fdR) (g_law_right : mg "_law_right" = some (.ref fR)) (b_law_right : Binds K fdR ["spring", "space", "twin", "order", "turns"] []) (G_law_right : FnOk P w K mg base CX0 10 fR fdR ["spring", "space", "twin", "order", "turns"] spRightR)
    (F_law_called : Fun K "_law_called" "_law_called" s_law_called fC fdC) (g_law_called : mg "_law_called" = some (.ref fC)) (b_law_called : Binds K fdC ["numbers", "order", "turns"] []) (G_law_called : FnOk P w K mg base CX0 2 fC fdC ["numbers", "order", "turns"] spCalled)
    (Fcorner_surface : Fun K "corner_surface" "corner_surface" scorner_surface fU fdU) (gcorner_surface : mg "corner_surface" = some (.ref fU)) (bcorner_surface : Binds K fdU ["space", "corner"] []) (Gcorner_surface : FnOk P w K mg base CX0 8 fU fdU ["space", "corner"] spCSurf0)
    (Fcorners_of : Fun K "corners_of" "corners_of" scorners_of fO fdO) (gcorners_of : mg "corners_of" = some (.ref fO)) (bcorners_of : Binds K fdO ["space"] []) (Gcorners_of : FnOk P w K mg base CX0 7 fO fdO ["space"] spCornersOf)
    (m_range : mg "range" = none) (m_len : mg "len" = none) (m_min : mg "min" = none) (m_list : mg "list" = none) (m_sorted : mg "sorted" = none) : FnG P w K mg base 11 f fd ["script"] (spLaw K) := by
  refine fnG_of F sclaw (fun vs H Q E h => ?_) (fun cdv A outer s H vs Q E hg hr h => ?_)
  · obtain ⟨a, ns, rfl, _⟩ := h
    rfl
  · obtain ⟨sa, ns0, rfl, hS, hlen, q⟩ := h
    have nd := sclaw.nd
    refine ⟨_, (pss_cons (ps_set (i := 1) nd rfl (.inl rfl) (pe_call G_law_spring (hr.mono (by first | decide | omega)) (by rfl) g_law_spring F_law_spring.kp b_law_spring .nil pass0 (pa_cons (pv 0) pa_nil)))
      (pss_cons (ps_for PassesOwn.never rfl (pi_range1 (by rfl) m_range (pa_cons (pe_op op_add pe_int (pe_callB (call_min2 rfl) (by rfl) m_min (by decide +kernel) (pa_cons (pe_callB (kLen K rfl) (by rfl) m_len (by decide +kernel) (pa_cons (pv 0) pa_nil)) (pa_cons pe_int pa_nil)))) pa_nil)) (pg_name (i := 2) nd rfl (.inl rfl)) (pss_cons (ps_set (i := 3) nd rfl (.inr rfl) (pe_call G_law_space (hr.mono (by first | decide | omega)) (by rfl) g_law_space F_law_space.kp b_law_space .nil pass0 (pa_cons (pv 1) (pa_cons (pe_ix (kIxL K rfl) (pe_lst (pa_cons pe_int (pa_cons pe_int pa_nil))) (pe_call G_law_draw (hr.mono (by first | decide | omega)) (by rfl) g_law_draw F_law_draw.kp b_law_draw .nil pass0 (pa_cons (pv 1) (pa_cons pe_int pa_nil))) (fun _ _ => rfl)) pa_nil))))
      (pss_cons (ps_asg (pe_call G_law_names (hr.mono (by first | decide | omega)) (by rfl) g_law_names F_law_names.kp b_law_names .nil pass0 (pa_cons (pv 1) (pa_cons (pv 3) pa_nil))) (kPgT K rfl (pg_tup (n := 2) rfl (pgs_cons (pg_name (i := 4) nd rfl (.inr rfl)) (pgs_cons (pg_name (i := 5) nd rfl (.inr rfl)) pgs_nil)))))
      (pss_cons (ps_set (i := 6) nd rfl (.inr rfl) (pe_call Grenamed (hr.mono (by first | decide | omega)) (by rfl) grenamed Frenamed.kp brenamed .nil pass0 (pa_cons (pv 3) (pa_cons (pv 4) (pa_cons (pv 5) pa_nil)))))
      (pss_cons (ps_for PassesOwn.never rfl (pi_range1 (by rfl) m_range (pa_cons pe_int pa_nil)) (pg_name (i := 7) nd rfl (.inl rfl)) (pss_one (ps_if (pt_not (pt_val (pe_call G_law_right (hr.mono (by first | decide | omega)) (by rfl) g_law_right F_law_right.kp b_law_right .nil pass0 (pa_cons (pv 1) (pa_cons (pv 3) (pa_cons (pv 6) (pa_cons (pv 4) (pa_cons (pv 5) pa_nil)))))))) (pss_one (ps_ret pe_bl)) pss_nil)))
      (pss_cons (ps_setLc (i := 8) (own := [("k", 11)]) (g := gName 11) (tt := tYes) rfl nd rfl rfl (sw_true rfl rfl rfl (by decide +kernel)) (pi_range1 (by rfl) m_range (pa_cons (pe_callB (kLen K rfl) (by rfl) m_len (by decide +kernel) (pa_cons (pe_call Gcorners_of (hr.mono (by first | decide | omega)) (by rfl) gcorners_of Fcorners_of.kp bcorners_of .nil pass0 (pa_cons (pv 3) pa_nil)) pa_nil)) pa_nil)) (blkOk_by (own := [("k", 11)]) (N := Nlaw) (sc := defScope slaw) (by decide +kernel)) (fun _ _ _ _ _ => (pg_name (i := 11) nd rfl (Or.inl rfl))) (fun _ _ _ _ _ => pts_nil) (fun _ _ _ _ _ => (pe_call G_law_called (hr.mono (by first | decide | omega)) (by rfl) g_law_called F_law_called.kp b_law_called .nil pass0 (pa_cons (pe_call Gcorner_surface (hr.mono (by first | decide | omega)) (by rfl) gcorner_surface Fcorner_surface.kp bcorner_surface .nil pass0 (pa_cons (pv 3) (pa_cons (pv 11) pa_nil))) (pa_cons (pv 4) (pa_cons (pv 5) pa_nil))))))
      (pss_cons (ps_if (pt_cmpR (kNeD K rfl hr.units) (pe_callB (kSortG (enc := encI) (At := LiAt) rfl li_at li_alike li_key li_deep (Nat.lt_of_le_of_lt (Nat.add_le_add_left (by decide) _) hr.units)) (by rfl) m_sorted (by decide +kernel) (pa_cons (pv 8) pa_nil)) (pe_callB (kSortG (enc := encI) (At := LiAt) rfl li_at li_alike li_key li_deep (Nat.lt_of_le_of_lt (Nat.add_le_add_left (by decide) _) hr.units)) (by rfl) m_sorted (by decide +kernel) (pa_cons (pe_lc (own := [("k", 11)]) (g := gName 11) (tt := tYes) rfl nd (pi_range1 (by rfl) m_range (pa_cons (pe_callB (kLen K rfl) (by rfl) m_len (by decide +kernel) (pa_cons (pe_call Gcorners_of (hr.mono (by first | decide | omega)) (by rfl) gcorners_of Fcorners_of.kp bcorners_of .nil pass0 (pa_cons (pv 6) pa_nil)) pa_nil)) pa_nil)) (blkOk_by (own := [("k", 11)]) (N := Nlaw) (sc := defScope slaw) (by decide +kernel)) (fun _ _ _ _ _ => (pg_name (i := 11) nd rfl (Or.inl rfl))) (fun _ _ _ _ _ => pts_nil) (fun _ _ _ _ _ => (pe_call Gcorner_surface (hr.mono (by first | decide | omega)) (by rfl) gcorner_surface Fcorner_surface.kp bcorner_surface .nil pass0 (pa_cons (pv 6) (pa_cons (pv 11) pa_nil))))) pa_nil)) (nomark _)) (pss_one (ps_ret pe_bl)) pss_nil)
      (pss_cons (ps_setLc (i := 9) (own := [("block", 12)]) (g := gName 12) (tt := tYes) rfl nd rfl rfl (sw_true rfl rfl rfl (by decide +kernel)) (pi_range1 (by rfl) m_range (pa_cons (pe_callB (kLen K rfl) (by rfl) m_len (by decide +kernel) (pa_cons (pv 3) pa_nil)) pa_nil)) (blkOk_by (own := [("block", 12)]) (N := Nlaw) (sc := defScope slaw) (by decide +kernel)) (fun _ _ _ _ _ => (pg_name (i := 12) nd rfl (Or.inl rfl))) (fun _ _ _ _ _ => pts_nil) (fun _ _ _ _ _ => (kBM K rfl (pe_bm PySem.F.plainAttrs_list PySem.F.slot_list_index PySem.F.type_list_index (kIndexI K rfl) (pv 4) (pa_cons (pv 12) pa_nil)))))
      (pss_cons (ps_setLc (i := 10) (own := [("k", 11)]) (g := gName 11) (tt := tYes) rfl nd rfl rfl (sw_true rfl rfl rfl (by decide +kernel)) (kPiL K rfl (pi_list (pv 9))) (blkOk_by (own := [("k", 11)]) (N := Nlaw) (sc := defScope slaw) (by decide +kernel)) (fun _ _ _ _ _ => (pg_name (i := 11) nd rfl (Or.inr rfl))) (fun _ _ _ _ _ => pts_nil) (fun _ _ _ _ _ => (pe_lc (own := [("tip", 13)]) (g := gName 13) (tt := tYes) rfl nd (pi_range1 (by rfl) m_range (pa_cons pe_int pa_nil)) (blkOk_by (own := [("tip", 13)]) (N := Nlaw) (sc := _) (by rfl)) (fun _ _ _ _ _ => (pg_name (i := 13) nd rfl (Or.inl rfl))) (fun _ _ _ _ _ => pts_nil) (fun _ _ _ _ _ => (kBM K rfl (pe_bm PySem.F.plainAttrs_list PySem.F.slot_list_index PySem.F.type_list_index (kIndexI K rfl) (pe_callTy (kList K rfl) (by rfl) m_list (by decide +kernel) (pa_cons (pe_ix (kIxL K rfl) (pv 5) (pv 11) (fun _ _ => rfl)) pa_nil)) (pa_cons (pv 13) pa_nil)))))))
      (pss_one (ps_if (pt_cmpR (kNeD K rfl hr.units) (pe_call Grenamed (hr.mono (by first | decide | omega)) (by rfl) grenamed Frenamed.kp brenamed .nil pass0 (pa_cons (pv 6) (pa_cons (pv 9) (pa_cons (pv 10) pa_nil)))) (pv 3) (nomark _)) (pss_one (ps_ret pe_bl)) pss_nil)))))))))))
      (pss_one (ps_ret pe_bl)))), ?_⟩
    refine ⟨.ref sa, rfl, sa, ns0, rfl, hS, hlen, fun H1 R s1 nR hR => ?_⟩
    have neR : ∀ {H : Hp} {p : Addr}, SprOk R H → H p = none → p ≠ R := fun {H p} ⟨f, s, n, e, _⟩ z y => by
      rw [y, e] at z
      cases z
    obtain ⟨n, hn1, hn2⟩ : ∃ n : Nat, (1 : Int) + (if (5 : Int) < ((ns0.map V.int).length : Int) then (5 : Int) else ((ns0.map V.int).length : Int)) = (n : Int) ∧ n ≤ 6 := ⟨((1 : Int) + (if (5 : Int) < ((ns0.map V.int).length : Int) then (5 : Int) else ((ns0.map V.int).length : Int))).toNat, by split <;> omega, by split <;> omega⟩
    refine ⟨.ref sa, rfl, sa, ns0.map V.int, rfl, .inl (s1.seq hS), _, _, rfl, _, _, rfl, rfl, (n : Int), congrArg (fun z => [V.int z]) hn1, by omega, by omega, ?_⟩
    refine for_range (lo := 0) (n := ((n : Int)).toNat) (fun i σ H2 => ∃ y2 y3 y4 y5 y6 y7 y8 y9 y10, σ = [some (.ref sa), some (.ref R), y2, y3, y4, y5, y6, y7, y8, y9, y10, none, none, none] ∧ SprOk R H2) ⟨none, none, none, none, none, none, none, none, none, rfl, hR⟩ ?_ ?_
    · rintro tn σ H2 htn ⟨y2, y3, y4, y5, y6, y7, y8, y9, y10, rfl, hR2⟩
      refine ⟨.ref R, rfl, Nat.le_of_lt (small1000 (by show 2 ≤ 1000; decide)), fun p np => ?_⟩
      have pR := neR hR2 np
      have hR3 : SprOk R (upd H2 p (.lst [.int 3, .int 8])) := hR2.same (same_new np)
      have h3 : (upd H2 p (.lst [.int 3, .int 8])) p = some (.lst [.int 3, .int 8]) := upd_same
      generalize upd H2 p (.lst [.int 3, .int 8]) = H3 at hR3 h3 ⊢
      refine ⟨.ref R, rfl, R, 2, rfl, by decide, by decide, hR3, fun H4 r k4 hR4 r0 r1 => ?_⟩
      obtain ⟨z, hz, z0, z1⟩ : ∃ z : Nat, atI [V.int 3, V.int 8] r = some (intV z) ∧ 1 ≤ z ∧ z ≤ 8 := by
        have : r = 0 ∨ r = 1 := by omega
        rcases this with rfl | rfl
        · exact ⟨3, rfl, by decide, by decide⟩
        · exact ⟨8, rfl, by decide, by decide⟩
      refine ⟨p, _, r, intV z, rfl, rfl, .inl (.inl (k4 _ _ h3 pR)), hz, ?_⟩
      refine ⟨R, z, rfl, z0, by omega, hR4, fun H5 v S k5 hR5 st5 hG h1 hzz => ?_⟩
      have h12 : S.length ≤ 8 := by omega
      refine ⟨.ref R, rfl, v, rfl, R, v, S, rfl, hR5, st5, h1, by omega, fun H6 pp po pt o ws ts k6 hR6 fpp nm6 => ?_⟩
      refine ⟨pp, [.ref po, .ref pt], rfl, fpp.sqt, rfl, .ref po, _, rfl, .ref pt, [], rfl, rfl, ?_⟩
      have st6 := st5.mono (hR5.tups k6)
      have hnm := nm6.nm
      have hG' := good_ren hG hnm
      have hl2 : (renS S o ts).length = S.length := renS_len _ _ _
      refine ⟨v, rfl, .ref po, rfl, .ref pt, rfl, fun _ => False, fun _ => False, fun _ => False, v, .ref po, .ref pt, shutD S, .list (o.map intD), .list (ts.map tupD), S, o, ts, rfl, st6.dq, norm_shut S, hG, h1, by omega, .lst nm6.ho (fun z => z) (dqs_ints o), norm_list o, .lst nm6.ht (fun z => z) (tats_dqs nm6.p), norm_tups ts, hnm, fun H7 v2 s7 st72 => ?_⟩
      have hR7 := hR6.same s7
      have st7 := st6.mono s7.tups
      have nm7 := nm6.keep hR6 (.of s7)
      refine ⟨3, rfl, by decide, by decide, ?_⟩
      refine for_range (lo := 0) (n := 3) (fun i σ H => ∃ y7, σ = [some (.ref sa), some (.ref R), some (.int (0 + (tn : Int))), some v, some (.ref po), some (.ref pt), some v2, y7, y8, y9, y10, none, none, none] ∧ SprOk R H ∧ Keep R H7 H) ⟨_, rfl, hR7, Keep.refl _ _⟩ ?_ ?_
      · rintro i σ H8 hi ⟨y7, rfl, hR8, k8⟩
        exact ⟨.ref R, rfl, v, rfl, v2, rfl, .ref po, rfl, .ref pt, rfl, R, v, v2, po, pt, S, o, ws, ts, rfl, hR8, st7.mono (hR7.tups k8), hG, h1, by omega, nm7.keep hR7 k8, st72.mono (hR7.tups k8), fun H9 k9 hR9 => ⟨true, rfl, iteF ⟨_, rfl, hR9, k8.trans k9⟩⟩⟩
      rintro σ H8 ⟨y7, rfl, hR8, k8⟩
      have st8 := st7.mono (hR7.tups k8)
      have st82 := st72.mono (hR7.tups k8)
      have nm8 := nm7.keep hR7 k8
      clear k4 k5 k6 k8 hR3 hR4 hR5 hR6 hR7 st5 st6 st7 st72 nm6 nm7 fpp s7 h3
      -- the corners' surfaces called otherwise
      refine ⟨v, rfl, fun _ => False, v, shutD S, S, rfl, st8.dq, norm_shut S, hG, h1, by omega, fun H9 l s9 hrows => ?_⟩
      have st9 := st8.mono s9.tups
      have nm9 := nm8.keep hR8 (.of s9)
      have lmax := crnE_len S
      have hlen9 : ∃ ps, H9 l = some (.lst ps) ∧ ps.length = (crnE S).length := by
        obtain ⟨ps, hl, nl, lps, nd, hp⟩ := hrows
        exact ⟨ps.map V.ref, hl, by rw [List.length_map]; exact plen hp⟩
      obtain ⟨ps, hl, hlen9⟩ := hlen9
      refine ⟨l, ps, rfl, .inl (.inl (.inl hl)), (((crnE S).length : Nat) : Int), congrArg (fun z : Nat => [V.int (z : Int)]) hlen9, by omega, by omega, fun D nD => ?_⟩
      refine lc_range (lo := 0) (n := (crnE S).length) (fun i H10 => ∃ xs, H10 D = some (.lst xs) ∧ Paired (LiN D H10) xs (((crnE S).take i).map fun r => calledL S.length (dueL S.length r) o ts) ∧ Same H9 H10) ⟨[], upd_same, .nil, same_new nD⟩ ?_ ?_
      · rintro i H10 hi ⟨xs, h10, p10, s10⟩
        rw [Int.zero_add]
        have hrow : (crnE S)[i]? = some (crnE S)[i] := List.getElem?_eq_getElem hi
        generalize (crnE S)[i] = row at hrow
        have st10 := st9.mono s10.tups
        refine ⟨rfl, v, rfl, .int (i : Int), rfl, fun _ => False, v, shutD S, S, i, row, rfl, st10.dq, norm_shut S, hG, h1, by omega, hrow, fun H11 c s11 nc hc => ?_⟩
        have nm11 := nm9.keep (hR8.same s9) (.of (s10.trans s11))
        refine ⟨.ref po, rfl, .ref pt, rfl, c, po, pt, dueL S.length row, S.length, o, ws, ts, rfl, hc, dueL_len _ _, nm11.ho, nm11.ht, nm11.p, hnm, by omega, fun H12 e s12 ne he => ?_⟩
        have s1012 := s11.trans s12
        have hD12 := s1012 _ _ h10
        have eD : e ≠ D := fun z => by
          rw [z, s11 _ _ h10] at ne
          cases ne
        have lx := plen p10
        rw [List.length_map, List.length_take] at lx
        refine ⟨xs, hD12, small1000 (by omega), xs ++ [.ref e], upd_same, ?_, same_fill (s10.trans s1012) nD⟩
        rw [List.take_add_one, hrow, List.map_append]
        exact papp (pmono p10 fun _ _ y => y.keep fun q o hq n => by rw [upd_ne n]; exact s1012 _ _ hq) (.cons ⟨e, rfl, eD, by rw [upd_ne eD]; exact he⟩ .nil)
      rintro H10 ⟨xs, h10, p10, s10⟩
      rw [List.take_length] at p10
      have pa10 : Paired (LiAt H10) xs ((crnE S).map fun r => calledL S.length (dueL S.length r) o ts) := pmono p10 fun _ _ y => y.at
      have hR10 := (hR8.same s9).same s10
      have st10 := st9.mono s10.tups
      have st102 := st82.mono (s9.trans s10).tups
      have nm10 := nm9.keep (hR8.same s9) (.of s10)
      -- sorted
      refine ⟨.ref D, rfl, D, xs, _, rfl, .inl (.inl h10), pa10, fun l1 ys n1 py => ?_⟩
      have s11 : Same H10 (upd H10 l1 (.lst ys)) := same_new n1
      have g11 : (upd H10 l1 (.lst ys)) l1 = some (.lst ys) := upd_same
      generalize upd H10 l1 (.lst ys) = H11 at s11 g11 ⊢
      have st112 := st102.mono s11.tups
      refine ⟨v2, rfl, fun _ => False, v2, shutD (renS S o ts), renS S o ts, rfl, st112.dq, norm_shut _, hG', by omega, by omega, fun H12 l2 s12 hrows2 => ?_⟩
      have st122 := st112.mono s12.tups
      have lmax2 := crnE_len (renS S o ts)
      rw [hl2] at lmax2
      obtain ⟨ps2, hl2', hlen12⟩ : ∃ ps, H12 l2 = some (.lst ps) ∧ ps.length = (crnE (renS S o ts)).length := by
        obtain ⟨ps, hl, nl, lps, nd, hp⟩ := hrows2
        exact ⟨ps.map V.ref, hl, by rw [List.length_map]; exact plen hp⟩
      refine ⟨l2, ps2, rfl, .inl (.inl (.inl hl2')), (((crnE (renS S o ts)).length : Nat) : Int), congrArg (fun z : Nat => [V.int (z : Int)]) hlen12, by omega, by omega, fun D2 nD2 => ?_⟩
      refine lc_range (lo := 0) (n := (crnE (renS S o ts)).length) (fun i H13 => ∃ xs, H13 D2 = some (.lst xs) ∧ Paired (LiN D2 H13) xs (((crnE (renS S o ts)).take i).map fun r => dueL S.length r) ∧ Same H12 H13) ⟨[], upd_same, .nil, same_new nD2⟩ ?_ ?_
      · rintro i H13 hi ⟨xs, h13, p13, s13⟩
        rw [Int.zero_add]
        have hrow : (crnE (renS S o ts))[i]? = some (crnE (renS S o ts))[i] := List.getElem?_eq_getElem hi
        generalize (crnE (renS S o ts))[i] = row at hrow
        refine ⟨rfl, v2, rfl, .int (i : Int), rfl, fun _ => False, v2, shutD (renS S o ts), renS S o ts, i, row, rfl, (st122.mono s13.tups).dq, norm_shut _, hG', by omega, by omega, hrow, fun H14 c s14 nc hc => ?_⟩
        rw [hl2] at hc
        have cD : c ≠ D2 := fun z => by
          rw [z, h13] at nc
          cases nc
        have lx := plen p13
        rw [List.length_map, List.length_take] at lx
        refine ⟨xs, s14 _ _ h13, small1000 (by omega), xs ++ [.ref c], upd_same, ?_, same_fill (s13.trans s14) nD2⟩
        rw [List.take_add_one, hrow, List.map_append]
        exact papp (pmono p13 fun _ _ y => y.keep fun q o hq n => by rw [upd_ne n]; exact s14 _ _ hq) (.cons ⟨c, rfl, cD, by rw [upd_ne cD]; exact hc⟩ .nil)
      rintro H13 ⟨xs2, h13, p13, s13⟩
      rw [List.take_length] at p13
      refine ⟨D2, xs2, _, rfl, .inl (.inl h13), pmono p13 (fun _ _ y => y.at), fun l3 zs n3 pz => ?_⟩
      rw [← sort_perm (rows_called hG hnm)] at pz
      have s14 : Same H13 (upd H13 l3 (.lst zs)) := same_new n3
      have g14 : (upd H13 l3 (.lst zs)) l3 = some (.lst zs) := upd_same
      generalize upd H13 l3 (.lst zs) = H14 at s14 g14 ⊢
      have mv : ∀ {H H' : Hp} {ys : List V} {bs : List (List Int)}, Same H H' → Paired (LiAt H) ys bs → Paired (LiAt H') ys bs := fun s h => pmono h fun _ _ y => y.mono fun _ _ e _ => s _ _ e
      have s1014 := ((s11.trans s12).trans s13).trans s14
      refine ⟨_, _, .lst (.inl (.inl (((s12.trans s13).trans s14) _ _ g11))) (lis_dp (mv s1014 py)), .lst (.inl (.inl g14)) (lis_dp (mv s14 pz)), lis_shaped _, lis_shaped _, _, rfl, ?_⟩
      rw [lis_eqv]
      refine iteF ?_
      have hR14 := hR10.same s1014
      have st14 := st10.mono s1014.tups
      have st142 := st102.mono s1014.tups
      have nm14 := nm10.keep hR10 (.of s1014)
      clear py pz p13 p10 pa10 h10 h13 g11 g14 hl hl2' s9 s10 s11 s12 s13 s14 s1014 nm8 nm9 nm10 st8 st82 st9 st10 st102 st112 st122 hrows hrows2 hR8 hR10
      -- back
      obtain ⟨pS, rs, rfl, fp, hbs⟩ := id st14
      have lrs := plen hbs
      have eo : trnV o = (o.map fun c : Nat => (c : Int)).map V.int := by
        rw [List.map_map]
        rfl
      refine ⟨.ref pS, rfl, pS, rs, rfl, .inr fp.sqt, ((rs.length : Nat) : Int), rfl, by omega, by omega, fun D3 nD3 => ?_⟩
      rw [lrs]
      refine lc_range (lo := 0) (n := S.length) (fun i H15 => H15 D3 = some (.lst (trnV ((placesOf S.length o).take i))) ∧ Same H14 H15) ⟨upd_same, same_new nD3⟩ ?_ ?_
      · rintro i H15 hi ⟨h15, s15⟩
        rw [Int.zero_add]
        have ho15 := s15 _ _ nm14.ho
        have hm : (i : Int) ∈ o.map fun c : Nat => (c : Int) := List.mem_map_of_mem (hnm.idx hi).1
        refine ⟨rfl, .ref po, rfl, .inl ⟨rfl, _, .inl (.inl ho15)⟩, .int (i : Int), rfl, po, o.map fun c : Nat => (c : Int), (i : Int), rfl, rfl, ?_, hm, Nat.le_of_lt (small1000 (by rw [List.length_map, hnm.lo]; omega)), ?_⟩
        · rw [← eo]
          exact .inl (.inl ho15)
        rw [idx_int]
        have lt15 : (trnV ((placesOf S.length o).take i)).length ≤ 1000 := by
          unfold trnV
          rw [List.length_map, List.length_take]
          omega
        refine ⟨_, h15, small1000 lt15, ?_, same_fill s15 nD3⟩
        rw [upd_same, List.take_add_one, places_at hi]
        unfold trnV
        rw [List.map_append]
        rfl
      rintro H15 ⟨h15, s15⟩
      have lp : (placesOf S.length o).length = S.length := by
        unfold placesOf
        rw [List.length_map, List.length_range]
      have h15 : H15 D3 = some (.lst (trnV (placesOf S.length o))) := by
        rw [List.take_of_length_le (by rw [lp]; exact Nat.le_refl _)] at h15
        exact h15
      have nm15 := nm14.keep hR14 (.of s15)
      have hR15 := hR14.same s15
      -- ways
      refine ⟨.ref D3, rfl, D3, rfl, ⟨_, .inl (.inl h15)⟩, fun D4 nD4 => ?_⟩
      refine lc_list (xs := trnV (placesOf S.length o)) (fun i H16 => ∃ xs, H16 D4 = some (.lst xs) ∧ Paired (TrN D4 H16) xs (((placesOf S.length o).take i).map fun k => back (tsAt ts k)) ∧ Same H15 H16) ⟨[], upd_same, .nil, same_new nD4⟩ ?_ ?_ ?_
      · rintro i H16 _ ⟨xs, _, _, s16⟩
        exact .inl (.inl (s16 _ _ h15))
      · rintro i x H16 hx ⟨xs, h16, p16, s16⟩
        unfold trnV at hx
        rw [List.getElem?_map] at hx
        obtain ⟨k, hk, rfl⟩ := Option.map_eq_some_iff.mp hx
        have hi : i < S.length := by rw [← lp]; exact (List.getElem?_eq_some_iff.mp hk).1
        have kl : k < S.length := by
          rw [places_at hi] at hk
          rw [← Option.some.inj hk]
          exact (hnm.idx hi).2
        obtain ⟨_, _, ht1, ht2⟩ := hnm.at kl
        have t4 := turns4 _ ht2
        refine ⟨rfl, 4, rfl, by decide, by decide, fun D5 nD5 => ?_⟩
        have n54 : D5 ≠ D4 := fun z => by
          rw [z, h16] at nD5
          cases nD5
        refine lc_range (lo := 0) (n := 4) (fun c H17 => H17 D5 = some (.lst (((List.range c).map fun c => (tsAt ts k).idxOf c).map intV)) ∧ Same H16 H17) ⟨upd_same, same_new nD5⟩ ?_ ?_
        · rintro c H17 hc ⟨h17, s17⟩
          rw [Int.zero_add]
          have nm17 := nm15.keep hR15 (.of (s16.trans s17))
          obtain ⟨w, hw, pw, rfl, fw⟩ := pget nm17.p ht1
          refine ⟨rfl, .ref pt, rfl, intV k, rfl, pt, ws, (k : Int), .ref pw, rfl, rfl, .inl (.inl nm17.ht), atI_nat hw, pw, trnV (tsAt ts k), rfl, .inr fw.sqt, fun L nL => ?_⟩
          have s18 : Same H17 (upd H17 L (.lst (trnV (tsAt ts k)))) := same_new nL
          have e1 : trnV (tsAt ts k) = ((tsAt ts k).map fun c : Nat => (c : Int)).map V.int := by
            rw [List.map_map]
            rfl
          have hm : (c : Int) ∈ (tsAt ts k).map fun c : Nat => (c : Int) := List.mem_map_of_mem (List.mem_of_getElem? (t4.2.2.2.1 c hc))
          refine ⟨.inl ⟨rfl, _, .inl (.inl upd_same)⟩, intV c, rfl, L, (tsAt ts k).map fun c : Nat => (c : Int), c, rfl, rfl, ?_, hm, Nat.le_of_lt (small1000 (by rw [List.length_map, t4.1]; decide)), ?_⟩
          · rw [← e1]
            exact .inl (.inl upd_same)
          rw [idx_int]
          have hc4 : c < 4 := hc
          refine ⟨_, s18 _ _ h17, small1000 (by rw [List.length_map, List.length_map, List.length_range]; omega), ?_, same_fill (s17.trans s18) nD5⟩
          rw [upd_same, List.range_succ, List.map_append, List.map_append]
          rfl
        · rintro H17 ⟨h17, s17⟩
          have lx := plen p16
          rw [List.length_map, List.length_take] at lx
          refine ⟨xs, s17 _ _ h16, small1000 (by omega), xs ++ [.ref D5], upd_same, ?_, same_fill (s16.trans s17) nD4⟩
          rw [List.take_add_one, hk, List.map_append]
          exact papp (pmono p16 fun _ _ y => y.keep fun q o hq n => by rw [upd_ne n]; exact s17 _ _ hq) (.cons ⟨D5, rfl, n54, by rw [upd_ne n54]; exact h17⟩ .nil)
      rintro H16 ⟨xs4, h16, p16, s16⟩
      have p16 : Paired (TrN D4 H16) xs4 ((placesOf S.length o).map fun k => back (tsAt ts k)) := by
        have e : (placesOf S.length o).take (trnV (placesOf S.length o)).length = placesOf S.length o := by
          unfold trnV
          rw [List.length_map, List.take_length]
        rw [e] at p16
        exact p16
      have st162 := st142.mono (s15.trans s16).tups
      have nb := names_back hnm
      rw [← hl2] at nb
      have hl3 := hl2
      refine ⟨v2, rfl, .ref D3, rfl, .ref D4, rfl, fun _ => False, fun _ => False, fun _ => False, v2, .ref D3, .ref D4, shutD (renS S o ts), .list ((placesOf (renS S o ts).length o).map intD), .list (((placesOf (renS S o ts).length o).map fun k => back (tsAt ts k)).map fun t => PyData.list (t.map intD)), renS S o ts, placesOf (renS S o ts).length o, (placesOf (renS S o ts).length o).map fun k => back (tsAt ts k), rfl, st162.dq, norm_shut _, hG', by omega, by omega, .lst (by rw [hl2]; exact s16 _ _ h15) (fun z => z) (dqs_ints _), norm_list _, .lst h16 (fun z => z) (by rw [hl2]; exact trns_dqs p16), lst_norms _, nb, fun H17 v3 s17 st17 => ?_⟩
      rw [hl2, ren_back hG hnm] at st17
      refine ⟨.ref pS, rfl, neSS (hG.sb (by omega)) st17 (st14.mono ((s15.trans s16).trans s17).tups) ⟨_, rfl, iteF ?_⟩⟩
      exact ⟨_, _, _, _, _, _, _, _, _, rfl, (hR15.same s16).same s17⟩
    · rintro σ H9 ⟨y2, y3, y4, y5, y6, y7, y8, y9, y10, rfl, hR9⟩
      exact q H9
end
end Bk

namespace Bk
open PySem PySem.Spec PyProof.Rows L2 RZ
theorem all_mk {l : PySem.W.OpenLaw} {w : World} {K : PySem.W.Frag} {h : Heap} {mg : Str → Option Value} {fa frows_of f_reached fis_whole fis_listed fis_below fis_order fis_turn fcontrary fspace_of f_block_of f_joining_of f_goes_both_ways frenamed f_renamed_block f_renamed_joining fmet_at fmeetings_of fcorners_of fare_numbers fare_numbers_of f_check_numbers farcs farcs_at fquad_sort ffits fis_surface fquads_agree f_sorts_of_quads fgo_together fcorner_surface fsum_of f_law_spring f_law_draw f_law_way f_law_joined f_law_space f_law_arcs f_law_joins f_law_corners f_law_heights f_law_laid f_law_bare f_law_surface f_law_names f_law_sort f_law_called f_law_arcs_right f_law_right flaw tQ xNoCorner : Addr} (X : K.In h) (G : h.Ns mainGlobals mg) (hfa : mg "law" = some (.ref fa))
    {odrows_of anrows_of od_reached an_reached odis_whole anis_whole odis_listed anis_listed odis_below anis_below odis_order anis_order odis_turn anis_turn odcontrary ancontrary odspace_of anspace_of od_block_of an_block_of od_joining_of an_joining_of od_goes_both_ways an_goes_both_ways odrenamed anrenamed od_renamed_block an_renamed_block od_renamed_joining an_renamed_joining odmet_at anmet_at odmeetings_of anmeetings_of odcorners_of ancorners_of odare_numbers anare_numbers odare_numbers_of anare_numbers_of od_check_numbers an_check_numbers odarcs anarcs odarcs_at anarcs_at odquad_sort anquad_sort odfits anfits odis_surface anis_surface odquads_agree anquads_agree od_sorts_of_quads an_sorts_of_quads odgo_together ango_together odcorner_surface ancorner_surface odsum_of ansum_of od_law_spring an_law_spring od_law_draw an_law_draw od_law_way an_law_way od_law_joined an_law_joined od_law_space an_law_space od_law_arcs an_law_arcs od_law_joins an_law_joins od_law_corners an_law_corners od_law_heights an_law_heights od_law_laid an_law_laid od_law_bare an_law_bare od_law_surface an_law_surface od_law_names an_law_names od_law_sort an_law_sort od_law_called an_law_called od_law_arcs_right an_law_arcs_right od_law_right an_law_right odlaw anlaw : Option Addr} {slrows_of sl_reached slis_whole slis_listed slis_below slis_order slis_turn slcontrary slspace_of sl_block_of sl_joining_of sl_goes_both_ways slrenamed sl_renamed_block sl_renamed_joining slmet_at slmeetings_of slcorners_of slare_numbers slare_numbers_of sl_check_numbers slarcs slarcs_at slquad_sort slfits slis_surface slquads_agree sl_sorts_of_quads slgo_together slcorner_surface slsum_of sl_law_spring sl_law_draw sl_law_way sl_law_joined sl_law_space sl_law_arcs sl_law_joins sl_law_corners sl_law_heights sl_law_laid sl_law_bare sl_law_surface sl_law_names sl_law_sort sl_law_called sl_law_arcs_right sl_law_right sllaw : Array (Option Value)} {ocrows_of kVrows_of dcrows_of pmrows_of cdrows_of ctrows_of oc_reached kV_reached dc_reached pm_reached cd_reached ct_reached ocis_whole kVis_whole dcis_whole pmis_whole cdis_whole ctis_whole ocis_listed kVis_listed dcis_listed pmis_listed cdis_listed ctis_listed ocis_below kVis_below dcis_below pmis_below cdis_below ctis_below ocis_order kVis_order dcis_order pmis_order cdis_order ctis_order ocis_turn kVis_turn dcis_turn pmis_turn cdis_turn ctis_turn occontrary kVcontrary dccontrary pmcontrary cdcontrary ctcontrary ocspace_of kVspace_of dcspace_of pmspace_of cdspace_of ctspace_of oc_block_of kV_block_of dc_block_of pm_block_of cd_block_of ct_block_of oc_joining_of kV_joining_of dc_joining_of pm_joining_of cd_joining_of ct_joining_of oc_goes_both_ways kV_goes_both_ways dc_goes_both_ways pm_goes_both_ways cd_goes_both_ways ct_goes_both_ways ocrenamed kVrenamed dcrenamed pmrenamed cdrenamed ctrenamed oc_renamed_block kV_renamed_block dc_renamed_block pm_renamed_block cd_renamed_block ct_renamed_block oc_renamed_joining kV_renamed_joining dc_renamed_joining pm_renamed_joining cd_renamed_joining ct_renamed_joining ocmet_at kVmet_at dcmet_at pmmet_at cdmet_at ctmet_at ocmeetings_of kVmeetings_of dcmeetings_of pmmeetings_of cdmeetings_of ctmeetings_of occorners_of kVcorners_of dccorners_of pmcorners_of cdcorners_of ctcorners_of ocare_numbers kVare_numbers dcare_numbers pmare_numbers cdare_numbers ctare_numbers ocare_numbers_of kVare_numbers_of dcare_numbers_of pmare_numbers_of cdare_numbers_of ctare_numbers_of oc_check_numbers kV_check_numbers dc_check_numbers pm_check_numbers cd_check_numbers ct_check_numbers ocarcs kVarcs dcarcs pmarcs cdarcs ctarcs ocarcs_at kVarcs_at dcarcs_at pmarcs_at cdarcs_at ctarcs_at ocquad_sort kVquad_sort dcquad_sort pmquad_sort cdquad_sort ctquad_sort ocfits kVfits dcfits pmfits cdfits ctfits ocis_surface kVis_surface dcis_surface pmis_surface cdis_surface ctis_surface ocquads_agree kVquads_agree dcquads_agree pmquads_agree cdquads_agree ctquads_agree oc_sorts_of_quads kV_sorts_of_quads dc_sorts_of_quads pm_sorts_of_quads cd_sorts_of_quads ct_sorts_of_quads ocgo_together kVgo_together dcgo_together pmgo_together cdgo_together ctgo_together occorner_surface kVcorner_surface dccorner_surface pmcorner_surface cdcorner_surface ctcorner_surface ocsum_of kVsum_of dcsum_of pmsum_of cdsum_of ctsum_of oc_law_spring kV_law_spring dc_law_spring pm_law_spring cd_law_spring ct_law_spring oc_law_draw kV_law_draw dc_law_draw pm_law_draw cd_law_draw ct_law_draw oc_law_way kV_law_way dc_law_way pm_law_way cd_law_way ct_law_way oc_law_joined kV_law_joined dc_law_joined pm_law_joined cd_law_joined ct_law_joined oc_law_space kV_law_space dc_law_space pm_law_space cd_law_space ct_law_space oc_law_arcs kV_law_arcs dc_law_arcs pm_law_arcs cd_law_arcs ct_law_arcs oc_law_joins kV_law_joins dc_law_joins pm_law_joins cd_law_joins ct_law_joins oc_law_corners kV_law_corners dc_law_corners pm_law_corners cd_law_corners ct_law_corners oc_law_heights kV_law_heights dc_law_heights pm_law_heights cd_law_heights ct_law_heights oc_law_laid kV_law_laid dc_law_laid pm_law_laid cd_law_laid ct_law_laid oc_law_bare kV_law_bare dc_law_bare pm_law_bare cd_law_bare ct_law_bare oc_law_surface kV_law_surface dc_law_surface pm_law_surface cd_law_surface ct_law_surface oc_law_names kV_law_names dc_law_names pm_law_names cd_law_names ct_law_names oc_law_sort kV_law_sort dc_law_sort pm_law_sort cd_law_sort ct_law_sort oc_law_called kV_law_called dc_law_called pm_law_called cd_law_called ct_law_called oc_law_arcs_right kV_law_arcs_right dc_law_arcs_right pm_law_arcs_right cd_law_arcs_right ct_law_arcs_right oc_law_right kV_law_right dc_law_right pm_law_right cd_law_right ct_law_right oclaw kVlaw dclaw pmlaw cdlaw ctlaw : Value}
    {tSORTS : Tok}
    (arows_of : PySem.W.nsIn K mainGlobals "rows_of" = some (some (.ref frows_of))) (lrows_of : K.lookup frows_of = some ⟨ocrows_of, odrows_of, .func (PySem.W.fnOf "rows_of" "rows_of" (defArgs srows_of) (defBody srows_of) (defScope srows_of) .none kVrows_of dcrows_of pmrows_of anrows_of cdrows_of ctrows_of), slrows_of⟩) (crows_of : PySem.W.codeIn K cdrows_of "rows_of" = true) (krows_of : PySem.W.keepIn K (.ref frows_of) = true)
    (a_reached : PySem.W.nsIn K mainGlobals "_reached" = some (some (.ref f_reached))) (l_reached : K.lookup f_reached = some ⟨oc_reached, od_reached, .func (PySem.W.fnOf "_reached" "_reached" (defArgs s_reached) (defBody s_reached) (defScope s_reached) .none kV_reached dc_reached pm_reached an_reached cd_reached ct_reached), sl_reached⟩) (c_reached : PySem.W.codeIn K cd_reached "_reached" = true) (k_reached : PySem.W.keepIn K (.ref f_reached) = true)
    (ais_whole : PySem.W.nsIn K mainGlobals "is_whole" = some (some (.ref fis_whole))) (lis_whole : K.lookup fis_whole = some ⟨ocis_whole, odis_whole, .func (PySem.W.fnOf "is_whole" "is_whole" (defArgs sis_whole) (defBody sis_whole) (defScope sis_whole) .none kVis_whole dcis_whole pmis_whole anis_whole cdis_whole ctis_whole), slis_whole⟩) (cis_whole : PySem.W.codeIn K cdis_whole "is_whole" = true) (kis_whole : PySem.W.keepIn K (.ref fis_whole) = true)
    (ais_listed : PySem.W.nsIn K mainGlobals "is_listed" = some (some (.ref fis_listed))) (lis_listed : K.lookup fis_listed = some ⟨ocis_listed, odis_listed, .func (PySem.W.fnOf "is_listed" "is_listed" (defArgs sis_listed) (defBody sis_listed) (defScope sis_listed) .none kVis_listed dcis_listed pmis_listed anis_listed cdis_listed ctis_listed), slis_listed⟩) (cis_listed : PySem.W.codeIn K cdis_listed "is_listed" = true) (kis_listed : PySem.W.keepIn K (.ref fis_listed) = true)
    (ais_below : PySem.W.nsIn K mainGlobals "is_below" = some (some (.ref fis_below))) (lis_below : K.lookup fis_below = some ⟨ocis_below, odis_below, .func (PySem.W.fnOf "is_below" "is_below" (defArgs sis_below) (defBody sis_below) (defScope sis_below) .none kVis_below dcis_below pmis_below anis_below cdis_below ctis_below), slis_below⟩) (cis_below : PySem.W.codeIn K cdis_below "is_below" = true) (kis_below : PySem.W.keepIn K (.ref fis_below) = true)
    (ais_order : PySem.W.nsIn K mainGlobals "is_order" = some (some (.ref fis_order))) (lis_order : K.lookup fis_order = some ⟨ocis_order, odis_order, .func (PySem.W.fnOf "is_order" "is_order" (defArgs sis_order) (defBody sis_order) (defScope sis_order) .none kVis_order dcis_order pmis_order anis_order cdis_order ctis_order), slis_order⟩) (cis_order : PySem.W.codeIn K cdis_order "is_order" = true) (kis_order : PySem.W.keepIn K (.ref fis_order) = true)
    (ais_turn : PySem.W.nsIn K mainGlobals "is_turn" = some (some (.ref fis_turn))) (lis_turn : K.lookup fis_turn = some ⟨ocis_turn, odis_turn, .func (PySem.W.fnOf "is_turn" "is_turn" (defArgs sis_turn) (defBody sis_turn) (defScope sis_turn) .none kVis_turn dcis_turn pmis_turn anis_turn cdis_turn ctis_turn), slis_turn⟩) (cis_turn : PySem.W.codeIn K cdis_turn "is_turn" = true) (kis_turn : PySem.W.keepIn K (.ref fis_turn) = true)
    (acontrary : PySem.W.nsIn K mainGlobals "contrary" = some (some (.ref fcontrary))) (lcontrary : K.lookup fcontrary = some ⟨occontrary, odcontrary, .func (PySem.W.fnOf "contrary" "contrary" (defArgs scontrary) (defBody scontrary) (defScope scontrary) .none kVcontrary dccontrary pmcontrary ancontrary cdcontrary ctcontrary), slcontrary⟩) (ccontrary : PySem.W.codeIn K cdcontrary "contrary" = true) (kcontrary : PySem.W.keepIn K (.ref fcontrary) = true)
    (aspace_of : PySem.W.nsIn K mainGlobals "space_of" = some (some (.ref fspace_of))) (lspace_of : K.lookup fspace_of = some ⟨ocspace_of, odspace_of, .func (PySem.W.fnOf "space_of" "space_of" (defArgs sspace_of) (defBody sspace_of) (defScope sspace_of) .none kVspace_of dcspace_of pmspace_of anspace_of cdspace_of ctspace_of), slspace_of⟩) (cspace_of : PySem.W.codeIn K cdspace_of "space_of" = true) (kspace_of : PySem.W.keepIn K (.ref fspace_of) = true)
    (a_block_of : PySem.W.nsIn K mainGlobals "_block_of" = some (some (.ref f_block_of))) (l_block_of : K.lookup f_block_of = some ⟨oc_block_of, od_block_of, .func (PySem.W.fnOf "_block_of" "_block_of" (defArgs s_block_of) (defBody s_block_of) (defScope s_block_of) .none kV_block_of dc_block_of pm_block_of an_block_of cd_block_of ct_block_of), sl_block_of⟩) (c_block_of : PySem.W.codeIn K cd_block_of "_block_of" = true) (k_block_of : PySem.W.keepIn K (.ref f_block_of) = true)
    (a_joining_of : PySem.W.nsIn K mainGlobals "_joining_of" = some (some (.ref f_joining_of))) (l_joining_of : K.lookup f_joining_of = some ⟨oc_joining_of, od_joining_of, .func (PySem.W.fnOf "_joining_of" "_joining_of" (defArgs s_joining_of) (defBody s_joining_of) (defScope s_joining_of) .none kV_joining_of dc_joining_of pm_joining_of an_joining_of cd_joining_of ct_joining_of), sl_joining_of⟩) (c_joining_of : PySem.W.codeIn K cd_joining_of "_joining_of" = true) (k_joining_of : PySem.W.keepIn K (.ref f_joining_of) = true)
    (a_goes_both_ways : PySem.W.nsIn K mainGlobals "_goes_both_ways" = some (some (.ref f_goes_both_ways))) (l_goes_both_ways : K.lookup f_goes_both_ways = some ⟨oc_goes_both_ways, od_goes_both_ways, .func (PySem.W.fnOf "_goes_both_ways" "_goes_both_ways" (defArgs s_goes_both_ways) (defBody s_goes_both_ways) (defScope s_goes_both_ways) .none kV_goes_both_ways dc_goes_both_ways pm_goes_both_ways an_goes_both_ways cd_goes_both_ways ct_goes_both_ways), sl_goes_both_ways⟩) (c_goes_both_ways : PySem.W.codeIn K cd_goes_both_ways "_goes_both_ways" = true) (k_goes_both_ways : PySem.W.keepIn K (.ref f_goes_both_ways) = true)
    (arenamed : PySem.W.nsIn K mainGlobals "renamed" = some (some (.ref frenamed))) (lrenamed : K.lookup frenamed = some ⟨ocrenamed, odrenamed, .func (PySem.W.fnOf "renamed" "renamed" (defArgs srenamed) (defBody srenamed) (defScope srenamed) .none kVrenamed dcrenamed pmrenamed anrenamed cdrenamed ctrenamed), slrenamed⟩) (crenamed : PySem.W.codeIn K cdrenamed "renamed" = true) (krenamed : PySem.W.keepIn K (.ref frenamed) = true)
    (a_renamed_block : PySem.W.nsIn K mainGlobals "_renamed_block" = some (some (.ref f_renamed_block))) (l_renamed_block : K.lookup f_renamed_block = some ⟨oc_renamed_block, od_renamed_block, .func (PySem.W.fnOf "_renamed_block" "_renamed_block" (defArgs s_renamed_block) (defBody s_renamed_block) (defScope s_renamed_block) .none kV_renamed_block dc_renamed_block pm_renamed_block an_renamed_block cd_renamed_block ct_renamed_block), sl_renamed_block⟩) (c_renamed_block : PySem.W.codeIn K cd_renamed_block "_renamed_block" = true) (k_renamed_block : PySem.W.keepIn K (.ref f_renamed_block) = true)
    (a_renamed_joining : PySem.W.nsIn K mainGlobals "_renamed_joining" = some (some (.ref f_renamed_joining))) (l_renamed_joining : K.lookup f_renamed_joining = some ⟨oc_renamed_joining, od_renamed_joining, .func (PySem.W.fnOf "_renamed_joining" "_renamed_joining" (defArgs s_renamed_joining) (defBody s_renamed_joining) (defScope s_renamed_joining) .none kV_renamed_joining dc_renamed_joining pm_renamed_joining an_renamed_joining cd_renamed_joining ct_renamed_joining), sl_renamed_joining⟩) (c_renamed_joining : PySem.W.codeIn K cd_renamed_joining "_renamed_joining" = true) (k_renamed_joining : PySem.W.keepIn K (.ref f_renamed_joining) = true)
    (amet_at : PySem.W.nsIn K mainGlobals "met_at" = some (some (.ref fmet_at))) (lmet_at : K.lookup fmet_at = some ⟨ocmet_at, odmet_at, .func (PySem.W.fnOf "met_at" "met_at" (defArgs smet_at) (defBody smet_at) (defScope smet_at) .none kVmet_at dcmet_at pmmet_at anmet_at cdmet_at ctmet_at), slmet_at⟩) (cmet_at : PySem.W.codeIn K cdmet_at "met_at" = true) (kmet_at : PySem.W.keepIn K (.ref fmet_at) = true)
    (ameetings_of : PySem.W.nsIn K mainGlobals "meetings_of" = some (some (.ref fmeetings_of))) (lmeetings_of : K.lookup fmeetings_of = some ⟨ocmeetings_of, odmeetings_of, .func (PySem.W.fnOf "meetings_of" "meetings_of" (defArgs smeetings_of) (defBody smeetings_of) (defScope smeetings_of) .none kVmeetings_of dcmeetings_of pmmeetings_of anmeetings_of cdmeetings_of ctmeetings_of), slmeetings_of⟩) (cmeetings_of : PySem.W.codeIn K cdmeetings_of "meetings_of" = true) (kmeetings_of : PySem.W.keepIn K (.ref fmeetings_of) = true)
    (acorners_of : PySem.W.nsIn K mainGlobals "corners_of" = some (some (.ref fcorners_of))) (lcorners_of : K.lookup fcorners_of = some ⟨occorners_of, odcorners_of, .func (PySem.W.fnOf "corners_of" "corners_of" (defArgs scorners_of) (defBody scorners_of) (defScope scorners_of) .none kVcorners_of dccorners_of pmcorners_of ancorners_of cdcorners_of ctcorners_of), slcorners_of⟩) (ccorners_of : PySem.W.codeIn K cdcorners_of "corners_of" = true) (kcorners_of : PySem.W.keepIn K (.ref fcorners_of) = true)
    (aare_numbers : PySem.W.nsIn K mainGlobals "are_numbers" = some (some (.ref fare_numbers))) (lare_numbers : K.lookup fare_numbers = some ⟨ocare_numbers, odare_numbers, .func (PySem.W.fnOf "are_numbers" "are_numbers" (defArgs sare_numbers) (defBody sare_numbers) (defScope sare_numbers) .none kVare_numbers dcare_numbers pmare_numbers anare_numbers cdare_numbers ctare_numbers), slare_numbers⟩) (care_numbers : PySem.W.codeIn K cdare_numbers "are_numbers" = true) (kare_numbers : PySem.W.keepIn K (.ref fare_numbers) = true)
    (aare_numbers_of : PySem.W.nsIn K mainGlobals "are_numbers_of" = some (some (.ref fare_numbers_of))) (lare_numbers_of : K.lookup fare_numbers_of = some ⟨ocare_numbers_of, odare_numbers_of, .func (PySem.W.fnOf "are_numbers_of" "are_numbers_of" (defArgs sare_numbers_of) (defBody sare_numbers_of) (defScope sare_numbers_of) .none kVare_numbers_of dcare_numbers_of pmare_numbers_of anare_numbers_of cdare_numbers_of ctare_numbers_of), slare_numbers_of⟩) (care_numbers_of : PySem.W.codeIn K cdare_numbers_of "are_numbers_of" = true) (kare_numbers_of : PySem.W.keepIn K (.ref fare_numbers_of) = true)
    (a_check_numbers : PySem.W.nsIn K mainGlobals "_check_numbers" = some (some (.ref f_check_numbers))) (l_check_numbers : K.lookup f_check_numbers = some ⟨oc_check_numbers, od_check_numbers, .func (PySem.W.fnOf "_check_numbers" "_check_numbers" (defArgs s_check_numbers) (defBody s_check_numbers) (defScope s_check_numbers) .none kV_check_numbers dc_check_numbers pm_check_numbers an_check_numbers cd_check_numbers ct_check_numbers), sl_check_numbers⟩) (c_check_numbers : PySem.W.codeIn K cd_check_numbers "_check_numbers" = true) (k_check_numbers : PySem.W.keepIn K (.ref f_check_numbers) = true)
    (aarcs : PySem.W.nsIn K mainGlobals "arcs" = some (some (.ref farcs))) (larcs : K.lookup farcs = some ⟨ocarcs, odarcs, .func (PySem.W.fnOf "arcs" "arcs" (defArgs sarcs) (defBody sarcs) (defScope sarcs) .none kVarcs dcarcs pmarcs anarcs cdarcs ctarcs), slarcs⟩) (carcs : PySem.W.codeIn K cdarcs "arcs" = true) (karcs : PySem.W.keepIn K (.ref farcs) = true)
    (aarcs_at : PySem.W.nsIn K mainGlobals "arcs_at" = some (some (.ref farcs_at))) (larcs_at : K.lookup farcs_at = some ⟨ocarcs_at, odarcs_at, .func (PySem.W.fnOf "arcs_at" "arcs_at" (defArgs sarcs_at) (defBody sarcs_at) (defScope sarcs_at) .none kVarcs_at dcarcs_at pmarcs_at anarcs_at cdarcs_at ctarcs_at), slarcs_at⟩) (carcs_at : PySem.W.codeIn K cdarcs_at "arcs_at" = true) (karcs_at : PySem.W.keepIn K (.ref farcs_at) = true)
    (aquad_sort : PySem.W.nsIn K mainGlobals "quad_sort" = some (some (.ref fquad_sort))) (lquad_sort : K.lookup fquad_sort = some ⟨ocquad_sort, odquad_sort, .func (PySem.W.fnOf "quad_sort" "quad_sort" (defArgs squad_sort) (defBody squad_sort) (defScope squad_sort) .none kVquad_sort dcquad_sort pmquad_sort anquad_sort cdquad_sort ctquad_sort), slquad_sort⟩) (cquad_sort : PySem.W.codeIn K cdquad_sort "quad_sort" = true) (kquad_sort : PySem.W.keepIn K (.ref fquad_sort) = true)
    (afits : PySem.W.nsIn K mainGlobals "fits" = some (some (.ref ffits))) (lfits : K.lookup ffits = some ⟨ocfits, odfits, .func (PySem.W.fnOf "fits" "fits" (defArgs sfits) (defBody sfits) (defScope sfits) .none kVfits dcfits pmfits anfits cdfits ctfits), slfits⟩) (cfits : PySem.W.codeIn K cdfits "fits" = true) (kfits : PySem.W.keepIn K (.ref ffits) = true)
    (ais_surface : PySem.W.nsIn K mainGlobals "is_surface" = some (some (.ref fis_surface))) (lis_surface : K.lookup fis_surface = some ⟨ocis_surface, odis_surface, .func (PySem.W.fnOf "is_surface" "is_surface" (defArgs sis_surface) (defBody sis_surface) (defScope sis_surface) .none kVis_surface dcis_surface pmis_surface anis_surface cdis_surface ctis_surface), slis_surface⟩) (cis_surface : PySem.W.codeIn K cdis_surface "is_surface" = true) (kis_surface : PySem.W.keepIn K (.ref fis_surface) = true)
    (aquads_agree : PySem.W.nsIn K mainGlobals "quads_agree" = some (some (.ref fquads_agree))) (lquads_agree : K.lookup fquads_agree = some ⟨ocquads_agree, odquads_agree, .func (PySem.W.fnOf "quads_agree" "quads_agree" (defArgs squads_agree) (defBody squads_agree) (defScope squads_agree) .none kVquads_agree dcquads_agree pmquads_agree anquads_agree cdquads_agree ctquads_agree), slquads_agree⟩) (cquads_agree : PySem.W.codeIn K cdquads_agree "quads_agree" = true) (kquads_agree : PySem.W.keepIn K (.ref fquads_agree) = true)
    (a_sorts_of_quads : PySem.W.nsIn K mainGlobals "_sorts_of_quads" = some (some (.ref f_sorts_of_quads))) (l_sorts_of_quads : K.lookup f_sorts_of_quads = some ⟨oc_sorts_of_quads, od_sorts_of_quads, .func (PySem.W.fnOf "_sorts_of_quads" "_sorts_of_quads" (defArgs s_sorts_of_quads) (defBody s_sorts_of_quads) (defScope s_sorts_of_quads) .none kV_sorts_of_quads dc_sorts_of_quads pm_sorts_of_quads an_sorts_of_quads cd_sorts_of_quads ct_sorts_of_quads), sl_sorts_of_quads⟩) (c_sorts_of_quads : PySem.W.codeIn K cd_sorts_of_quads "_sorts_of_quads" = true) (k_sorts_of_quads : PySem.W.keepIn K (.ref f_sorts_of_quads) = true)
    (ago_together : PySem.W.nsIn K mainGlobals "go_together" = some (some (.ref fgo_together))) (lgo_together : K.lookup fgo_together = some ⟨ocgo_together, odgo_together, .func (PySem.W.fnOf "go_together" "go_together" (defArgs sgo_together) (defBody sgo_together) (defScope sgo_together) .none kVgo_together dcgo_together pmgo_together ango_together cdgo_together ctgo_together), slgo_together⟩) (cgo_together : PySem.W.codeIn K cdgo_together "go_together" = true) (kgo_together : PySem.W.keepIn K (.ref fgo_together) = true)
    (acorner_surface : PySem.W.nsIn K mainGlobals "corner_surface" = some (some (.ref fcorner_surface))) (lcorner_surface : K.lookup fcorner_surface = some ⟨occorner_surface, odcorner_surface, .func (PySem.W.fnOf "corner_surface" "corner_surface" (defArgs scorner_surface) (defBody scorner_surface) (defScope scorner_surface) .none kVcorner_surface dccorner_surface pmcorner_surface ancorner_surface cdcorner_surface ctcorner_surface), slcorner_surface⟩) (ccorner_surface : PySem.W.codeIn K cdcorner_surface "corner_surface" = true) (kcorner_surface : PySem.W.keepIn K (.ref fcorner_surface) = true)
    (asum_of : PySem.W.nsIn K mainGlobals "sum_of" = some (some (.ref fsum_of))) (lsum_of : K.lookup fsum_of = some ⟨ocsum_of, odsum_of, .func (PySem.W.fnOf "sum_of" "sum_of" (defArgs ssum_of) (defBody ssum_of) (defScope ssum_of) .none kVsum_of dcsum_of pmsum_of ansum_of cdsum_of ctsum_of), slsum_of⟩) (csum_of : PySem.W.codeIn K cdsum_of "sum_of" = true) (ksum_of : PySem.W.keepIn K (.ref fsum_of) = true)
    (a_law_spring : PySem.W.nsIn K mainGlobals "_law_spring" = some (some (.ref f_law_spring))) (l_law_spring : K.lookup f_law_spring = some ⟨oc_law_spring, od_law_spring, .func (PySem.W.fnOf "_law_spring" "_law_spring" (defArgs s_law_spring) (defBody s_law_spring) (defScope s_law_spring) .none kV_law_spring dc_law_spring pm_law_spring an_law_spring cd_law_spring ct_law_spring), sl_law_spring⟩) (c_law_spring : PySem.W.codeIn K cd_law_spring "_law_spring" = true) (k_law_spring : PySem.W.keepIn K (.ref f_law_spring) = true)
    (a_law_draw : PySem.W.nsIn K mainGlobals "_law_draw" = some (some (.ref f_law_draw))) (l_law_draw : K.lookup f_law_draw = some ⟨oc_law_draw, od_law_draw, .func (PySem.W.fnOf "_law_draw" "_law_draw" (defArgs s_law_draw) (defBody s_law_draw) (defScope s_law_draw) .none kV_law_draw dc_law_draw pm_law_draw an_law_draw cd_law_draw ct_law_draw), sl_law_draw⟩) (c_law_draw : PySem.W.codeIn K cd_law_draw "_law_draw" = true) (k_law_draw : PySem.W.keepIn K (.ref f_law_draw) = true)
    (a_law_way : PySem.W.nsIn K mainGlobals "_law_way" = some (some (.ref f_law_way))) (l_law_way : K.lookup f_law_way = some ⟨oc_law_way, od_law_way, .func (PySem.W.fnOf "_law_way" "_law_way" (defArgs s_law_way) (defBody s_law_way) (defScope s_law_way) .none kV_law_way dc_law_way pm_law_way an_law_way cd_law_way ct_law_way), sl_law_way⟩) (c_law_way : PySem.W.codeIn K cd_law_way "_law_way" = true) (k_law_way : PySem.W.keepIn K (.ref f_law_way) = true)
    (a_law_joined : PySem.W.nsIn K mainGlobals "_law_joined" = some (some (.ref f_law_joined))) (l_law_joined : K.lookup f_law_joined = some ⟨oc_law_joined, od_law_joined, .func (PySem.W.fnOf "_law_joined" "_law_joined" (defArgs s_law_joined) (defBody s_law_joined) (defScope s_law_joined) .none kV_law_joined dc_law_joined pm_law_joined an_law_joined cd_law_joined ct_law_joined), sl_law_joined⟩) (c_law_joined : PySem.W.codeIn K cd_law_joined "_law_joined" = true) (k_law_joined : PySem.W.keepIn K (.ref f_law_joined) = true)
    (a_law_space : PySem.W.nsIn K mainGlobals "_law_space" = some (some (.ref f_law_space))) (l_law_space : K.lookup f_law_space = some ⟨oc_law_space, od_law_space, .func (PySem.W.fnOf "_law_space" "_law_space" (defArgs s_law_space) (defBody s_law_space) (defScope s_law_space) .none kV_law_space dc_law_space pm_law_space an_law_space cd_law_space ct_law_space), sl_law_space⟩) (c_law_space : PySem.W.codeIn K cd_law_space "_law_space" = true) (k_law_space : PySem.W.keepIn K (.ref f_law_space) = true)
    (a_law_arcs : PySem.W.nsIn K mainGlobals "_law_arcs" = some (some (.ref f_law_arcs))) (l_law_arcs : K.lookup f_law_arcs = some ⟨oc_law_arcs, od_law_arcs, .func (PySem.W.fnOf "_law_arcs" "_law_arcs" (defArgs s_law_arcs) (defBody s_law_arcs) (defScope s_law_arcs) .none kV_law_arcs dc_law_arcs pm_law_arcs an_law_arcs cd_law_arcs ct_law_arcs), sl_law_arcs⟩) (c_law_arcs : PySem.W.codeIn K cd_law_arcs "_law_arcs" = true) (k_law_arcs : PySem.W.keepIn K (.ref f_law_arcs) = true)
    (a_law_joins : PySem.W.nsIn K mainGlobals "_law_joins" = some (some (.ref f_law_joins))) (l_law_joins : K.lookup f_law_joins = some ⟨oc_law_joins, od_law_joins, .func (PySem.W.fnOf "_law_joins" "_law_joins" (defArgs s_law_joins) (defBody s_law_joins) (defScope s_law_joins) .none kV_law_joins dc_law_joins pm_law_joins an_law_joins cd_law_joins ct_law_joins), sl_law_joins⟩) (c_law_joins : PySem.W.codeIn K cd_law_joins "_law_joins" = true) (k_law_joins : PySem.W.keepIn K (.ref f_law_joins) = true)
    (a_law_corners : PySem.W.nsIn K mainGlobals "_law_corners" = some (some (.ref f_law_corners))) (l_law_corners : K.lookup f_law_corners = some ⟨oc_law_corners, od_law_corners, .func (PySem.W.fnOf "_law_corners" "_law_corners" (defArgs s_law_corners) (defBody s_law_corners) (defScope s_law_corners) .none kV_law_corners dc_law_corners pm_law_corners an_law_corners cd_law_corners ct_law_corners), sl_law_corners⟩) (c_law_corners : PySem.W.codeIn K cd_law_corners "_law_corners" = true) (k_law_corners : PySem.W.keepIn K (.ref f_law_corners) = true)
    (a_law_heights : PySem.W.nsIn K mainGlobals "_law_heights" = some (some (.ref f_law_heights))) (l_law_heights : K.lookup f_law_heights = some ⟨oc_law_heights, od_law_heights, .func (PySem.W.fnOf "_law_heights" "_law_heights" (defArgs s_law_heights) (defBody s_law_heights) (defScope s_law_heights) .none kV_law_heights dc_law_heights pm_law_heights an_law_heights cd_law_heights ct_law_heights), sl_law_heights⟩) (c_law_heights : PySem.W.codeIn K cd_law_heights "_law_heights" = true) (k_law_heights : PySem.W.keepIn K (.ref f_law_heights) = true)
    (a_law_laid : PySem.W.nsIn K mainGlobals "_law_laid" = some (some (.ref f_law_laid))) (l_law_laid : K.lookup f_law_laid = some ⟨oc_law_laid, od_law_laid, .func (PySem.W.fnOf "_law_laid" "_law_laid" (defArgs s_law_laid) (defBody s_law_laid) (defScope s_law_laid) .none kV_law_laid dc_law_laid pm_law_laid an_law_laid cd_law_laid ct_law_laid), sl_law_laid⟩) (c_law_laid : PySem.W.codeIn K cd_law_laid "_law_laid" = true) (k_law_laid : PySem.W.keepIn K (.ref f_law_laid) = true)
    (a_law_bare : PySem.W.nsIn K mainGlobals "_law_bare" = some (some (.ref f_law_bare))) (l_law_bare : K.lookup f_law_bare = some ⟨oc_law_bare, od_law_bare, .func (PySem.W.fnOf "_law_bare" "_law_bare" (defArgs s_law_bare) (defBody s_law_bare) (defScope s_law_bare) .none kV_law_bare dc_law_bare pm_law_bare an_law_bare cd_law_bare ct_law_bare), sl_law_bare⟩) (c_law_bare : PySem.W.codeIn K cd_law_bare "_law_bare" = true) (k_law_bare : PySem.W.keepIn K (.ref f_law_bare) = true)
    (a_law_surface : PySem.W.nsIn K mainGlobals "_law_surface" = some (some (.ref f_law_surface))) (l_law_surface : K.lookup f_law_surface = some ⟨oc_law_surface, od_law_surface, .func (PySem.W.fnOf "_law_surface" "_law_surface" (defArgs s_law_surface) (defBody s_law_surface) (defScope s_law_surface) .none kV_law_surface dc_law_surface pm_law_surface an_law_surface cd_law_surface ct_law_surface), sl_law_surface⟩) (c_law_surface : PySem.W.codeIn K cd_law_surface "_law_surface" = true) (k_law_surface : PySem.W.keepIn K (.ref f_law_surface) = true)
    (a_law_names : PySem.W.nsIn K mainGlobals "_law_names" = some (some (.ref f_law_names))) (l_law_names : K.lookup f_law_names = some ⟨oc_law_names, od_law_names, .func (PySem.W.fnOf "_law_names" "_law_names" (defArgs s_law_names) (defBody s_law_names) (defScope s_law_names) .none kV_law_names dc_law_names pm_law_names an_law_names cd_law_names ct_law_names), sl_law_names⟩) (c_law_names : PySem.W.codeIn K cd_law_names "_law_names" = true) (k_law_names : PySem.W.keepIn K (.ref f_law_names) = true)
    (a_law_sort : PySem.W.nsIn K mainGlobals "_law_sort" = some (some (.ref f_law_sort))) (l_law_sort : K.lookup f_law_sort = some ⟨oc_law_sort, od_law_sort, .func (PySem.W.fnOf "_law_sort" "_law_sort" (defArgs s_law_sort) (defBody s_law_sort) (defScope s_law_sort) .none kV_law_sort dc_law_sort pm_law_sort an_law_sort cd_law_sort ct_law_sort), sl_law_sort⟩) (c_law_sort : PySem.W.codeIn K cd_law_sort "_law_sort" = true) (k_law_sort : PySem.W.keepIn K (.ref f_law_sort) = true)
    (a_law_called : PySem.W.nsIn K mainGlobals "_law_called" = some (some (.ref f_law_called))) (l_law_called : K.lookup f_law_called = some ⟨oc_law_called, od_law_called, .func (PySem.W.fnOf "_law_called" "_law_called" (defArgs s_law_called) (defBody s_law_called) (defScope s_law_called) .none kV_law_called dc_law_called pm_law_called an_law_called cd_law_called ct_law_called), sl_law_called⟩) (c_law_called : PySem.W.codeIn K cd_law_called "_law_called" = true) (k_law_called : PySem.W.keepIn K (.ref f_law_called) = true)
    (a_law_arcs_right : PySem.W.nsIn K mainGlobals "_law_arcs_right" = some (some (.ref f_law_arcs_right))) (l_law_arcs_right : K.lookup f_law_arcs_right = some ⟨oc_law_arcs_right, od_law_arcs_right, .func (PySem.W.fnOf "_law_arcs_right" "_law_arcs_right" (defArgs s_law_arcs_right) (defBody s_law_arcs_right) (defScope s_law_arcs_right) .none kV_law_arcs_right dc_law_arcs_right pm_law_arcs_right an_law_arcs_right cd_law_arcs_right ct_law_arcs_right), sl_law_arcs_right⟩) (c_law_arcs_right : PySem.W.codeIn K cd_law_arcs_right "_law_arcs_right" = true) (k_law_arcs_right : PySem.W.keepIn K (.ref f_law_arcs_right) = true)
    (a_law_right : PySem.W.nsIn K mainGlobals "_law_right" = some (some (.ref f_law_right))) (l_law_right : K.lookup f_law_right = some ⟨oc_law_right, od_law_right, .func (PySem.W.fnOf "_law_right" "_law_right" (defArgs s_law_right) (defBody s_law_right) (defScope s_law_right) .none kV_law_right dc_law_right pm_law_right an_law_right cd_law_right ct_law_right), sl_law_right⟩) (c_law_right : PySem.W.codeIn K cd_law_right "_law_right" = true) (k_law_right : PySem.W.keepIn K (.ref f_law_right) = true)
    (alaw : PySem.W.nsIn K mainGlobals "law" = some (some (.ref flaw))) (llaw : K.lookup flaw = some ⟨oclaw, odlaw, .func (PySem.W.fnOf "law" "law" (defArgs slaw) (defBody slaw) (defScope slaw) .none kVlaw dclaw pmlaw anlaw cdlaw ctlaw), sllaw⟩) (claw : PySem.W.codeIn K cdlaw "law" = true) (klaw : PySem.W.keepIn K (.ref flaw) = true)
    {nQ : Nat} {ddQ : Option Addr} {slQ : Array (Option Value)} {q1 q2 q3 : Tok}
    (aNoCorner : PySem.W.nsIn K mainGlobals "NoCorner" = some (some (.ref xNoCorner)))
    (xCNoCorner : PySem.W.excIn K xNoCorner [.type "ValueError", .type "Exception", .type "BaseException", .type "object"] "ValueError.__new__" = true)
    (kCNoCorner : PySem.W.keepIn K (.ref xNoCorner) = true)
    (bCNoCorner : PySem.W.subIn K (.ref xNoCorner) (.type "BaseException") = some true)
    (tCNoCorner : PySem.W.typeIn K (.ref xNoCorner) = some (.type "type"))
    (hCNoCorner : PySem.W.hasDictIn K xNoCorner = true)
    (sNN : PySem.W.subIn K (.ref xNoCorner) (.ref xNoCorner) = some true)
    (aQUADS : PySem.W.nsIn K mainGlobals "QUADS" = some (some (.ref tQ)))
    (lQ : K.lookup tQ = some ⟨.type "tuple", ddQ, .seq #[.int 4 q1, .int 5 q2, .int 6 q3] nQ, slQ⟩)
    (aSORTS : PySem.W.nsIn K mainGlobals "SORTS" = some (some (.int 7 tSORTS)))
    (zabs : PySem.W.nsIn K mainGlobals "abs" = some none)
    (zall : PySem.W.nsIn K mainGlobals "all" = some none)
    (zbool : PySem.W.nsIn K mainGlobals "bool" = some none)
    (zdict : PySem.W.nsIn K mainGlobals "dict" = some none)
    (zenumerate : PySem.W.nsIn K mainGlobals "enumerate" = some none)
    (zint : PySem.W.nsIn K mainGlobals "int" = some none)
    (zisinstance : PySem.W.nsIn K mainGlobals "isinstance" = some none)
    (zlen : PySem.W.nsIn K mainGlobals "len" = some none)
    (zlist : PySem.W.nsIn K mainGlobals "list" = some none)
    (zmax : PySem.W.nsIn K mainGlobals "max" = some none)
    (zmin : PySem.W.nsIn K mainGlobals "min" = some none)
    (zof : PySem.W.nsIn K mainGlobals "of" = some none)
    (zrange : PySem.W.nsIn K mainGlobals "range" = some none)
    (zset : PySem.W.nsIn K mainGlobals "set" = some none)
    (zsorted : PySem.W.nsIn K mainGlobals "sorted" = some none)
    (ztuple : PySem.W.nsIn K mainGlobals "tuple" = some none)
    (zzip : PySem.W.nsIn K mainGlobals "zip" = some none)
    : ∃ fd : FuncData, (∀ (s : Shared) (v : Value), BindsTo s fd ⟨[v], []⟩ [("script", v)]) ∧ ∀ base : Heap, K.In base → base.Ns mainGlobals mg → FnG l.prog w K mg base 11 fa fd ["script"] (spLaw K) := by
  have e := hfa.symm.trans (PySem.W.mg_of X G alaw)
  cases e
  have Frows_of := fun_mk (st := srows_of) lrows_of crows_of krows_of
  have brows_of := Frows_of.binds (ps := ["links"]) fun _ _ _ _ _ _ us hl => match us, hl with | [_], _ => rfl
  have grows_of := PySem.W.mg_of X G arows_of
  have F_reached := fun_mk (st := s_reached) l_reached c_reached k_reached
  have b_reached := F_reached.binds (ps := ["first", "links"]) fun _ _ _ _ _ _ us hl => match us, hl with | [_, _], _ => rfl
  have g_reached := PySem.W.mg_of X G a_reached
  have Fis_whole := fun_mk (st := sis_whole) lis_whole cis_whole kis_whole
  have bis_whole := Fis_whole.binds (ps := ["thing"]) fun _ _ _ _ _ _ us hl => match us, hl with | [_], _ => rfl
  have gis_whole := PySem.W.mg_of X G ais_whole
  have Fis_listed := fun_mk (st := sis_listed) lis_listed cis_listed kis_listed
  have bis_listed := Fis_listed.binds (ps := ["thing"]) fun _ _ _ _ _ _ us hl => match us, hl with | [_], _ => rfl
  have gis_listed := PySem.W.mg_of X G ais_listed
  have Fis_below := fun_mk (st := sis_below) lis_below cis_below kis_below
  have bis_below := Fis_below.binds (ps := ["thing", "many"]) fun _ _ _ _ _ _ us hl => match us, hl with | [_, _], _ => rfl
  have gis_below := PySem.W.mg_of X G ais_below
  have Fis_order := fun_mk (st := sis_order) lis_order cis_order kis_order
  have bis_order := Fis_order.binds (ps := ["thing", "many"]) fun _ _ _ _ _ _ us hl => match us, hl with | [_, _], _ => rfl
  have gis_order := PySem.W.mg_of X G ais_order
  have Fis_turn := fun_mk (st := sis_turn) lis_turn cis_turn kis_turn
  have bis_turn := Fis_turn.binds (ps := ["thing"]) fun _ _ _ _ _ _ us hl => match us, hl with | [_], _ => rfl
  have gis_turn := PySem.W.mg_of X G ais_turn
  have Fcontrary := fun_mk (st := scontrary) lcontrary ccontrary kcontrary
  have bcontrary := Fcontrary.binds (ps := ["turn"]) fun _ _ _ _ _ _ us hl => match us, hl with | [_], _ => rfl
  have gcontrary := PySem.W.mg_of X G acontrary
  have Fspace_of := fun_mk (st := sspace_of) lspace_of cspace_of kspace_of
  have bspace_of := Fspace_of.binds (ps := ["blocks"]) fun _ _ _ _ _ _ us hl => match us, hl with | [_], _ => rfl
  have gspace_of := PySem.W.mg_of X G aspace_of
  have F_block_of := fun_mk (st := s_block_of) l_block_of c_block_of k_block_of
  have b_block_of := F_block_of.binds (ps := ["faces", "many"]) fun _ _ _ _ _ _ us hl => match us, hl with | [_, _], _ => rfl
  have g_block_of := PySem.W.mg_of X G a_block_of
  have F_joining_of := fun_mk (st := s_joining_of) l_joining_of c_joining_of k_joining_of
  have b_joining_of := F_joining_of.binds (ps := ["joining", "many"]) fun _ _ _ _ _ _ us hl => match us, hl with | [_, _], _ => rfl
  have g_joining_of := PySem.W.mg_of X G a_joining_of
  have F_goes_both_ways := fun_mk (st := s_goes_both_ways) l_goes_both_ways c_goes_both_ways k_goes_both_ways
  have b_goes_both_ways := F_goes_both_ways.binds (ps := ["space", "block", "face"]) fun _ _ _ _ _ _ us hl => match us, hl with | [_, _, _], _ => rfl
  have g_goes_both_ways := PySem.W.mg_of X G a_goes_both_ways
  have Frenamed := fun_mk (st := srenamed) lrenamed crenamed krenamed
  have brenamed := Frenamed.binds (ps := ["space", "order", "turns"]) fun _ _ _ _ _ _ us hl => match us, hl with | [_, _, _], _ => rfl
  have grenamed := PySem.W.mg_of X G arenamed
  have F_renamed_block := fun_mk (st := s_renamed_block) l_renamed_block c_renamed_block k_renamed_block
  have b_renamed_block := F_renamed_block.binds (ps := ["space", "order", "turns", "place"]) fun _ _ _ _ _ _ us hl => match us, hl with | [_, _, _, _], _ => rfl
  have g_renamed_block := PySem.W.mg_of X G a_renamed_block
  have F_renamed_joining := fun_mk (st := s_renamed_joining) l_renamed_joining c_renamed_joining k_renamed_joining
  have b_renamed_joining := F_renamed_joining.binds (ps := ["joining", "order", "turns", "back"]) fun _ _ _ _ _ _ us hl => match us, hl with | [_, _, _, _], _ => rfl
  have g_renamed_joining := PySem.W.mg_of X G a_renamed_joining
  have Fmet_at := fun_mk (st := smet_at) lmet_at cmet_at kmet_at
  have bmet_at := Fmet_at.binds (ps := ["space", "block", "spots"]) fun _ _ _ _ _ _ us hl => match us, hl with | [_, _, _], _ => rfl
  have gmet_at := PySem.W.mg_of X G amet_at
  have Fmeetings_of := fun_mk (st := smeetings_of) lmeetings_of cmeetings_of kmeetings_of
  have bmeetings_of := Fmeetings_of.binds (ps := ["space"]) fun _ _ _ _ _ _ us hl => match us, hl with | [_], _ => rfl
  have gmeetings_of := PySem.W.mg_of X G ameetings_of
  have Fcorners_of := fun_mk (st := scorners_of) lcorners_of ccorners_of kcorners_of
  have bcorners_of := Fcorners_of.binds (ps := ["space"]) fun _ _ _ _ _ _ us hl => match us, hl with | [_], _ => rfl
  have gcorners_of := PySem.W.mg_of X G acorners_of
  have Fare_numbers := fun_mk (st := sare_numbers) lare_numbers care_numbers kare_numbers
  have bare_numbers := Fare_numbers.binds (ps := ["thing"]) fun _ _ _ _ _ _ us hl => match us, hl with | [_], _ => rfl
  have gare_numbers := PySem.W.mg_of X G aare_numbers
  have Fare_numbers_of := fun_mk (st := sare_numbers_of) lare_numbers_of care_numbers_of kare_numbers_of
  have bare_numbers_of := Fare_numbers_of.binds (ps := ["space", "thing"]) fun _ _ _ _ _ _ us hl => match us, hl with | [_, _], _ => rfl
  have gare_numbers_of := PySem.W.mg_of X G aare_numbers_of
  have F_check_numbers := fun_mk (st := s_check_numbers) l_check_numbers c_check_numbers k_check_numbers
  have b_check_numbers := F_check_numbers.binds (ps := ["space", "numbers"]) fun _ _ _ _ _ _ us hl => match us, hl with | [_, _], _ => rfl
  have g_check_numbers := PySem.W.mg_of X G a_check_numbers
  have Farcs := fun_mk (st := sarcs) larcs carcs karcs
  have garcs := PySem.W.mg_of X G aarcs
  have Farcs_at := fun_mk (st := sarcs_at) larcs_at carcs_at karcs_at
  have barcs_at := Farcs_at.binds (ps := ["numbers", "block", "face", "corner"]) fun _ _ _ _ _ _ us hl => match us, hl with | [_, _, _, _], _ => rfl
  have garcs_at := PySem.W.mg_of X G aarcs_at
  have Fquad_sort := fun_mk (st := squad_sort) lquad_sort cquad_sort kquad_sort
  have bquad_sort := Fquad_sort.binds (ps := ["one", "other"]) fun _ _ _ _ _ _ us hl => match us, hl with | [_, _], _ => rfl
  have gquad_sort := PySem.W.mg_of X G aquad_sort
  have Ffits := fun_mk (st := sfits) lfits cfits kfits
  have bfits := Ffits.binds (ps := ["space", "numbers"]) fun _ _ _ _ _ _ us hl => match us, hl with | [_, _], _ => rfl
  have gfits := PySem.W.mg_of X G afits
  have Fis_surface := fun_mk (st := sis_surface) lis_surface cis_surface kis_surface
  have bis_surface := Fis_surface.binds (ps := ["space", "numbers"]) fun _ _ _ _ _ _ us hl => match us, hl with | [_, _], _ => rfl
  have gis_surface := PySem.W.mg_of X G ais_surface
  have Fquads_agree := fun_mk (st := squads_agree) lquads_agree cquads_agree kquads_agree
  have bquads_agree := Fquads_agree.binds (ps := ["numbers"]) fun _ _ _ _ _ _ us hl => match us, hl with | [_], _ => rfl
  have gquads_agree := PySem.W.mg_of X G aquads_agree
  have F_sorts_of_quads := fun_mk (st := s_sorts_of_quads) l_sorts_of_quads c_sorts_of_quads k_sorts_of_quads
  have b_sorts_of_quads := F_sorts_of_quads.binds (ps := ["numbers", "first"]) fun _ _ _ _ _ _ us hl => match us, hl with | [_, _], _ => rfl
  have g_sorts_of_quads := PySem.W.mg_of X G a_sorts_of_quads
  have Fgo_together := fun_mk (st := sgo_together) lgo_together cgo_together kgo_together
  have bgo_together := Fgo_together.binds (ps := ["space", "one", "other"]) fun _ _ _ _ _ _ us hl => match us, hl with | [_, _, _], _ => rfl
  have ggo_together := PySem.W.mg_of X G ago_together
  have Fcorner_surface := fun_mk (st := scorner_surface) lcorner_surface ccorner_surface kcorner_surface
  have bcorner_surface := Fcorner_surface.binds (ps := ["space", "corner"]) fun _ _ _ _ _ _ us hl => match us, hl with | [_, _], _ => rfl
  have gcorner_surface := PySem.W.mg_of X G acorner_surface
  have Fsum_of := fun_mk (st := ssum_of) lsum_of csum_of ksum_of
  have bsum_of := Fsum_of.binds (ps := ["one", "other"]) fun _ _ _ _ _ _ us hl => match us, hl with | [_, _], _ => rfl
  have gsum_of := PySem.W.mg_of X G asum_of
  have F_law_spring := fun_mk (st := s_law_spring) l_law_spring c_law_spring k_law_spring
  have b_law_spring := F_law_spring.binds (ps := ["script"]) fun _ _ _ _ _ _ us hl => match us, hl with | [_], _ => rfl
  have g_law_spring := PySem.W.mg_of X G a_law_spring
  have F_law_draw := fun_mk (st := s_law_draw) l_law_draw c_law_draw k_law_draw
  have b_law_draw := F_law_draw.binds (ps := ["spring", "many"]) fun _ _ _ _ _ _ us hl => match us, hl with | [_, _], _ => rfl
  have g_law_draw := PySem.W.mg_of X G a_law_draw
  have F_law_way := fun_mk (st := s_law_way) l_law_way c_law_way k_law_way
  have b_law_way := F_law_way.binds (ps := ["spring", "face", "goal"]) fun _ _ _ _ _ _ us hl => match us, hl with | [_, _, _], _ => rfl
  have g_law_way := PySem.W.mg_of X G a_law_way
  have F_law_joined := fun_mk (st := s_law_joined) l_law_joined c_law_joined k_law_joined
  have b_law_joined := F_law_joined.binds (ps := ["rows", "one", "other", "turn"]) fun _ _ _ _ _ _ us hl => match us, hl with | [_, _, _, _], _ => rfl
  have g_law_joined := PySem.W.mg_of X G a_law_joined
  have F_law_space := fun_mk (st := s_law_space) l_law_space c_law_space k_law_space
  have b_law_space := F_law_space.binds (ps := ["spring", "most"]) fun _ _ _ _ _ _ us hl => match us, hl with | [_, _], _ => rfl
  have g_law_space := PySem.W.mg_of X G a_law_space
  have F_law_arcs := fun_mk (st := s_law_arcs) l_law_arcs c_law_arcs k_law_arcs
  have b_law_arcs := F_law_arcs.binds (ps := ["numbers", "block", "face", "tip"]) fun _ _ _ _ _ _ us hl => match us, hl with | [_, _, _, _], _ => rfl
  have g_law_arcs := PySem.W.mg_of X G a_law_arcs
  have F_law_joins := fun_mk (st := s_law_joins) l_law_joins c_law_joins k_law_joins
  have b_law_joins := F_law_joins.binds (ps := ["space"]) fun _ _ _ _ _ _ us hl => match us, hl with | [_], _ => rfl
  have g_law_joins := PySem.W.mg_of X G a_law_joins
  have F_law_corners := fun_mk (st := s_law_corners) l_law_corners c_law_corners k_law_corners
  have b_law_corners := F_law_corners.binds (ps := ["space"]) fun _ _ _ _ _ _ us hl => match us, hl with | [_], _ => rfl
  have g_law_corners := PySem.W.mg_of X G a_law_corners
  have F_law_heights := fun_mk (st := s_law_heights) l_law_heights c_law_heights k_law_heights
  have b_law_heights := F_law_heights.binds (ps := ["space", "bare"]) fun _ _ _ _ _ _ us hl => match us, hl with | [_, _], _ => rfl
  have g_law_heights := PySem.W.mg_of X G a_law_heights
  have F_law_laid := fun_mk (st := s_law_laid) l_law_laid c_law_laid k_law_laid
  have b_law_laid := F_law_laid.binds (ps := ["space", "bare", "more"]) fun _ _ _ _ _ _ us hl => match us, hl with | [_, _, _], _ => rfl
  have g_law_laid := PySem.W.mg_of X G a_law_laid
  have F_law_bare := fun_mk (st := s_law_bare) l_law_bare c_law_bare k_law_bare
  have b_law_bare := F_law_bare.binds (ps := ["spring", "many", "most"]) fun _ _ _ _ _ _ us hl => match us, hl with | [_, _, _], _ => rfl
  have g_law_bare := PySem.W.mg_of X G a_law_bare
  have F_law_surface := fun_mk (st := s_law_surface) l_law_surface c_law_surface k_law_surface
  have b_law_surface := F_law_surface.binds (ps := ["spring", "space", "most"]) fun _ _ _ _ _ _ us hl => match us, hl with | [_, _, _], _ => rfl
  have g_law_surface := PySem.W.mg_of X G a_law_surface
  have F_law_names := fun_mk (st := s_law_names) l_law_names c_law_names k_law_names
  have b_law_names := F_law_names.binds (ps := ["spring", "space"]) fun _ _ _ _ _ _ us hl => match us, hl with | [_, _], _ => rfl
  have g_law_names := PySem.W.mg_of X G a_law_names
  have F_law_sort := fun_mk (st := s_law_sort) l_law_sort c_law_sort k_law_sort
  have b_law_sort := F_law_sort.binds (ps := ["one", "other"]) fun _ _ _ _ _ _ us hl => match us, hl with | [_, _], _ => rfl
  have g_law_sort := PySem.W.mg_of X G a_law_sort
  have F_law_called := fun_mk (st := s_law_called) l_law_called c_law_called k_law_called
  have b_law_called := F_law_called.binds (ps := ["numbers", "order", "turns"]) fun _ _ _ _ _ _ us hl => match us, hl with | [_, _, _], _ => rfl
  have g_law_called := PySem.W.mg_of X G a_law_called
  have F_law_arcs_right := fun_mk (st := s_law_arcs_right) l_law_arcs_right c_law_arcs_right k_law_arcs_right
  have b_law_arcs_right := F_law_arcs_right.binds (ps := ["numbers", "other", "order", "turns"]) fun _ _ _ _ _ _ us hl => match us, hl with | [_, _, _, _], _ => rfl
  have g_law_arcs_right := PySem.W.mg_of X G a_law_arcs_right
  have F_law_right := fun_mk (st := s_law_right) l_law_right c_law_right k_law_right
  have b_law_right := F_law_right.binds (ps := ["spring", "space", "twin", "order", "turns"]) fun _ _ _ _ _ _ us hl => match us, hl with | [_, _, _, _, _], _ => rfl
  have g_law_right := PySem.W.mg_of X G a_law_right
  have Flaw := fun_mk (st := slaw) llaw claw klaw
  have glaw := PySem.W.mg_of X G alaw
  have g_SORTS := PySem.W.mg_of X G aSORTS
  have m_abs := PySem.W.mg_none_of X G zabs
  have m_all := PySem.W.mg_none_of X G zall
  have m_bool := PySem.W.mg_none_of X G zbool
  have m_dict := PySem.W.mg_none_of X G zdict
  have m_enumerate := PySem.W.mg_none_of X G zenumerate
  have m_int := PySem.W.mg_none_of X G zint
  have m_isinstance := PySem.W.mg_none_of X G zisinstance
  have m_len := PySem.W.mg_none_of X G zlen
  have m_list := PySem.W.mg_none_of X G zlist
  have m_max := PySem.W.mg_none_of X G zmax
  have m_min := PySem.W.mg_none_of X G zmin
  have m_of := PySem.W.mg_none_of X G zof
  have m_range := PySem.W.mg_none_of X G zrange
  have m_set := PySem.W.mg_none_of X G zset
  have m_sorted := PySem.W.mg_none_of X G zsorted
  have m_tuple := PySem.W.mg_none_of X G ztuple
  have m_zip := PySem.W.mg_none_of X G zzip
  have small3 : 3 ≤ sizeLine := Nat.le_of_lt (small1000 (by decide))
  have gNoCorner := PySem.W.mg_of X G aNoCorner
  have TNoCorner : ExF K mg "NoCorner" xNoCorner := ⟨gNoCorner, xCNoCorner, kCNoCorner, bCNoCorner, tCNoCorner⟩
  have eNoCorner := PySem.W.exm_ref bCNoCorner hCNoCorner tCNoCorner sNN
  have g_QUADS := PySem.W.mg_of X G aQUADS
  have hQ : ∀ H, SqT K H tQ ([4, 5, 6].map intV) := fun H => .inr ⟨_, _, _, lQ, rfl, rfl, small3, .cons ⟨_, rfl⟩ (.cons ⟨_, rfl⟩ (.cons ⟨_, rfl⟩ .nil))⟩
  refine ⟨PySem.W.fnOf "law" "law" (defArgs slaw) (defBody slaw) (defScope slaw) .none kVlaw dclaw pmlaw anlaw cdlaw ctlaw, fun s v => .of_eq rfl, fun base _ _ => ?_⟩
  have Gis_whole := okis_whole (P := l.prog) (w := w) (K := K) (mg := mg) (base := base) Fis_whole m_isinstance m_int m_bool
  have Gis_listed := okis_listed (P := l.prog) (w := w) (K := K) (mg := mg) (base := base) Fis_listed m_isinstance m_list m_tuple
  have Gis_below := okis_below (P := l.prog) (w := w) (K := K) (mg := mg) (base := base) Fis_below Fis_whole gis_whole bis_whole Gis_whole
  have Gis_order := okis_order (P := l.prog) (w := w) (K := K) (mg := mg) (base := base) Fis_order Fis_whole gis_whole bis_whole Gis_whole Fis_listed gis_listed bis_listed Gis_listed m_all m_sorted m_list m_range
  have Gis_turn := okis_turn (P := l.prog) (w := w) (K := K) (mg := mg) (base := base) Fis_turn Fis_order gis_order bis_order Gis_order
  have Gcontrary := okcontrary (P := l.prog) (w := w) (K := K) (mg := mg) (base := base) Fcontrary m_range m_tuple
  have G_joining_of := ok_joining_of (P := l.prog) (w := w) (K := K) (mg := mg) (base := base) F_joining_of Fis_listed gis_listed bis_listed Gis_listed Fis_below gis_below bis_below Gis_below Fis_turn gis_turn bis_turn Gis_turn m_len m_tuple
  have G_block_of := ok_block_of (P := l.prog) (w := w) (K := K) (mg := mg) (base := base) F_block_of Fis_listed gis_listed bis_listed Gis_listed F_joining_of g_joining_of b_joining_of G_joining_of m_len m_tuple
  have G_goes_both_ways := ok_goes_both_ways (P := l.prog) (w := w) (K := K) (mg := mg) (base := base) F_goes_both_ways Fcontrary gcontrary bcontrary Gcontrary
  have Gspace_of := okspace_of (P := l.prog) (w := w) (K := K) (mg := mg) (base := base) Fspace_of Fis_listed gis_listed bis_listed Gis_listed F_block_of g_block_of b_block_of G_block_of F_goes_both_ways g_goes_both_ways b_goes_both_ways G_goes_both_ways m_len m_tuple m_range
  have Gcontrary := fn_or Gcontrary (okcontraryL (P := l.prog) (w := w) (base := base) Fcontrary m_range m_tuple)
  have G_renamed_joining := ok_renamed_joining (P := l.prog) (w := w) (K := K) (mg := mg) (base := base) F_renamed_joining m_tuple
  have G_renamed_block := ok_renamed_block (P := l.prog) (w := w) (K := K) (mg := mg) (base := base) F_renamed_block Fcontrary gcontrary bcontrary Gcontrary F_renamed_joining g_renamed_joining b_renamed_joining G_renamed_joining m_tuple
  have Grenamed := okrenamed (P := l.prog) (w := w) (K := K) (mg := mg) (base := base) Frenamed Fspace_of gspace_of bspace_of Gspace_of Fis_order gis_order bis_order Gis_order Fis_listed gis_listed bis_listed Gis_listed Fis_turn gis_turn bis_turn Gis_turn F_renamed_block g_renamed_block b_renamed_block G_renamed_block m_len m_tuple m_all m_range
  have G_reached := ok_reached (P := l.prog) (w := w) (K := K) (mg := mg) (base := base) (moT_rules K) F_reached m_list
  have Grows_of := okrows_of (P := l.prog) (w := w) (K := K) (mg := mg) (base := base) (moT_rules K) Frows_of F_reached g_reached b_reached G_reached m_sorted
  have Gmet_at := okmet_at (P := l.prog) (w := w) (K := K) (mg := mg) (base := base) Fmet_at m_range m_tuple
  have Gcorners_of := okcorners_of (P := l.prog) (w := w) (K := K) (mg := mg) (base := base) Fcorners_of Fspace_of gspace_of bspace_of Gspace_of Frows_of grows_of brows_of Grows_of Fmet_at gmet_at bmet_at Gmet_at m_range m_len
  have Gare_numbers := okare_numbers (P := l.prog) (w := w) (K := K) (mg := mg) (base := base) Fare_numbers Fis_listed gis_listed bis_listed Gis_listed Fis_whole gis_whole bis_whole Gis_whole g_SORTS m_len m_all
  have Gquad_sort := okquad_sort (P := l.prog) (w := w) (K := K) (mg := mg) (base := base) Fquad_sort
  have Garcs_at := okarcs_at (P := l.prog) (w := w) (K := K) (mg := mg) (base := base) Farcs_at Fquad_sort gquad_sort bquad_sort Gquad_sort g_SORTS
  have Garcs := okarcs (P := l.prog) (w := w) (K := K) (mg := mg) (base := base) Farcs Fare_numbers gare_numbers bare_numbers Gare_numbers Fis_below gis_below bis_below Gis_below Farcs_at garcs_at barcs_at Garcs_at g_SORTS m_len
  have Gare_numbers_of := okare_numbers_of (P := l.prog) (w := w) (K := K) (mg := mg) (base := base) Fare_numbers_of Fare_numbers gare_numbers bare_numbers Gare_numbers g_SORTS m_len
  have G_check_numbers := ok_check_numbers (P := l.prog) (w := w) (K := K) (mg := mg) (base := base) F_check_numbers Fare_numbers_of gare_numbers_of bare_numbers_of Gare_numbers_of
  have Gmeetings_of := okmeetings_of (P := l.prog) (w := w) (K := K) (mg := mg) (base := base) Fmeetings_of m_enumerate m_range
  have Gfits := okfits (P := l.prog) (w := w) (K := K) (mg := mg) (base := base) Ffits Fspace_of gspace_of bspace_of Gspace_of F_check_numbers g_check_numbers b_check_numbers G_check_numbers Fmeetings_of gmeetings_of bmeetings_of Gmeetings_of Farcs_at garcs_at barcs_at Garcs_at m_all
  have Gsum_of := oksum_of (P := l.prog) (w := w) (K := K) (mg := mg) (base := base) Fsum_of Fare_numbers gare_numbers bare_numbers Gare_numbers m_len m_zip
  have G_sorts_of_quads := ok_sorts_of_quads (P := l.prog) (w := w) (K := K) (mg := mg) (base := base) F_sorts_of_quads g_QUADS hQ m_len
  have Gquads_agree := okquads_agree (P := l.prog) (w := w) (K := K) (mg := mg) (base := base) Fquads_agree F_sorts_of_quads g_sorts_of_quads b_sorts_of_quads G_sorts_of_quads g_SORTS m_len m_all m_range
  have Gis_surface := okis_surface (P := l.prog) (w := w) (K := K) (mg := mg) (base := base) Fis_surface Ffits gfits bfits Gfits Fquads_agree gquads_agree bquads_agree Gquads_agree
  have Ggo_together := okgo_together (P := l.prog) (w := w) (K := K) (mg := mg) (base := base) Fgo_together Fspace_of gspace_of bspace_of Gspace_of Fis_surface gis_surface bis_surface Gis_surface Fsum_of gsum_of bsum_of Gsum_of m_all
  have Gcorner_surface := okcorner_surface (P := l.prog) (w := w) (K := K) (mg := mg) (base := base) Fcorner_surface TNoCorner Fspace_of gspace_of bspace_of Gspace_of Fcorners_of gcorners_of bcorners_of Gcorners_of Fis_below gis_below bis_below Gis_below g_SORTS m_len
  have Gcorner_surface := cSurf0 Gcorner_surface
  have G_law_spring := ok_law_spring (P := l.prog) (w := w) (K := K) (mg := mg) (base := base) F_law_spring m_abs
  have G_law_draw := ok_law_draw (P := l.prog) (w := w) (K := K) (mg := mg) (base := base) F_law_draw
  have G_law_way := ok_law_way (P := l.prog) (w := w) (K := K) (mg := mg) (base := base) F_law_way F_law_draw g_law_draw b_law_draw G_law_draw m_range m_len m_tuple
  have G_law_joined := ok_law_joined (P := l.prog) (w := w) (K := K) (mg := mg) (base := base) F_law_joined m_range m_list m_tuple
  have G_law_space := ok_law_space (P := l.prog) (w := w) (K := K) (mg := mg) (base := base) F_law_space F_law_draw g_law_draw b_law_draw G_law_draw F_law_way g_law_way b_law_way G_law_way F_law_joined g_law_joined b_law_joined G_law_joined m_range m_len m_tuple
  have G_law_arcs := ok_law_arcs (P := l.prog) (w := w) (K := K) (mg := mg) (base := base) F_law_arcs m_range
  have G_law_joins := ok_law_joins (P := l.prog) (w := w) (K := K) (mg := mg) (base := base) F_law_joins m_enumerate m_range
  have G_law_corners := ok_law_corners (P := l.prog) (w := w) (K := K) (mg := mg) (base := base) (moT_rules K) F_law_corners F_law_joins g_law_joins b_law_joins G_law_joins m_dict m_range m_len m_sorted m_set m_list
  have G_law_heights := ok_law_heights (P := l.prog) (w := w) (K := K) (mg := mg) (base := base) F_law_heights F_law_corners g_law_corners b_law_corners G_law_corners F_law_arcs g_law_arcs b_law_arcs G_law_arcs m_range
  have G_law_laid := ok_law_laid (P := l.prog) (w := w) (K := K) (mg := mg) (base := base) F_law_laid F_law_corners g_law_corners b_law_corners G_law_corners F_law_heights g_law_heights b_law_heights G_law_heights m_enumerate m_list m_min m_len
  have G_law_bare := ok_law_bare (P := l.prog) (w := w) (K := K) (mg := mg) (base := base) F_law_bare F_law_draw g_law_draw b_law_draw G_law_draw m_range
  have G_law_surface := ok_law_surface (P := l.prog) (w := w) (K := K) (mg := mg) (base := base) F_law_surface F_law_draw g_law_draw b_law_draw G_law_draw F_law_bare g_law_bare b_law_bare G_law_bare F_law_laid g_law_laid b_law_laid G_law_laid m_range m_len
  have G_law_names := ok_law_names (P := l.prog) (w := w) (K := K) (mg := mg) (base := base) F_law_names F_law_draw g_law_draw b_law_draw G_law_draw F_law_way g_law_way b_law_way G_law_way m_range m_list m_len
  have G_law_sort := ok_law_sort (P := l.prog) (w := w) (K := K) (mg := mg) (base := base) F_law_sort m_max m_min
  have G_law_called := ok_law_called (P := l.prog) (w := w) (K := K) (mg := mg) (base := base) F_law_called F_law_sort g_law_sort b_law_sort G_law_sort m_len m_range m_enumerate
  have G_law_arcs_right := ok_law_arcs_right (P := l.prog) (w := w) (K := K) (mg := mg) (base := base) F_law_arcs_right Farcs garcs (kb_arcs_c Farcs) Garcs m_range m_enumerate
  have G_law_right := ok_law_right (P := l.prog) (w := w) (K := K) (mg := mg) (base := base) F_law_right F_law_draw g_law_draw b_law_draw G_law_draw F_law_surface g_law_surface b_law_surface G_law_surface F_law_called g_law_called b_law_called G_law_called F_law_arcs_right g_law_arcs_right b_law_arcs_right G_law_arcs_right Ffits gfits bfits Gfits Fis_surface gis_surface bis_surface Gis_surface Fgo_together ggo_together bgo_together Ggo_together m_len m_zip
  exact ok_law Flaw F_law_spring g_law_spring b_law_spring G_law_spring F_law_draw g_law_draw b_law_draw G_law_draw F_law_space g_law_space b_law_space G_law_space F_law_names g_law_names b_law_names G_law_names Frenamed grenamed brenamed Grenamed F_law_right g_law_right b_law_right G_law_right F_law_called g_law_called b_law_called G_law_called Fcorner_surface gcorner_surface bcorner_surface Gcorner_surface Fcorners_of gcorners_of bcorners_of Gcorners_of m_range m_len m_min m_list m_sorted
end Bk
open PySem PySem.W PyProof.Rows
set_option maxHeartbeats 0 in
theorem PySem.Challenge.cw_blockrooms_k34_whole_surfaces_renamed_holds : PySem.Challenge.rw_blockrooms_k34_whole_surfaces_renamed.Holds := by
  w_on; o_law; k_head; (case hw => w_witness2)
  k_fill
  refine Bk.walk_G (l := PySem.Challenge.rw_blockrooms_k34_whole_surfaces_renamed) (n := 63) (k := 11) (x := "script") (sp := Bk.spLaw) rfl (by decide) rfl ⟨rfl, by decide, by decide⟩ (fun w h Y => PySem.W.kIn_of Y) ?F (fun _ _ a ns hl _ hS => ⟨a, ns, rfl, hS, hl, fun _ => rfl⟩)
  case F =>
    intro w mg fa h KX G hmg
    refine' Bk.all_mk KX G hmg ?arows_of ?lrows_of ?crows_of ?krows_of ?a_reached ?l_reached ?c_reached ?k_reached ?ais_whole ?lis_whole ?cis_whole ?kis_whole ?ais_listed ?lis_listed ?cis_listed ?kis_listed ?ais_below ?lis_below ?cis_below ?kis_below ?ais_order ?lis_order ?cis_order ?kis_order ?ais_turn ?lis_turn ?cis_turn ?kis_turn ?acontrary ?lcontrary ?ccontrary ?kcontrary ?aspace_of ?lspace_of ?cspace_of ?kspace_of ?a_block_of ?l_block_of ?c_block_of ?k_block_of ?a_joining_of ?l_joining_of ?c_joining_of ?k_joining_of ?a_goes_both_ways ?l_goes_both_ways ?c_goes_both_ways ?k_goes_both_ways ?arenamed ?lrenamed ?crenamed ?krenamed ?a_renamed_block ?l_renamed_block ?c_renamed_block ?k_renamed_block ?a_renamed_joining ?l_renamed_joining ?c_renamed_joining ?k_renamed_joining ?amet_at ?lmet_at ?cmet_at ?kmet_at ?ameetings_of ?lmeetings_of ?cmeetings_of ?kmeetings_of ?acorners_of ?lcorners_of ?ccorners_of ?kcorners_of ?aare_numbers ?lare_numbers ?care_numbers ?kare_numbers ?aare_numbers_of ?lare_numbers_of ?care_numbers_of ?kare_numbers_of ?a_check_numbers ?l_check_numbers ?c_check_numbers ?k_check_numbers ?aarcs ?larcs ?carcs ?karcs ?aarcs_at ?larcs_at ?carcs_at ?karcs_at ?aquad_sort ?lquad_sort ?cquad_sort ?kquad_sort ?afits ?lfits ?cfits ?kfits ?ais_surface ?lis_surface ?cis_surface ?kis_surface ?aquads_agree ?lquads_agree ?cquads_agree ?kquads_agree ?a_sorts_of_quads ?l_sorts_of_quads ?c_sorts_of_quads ?k_sorts_of_quads ?ago_together ?lgo_together ?cgo_together ?kgo_together ?acorner_surface ?lcorner_surface ?ccorner_surface ?kcorner_surface ?asum_of ?lsum_of ?csum_of ?ksum_of ?a_law_spring ?l_law_spring ?c_law_spring ?k_law_spring ?a_law_draw ?l_law_draw ?c_law_draw ?k_law_draw ?a_law_way ?l_law_way ?c_law_way ?k_law_way ?a_law_joined ?l_law_joined ?c_law_joined ?k_law_joined ?a_law_space ?l_law_space ?c_law_space ?k_law_space ?a_law_arcs ?l_law_arcs ?c_law_arcs ?k_law_arcs ?a_law_joins ?l_law_joins ?c_law_joins ?k_law_joins ?a_law_corners ?l_law_corners ?c_law_corners ?k_law_corners ?a_law_heights ?l_law_heights ?c_law_heights ?k_law_heights ?a_law_laid ?l_law_laid ?c_law_laid ?k_law_laid ?a_law_bare ?l_law_bare ?c_law_bare ?k_law_bare ?a_law_surface ?l_law_surface ?c_law_surface ?k_law_surface ?a_law_names ?l_law_names ?c_law_names ?k_law_names ?a_law_sort ?l_law_sort ?c_law_sort ?k_law_sort ?a_law_called ?l_law_called ?c_law_called ?k_law_called ?a_law_arcs_right ?l_law_arcs_right ?c_law_arcs_right ?k_law_arcs_right ?a_law_right ?l_law_right ?c_law_right ?k_law_right ?alaw ?llaw ?claw ?klaw ?aNoCorner ?xCNoCorner ?kCNoCorner ?bCNoCorner ?tCNoCorner ?hCNoCorner ?sNN ?aQUADS ?lQ ?aSORTS ?zabs ?zall ?zbool ?zdict ?zenumerate ?zint ?zisinstance ?zlen ?zlist ?zmax ?zmin ?zof ?zrange ?zset ?zsorted ?ztuple ?zzip
    (case arows_of => k_is); (case lrows_of => k_is); (case crows_of => k_is); (case krows_of => k_is); (case a_reached => k_is); (case l_reached => k_is); (case c_reached => k_is); (case k_reached => k_is); (case ais_whole => k_is); (case lis_whole => k_is); (case cis_whole => k_is); (case kis_whole => k_is); (case ais_listed => k_is); (case lis_listed => k_is); (case cis_listed => k_is); (case kis_listed => k_is); (case ais_below => k_is); (case lis_below => k_is); (case cis_below => k_is); (case kis_below => k_is); (case ais_order => k_is); (case lis_order => k_is); (case cis_order => k_is); (case kis_order => k_is); (case ais_turn => k_is); (case lis_turn => k_is); (case cis_turn => k_is); (case kis_turn => k_is); (case acontrary => k_is); (case lcontrary => k_is); (case ccontrary => k_is); (case kcontrary => k_is); (case aspace_of => k_is); (case lspace_of => k_is); (case cspace_of => k_is); (case kspace_of => k_is); (case a_block_of => k_is); (case l_block_of => k_is); (case c_block_of => k_is); (case k_block_of => k_is); (case a_joining_of => k_is); (case l_joining_of => k_is); (case c_joining_of => k_is); (case k_joining_of => k_is); (case a_goes_both_ways => k_is); (case l_goes_both_ways => k_is); (case c_goes_both_ways => k_is); (case k_goes_both_ways => k_is); (case arenamed => k_is); (case lrenamed => k_is); (case crenamed => k_is); (case krenamed => k_is); (case a_renamed_block => k_is); (case l_renamed_block => k_is); (case c_renamed_block => k_is); (case k_renamed_block => k_is); (case a_renamed_joining => k_is); (case l_renamed_joining => k_is); (case c_renamed_joining => k_is); (case k_renamed_joining => k_is); (case amet_at => k_is); (case lmet_at => k_is); (case cmet_at => k_is); (case kmet_at => k_is); (case ameetings_of => k_is); (case lmeetings_of => k_is); (case cmeetings_of => k_is); (case kmeetings_of => k_is); (case acorners_of => k_is); (case lcorners_of => k_is); (case ccorners_of => k_is); (case kcorners_of => k_is); (case aare_numbers => k_is); (case lare_numbers => k_is); (case care_numbers => k_is); (case kare_numbers => k_is); (case aare_numbers_of => k_is); (case lare_numbers_of => k_is); (case care_numbers_of => k_is); (case kare_numbers_of => k_is); (case a_check_numbers => k_is); (case l_check_numbers => k_is); (case c_check_numbers => k_is); (case k_check_numbers => k_is); (case aarcs => k_is); (case larcs => k_is); (case carcs => k_is); (case karcs => k_is); (case aarcs_at => k_is); (case larcs_at => k_is); (case carcs_at => k_is); (case karcs_at => k_is); (case aquad_sort => k_is); (case lquad_sort => k_is); (case cquad_sort => k_is); (case kquad_sort => k_is); (case afits => k_is); (case lfits => k_is); (case cfits => k_is); (case kfits => k_is); (case ais_surface => k_is); (case lis_surface => k_is); (case cis_surface => k_is); (case kis_surface => k_is); (case aquads_agree => k_is); (case lquads_agree => k_is); (case cquads_agree => k_is); (case kquads_agree => k_is); (case a_sorts_of_quads => k_is); (case l_sorts_of_quads => k_is); (case c_sorts_of_quads => k_is); (case k_sorts_of_quads => k_is); (case ago_together => k_is); (case lgo_together => k_is); (case cgo_together => k_is); (case kgo_together => k_is); (case acorner_surface => k_is); (case lcorner_surface => k_is); (case ccorner_surface => k_is); (case kcorner_surface => k_is); (case asum_of => k_is); (case lsum_of => k_is); (case csum_of => k_is); (case ksum_of => k_is); (case a_law_spring => k_is); (case l_law_spring => k_is); (case c_law_spring => k_is); (case k_law_spring => k_is); (case a_law_draw => k_is); (case l_law_draw => k_is); (case c_law_draw => k_is); (case k_law_draw => k_is); (case a_law_way => k_is); (case l_law_way => k_is); (case c_law_way => k_is); (case k_law_way => k_is); (case a_law_joined => k_is); (case l_law_joined => k_is); (case c_law_joined => k_is); (case k_law_joined => k_is); (case a_law_space => k_is); (case l_law_space => k_is); (case c_law_space => k_is); (case k_law_space => k_is); (case a_law_arcs => k_is); (case l_law_arcs => k_is); (case c_law_arcs => k_is); (case k_law_arcs => k_is); (case a_law_joins => k_is); (case l_law_joins => k_is); (case c_law_joins => k_is); (case k_law_joins => k_is); (case a_law_corners => k_is); (case l_law_corners => k_is); (case c_law_corners => k_is); (case k_law_corners => k_is); (case a_law_heights => k_is); (case l_law_heights => k_is); (case c_law_heights => k_is); (case k_law_heights => k_is); (case a_law_laid => k_is); (case l_law_laid => k_is); (case c_law_laid => k_is); (case k_law_laid => k_is); (case a_law_bare => k_is); (case l_law_bare => k_is); (case c_law_bare => k_is); (case k_law_bare => k_is); (case a_law_surface => k_is); (case l_law_surface => k_is); (case c_law_surface => k_is); (case k_law_surface => k_is); (case a_law_names => k_is); (case l_law_names => k_is); (case c_law_names => k_is); (case k_law_names => k_is); (case a_law_sort => k_is); (case l_law_sort => k_is); (case c_law_sort => k_is); (case k_law_sort => k_is); (case a_law_called => k_is); (case l_law_called => k_is); (case c_law_called => k_is); (case k_law_called => k_is); (case a_law_arcs_right => k_is); (case l_law_arcs_right => k_is); (case c_law_arcs_right => k_is); (case k_law_arcs_right => k_is); (case a_law_right => k_is); (case l_law_right => k_is); (case c_law_right => k_is); (case k_law_right => k_is); (case alaw => k_is); (case llaw => k_is); (case claw => k_is); (case klaw => k_is); (case aNoCorner => k_is); (case xCNoCorner => k_exc); (case kCNoCorner => k_is); (case bCNoCorner => k_is); (case tCNoCorner => k_is); (case hCNoCorner => k_is); (case sNN => k_is); (case aQUADS => k_is); (case lQ => k_is); (case aSORTS => k_is); (case zabs => k_is); (case zall => k_is); (case zbool => k_is); (case zdict => k_is); (case zenumerate => k_is); (case zint => k_is); (case zisinstance => k_is); (case zlen => k_is); (case zlist => k_is); (case zmax => k_is); (case zmin => k_is); (case zof => k_is); (case zrange => k_is); (case zset => k_is); (case zsorted => k_is); (case ztuple => k_is); (case zzip => k_is)

