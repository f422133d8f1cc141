import PyProof.Rows.All
import Wide.All
import OpenK.AllK
import Wide.FinOn
import HandS.ForMost
import HandS.Wide
import HandS.IsInst
import HandS.FStr
import HandS.NoneIn
import HandS.Conv
import HandS.Zip
import KE.KIndexOf
import HandS.ForExc
import HandS.ExcIs
import KE.KIsAll
import HandS.SetFor
import PyProof.ReprBulk
import PyProof.ReprRoads
import PyProof.StrBlockL
import HandS.Walk
import HandS.Defaults
import HandS.ListItems
import HandS.DictComp
import HandS.TupSets
import PyProof.Rows.TupDisplay
import KE.KDictKeyed
import KE.SortData
import PyProof.Transfer
import KE.DataMinMax
import HandS.SetKeys
import HandS.TupAny
import PySem.Challenge.RW_blockrooms_k20_whole_renamed
set_option Elab.async false
set_option linter.all false
set_option maxRecDepth 100000
set_option maxHeartbeats 4000000
/-! Common to all laws: what stays, the reel, turns and blocks as plain Lean, and as they stand in the heap. -/
namespace Bk
open PySem PySem.Spec PyProof.Rows L2

/-! ### what stays -/
/-- all that was tracked but R is as it was -/
def Keep (R : Addr) (H H' : Hp) : Prop := ∀ b o, H b = some o → b ≠ R → H' b = some o
theorem Keep.refl (R : Addr) (H : Hp) : Keep R H H := fun _ _ h _ => h
theorem Keep.trans {R : Addr} {H H1 H2 : Hp} (a : Keep R H H1) (b : Keep R H1 H2) : Keep R H H2 := fun c o h n => b c o (a c o h n) n
theorem Keep.of {R : Addr} {H H' : Hp} (a : Same H H') : Keep R H H' := fun c o h _ => a c o h
theorem Keep.same {R : Addr} {H H1 H2 : Hp} (a : Keep R H H1) (b : Same H1 H2) : Keep R H H2 := a.trans (.of b)
theorem _root_.L2.Same.keep {R : Addr} {H H1 H2 : Hp} (a : Same H H1) (b : Keep R H1 H2) : Keep R H H2 := (Keep.of a).trans b
theorem same_new {H : Hp} {p : Addr} {o : HO} (h : H p = none) : Same H (upd H p o) := fun b x e => by
  rw [upd_ne (ne_of_none e h)]
  exact e
theorem keep_set {H : Hp} {p : Addr} {o : HO} : Keep p H (upd H p o) := fun b x e n => by
  rw [upd_ne n]
  exact e
/-- a list that a loop or comprehension fills, made since -/
theorem same_fill {H H1 : Hp} {D : Addr} {o : HO} (a : Same H H1) (h : H D = none) : Same H (upd H1 D o) := fun b x e => by
  rw [upd_ne (ne_of_none e h)]
  exact a b x e
theorem keep_fill {R : Addr} {H H1 : Hp} {D : Addr} {o : HO} (a : Keep R H H1) (h : H D = none) : Keep R H (upd H1 D o) := fun b x e n => by
  rw [upd_ne (ne_of_none e h)]
  exact a b x e n
theorem Keep.free {R : Addr} {H H' : Hp} (a : Keep R H H') {l : Addr} (h : H' l = none) (n : l ≠ R) : H l = none := by
  cases q : H l with
  | none => rfl
  | some o =>
    rw [a l o q n] at h
    cases h
theorem _root_.L2.Same.sqt {K : PySem.W.Frag} {H H' : Hp} {a : Addr} {xs : List V} (e : Same H H') (h : SqT K H a xs) : SqT K H' a xs := by
  rcases h with (h | ⟨o, h⟩) | h
  · exact .inl (.inl (e _ _ h))
  · exact .inl (.inr ⟨o, e _ _ h⟩)
  · exact .inr h
theorem lst_inj {H : Hp} {p : Addr} {xs ys : List V} (a : H p = some (.lst xs)) (b : H p = some (.lst ys)) : xs = ys := by
  rw [a] at b
  injection b with b
  injection b with b

/-! ### the reel -/
/-- the reel's four: great, cells, turned, stirred -/
structure Reel (R g c : Addr) (gs cs : List Int) (n st : Int) (H : Hp) : Prop where
  r : H R = some (.lst [.ref g, .ref c, .int n, .int st])
  g : H g = some (.lst (gs.map V.int))
  c : H c = some (.lst (cs.map V.int))
  gl : gs.length ≤ 63
  cl : cs.length ≤ 64
  g0 : ∀ x ∈ gs, 0 ≤ x
  c0 : ∀ x ∈ cs, 0 ≤ x ∧ x < 1000003
  ne : cs ≠ []
  s0 : 0 ≤ st
  s1 : st.natAbs < 2 ^ 127
def ReelOk (R : Addr) (H : Hp) : Prop := ∃ g c gs cs n st, Reel R g c gs cs n st H
theorem ReelOk.same {R : Addr} {H H' : Hp} (h : ReelOk R H) (s : Same H H') : ReelOk R H' := by
  obtain ⟨g, c, gs, cs, n, st, r⟩ := h
  exact ⟨g, c, gs, cs, n, st, ⟨s _ _ r.r, s _ _ r.g, s _ _ r.c, r.gl, r.cl, r.g0, r.c0, r.ne, r.s0, r.s1⟩⟩
/-- a list that is none of the reel's -/
def NotReel (xs : List V) : Prop := ∃ x r, xs = x :: r ∧ (∀ i : Int, x ≠ .int i) ∧ ∀ v ∈ xs, ∀ i : Int, v ≠ .int i
theorem ReelOk.set {R p : Addr} {H : Hp} {xs : List V} {o : HO} (h : ReelOk R H) (hp : H p = some (.lst xs)) (n : NotReel xs) : ReelOk R (upd H p o) ∧ p ≠ R := by
  obtain ⟨g, c, gs, cs, m, st, r⟩ := h
  obtain ⟨x, l, e, hx, hv⟩ := n
  have n1 : p ≠ R := fun z => by
    subst z
    have q := lst_inj hp r.r
    exact hv (.int m) (by rw [q]; simp) m rfl
  have nI : ∀ {q : Addr} {ns : List Int}, H q = some (.lst (ns.map V.int)) → p ≠ q := fun {q ns} hq z => by
    subst z
    have q := lst_inj hp hq
    rw [e] at q
    cases ns with
    | nil => cases q
    | cons y t =>
      injection q with q _
      exact hx y q
  have n2 := nI r.g
  have n3 := nI r.c
  exact ⟨⟨g, c, gs, cs, m, st, ⟨by rw [upd_ne n1.symm]; exact r.r, by rw [upd_ne n2.symm]; exact r.g, by rw [upd_ne n3.symm]; exact r.c, r.gl, r.cl, r.g0, r.c0, r.ne, r.s0, r.s1⟩⟩, n1⟩
/-- D is none of the reel's three lists -/
def Away (R D : Addr) (H : Hp) : Prop := ∃ g c gs cs n st, Reel R g c gs cs n st H ∧ D ≠ R ∧ D ≠ g ∧ D ≠ c
theorem Away.ok {R D : Addr} {H : Hp} (h : Away R D H) : ReelOk R H := by
  obtain ⟨g, c, gs, cs, n, st, r, _⟩ := h
  exact ⟨g, c, gs, cs, n, st, r⟩
theorem Away.ne {R D : Addr} {H : Hp} (h : Away R D H) : D ≠ R := by
  obtain ⟨g, c, gs, cs, n, st, r, h, _⟩ := h
  exact h
theorem Away.same {R D : Addr} {H H' : Hp} (h : Away R D H) (s : Same H H') : Away R D H' := by
  obtain ⟨g, c, gs, cs, n, st, r, q⟩ := h
  exact ⟨g, c, gs, cs, n, st, ⟨s _ _ r.r, s _ _ r.g, s _ _ r.c, r.gl, r.cl, r.g0, r.c0, r.ne, r.s0, r.s1⟩, q⟩
theorem Away.fill {R D : Addr} {H : Hp} {o : HO} (h : Away R D H) : Away R D (upd H D o) := by
  obtain ⟨g, c, gs, cs, n, st, r, h1, h2, h3⟩ := h
  exact ⟨g, c, gs, cs, n, st, ⟨by rw [upd_ne h1.symm]; exact r.r, by rw [upd_ne h2.symm]; exact r.g, by rw [upd_ne h3.symm]; exact r.c, r.gl, r.cl, r.g0, r.c0, r.ne, r.s0, r.s1⟩, h1, h2, h3⟩
theorem Away.fill' {R D D' : Addr} {H : Hp} {o : HO} (h : Away R D' H) (a : Away R D H) : Away R D' (upd H D o) := by
  obtain ⟨g, c, gs, cs, n, st, r, h1, h2, h3⟩ := a
  obtain ⟨g', c', _, _, _, _, r', z⟩ := h
  have e := r.r.symm.trans r'.r
  injection e with e
  injection e with e
  injection e with e1 e
  injection e with e2 e
  injection e1 with e1
  injection e2 with e2
  subst e1 e2
  exact ⟨g, c, _, _, _, _, ⟨by rw [upd_ne h1.symm]; exact r'.r, by rw [upd_ne h2.symm]; exact r'.g, by rw [upd_ne h3.symm]; exact r'.c, r'.gl, r'.cl, r'.g0, r'.c0, r'.ne, r'.s0, r'.s1⟩, z⟩
theorem ReelOk.away {R D : Addr} {H : Hp} {o : HO} (h : ReelOk R H) (hD : H D = none) : Away R D (upd H D o) := by
  obtain ⟨g, c, gs, cs, n, st, r⟩ := h
  have h1 : R ≠ D := ne_of_none r.r hD
  have h2 : g ≠ D := ne_of_none r.g hD
  have h3 : c ≠ D := ne_of_none r.c hD
  exact ⟨g, c, gs, cs, n, st, ⟨by rw [upd_ne h1]; exact r.r, by rw [upd_ne h2]; exact r.g, by rw [upd_ne h3]; exact r.c, r.gl, r.cl, r.g0, r.c0, r.ne, r.s0, r.s1⟩, h1.symm, h2.symm, h3.symm⟩
theorem Away.set {R D p : Addr} {H : Hp} {xs : List V} {o : HO} (h : Away R D H) (hp : H p = some (.lst xs)) (n : NotReel xs) : Away R D (upd H p o) ∧ p ≠ R := by
  obtain ⟨g, c, gs, cs, m, st, r, q⟩ := h
  obtain ⟨x, l, e, hx, hv⟩ := n
  have n1 : p ≠ R := fun z => by
    subst z
    have q := lst_inj hp r.r
    exact hv (.int m) (by rw [q]; simp) m rfl
  have nI : ∀ {q : Addr} {ns : List Int}, H q = some (.lst (ns.map V.int)) → p ≠ q := fun {q ns} hq z => by
    subst z
    have q := lst_inj hp hq
    rw [e] at q
    cases ns with
    | nil => cases q
    | cons y t =>
      injection q with q _
      exact hx y q
  exact ⟨⟨g, c, gs, cs, m, st, ⟨by rw [upd_ne n1.symm]; exact r.r, by rw [upd_ne (nI r.g).symm]; exact r.g, by rw [upd_ne (nI r.c).symm]; exact r.c, r.gl, r.cl, r.g0, r.c0, r.ne, r.s0, r.s1⟩, q⟩, n1⟩
/-- R's list is known by its third -/
theorem ReelOk.isR {R p : Addr} {H : Hp} {xs : List V} (h : ReelOk R H) (hp : H p = some (.lst xs)) (hx : ∀ v ∈ xs, ∀ i : Int, v ≠ .int i) : p ≠ R := fun z => by
  obtain ⟨g, c, gs, cs, m, st, r⟩ := h
  subst z
  have q := lst_inj hp r.r
  exact hx (.int m) (by rw [q]; simp) m rfl
theorem ReelOk.isT {R p : Addr} {H : Hp} {o : Obj} {u : HO} (h : ReelOk R H) (hp : H p = some (.frz o u)) : p ≠ R := fun z => by
  obtain ⟨g, c, gs, cs, m, st, r⟩ := h
  subst z
  rw [r.r] at hp
  cases hp
theorem Keep.tup {R p : Addr} {H H' : Hp} {o : Obj} {u : HO} (k : Keep R H H') (h : ReelOk R H) (hp : H p = some (.frz o u)) : H' p = some (.frz o u) := k _ _ hp (h.isT hp)

/-! ### lists of values -/
theorem small16 {n : Nat} (h : n ≤ 4000) : n < sizeLine := Nat.lt_of_le_of_lt h (by decide)
theorem get_map_int {ns : List Int} {i : Nat} {x : V} (h : (ns.map V.int)[i]? = some x) : ∃ k, x = .int k ∧ ns[i]? = some k := by
  rw [List.getElem?_map] at h
  cases e : ns[i]? with
  | none => rw [e] at h; cases h
  | some k =>
    rw [e] at h
    injection h with h
    exact ⟨k, h.symm, rfl⟩
theorem cut_to (xs : List V) (n : Nat) : cutV xs none (some (n : Int)) = xs.take n := by
  unfold cutV
  rw [HT.sIx_none, show HT.sIx xs.length xs.length (some (n : Int)) = min n xs.length from HT.sIx_nat xs.length xs.length n]
  show List.take (min n xs.length - 0) (xs.drop 0) = xs.take n
  rw [List.drop_zero, Nat.sub_zero]
  by_cases h : n ≤ xs.length
  · rw [Nat.min_eq_left h]
  · rw [Nat.min_eq_right (by omega), List.take_length, List.take_of_length_le (by omega)]
theorem cut_from1 (xs : List V) : cutV xs (some 1) none = xs.drop 1 := by
  unfold cutV
  rw [show HT.sIx xs.length 0 (some 1) = min 1 xs.length from HT.sIx_nat xs.length 0 1, HT.sIx_none]
  cases xs with
  | nil => rfl
  | cons x r =>
    rw [show min 1 (x :: r).length = 1 by
      rw [List.length_cons]
      omega]
    show (List.take ((x :: r).length - 1) r) = r
    rw [List.length_cons, Nat.add_sub_cancel]
    exact List.take_length
theorem fmod_pos {a b : Int} (h : 0 < b) : 0 ≤ a.fmod b ∧ a.fmod b < b := ⟨Int.fmod_nonneg_of_pos a h, Int.fmod_lt_of_pos a h⟩
theorem take_succ_map {α β : Type} {f : α → β} {xs : List α} {i : Nat} {x : α} (h : xs[i]? = some x) : (xs.take (i + 1)).map f = (xs.take i).map f ++ [f x] := by
  rw [List.take_add_one, h, List.map_append]
  rfl

/-! ### turns -/
abbrev Trn := List Nat
def turnsAB (a b : Nat) : List Trn := ((List.range 4).filter fun c => !(a == c || b == c)).map fun c => [a, b, c, 6 - a - b - c]
def bsOf (a : Nat) : List Nat := (List.range 4).filter fun b => !(b == a)
def turnsA (a : Nat) : List Trn := (bsOf a).flatMap (turnsAB a)
def turnsTo (n : Nat) : List Trn := (List.range n).flatMap turnsA
def allTurns : List Trn := turnsTo 4
def back (t : Trn) : Trn := (List.range 4).map fun c => t.idxOf c
def intV (n : Nat) : V := .int (n : Int)
def trnV (t : Trn) : List V := t.map intV
theorem turnsTo_succ (n : Nat) : turnsTo (n + 1) = turnsTo n ++ turnsA n := by
  unfold turnsTo
  rw [List.range_succ, List.flatMap_append]
  simp
theorem turns_len : allTurns.length = 24 := by decide +kernel
theorem turns4 : ∀ t ∈ allTurns, t.length = 4 ∧ (∀ x ∈ t, x < 4) ∧ back t ∈ allTurns ∧ (∀ x < 4, t[t.idxOf x]? = some x) ∧ t.Nodup := by decide +kernel
theorem turns_face : ∀ f < 4, ∀ a < 4, (allTurns.filter fun t => t[f]? == some a).length = 6 := by decide +kernel
theorem range_filter_succ (p : Nat → Bool) (n : Nat) : (List.range (n + 1)).filter p = (List.range n).filter p ++ (if p n then [n] else []) := by
  rw [List.range_succ, List.filter_append]
  by_cases h : p n
  · rw [if_pos h]
    simp [h]
  · rw [if_neg h]
    simp [h]

/-! ### as they stand -/
/-- a tuple stands at p, as the object o, that has no dict of its own -/
def FT (H : Hp) (p : Addr) (xs : List V) : Prop := ∃ o : Obj, o.dict = none ∧ H p = some (.frz o (.tup xs))
theorem FT.sqt {K : PySem.W.Frag} {H : Hp} {p : Addr} {xs : List V} (h : FT H p xs) : SqT K H p xs := by
  obtain ⟨o, _, h⟩ := h
  exact .inl (.inr ⟨o, h⟩)
/-- every such tuple stands -/
def Tups (H H' : Hp) : Prop := ∀ b o xs, H b = some (.frz o (.tup xs)) → H' b = some (.frz o (.tup xs))
theorem Tups.refl (H : Hp) : Tups H H := fun _ _ _ h => h
theorem Tups.trans {H H1 H2 : Hp} (a : Tups H H1) (b : Tups H1 H2) : Tups H H2 := fun c o xs h => b c o xs (a c o xs h)
theorem _root_.L2.Same.tups {H H' : Hp} (a : Same H H') : Tups H H' := fun b o xs h => a b _ h
theorem Keep.tups {R : Addr} {H H' : Hp} (k : Keep R H H') (h : ReelOk R H) : Tups H H' := fun b o xs e => k.tup h e
theorem tups_set {H : Hp} {p : Addr} {xs : List V} {o : HO} (h : H p = some (.lst xs)) : Tups H (upd H p o) := fun b _ ys e => by
  rw [upd_ne (ne_of e h (by intro z; cases z))]
  exact e
theorem FT.mono {H H' : Hp} {p : Addr} {xs : List V} (h : FT H p xs) (m : Tups H H') : FT H' p xs := by
  obtain ⟨o, d, h⟩ := h
  exact ⟨o, d, m _ _ _ h⟩
theorem FT.ne {H : Hp} {p q : Addr} {xs ys : List V} (h : FT H p xs) (k : H q = some (.lst ys)) : p ≠ q := by
  obtain ⟨o, d, h⟩ := h
  exact ne_of h k (by intro z; cases z)
theorem FT.new {H : Hp} {p : Addr} {xs : List V} {o : Obj} (d : o.dict = none) : FT (upd H p (.frz o (.tup xs))) p xs := ⟨o, d, upd_same⟩
theorem FT.inj {H : Hp} {p : Addr} {xs ys : List V} (h : FT H p xs) (k : FT H p ys) : xs = ys := by
  obtain ⟨o, d, h⟩ := h
  obtain ⟨o', d', k⟩ := k
  rw [h] at k
  injection k with k
  injection k with _ k
  injection k with k
def TAt (H : Hp) (v : V) (t : Trn) : Prop := ∃ p, v = .ref p ∧ FT H p (trnV t)
theorem TAt.mono {H H' : Hp} {v : V} {t : Trn} (h : TAt H v t) (m : Tups H H') : TAt H' v t := by
  obtain ⟨p, e, h⟩ := h
  exact ⟨p, e, h.mono m⟩
theorem pmono {α β : Type} {F G : α → β → Prop} {xs : List α} {ys : List β} (h : Paired F xs ys) (m : ∀ a b, F a b → G a b) : Paired G xs ys := Paired.mapP h m
theorem papp {α β : Type} {F : α → β → Prop} : ∀ {xs xs' : List α} {ys ys' : List β}, Paired F xs ys → Paired F xs' ys' → Paired F (xs ++ xs') (ys ++ ys')
  | _, _, _, _, .nil, h => h
  | _, _, _, _, .cons a t, h => .cons a (papp t h)
theorem plen {α β : Type} {F : α → β → Prop} {xs : List α} {ys : List β} (h : Paired F xs ys) : xs.length = ys.length := h.length
theorem pget {α β : Type} {F : α → β → Prop} : ∀ {xs : List α} {ys : List β} {i : Nat} {y : β}, Paired F xs ys → ys[i]? = some y → ∃ x, xs[i]? = some x ∧ F x y
  | _, _, _, _, .nil, e => by simp at e
  | _, _, 0, _, .cons r _, e => ⟨_, rfl, by simp at e; subst e; exact r⟩
  | _, _, i + 1, _, .cons _ t, e => by
    obtain ⟨x, h1, h2⟩ := pget (i := i) t (by simpa using e)
    exact ⟨x, by simpa using h1, h2⟩
theorem pget' {α β : Type} {F : α → β → Prop} : ∀ {xs : List α} {ys : List β} {i : Nat} {x : α}, Paired F xs ys → xs[i]? = some x → ∃ y, ys[i]? = some y ∧ F x y
  | _, _, _, _, .nil, e => by simp at e
  | _, _, 0, _, .cons r _, e => ⟨_, rfl, by simp at e; subst e; exact r⟩
  | _, _, i + 1, _, .cons _ t, e => by
    obtain ⟨x, h1, h2⟩ := pget' (i := i) t (by simpa using e)
    exact ⟨x, by simpa using h1, h2⟩

/-! ### rules with the written part K by name (a comprehension's own context has it, but not by that name) -/
section
variable {X : Cx} (K : PySem.W.Frag)
theorem kIxL (h : X.K = K) : IxR X (rIxL K) := h ▸ ix_list
theorem kIxT (h : X.K = K) : IxR X (rIxT K) := h ▸ ix_tup
theorem kSlL (h : X.K = K) : SlR X (rSlL K) := h ▸ sl_list
theorem kIn (h : X.K = K) : OpR X (compareOp .In) (rIn K false) := h ▸ op_in_seq
theorem kNotIn (h : X.K = K) : OpR X (compareOp .NotIn) (rIn K true) := h ▸ op_notIn_seq
theorem kEqD (h : X.K = K) (hu : X.A.units + 64 < cLine) : OpR X (compareOp .Eq) (rEqD K) := h ▸ op_eqD hu
theorem kNeD (h : X.K = K) (hu : X.A.units + 64 < cLine) : OpR X (compareOp .NotEq) (rNeD K) := h ▸ op_neD hu
def rLen (K : PySem.W.Frag) : List V → Hp → VK → Prop := fun xs H Q => ∃ p ys, xs = [.ref p] ∧ (SqL K H p ys ∨ SqT K H p ys) ∧ Q (.int ys.length) H
theorem kLen (h : X.K = K) : CallR X (.builtin "len") (rLen K) := h ▸ call_len_seq
def rListOf (K : PySem.W.Frag) : List V → Hp → VK → Prop := fun xs H Q => ∃ p ys, xs = [.ref p] ∧ (SqL K H p ys ∨ SqT K H p ys) ∧ ∀ l, H l = none → Q (.ref l) (upd H l (.lst ys))
theorem kList (h : X.K = K) : CallR X (.type "list") (rListOf K) := h ▸ call_list_of
def rTupleOf (K : PySem.W.Frag) : List V → Hp → VK → Prop := fun xs H Q => ∃ p ys, xs = [.ref p] ∧ ((SqL K H p ys ∧ ∀ l, H l = none → Q (.ref l) (upd H l (.tup ys))) ∨ (SqT K H p ys ∧ Q (.ref p) H))
theorem kTuple (h : X.K = K) : CallR X (.type "tuple") (rTupleOf K) := h ▸ call_tuple_of
theorem kIsi (h : X.K = K) : CallR X (.builtin "isinstance") (rIsi K) := h ▸ call_isi
theorem kIsiT (h : X.K = K) : CallR X (.builtin "isinstance") (rIsiT K) := h ▸ call_isiT
theorem kIndex (h : X.K = K) : MtR X "list.index" (rIndex K) := h ▸ mt_index
theorem kBM {e : Expr} {T : String} {r : V → List V → Hp → VK → Prop} {to : TE} {t : TA} (h : X.K = K) (x : PE X e (tBM X.K T r to t)) : PE X e (tBM K T r to t) := h ▸ x
theorem kBM0 {e : Expr} {T : String} {r : V → List V → Hp → VK → Prop} {to : TE} (h : X.K = K) (x : PE X e (tBM0 X.K T r to)) : PE X e (tBM0 K T r to) := h ▸ x
theorem kPiL {tg l : Expr} {tl : TE} (h : X.K = K) (x : PI X tg l (iList X.K tl)) : PI X tg l (iList K tl) := h ▸ x
theorem kPiT {tg l : Expr} {tl : TE} (h : X.K = K) (x : PI X tg l (iTup X.K tl)) : PI X tg l (iTup K tl) := h ▸ x
theorem kPgT {tg : Expr} {n : Nat} {t : TGs} (h : X.K = K) (x : PG X tg (gTup X.K n t)) : PG X tg (gTup K n t) := h ▸ x
def rJoin (K : PySem.W.Frag) : V → List V → Hp → VK → Prop := fun x xs H Q => ∃ a p, ∃ ys : List Str, x = .str a ∧ xs = [.ref p] ∧ (SqL K H p (ys.map V.str) ∨ SqT K H p (ys.map V.str)) ∧ (ys.map (·.length)).sum + ys.length * a.length ≤ 16777216 ∧ Q (.str (Txt.join a ys)) H
theorem kJoin {e : Expr} {to te : TE} (h : X.K = K) (x : PE X e (tM1 (rJoin X.K) to te)) : PE X e (tM1 (rJoin K) to te) := h ▸ x
theorem kAll (h : X.K = K) (hc : X.calm = true) : CallR X (.builtin "all") (rAll K) := h ▸ cr_all hc
/-- (a, b, ..), told as the object that it is -/
def tTupF (t : TA) : TE := fun σ H Q => t σ H fun xs H1 => xs.length ≤ sizeLine ∧ ∀ p o, H1 p = none → o.dict = none → Q (.ref p) (upd H1 p (.frz o (.tup xs)))
theorem pe_tupF {es : List Expr} {t : TA} {pos : Pos} {x1} (h : PA X es t) : PE X (.Tuple es x1 pos) (tTupF t) := by
  refine ⟨fun pins s σ H Q I hw => wpAny_Tuple_spliced (thn (h.run pos pins s σ H _ I hw) fun us s1 hv => ?_)⟩
  obtain ⟨xs, H1, J, r, z, q⟩ := hv
  refine ⟨by rw [← r.length]; exact z, .ref s1.heap.objs.size, upd H1 s1.heap.objs.size (.frz { cls := .type "tuple", data := .seq us.toArray } (.tup xs)), ?_, rfl, q _ _ (J.hok.fresh (Nat.le_refl _)) rfl⟩
  have g : (s1.heap.push { cls := .type "tuple", data := .seq us.toArray }).get? s1.heap.objs.size = some { cls := .type "tuple", data := .seq us.toArray } := Heap.get?_push_size _ rfl
  exact J.laid (t' := s1.toks) (fun _ _ e => Heap.get?_push_of_some _ e) (Nat.le_refl _) ⟨g, z, us, r, ⟨_, g, rfl, _, rfl⟩⟩
/-- tuple(x), likewise -/
def rTupleF (K : PySem.W.Frag) : List V → Hp → VK → Prop := fun xs H Q => ∃ p ys, xs = [.ref p] ∧ ((SqL K H p ys ∧ ∀ l o, H l = none → o.dict = none → Q (.ref l) (upd H l (.frz o (.tup ys)))) ∨ (SqT K H p ys ∧ Q (.ref p) H))
theorem kTupleF (h : X.K = K) : CallR X (.type "tuple") (rTupleF K) := by
  subst h
  rintro pins s σ H _ us Q I r ⟨p, ys, rfl, hw⟩
  obtain ⟨u, rfl, rx⟩ := vals1 r
  cases rx
  rcases hw with ⟨hq, q⟩ | ⟨hq, q⟩
  · obtain ⟨its, rv, pl, hz⟩ := I.list hq
    have hlen := rv.length
    refine call_tuple_list pl.isList (fun h' kp => ?_) (by simp only [List.size_toArray] <;> omega)
    have J : Inv X pins σ H { s with heap := h' } := I.kept (t' := s.toks) kp
    have g : (h'.push { cls := .type "tuple", data := .seq its.toArray }).get? h'.objs.size = some { cls := .type "tuple", data := .seq its.toArray } := Heap.get?_push_size _ rfl
    exact ⟨.ref h'.objs.size, _, J.laid (t' := s.toks) (fun _ _ e => Heap.get?_push_of_some _ e) (Nat.le_refl _) (show ObjOk X.prog X.w _ _ _ (.frz _ (.tup ys)) from ⟨g, hz, its, rv, ⟨_, g, rfl, _, rfl⟩⟩), rfl, q _ _ (J.hok.fresh (Nat.le_refl _)) rfl⟩
  · obtain ⟨its, _, pl, _⟩ := I.tuple hq
    exact call_tuple_same pl ⟨.ref p, H, I, rfl, q⟩
/-- t.m(e, ..), t such a tuple -/
def tBMF (r : V → List V → Hp → VK → Prop) (to : TE) (t : TA) : TE := fun σ H Q => to σ H fun x H1 => (∃ p xs, x = .ref p ∧ FT H1 p xs) ∧ t σ H1 fun vs H2 => r x vs H2 Q
theorem pe_bmF {o e : Expr} {es : List Expr} {to : TE} {t : TA} {name : Str} {apos cpos : Pos} {id : String} {r : V → List V → Hp → VK → Prop} (pa : PlainAttrs "tuple") (slot : Slot "tuple" name id) (hty : typeOf (.builtin id) = pure (.type "method_descriptor")) (hm : MtR X id r)
    (ho : PE X o to) (ha : PA X (e :: es) t) (h1 : attributeBase o name X.env (eval o X.env) = eval o X.env := by rfl)
    (h2 : ((backTo cpos (starEach (e :: es) X.env)).all (fun x => !x.1) && (backToKw cpos (keywordEach [] X.env)).all (fun x => x.1.isSome) && decide ((e :: es).length + ([] : List Keyword).length + (if ([] : List Keyword).isEmpty then 0 else 1) < 30)) = true := by rfl)
    (h3 : (apos.endLine == cpos.line) = true := by rfl) (h4 : starEach (e :: es) X.env = (false, eval e X.env) :: starEach es X.env := by rfl) (h5 : (backTo cpos (starEach es X.env)).any (·.1) = false := by rfl) :
    PE X (.Call (.Attribute o name apos) (e :: es) [] cpos) (tBMF r to t) := by
  refine ⟨fun pins s σ H Q I hw => wpAny_Call_method_late h1 h2 h3 rfl (thn (ho.run pins s σ H _ I hw) fun v s1 hv => ?_)⟩
  obtain ⟨x, H1, J, rx, ⟨p, xs, rfl, ob, dn, hp⟩, q⟩ := hv
  cases rx
  obtain ⟨g, _, its, _, ob', g', hc, _⟩ := J.hok p _ hp
  have eo : ob = ob' := Option.some.inj (g.symm.trans g')
  subst eo
  refine ⟨"tuple", id, pa, slot, hty, ⟨ob, g, hc⟩, fun a ea => ?_, ?_⟩
  · cases ea
    exact ⟨ob, g, dn⟩
  have hA := ha.run cpos pins s1 σ H1 _ J q
  rw [h4] at hA ⊢
  refine Calls.callWith_builtin (by show (false || (backTo cpos (starEach es X.env)).any (·.1)) = false; rw [h5] <;> rfl) (Calls.evalArgs_plain (thn hA fun us s2 hv => ?_))
  obtain ⟨vs, H2, J2, r2, q2⟩ := hv
  exact hm pins s2 σ H2 (.ref p) vs _ us Q J2 rfl r2 q2
/-- a walk over the list or the tuple at a, and what it leans on -/
inductive SeqIt (K : PySem.W.Frag) (a : Addr) : It → (Hp → List V → Prop) → Prop
  | l : SeqIt K a (Itl K a) fun H xs => SqL K H a xs
  | t : SeqIt K a (Itt K a) fun H xs => SqT K H a xs
theorem SeqIt.mono {a : Addr} {J : It} {C : Hp → List V → Prop} (h : SeqIt K a J C) {H H' : Hp} {xs : List V} (m : ∀ o, H a = some o → H' a = some o) (c : C H xs) : C H' xs := by
  cases h with
  | l =>
    rcases c with (c | ⟨o, c⟩) | c
    · exact .inl (.inl (m _ c))
    · exact .inl (.inr ⟨o, m _ c⟩)
    · exact .inr c
  | t =>
    rcases c with (c | ⟨o, c⟩) | c
    · exact .inl (.inl (m _ c))
    · exact .inl (.inr ⟨o, m _ c⟩)
    · exact .inr c
/-- a list or a tuple is walked -/
def iSeq (K : PySem.W.Frag) (tl : TE) : TI := fun σ H R => tl σ H fun x H1 => ∃ a xs, x = .ref a ∧ (SqL K H1 a xs ∨ SqT K H1 a xs) ∧ ∀ J C, SeqIt K a J C → C H1 xs → R J H1
theorem kPiS {tg l : Expr} {tl : TE} (h : X.K = K) (hl : PE X l tl) : PI X tg l (iSeq K tl) := by
  subst h
  refine ⟨fun pins s σ H R I hw => thn (hl.run pins s σ H _ I hw) fun v s1 hv => ?_⟩
  obtain ⟨x, H1, J, rx, a, xs, rfl, hq, q⟩ := hv
  cases rx
  have new : ∀ b ∈ [s1.heap.objs.size], FpOk X pins H1 b := fun b hb => by
    rw [List.mem_singleton.mp hb]
    exact J.fpOk (Nat.le_refl _) (J.hok.fresh (Nat.le_refl _))
  rcases hq with hq | hq
  · obtain ⟨its, _, pl, _⟩ := J.list hq
    exact wpAny_pyIter_list pl.isList ⟨_, _, _, _, H1, rfl, J.kept (t' := s1.toks) fun _ _ z => Heap.get?_push_of_some _ z, turn_list a _, ⟨_, Heap.get?_push_size _ rfl, rfl, rfl⟩, new, q _ _ .l hq⟩
  · obtain ⟨its, _, pt, _⟩ := J.tuple hq
    exact wpAny_pyIter_tuple (show s1.heap.IsTuple a its.toArray from pt) ⟨_, _, _, _, H1, rfl, J.kept (t' := s1.toks) fun _ _ z => Heap.get?_push_of_some _ z, turn_tuple a _, ⟨_, Heap.get?_push_size _ rfl, rfl, rfl⟩, new, q _ _ .t hq⟩
variable {K}
/-- what a comprehension's walk asks, and a loop's -/
def LcEnd (J : It) (g : TG) (tt : TT) (te : TE) (vs : List Nat) (σ : L2.St) (H1 : Hp) (D : Addr) (Qd : Hp → Prop) : Prop :=
  ∃ W : Nat → Nat → Hp → Prop, (∃ m, W 0 m (upd H1 D (.lst []))) ∧
    ∀ i m H, W i m H →
      (J.stop i H ∧ Qd H) ∨
      (J.go i H ∧ ∃ Nx : Hp → Prop, (∀ H', Nx H' → ∃ m', m' < m ∧ W (i + 1) m' H') ∧
        ∀ x H', J.yld i H x H' →
          g x (wipe σ vs) H' fun σ2 H2 => wipe σ2 vs = wipe σ vs ∧
            tt σ2 H2 fun b H3 => if b = true then te σ2 H3 fun y H4 =>
              ∃ acc, H4 D = some (.lst acc) ∧ acc.length < sizeLine ∧ Nx (upd H4 D (.lst (acc ++ [y])))
            else Nx H3)
theorem lc_seq {a : Addr} {J : It} {C : Hp → List V → Prop} {xs : List V} {g : TG} {tt : TT} {te : TE} {vs : List Nat} {σ : L2.St} {H1 : Hp} {D : Addr} {Qd : Hp → Prop} (hJ : SeqIt K a J C) (Pv : Nat → Hp → Prop) (h0 : Pv 0 (upd H1 D (.lst [])))
    (hl : ∀ i H, Pv i H → C H xs)
    (hs : ∀ i x H, xs[i]? = some x → Pv i H → g x (wipe σ vs) H fun σ2 H2 => wipe σ2 vs = wipe σ vs ∧ tt σ2 H2 fun b H3 =>
      if b = true then te σ2 H3 fun y H4 => ∃ acc, H4 D = some (.lst acc) ∧ acc.length < sizeLine ∧ Pv (i + 1) (upd H4 D (.lst (acc ++ [y]))) else Pv (i + 1) H3)
    (hd : ∀ H, Pv xs.length H → Qd H) : LcEnd J g tt te vs σ H1 D Qd := by
  cases hJ with
  | l => exact lc_list (xs := xs) Pv h0 (fun i H _ p => hl i H p) hs hd
  | t => exact lc_tup (xs := xs) Pv h0 (fun i H _ p => hl i H p) hs hd
def ForEnd (J : It) (g : TG) (tb : TS) (D : Ends) (σ : L2.St) (H1 : Hp) : Prop :=
  ∃ W : Nat → Nat → L2.St → Hp → Prop, (∃ m, W 0 m σ H1) ∧
    ∀ i m σ H, W i m σ H →
      (J.stop i H ∧ D.nx σ H) ∨
      (J.go i H ∧ ∃ N : L2.St → Hp → Prop, (∀ σ' H', N σ' H' → ∃ m', m' < m ∧ W (i + 1) m' σ' H') ∧
        ∀ x H', J.yld i H x H' → g x σ H' fun σ2 H2 => tb { D with nx := N, ct := N, bk := D.nx } σ2 H2)
/-- a loop over such a walk -/
theorem for_seq {a : Addr} {J : It} {C : Hp → List V → Prop} {xs : List V} {g : TG} {tb : TS} {D : Ends} {σ : L2.St} {H1 : Hp} (hJ : SeqIt K a J C) (Pv : Nat → L2.St → Hp → Prop) (h0 : Pv 0 σ H1)
    (hl : ∀ i σ H, Pv i σ H → C H xs)
    (hs : ∀ i x σ H, xs[i]? = some x → Pv i σ H → g x σ H fun σ2 H2 => tb { D with nx := Pv (i + 1), ct := Pv (i + 1), bk := D.nx } σ2 H2)
    (hd : ∀ σ H, Pv xs.length σ H → D.nx σ H) : ForEnd J g tb D σ H1 := by
  cases hJ with
  | l => exact for_list (xs := xs) Pv h0 (fun i σ H _ p => hl i σ H p) hs hd
  | t => exact for_tup (xs := xs) Pv h0 (fun i σ H _ p => hl i σ H p) hs hd
variable (K)
/-- (a, b, ..) = a list or a tuple of that length -/
def gSeq (K : PySem.W.Frag) (n : Nat) (t : TGs) : TG := fun v σ H Q => ∃ a xs, v = .ref a ∧ (SqL K H a xs ∨ SqT K H a xs) ∧ xs.length = n ∧ t xs σ H Q
theorem kPgS {tg : Expr} {n : Nat} {t : TGs} (h : X.K = K) (x : PG X tg (gTup X.K n t)) (y : PG X tg (gUnl X.K n t)) : PG X tg (gSeq K n t) := by
  subst h
  refine ⟨fun pins s σ H v u Q I r hw => ?_⟩
  obtain ⟨a, xs, e, hq | hq, hl, hw⟩ := hw
  · exact y.run pins s σ H v u Q I r ⟨a, xs, e, hq, hl, hw⟩
  · exact x.run pins s σ H v u Q I r ⟨a, xs, e, hq, hl, hw⟩
theorem kTupIx (h : X.K = K) : MtR X "tuple.index" (fun x xs H Q => ∃ p, ∃ ns : List Int, ∃ k : Int, x = .ref p ∧ xs = [.int k] ∧ SqT K H p (ns.map V.int) ∧ k ∈ ns ∧ Q (.int (ns.idxOf k : Nat)) H) := by
  subst h
  rintro pins s σ H x xs v us Q I rx rs ⟨p, ns, k, rfl, rfl, hq, hk, q⟩
  cases rx
  obtain ⟨u, rfl, ru⟩ := rs.one
  obtain ⟨t, rfl⟩ := ru
  obtain ⟨its, r, pl, _⟩ := I.tuple hq
  exact SeqAt.tuple_index_ints pl (intsAre_of r) hk ⟨.int _, H, I.tok _, ⟨_, rfl⟩, q⟩
end

/-! ### spaces -/
abbrev Jn := Option (Nat × Trn)
abbrev Blk := List Jn
abbrev Spc := List Blk
def free4 : Blk := [none, none, none, none]
/-- what stands at a face: none where there is no such face -/
def getJ (s : Spc) (b f : Nat) : Option Jn := s[b]?.bind fun l => l[f]?
def setJ (s : Spc) (b f : Nat) (j : Jn) : Spc := s.modify b fun l => l.set f j
def tf (t : Trn) (f : Nat) : Nat := t[f]?.getD 0
def joinJ (s : Spc) (b f n : Nat) (t : Trn) : Spc := setJ (setJ s b f (some (n, t))) n (tf t f) (some (b, back t))
theorem setJ_len (s : Spc) (b f : Nat) (j : Jn) : (setJ s b f j).length = s.length := List.length_modify ..
theorem joinJ_len (s : Spc) (b f n : Nat) (t : Trn) : (joinJ s b f n t).length = s.length := by
  unfold joinJ
  rw [setJ_len, setJ_len]
theorem getJ_set (s : Spc) (b f b' f' : Nat) (j : Jn) : getJ (setJ s b f j) b' f' = if b' = b ∧ f' = f then (getJ s b' f').map fun _ => j else getJ s b' f' := by
  unfold getJ setJ
  rw [List.getElem?_modify]
  cases h : s[b']? with
  | none => simp
  | some l =>
    show ((fun a => if b = b' then List.set a f j else a) l)[f']? = _
    by_cases hb : b = b'
    · subst hb
      show (if b = b then List.set l f j else l)[f']? = if b = b ∧ f' = f then (l[f']?).map fun _ => j else l[f']?
      rw [if_pos rfl, List.getElem?_set]
      by_cases hf : f = f'
      · subst hf
        rw [if_pos (show f = f from rfl), if_pos (show b = b ∧ f = f from ⟨rfl, rfl⟩)]
        by_cases hl : f < l.length
        · rw [if_pos hl, List.getElem?_eq_getElem hl]
          rfl
        · rw [if_neg hl, List.getElem?_eq_none (Nat.le_of_not_lt hl)]
          rfl
      · rw [if_neg hf, if_neg (fun z => hf z.2.symm)]
    · show (if b = b' then List.set l f j else l)[f']? = _
      rw [if_neg hb, if_neg (fun z => hb z.1.symm)]
      rfl
def L4 (s : Spc) : Prop := ∀ b ∈ s, b.length = 4
theorem L4.get {s : Spc} (h : L4 s) {b : Nat} (hb : b < s.length) {f : Nat} (hf : f < 4) : ∃ j, getJ s b f = some j := by
  unfold getJ
  rw [List.getElem?_eq_getElem hb]
  have := h _ (List.getElem_mem hb)
  exact ⟨_, List.getElem?_eq_getElem (by omega)⟩
theorem L4.of {s : Spc} (h : L4 s) {b f : Nat} {j : Jn} (e : getJ s b f = some j) : b < s.length ∧ f < 4 := by
  unfold getJ at e
  cases hs : s[b]? with
  | none =>
    rw [hs] at e
    cases e
  | some l =>
    rw [hs] at e
    have h1 := (List.getElem?_eq_some_iff.mp hs).1
    have h2 := (List.getElem?_eq_some_iff.mp (show l[f]? = some j from e)).1
    exact ⟨h1, by rw [h l (List.mem_of_getElem? hs)] at h2; exact h2⟩
theorem L4.set {s : Spc} (h : L4 s) (b f : Nat) (j : Jn) : L4 (setJ s b f j) := fun l hl => by
  obtain ⟨i, hi⟩ := List.mem_iff_getElem?.mp hl
  unfold setJ at hi
  rw [List.getElem?_modify] at hi
  cases hs : s[i]? with
  | none =>
    rw [hs] at hi
    simp at hi
  | some m =>
    rw [hs] at hi
    have hm := h m (List.mem_of_getElem? hs)
    simp at hi
    rw [← hi]
    split
    · rw [List.length_set]
      exact hm
    · exact hm
theorem L4.join {s : Spc} (h : L4 s) (b f n : Nat) (t : Trn) : L4 (joinJ s b f n t) := (h.set _ _ _).set _ _ _
/-- joinings go both ways -/
def Both (s : Spc) : Prop := ∀ b f n t, getJ s b f = some (some (n, t)) → t ∈ allTurns ∧ (n, tf t f) ≠ (b, f) ∧ getJ s n (tf t f) = some (some (b, back t))
structure Good (s : Spc) : Prop where
  l4 : L4 s
  both : Both s
theorem back_back : ∀ t ∈ allTurns, back (back t) = t := by decide +kernel
theorem tf_back : ∀ t ∈ allTurns, ∀ f < 4, tf (back t) (tf t f) = f := by decide +kernel
theorem tf_lt : ∀ t ∈ allTurns, ∀ f < 4, tf t f < 4 ∧ t[f]? = some (tf t f) := by decide +kernel
theorem back_mem {t : Trn} (h : t ∈ allTurns) : back t ∈ allTurns := (turns4 t h).2.2.1
theorem Good.lt {s : Spc} (h : Good s) {b f n : Nat} {t : Trn} (e : getJ s b f = some (some (n, t))) : n < s.length := (h.l4.of (h.both b f n t e).2.2).1
theorem Good.join {s : Spc} (h : Good s) {b f n : Nat} {t : Trn} (ht : t ∈ allTurns) (h1 : getJ s b f = some none) (h2 : getJ s n (tf t f) = some none) (hne : (n, tf t f) ≠ (b, f)) : Good (joinJ s b f n t) := by
  refine ⟨L4.join h.l4 b f n t, fun b' f' n' t' e => ?_⟩
  have hf := (h.l4.of h1).2
  have G : ∀ x y, getJ (joinJ s b f n t) x y = if x = n ∧ y = tf t f then some (some (b, back t)) else if x = b ∧ y = f then some (some (n, t)) else getJ s x y := fun x y => by
    unfold joinJ
    rw [getJ_set, getJ_set]
    by_cases c1 : x = n ∧ y = tf t f
    · rw [if_pos c1, if_pos c1, c1.1, c1.2]
      rw [if_neg (fun z => hne (Prod.ext z.1 z.2)), h2]
      rfl
    · rw [if_neg c1, if_neg c1]
      by_cases c2 : x = b ∧ y = f
      · rw [if_pos c2, if_pos c2, c2.1, c2.2, h1]
        rfl
      · rw [if_neg c2, if_neg c2]
  rw [G] at e ⊢
  by_cases c1 : b' = n ∧ f' = tf t f
  · rw [if_pos c1] at e
    obtain ⟨rfl, rfl⟩ := c1
    cases e
    refine ⟨back_mem ht, ?_, ?_⟩
    · rw [tf_back t ht f hf]
      exact fun z => hne z.symm
    · rw [tf_back t ht f hf, if_neg (fun z => hne (Prod.ext z.1.symm z.2.symm)), if_pos ⟨rfl, rfl⟩, back_back t ht]
  · rw [if_neg c1] at e
    by_cases c2 : b' = b ∧ f' = f
    · rw [if_pos c2] at e
      obtain ⟨rfl, rfl⟩ := c2
      cases e
      refine ⟨ht, hne, ?_⟩
      rw [if_pos ⟨rfl, rfl⟩]
    · rw [if_neg c2] at e
      obtain ⟨q1, q2, q3⟩ := h.both _ _ _ _ e
      refine ⟨q1, q2, ?_⟩
      rw [if_neg, if_neg]
      · exact q3
      · rintro ⟨rfl, hz⟩
        rw [hz, h1] at q3
        cases q3
      · rintro ⟨rfl, hz⟩
        rw [hz, h2] at q3
        cases q3
theorem getJ_join {s : Spc} {b f n : Nat} {t : Trn} {x y : Nat} (n1 : ¬ (x = b ∧ y = f)) (n2 : ¬ (x = n ∧ y = tf t f)) : getJ (joinJ s b f n t) x y = getJ s x y := by
  unfold joinJ
  rw [getJ_set, if_neg n2, getJ_set, if_neg n1]

/-! ### spaces as they stand -/
def JAt (H : Hp) (v : V) : Jn → Prop
  | none => v = .non
  | some (n, t) => ∃ p q, v = .ref p ∧ FT H p [intV n, .ref q] ∧ FT H q (trnV t)
theorem JAt.mono {H H' : Hp} {v : V} {j : Jn} (h : JAt H v j) (m : Tups H H') : JAt H' v j := by
  cases j with
  | none => exact h
  | some k =>
    obtain ⟨p, q, e, h1, h2⟩ := h
    exact ⟨p, q, e, h1.mono m, h2.mono m⟩
theorem JAt.kind {H : Hp} {v : V} {j : Jn} (h : JAt H v j) : v = .non ∨ ∃ p xs, v = .ref p ∧ FT H p xs := by
  cases j with
  | none => exact .inl h
  | some k =>
    obtain ⟨p, q, e, h1, h2⟩ := h
    exact .inr ⟨p, _, e, h1⟩
def BAt (H : Hp) (v : V) (b : Blk) : Prop := ∃ p vs, v = .ref p ∧ H p = some (.lst vs) ∧ Paired (JAt H) vs b
theorem BAt.mono {H H' : Hp} {v : V} {b : Blk} (h : BAt H v b) (m : Tups H H') (k : ∀ p xs, v = .ref p → H p = some (.lst xs) → H' p = some (.lst xs)) : BAt H' v b := by
  obtain ⟨p, vs, e, h1, h2⟩ := h
  exact ⟨p, vs, e, k p vs e h1, pmono h2 fun _ _ x => x.mono m⟩
structure SpAt (H : Hp) (l : Addr) (rs : List V) (s : Spc) : Prop where
  l : H l = some (.lst rs)
  b : Paired (BAt H) rs s
  nd : rs.Nodup
theorem notReel_blk {H : Hp} {vs : List V} {b : Blk} (h : Paired (JAt H) vs b) (hb : b ≠ []) : NotReel vs := by
  have hv : ∀ v ∈ vs, ∀ i : Int, v ≠ .int i := fun v hv i e => by
    obtain ⟨k, hk⟩ := List.mem_iff_getElem?.mp hv
    obtain ⟨j, _, hj⟩ := pget' h hk
    rcases hj.kind with z | ⟨p, xs, z, _⟩
    · rw [e] at z
      cases z
    · rw [e] at z
      cases z
  cases h with
  | nil => exact absurd rfl hb
  | cons a t => exact ⟨_, _, rfl, hv _ List.mem_cons_self, hv⟩
theorem notReel_refs {ps : List V} (hne : ps ≠ []) (h : ∀ v ∈ ps, ∃ p, v = .ref p) : NotReel ps := by
  have hv : ∀ v ∈ ps, ∀ i : Int, v ≠ .int i := fun v hv i e => by
    obtain ⟨p, z⟩ := h v hv
    rw [e] at z
    cases z
  cases ps with
  | nil => exact absurd rfl hne
  | cons a t => exact ⟨_, _, rfl, hv _ List.mem_cons_self, hv⟩
theorem bat_ref {H : Hp} {rs : List V} {s : Spc} (h : Paired (BAt H) rs s) : ∀ v ∈ rs, ∃ p, v = .ref p := fun v hv => by
  obtain ⟨k, hk⟩ := List.mem_iff_getElem?.mp hv
  obtain ⟨b, _, p, vs, e, _⟩ := pget' h hk
  exact ⟨p, e⟩
/-- what changes are inner lists of rs alone -/
def KeepB (rs : List V) (H H' : Hp) : Prop := ∀ b o, H b = some o → V.ref b ∉ rs → H' b = some o
theorem KeepB.trans {rs : List V} {H H1 H2 : Hp} (a : KeepB rs H H1) (b : KeepB rs H1 H2) : KeepB rs H H2 := fun c o h n => b c o (a c o h n) n
theorem KeepB.of {rs : List V} {H H' : Hp} (a : Same H H') : KeepB rs H H' := fun c o h _ => a c o h
theorem KeepB.tups {rs : List V} {H H' : Hp} {s : Spc} (k : KeepB rs H H') (h : Paired (BAt H) rs s) : Tups H H' := fun b o xs e => k b _ e fun z => by
  obtain ⟨i, hi⟩ := List.mem_iff_getElem?.mp z
  obtain ⟨y, _, p, vs, e1, e2, _⟩ := pget' h hi
  injection e1 with e1
  rw [e1, e2] at e
  cases e
/-- the outer list is none of its inner ones -/
theorem SpAt.out {H : Hp} {l : Addr} {rs : List V} {s : Spc} (h : SpAt H l rs s) : V.ref l ∉ rs := fun z => by
  obtain ⟨i, hi⟩ := List.mem_iff_getElem?.mp z
  obtain ⟨y, _, p, vs, e1, e2, e3⟩ := pget' h.b hi
  injection e1 with e1
  subst e1
  have q := lst_inj e2 h.l
  subst q
  obtain ⟨j, _, hj⟩ := pget' e3 hi
  rcases hj.kind with z | ⟨p, xs, z, hp⟩
  · cases z
  · injection z with z
    subst z
    exact hp.ne e2 rfl
theorem ReelOk.keepB {R : Addr} {rs : List V} {H H' : Hp} {s : Spc} (h : ReelOk R H) (k : KeepB rs H H') (hb : Paired (BAt H) rs s) (h4 : L4 s) : ReelOk R H' ∧ V.ref R ∉ rs := by
  obtain ⟨g, c, gs, cs, m, st, r⟩ := h
  have no : ∀ {a : Addr} {xs : List V}, H a = some (.lst xs) → (∀ x l, xs = x :: l → ∃ v ∈ xs, ∃ i : Int, v = .int i) → V.ref a ∉ rs := fun {a xs} ha hx z => by
    obtain ⟨i, hi⟩ := List.mem_iff_getElem?.mp z
    obtain ⟨y, hy, p, vs, e1, e2, e3⟩ := pget' hb hi
    injection e1 with e1
    subst e1
    have q := lst_inj ha e2
    subst q
    obtain ⟨x, l, e, _, hv⟩ := notReel_blk e3 (by
      intro z
      have := h4 y (List.mem_of_getElem? hy)
      rw [z] at this
      cases this)
    obtain ⟨v, hv1, j, hj⟩ := hx x l e
    exact hv v hv1 j hj
  have nI : ∀ {a : Addr} {ns : List Int}, H a = some (.lst (ns.map V.int)) → V.ref a ∉ rs := fun {a ns} ha => no ha fun x l e => by
    cases ns with
    | nil => cases e
    | cons n t => exact ⟨_, List.mem_cons_self, n, rfl⟩
  have nR := no r.r fun _ _ _ => ⟨.int m, by simp, m, rfl⟩
  exact ⟨⟨g, c, gs, cs, m, st, ⟨k _ _ r.r nR, k _ _ r.g (nI r.g), k _ _ r.c (nI r.c), r.gl, r.cl, r.g0, r.c0, r.ne, r.s0, r.s1⟩⟩, nR⟩

/-- the inner lists have come since H -/
def Fresh (H : Hp) (rs : List V) : Prop := ∀ p, V.ref p ∈ rs → H p = none
theorem Keep.inner {R : Addr} {rs : List V} {H H1 H2 : Hp} (k : Keep R H H1) (b : KeepB rs H1 H2) (f : Fresh H rs) : Keep R H H2 := fun c o h n => b c o (k c o h n) fun z => by
  rw [f c z] at h
  cases h
theorem _root_.L2.Same.inner {rs : List V} {H H1 H2 : Hp} (k : Same H H1) (b : KeepB rs H1 H2) (f : Fresh H rs) : Same H H2 := fun c o h => b c o (k c o h) fun z => by
  rw [f c z] at h
  cases h
def FcAt (H : Hp) (v : V) (x : Nat × Nat) : Prop := ∃ p, v = .ref p ∧ FT H p [intV x.1, intV x.2]
theorem FcAt.mono {H H' : Hp} {v : V} {x : Nat × Nat} (h : FcAt H v x) (m : Tups H H') : FcAt H' v x := by
  obtain ⟨p, e, h⟩ := h
  exact ⟨p, e, h.mono m⟩
def facesTo (n : Nat) : List (Nat × Nat) := (List.range n).map fun k => (k / 4, k % 4)
theorem facesTo_succ (n : Nat) : facesTo (n + 1) = facesTo n ++ [(n / 4, n % 4)] := by
  unfold facesTo
  rw [List.range_succ, List.map_append]
  rfl
theorem facesTo_nd (n : Nat) : (facesTo n).Nodup := by
  unfold facesTo
  refine List.Pairwise.map _ (fun a b h => ?_) (List.nodup_range (n := n))
  intro e
  injection e with e1 e2
  exact h (by omega)
theorem facesTo_mem {n : Nat} {x : Nat × Nat} (h : x ∈ facesTo (4 * n)) : x.1 < n ∧ x.2 < 4 := by
  unfold facesTo at h
  rw [List.mem_map] at h
  obtain ⟨k, hk, rfl⟩ := h
  rw [List.mem_range] at hk
  show k / 4 < n ∧ k % 4 < 4
  omega
theorem pperm_erase {α : Type} {l : List α} {i : Nat} {x : α} (h : l[i]? = some x) : (x :: l.eraseIdx i).Perm l := by
  induction l generalizing i with
  | nil => simp at h
  | cons y r ih =>
    cases i with
    | zero =>
      have e : y = x := by simpa using h
      subst e
      exact .refl _
    | succ i => exact (List.Perm.swap y x _).trans ((ih (by simpa using h)).cons y)
theorem perase {α β : Type} {F : α → β → Prop} : ∀ {xs : List α} {ys : List β} (i : Nat), Paired F xs ys → Paired F (xs.eraseIdx i) (ys.eraseIdx i)
  | _, _, _, .nil => .nil
  | _, _, 0, .cons _ t => t
  | _, _, i + 1, .cons r t => .cons r (perase i t)
def freeS (n : Nat) : Spc := List.replicate n free4
theorem freeS_get {n b f : Nat} {j : Jn} (h : getJ (freeS n) b f = some j) : j = none := by
  unfold getJ freeS at h
  cases e : (List.replicate n free4)[b]? with
  | none =>
    rw [e] at h
    cases h
  | some l =>
    rw [e] at h
    have el := List.eq_of_mem_replicate (List.mem_of_getElem? e)
    subst el
    have hm := List.mem_of_getElem? (show free4[f]? = some j from h)
    simpa [free4] using hm
theorem freeS_good (n : Nat) : Good (freeS n) := ⟨fun b hb => by rw [List.eq_of_mem_replicate hb]; rfl, fun b f m t e => by
  have := freeS_get e
  cases this⟩
theorem pmonoM {α β : Type} {F G : α → β → Prop} : ∀ {xs : List α} {ys : List β}, Paired F xs ys → (∀ a ∈ xs, ∀ b, F a b → G a b) → Paired G xs ys
  | _, _, .nil, _ => .nil
  | _, _, .cons r t, m => .cons (m _ List.mem_cons_self _ r) (pmonoM t fun a ha => m a (List.mem_cons_of_mem _ ha))
theorem SpAt.fresh {H : Hp} {l p : Addr} {rs : List V} {s : Spc} (h : SpAt H l rs s) (n : H p = none) : V.ref p ∉ rs := fun z => by
  obtain ⟨i, hi⟩ := List.mem_iff_getElem?.mp z
  obtain ⟨y, _, p', vs, e1, e2, _⟩ := pget' h.b hi
  injection e1 with e1
  rw [← e1, n] at e2
  cases e2
theorem SpAt.push {H1 H2 : Hp} {D p : Addr} {rs : List V} {S : Spc} {b : Blk} (h : SpAt H1 D rs S) (s : Same H1 H2) (n : H1 p = none) (hb : BAt H2 (.ref p) b) :
    SpAt (upd H2 D (.lst (rs ++ [.ref p]))) D (rs ++ [.ref p]) (S ++ [b]) := by
  have hD := s _ _ h.l
  have out := h.out
  refine ⟨upd_same, papp (pmonoM h.b fun v hv b z => z.mono (s.tups.trans (tups_set hD)) fun q xs e1 e2 => ?_) (.cons (hb.mono (tups_set hD) fun q xs e1 e2 => ?_) .nil), ?_⟩
  · rw [upd_ne (show q ≠ D from fun z => out (by rw [← z, ← e1]; exact hv))]
    exact s _ _ e2
  · injection e1 with e1
    subst e1
    rw [upd_ne (show p ≠ D from fun z => by rw [z, h.l] at n; cases n)]
    exact e2
  · rw [List.nodup_append]
    refine ⟨h.nd, by simp, fun a ha c hc e => ?_⟩
    rw [List.mem_singleton.mp hc] at e
    rw [e] at ha
    exact h.fresh n ha
theorem Fresh.push {H H1 : Hp} {rs : List V} {p : Addr} (h : Fresh H rs) (s : ∀ o, H p = some o → H1 p = some o) (n : H1 p = none) : Fresh H (rs ++ [.ref p]) := fun q z => by
  rcases List.mem_append.mp z with z | z
  · exact h q z
  · have e := List.mem_singleton.mp z
    injection e with e
    subst e
    cases hq : H q with
    | none => rfl
    | some o =>
      rw [s o hq] at n
      cases n
theorem fdiv_nat (a b : Nat) : (a : Int).fdiv (b : Int) = ((a / b : Nat) : Int) := by
  rw [Int.fdiv_eq_ediv_of_nonneg _ (by omega)]
  rfl
theorem fmod_nat (a b : Nat) : (a : Int).fmod (b : Int) = ((a % b : Nat) : Int) := by
  rw [Int.fmod_eq_emod_of_nonneg _ (by omega)]
  rfl
theorem seqIx_nat {n k : Nat} (h : k < n) : seqIndex? (k : Int) n = some k := by
  show (if (decide ((0 : Int) ≤ if (k : Int) < 0 then (k : Int) + n else k) && decide ((if (k : Int) < 0 then (k : Int) + n else k) < n)) = true then some (if (k : Int) < 0 then (k : Int) + n else k).toNat else none) = some k
  rw [if_neg (show ¬ (k : Int) < 0 by omega), decide_eq_true (show (0 : Int) ≤ k by omega), decide_eq_true (show (k : Int) < n by omega)]
  rfl
/-- a store into another list -/
theorem SpAt.other {H : Hp} {l p : Addr} {rs : List V} {s : Spc} {xs : List V} {o : HO} (h : SpAt H l rs s) (hp : H p = some (.lst xs)) (n1 : p ≠ l) (n2 : V.ref p ∉ rs) : SpAt (upd H p o) l rs s :=
  ⟨by rw [upd_ne n1.symm]; exact h.l, pmonoM h.b fun v hv b z => z.mono (tups_set hp) fun q xs e1 e2 => by
    rw [upd_ne (show q ≠ p from fun z => n2 (by rw [← z, ← e1]; exact hv))]
    exact e2, h.nd⟩
theorem refs_no_int {F : Hp → V → (Nat × Nat) → Prop} {H : Hp} {xs : List V} {fs : List (Nat × Nat)} (h : Paired (F H) xs fs) (hF : ∀ v x, F H v x → ∃ p, v = .ref p) : ∀ v ∈ xs, ∃ p, v = .ref p := fun v hv => by
  obtain ⟨k, hk⟩ := List.mem_iff_getElem?.mp hv
  obtain ⟨y, _, hy⟩ := pget' h hk
  exact hF v y hy
theorem fc_refs {H : Hp} {xs : List V} {fs : List (Nat × Nat)} (h : Paired (FcAt H) xs fs) : ∀ v ∈ xs, ∃ p, v = .ref p := refs_no_int (F := FcAt) h fun v x z => by
  obtain ⟨p, e, _⟩ := z
  exact ⟨p, e⟩
theorem no_int {xs : List V} (h : ∀ v ∈ xs, ∃ p, v = .ref p) : ∀ v ∈ xs, ∀ i : Int, v ≠ .int i := fun v hv i e => by
  obtain ⟨p, z⟩ := h v hv
  rw [e] at z
  cases z
theorem turns_face6 : ∀ f < 4, ∀ a < 4, (allTurns.filter fun t => tf t f == a).length = 6 := by decide +kernel
theorem filter_take_succ {α : Type} {l : List α} {i : Nat} {x : α} {p : α → Bool} (h : l[i]? = some x) : (l.take (i + 1)).filter p = (l.take i).filter p ++ (if p x then [x] else []) := by
  rw [List.take_add_one, h, List.filter_append]
  by_cases hp : p x
  · rw [if_pos hp]
    simp [hp]
  · rw [if_neg hp]
    simp [hp]
theorem tat_refs {H : Hp} {xs : List V} {ts : List Trn} (h : Paired (TAt H) xs ts) : ∀ v ∈ xs, ∃ p, v = .ref p := fun v hv => by
  obtain ⟨k, hk⟩ := List.mem_iff_getElem?.mp hv
  obtain ⟨y, _, p, e, _⟩ := pget' h hk
  exact ⟨p, e⟩
theorem dec_nat (a b : Nat) : decide ((intV a) = (intV b)) = (a == b) := by
  by_cases h : a = b
  · subst h
    simp
  · rw [beq_eq_false_iff_ne.mpr h]
    exact decide_eq_false (fun z => h (by injection z with z; omega))
theorem nodup_ne {α : Type} {l : List α} (h : l.Nodup) {i j : Nat} {x y : α} (hi : l[i]? = some x) (hj : l[j]? = some y) (n : i ≠ j) : x ≠ y := fun e => by
  subst e
  exact n (nd_ix h hi hj)
theorem ReelOk.isNot {R p : Addr} {H H' : Hp} {o : HO} (_ : ReelOk R H) (_ : H p = some o) (n : H' p = none) (h' : ReelOk R H') : p ≠ R := fun z => by
  obtain ⟨g, c, gs, cs, m, st, r⟩ := h'
  rw [z, r.r] at n
  cases n
/-- what was none of the reel's lists is none -/
def Aw (R : Addr) (H H' : Hp) : Prop := ∀ D, H D ≠ none → Away R D H → Away R D H'
theorem _root_.L2.Same.aw {R : Addr} {H H' : Hp} (s : Same H H') : Aw R H H' := fun _ _ z => z.same s
theorem Aw.trans {R : Addr} {H H1 H2 : Hp} (a : Aw R H H1) (k : Keep R H H1) (b : Aw R H1 H2) : Aw R H H2 := fun D n z => b D (fun y => n (k.free y z.ne)) (a D n z)
theorem Aw.set {R p : Addr} {H : Hp} {xs : List V} {o : HO} (hp : H p = some (.lst xs)) (n : NotReel xs) : Aw R H (upd H p o) := fun _ _ z => (z.set hp n).1
theorem Aw.fill {R L : Addr} {H : Hp} {o : HO} (a : Away R L H) : Aw R H (upd H L o) := fun _ _ z => z.fill' a
theorem Aw.keepB {R : Addr} {rs : List V} {H H' : Hp} {s : Spc} (k : KeepB rs H H') (hb : Paired (BAt H) rs s) (h4 : L4 s) : Aw R H H' := fun D _ z => by
  obtain ⟨g, c, gs, cs, m, st, r, q⟩ := z
  have no : ∀ {a : Addr} {xs : List V}, H a = some (.lst xs) → (∀ x l, xs = x :: l → ∃ v ∈ xs, ∃ i : Int, v = .int i) → V.ref a ∉ rs := fun {a xs} ha hx z => by
    obtain ⟨i, hi⟩ := List.mem_iff_getElem?.mp z
    obtain ⟨y, hy, p, vs, e1, e2, e3⟩ := pget' hb hi
    injection e1 with e1
    subst e1
    have q := lst_inj ha e2
    subst q
    obtain ⟨x, l, e, _, hv⟩ := notReel_blk e3 (by
      intro z
      have := h4 y (List.mem_of_getElem? hy)
      rw [z] at this
      cases this)
    obtain ⟨v, hv1, j, hj⟩ := hx x l e
    exact hv v hv1 j hj
  have nI : ∀ {a : Addr} {ns : List Int}, H a = some (.lst (ns.map V.int)) → V.ref a ∉ rs := fun {a ns} ha => no ha fun x l e => by
    cases ns with
    | nil => cases e
    | cons n t => exact ⟨_, List.mem_cons_self, n, rfl⟩
  have nR := no r.r fun _ _ _ => ⟨.int m, by simp, m, rfl⟩
  exact ⟨g, c, gs, cs, m, st, ⟨k _ _ r.r nR, k _ _ r.g (nI r.g), k _ _ r.c (nI r.c), r.gl, r.cl, r.g0, r.c0, r.ne, r.s0, r.s1⟩, q⟩
end Bk

/-! An error that a try keeps as a value: try: .. except X as e: caught = e; and isinstance of it behind the try. -/
namespace Bk
open PySem PySem.Spec PyProof.Rows L2
/-- an error that was caught, held as a value: its class and its own dict -/
def CaO (cls : Value) (d : Option Addr) (a : Addr) : HO := .ext fun h => ∃ (ob : Obj) (fs : Array Value), h.get? a = some ob ∧ Zc cls d ob ∧ ob.data = .fields fs
theorem caO_ok {P : Program} {w : World} {H : Hp} {h : Heap} {a : Addr} {cls : Value} {d : Option Addr} {ob : Obj} {fs : Array Value} (e : h.get? a = some ob) (z : Zc cls d ob) (q : ob.data = .fields fs) : ObjOk P w H h a (CaO cls d a) :=
  ⟨⟨ob, fs, e, z, q⟩, ⟨ob, e⟩, fun _ _ ⟨u, v, k, r⟩ m => ⟨u, v, m u k, r⟩⟩
section
variable {X : Cx} {pins : List (Addr × Obj)} {σ : L2.St} {H : Hp} {s0 s : Shared} {B : Heap}
theorem landedX (I : Inv X pins σ H s0) (nb : ∀ b o, s0.heap.get? b = some o → b ∉ frs X.stack → B.get? b = some o) (stays : B.StaysIn s.heap) (slots : s0.heap.UpToSlots s.heap) (eo : s.os = s0.os) (bare : AllBare s.gens)
    {a : Addr} {cls : Value} {d : Option Addr} {ob : Obj} {fs : Array Value} (ha : s.heap.get? a = some ob) (hz : Zc cls d ob) (hd : ob.data = .fields fs) (fresh : s0.heap.get? a = none) (na : H a = none) : Inv X pins σ (upd H a (CaO cls d a)) s := by
  have other : ∀ b o, s0.heap.get? b = some o → b ≠ a := fun b o e z => by
    rw [z, fresh] at e
    cases e
  have frm : ∀ b o, b ∈ frs X.stack → s0.heap.get? b = some o → ∃ sl, s.heap.get? b = some { o with slots := sl } := fun b o hb e => by
    obtain ⟨_, o2, e2, nofields⟩ := I.stack.mem hb
    obtain rfl : o = o2 := Option.some.inj (e.symm.trans e2)
    exact slots b o e nofields
  have still : ∀ b o, b ∉ frs X.stack → s0.heap.get? b = some o → s.heap.get? b = some o := fun b o hb e => stays b o (nb b o e hb)
  have old : HOk X.prog X.w H s.heap := (I.inGround nb).kept stays
  have up : ∀ {b : Addr} {u : HO}, H b = some u → (upd H a (CaO cls d a)) b = some u := fun {b u} e => by
    rw [upd_ne (ne_of_none e na)]
    exact e
  refine I.call' (ch := []) eo ⟨fun b o e _ hb _ => still b o hb e, fun b o e _ hb _ => frm b o hb e, fun b o e n _ => ?_, fun b o e _ => ?_, fun b xs e => up e, fun b o u e => up e, fun b ps e => ⟨#[], by rw [up e]; simp⟩⟩ (fun b u e => ?_) bare (fun _ z => nomatch z)
  · rw [upd_ne (other b o e)]
    exact n
  · by_cases hb : b ∈ frs X.stack
    · obtain ⟨sl, e2⟩ := frm b o hb e
      exact ⟨_, e2⟩
    · exact ⟨o, still b o hb e⟩
  · by_cases hb : b = a
    · subst hb
      rw [upd_same] at e
      cases e
      exact caO_ok ha hz hd
    · rw [upd_ne hb] at e
      exact (old b u e).stay (fun _ _ _ q => q) (fun _ q => up q) fun _ _ q => up q
theorem suiteX (I : Inv X pins σ H s) (a : Addr) : Inv (X.suite a (X.pn ++ pins)) [] σ H s :=
  ⟨I.ok.suite _ _, I.os, I.bare, I.base, I.loc, I.cell, I.free, I.freeC, fun p hp => I.pin p ((List.append_nil _).subst (motive := fun l => p ∈ l) hp), I.hok, I.len⟩
theorem unsuiteX {a : Addr} {pn : List (Addr × Obj)} (I : Inv (X.suite a (X.pn ++ pins)) pn σ H s) (ok : X.Ok) : Inv X pins σ H s :=
  ⟨ok, I.os, I.bare, I.base, I.loc, I.cell, I.free, I.freeC, fun p hp => I.pin p (List.mem_append.mpr (.inl hp)), I.hok, I.len⟩
end
/-- what the clause «except x as n: m = n» wishes of an error of the body: it is of x, and goes on with it in m's slot -/
def wKeep (K : PySem.W.Frag) (c : Value) (i j : Nat) (D : Ends) : WX := fun cls d σ H =>
  PySem.W.exmOne K cls c = some true ∧ ∀ a, H a = none → D.nx (((σ.set i (some (.ref a))).set j (some (.ref a))).set i none) (upd H a (CaO cls d a))
section
variable {X : Cx} {x n m : Str} {c : Value} {i j : Nat} {body : List Stmt} {np p1 p2 p3 pos pos' : Pos} {tb : WX → TS}
theorem ps_try_keep (hs : X.stack = X.env :: X.outer) (hf : X.env.frame = some X.env.locals) (hN : X.N.Nodup) (hi : X.N[i]? = some n) (hj : X.N[j]? = some m) (hij : i ≠ j) (hln : X.env.kindOf n = some .local) (hlm : X.env.scope.names.lookup m = some .local)
    (hvn : Vis X.env.scope n) (hsw : swapsWith (.Name n p2) (some (.Name m p1)) p3.line X.env = pure false) (hc : Names X x c) (hlen : ∀ {pins : List (Addr × Obj)} {σ : L2.St} {H : Hp} {s : Shared}, Inv X pins σ H s → i < σ.length) (hd1 : (n == ("__debug__" : Str)) = false) (hd2 : (n == ("__classdict__" : Str)) = false)
    (hb : ∀ (W : WX) (pn : List (Addr × Obj)) (xe : Value → Shared → Prop), Takes (X.tr pn xe) W → PassesOwn (model X.prog X.w) X.A X.env xe → PSs (X.tr pn xe) body (tb W)) :
    PS X (.Try body [.ExceptHandler (some (.Name x np)) (some n) [.Assign [.Name m p1] (.Name n p2) p3] pos'] [] [] pos) (fun D σ H => tb (wKeep X.K c i j D) D σ H) := by
  refine ⟨fun pins s σ H D I h => ?_⟩
  have ok := I.ok
  have frames : X.A.frames = some (X.env :: X.outer) := ok.frames.trans (congrArg some hs)
  let caught := [ExceptHandler.ExceptHandler (some (.Name x np)) (some n) [.Assign [.Name m p1] (.Name n p2) p3] pos']
  refine wpAny_Try_except ?_
  refine wpAny_mono ((hb (wKeep X.K c i j D) (X.pn ++ pins) (fun e s1 => wpAny (model X.prog X.w) X.A (noteFrame e X.env) (fun _ s2 => wpAny (model X.prog X.w) X.A (setFlight e none) (fun _ s3 =>
    wpAny (model X.prog X.w) X.A (handleBy e X.env caught) (SP X pins D) X.xe s3) X.xe s2) X.xe s1) (fun u s' thrown => ?_) PassesOwn.looking).run [] s σ H D (I.toTry _) h) (fun f s1 done => ?_) (fun _ _ z => z)
  · obtain ⟨a, B, s0, pn0, σ0, H0, cls, d, rfl, J0, nb, slots, sky, na, eo, bare, hx, goes⟩ := thrown
    have J : Inv X pins σ0 H0 s0 := J0.ofTry ok
    show wpAny (model X.prog X.w) X.A (noteFrame (.ref a) X.env) _ _ _
    refine Sky.land Zc.steady frames hf (hs ▸ (show Sky B X.stack a (Zc cls d) X.env.locals s'.heap from sky)) fun h3 fly3 slots3 => ?_
    obtain ⟨o3, v3, e3, z3, d3⟩ := fly3.there
    have notStack : a ∉ frs (X.env :: X.outer) := fun hm => by
      obtain ⟨_, o, e, nofields⟩ := fly3.2.2.1.mem hm
      obtain rfl : o3 = o := Option.some.inj (e3.symm.trans e)
      exact nofields v3 d3
    have fresh : s0.heap.get? a = none := by
      cases e : s0.heap.get? a with
      | none => rfl
      | some o =>
        have := nb a o e (by rw [hs]; exact notStack)
        rw [fly3.2.1] at this
        cases this
    have J3 : Inv X pins σ0 (upd H0 a (CaO cls d a)) { s' with heap := h3 } := landedX (s := { s' with heap := h3 }) J nb fly3.1 (slots.trans slots3) eo bare e3 z3 d3 fresh na
    refine wpAny_handleBy_cons (codeAny_handlers_test ?_) nofun
    have isOf : PySem.W.Looks (model X.prog X.w) h3 (typeOf (.ref a)) cls := fun A Q E s k q => wpAny_typeOf_ref (k _ _ e3) (z3.1 ▸ q)
    have meets := PySem.W.exm_one (M := model X.prog X.w) J3.kIn isOf hx
    have named : ∀ {Q : Value → Shared → Prop} {E : Value → Shared → Prop}, Q c { s' with heap := h3 } → wpAny (model X.prog X.w) (X.A.mark (some (.ref a))) (eval (.Name x np) X.env) Q E { s' with heap := h3 } := fun {Q E} q => by
      obtain ⟨glob, nodebug, known | ⟨none, boot, notName⟩⟩ := hc
      · exact ld_glob (X := X.suite a (X.pn ++ pins)) (suiteX J3 a) glob known q nodebug
      · exact ld_blt (X := X.suite a (X.pn ++ pins)) (suiteX J3 a) glob none boot q notName nodebug
    refine named (meets.here ?_)
    refine codeAny_handlers_suite_as ?_
    refine HandSPX.lands_againZ fly3 fun h4 fly4 slots4 => ?_
    obtain ⟨o4, v4, e4, z4, d4⟩ := fly4.there
    have J4 : Inv X pins σ0 (upd H0 a (CaO cls d a)) { s' with heap := h4 } := landedX (s := { s' with heap := h4 }) J nb fly4.1 ((slots.trans slots3).trans slots4) eo bare e4 z4 d4 fresh na
    have long := hlen J4
    refine store_ok (X := X.suite a (X.pn ++ pins)) (v := .ref a) (suiteX J4 a) hN hi (.inl hln) rfl (fun s5 S5 => ?_) (.inr hln)
    have run := (pss_one (ps_set (X := X.suite a (X.pn ++ pins)) (i := j) (pos := p3) hN hj (.inl hlm) (pe_var (X := X.suite a (X.pn ++ pins)) (i := i) (pos := p2) hi hvn (hd := hd1) (hcd := hd2)) hsw (.inr hlm))).run [] s5 _ _
      { nx := fun σ1 H1 => σ1 = ((σ0.set i (some (.ref a))).set j (some (.ref a))) ∧ H1 = upd H0 a (CaO cls d a), rt := fun _ _ => False, bk := fun _ _ => False, ct := fun _ _ => False } S5 ⟨.ref a, List.getElem?_set_self long, rfl, rfl⟩
    refine wpAny_mono run (fun f s6 done => ?_) (fun _ _ z => False.elim z)
    cases f with
    | next =>
      obtain ⟨σ6, H6, S6, rfl, rfl⟩ := done
      exact gone_ok (unsuiteX S6 ok) hN hi hln fun s7 J7 => ⟨_, _, J7, goes a na⟩
    | brk =>
      obtain ⟨_, _, _, z⟩ := done
      exact z.elim
    | cont =>
      obtain ⟨_, _, _, z⟩ := done
      exact z.elim
    | ret u =>
      obtain ⟨_, _, _, _, _, z⟩ := done
      exact z.elim
  · cases f with
    | next =>
      obtain ⟨σ1, H1, J1, q⟩ := done
      exact wpAny_execs_nil ⟨σ1, H1, Inv.ofTry J1 ok, q⟩
    | brk =>
      obtain ⟨σ1, H1, J1, q⟩ := done
      exact ⟨σ1, H1, Inv.ofTry J1 ok, q⟩
    | cont =>
      obtain ⟨σ1, H1, J1, q⟩ := done
      exact ⟨σ1, H1, Inv.ofTry J1 ok, q⟩
    | ret u =>
      obtain ⟨v1, σ1, H1, J1, r, q⟩ := done
      exact ⟨v1, σ1, H1, Inv.ofTry J1 ok, r, q⟩
end
end Bk

namespace Bk
open PySem PySem.Spec PyProof.Rows L2
section
variable {X : Cx}
theorem caO_at {pins : List (Addr × Obj)} {σ : L2.St} {H : Hp} {s : Shared} {a D : Addr} (I : Inv X pins σ H s) (h : H a = some (CaO (.ref D) none a)) : ∃ ob, PySem.W.InstAt s.heap a ob D none := by
  obtain ⟨⟨⟨oc, od, oda, osl⟩, fs, e, ⟨z1, z2⟩, q⟩, _⟩ := (show ObjOk X.prog X.w H s.heap a (CaO (.ref D) none a) from I.hok a _ h)
  dsimp only at z1 z2 q
  subst z1 z2 q
  exact ⟨_, e, rfl, rfl, trivial⟩
variable (K : PySem.W.Frag)
/-- isinstance(e, c), e a caught error of the program's class D -/
def rIsC : List V → Hp → VK → Prop := fun xs H Q => ∃ (a D : Addr) (c : V) (u : Value) (b : Bool), xs = [.ref a, c] ∧ H a = some (CaO (.ref D) none a) ∧ ExcC K D ∧ ClsV c u ∧ PySem.W.kitOne K (.ref D) u = some b ∧ Q (.bl b) H
theorem kIsC (h : X.K = K) : CallR X (.builtin "isinstance") (rIsC K) := by
  subst h
  rintro pins s σ H xs us Q I r ⟨a, D, c, u, b, rfl, ha, C, k, e, q⟩
  obtain ⟨u1, u2, rfl, r1, r2⟩ := vals2 r
  obtain rfl := k.eq r2
  obtain rfl : u1 = Value.ref a := r1
  obtain ⟨ob, J⟩ := caO_at I ha
  exact PySem.W.kia_one (PySem.W.handS_kitx_exc C.hg C.hk C.hs C.hd C.ha C.hn C.ht C.hm) I.kIn J e nofun fun tk => ⟨.bl b, H, I.tok tk, rfl, q⟩
/-- isinstance(e, (c1, c2, ..)) -/
def rIsCT : List V → Hp → VK → Prop := fun xs H Q => ∃ (a D tp : Addr) (cs : List V) (us : List Value) (b : Bool), xs = [.ref a, .ref tp] ∧ H a = some (CaO (.ref D) none a) ∧ ExcC K D ∧ H tp = some (.tup cs) ∧ Paired ClsV cs us ∧ PySem.W.kitAny K (.ref D) us = some b ∧ Q (.bl b) H
theorem kIsCT (h : X.K = K) : CallR X (.builtin "isinstance") (rIsCT K) := by
  subst h
  rintro pins s σ H xs us Q I r ⟨a, D, tp, cs, ws, b, rfl, ha, C, hT, k, e, q⟩
  obtain ⟨u1, u2, rfl, r1, r2⟩ := vals2 r
  obtain rfl : u1 = Value.ref a := r1
  obtain rfl : u2 = Value.ref tp := r2
  obtain ⟨ob, J⟩ := caO_at I ha
  obtain ⟨_, its, rv, ⟨oc, od, dt, sl⟩, h1, h2, n, h3⟩ := (show ObjOk X.prog X.w H s.heap tp (.tup cs) from I.hok tp _ hT)
  obtain rfl := ClsV.all k rv
  dsimp only at h2 h3
  subst h2 h3
  exact PySem.W.kia_tup (PySem.W.handS_kitx_exc C.hg C.hk C.hs C.hd C.ha C.hn C.ht C.hm) I.kIn J h1 e nofun fun tk => ⟨.bl b, H, I.tok tk, rfl, q⟩
end
/-- what is known of the refusals' classes: xs the six that are told by name, ys the five others, D the one that is raised, bs what D is of the six -/
structure Kinds (K : PySem.W.Frag) (mg : Str → Option Value) (D : Addr) (xs ys : List Addr) (bs : List Bool) : Prop where
  c : ExcC K D
  six : Paired (fun x b => PySem.W.kitOne K (.ref D) (.ref x) = some b) xs bs
  five : PySem.W.kitAny K (.ref D) (ys.map Value.ref) = some false
  ve : PySem.W.kitOne K (.ref D) (.type "ValueError") = some true
end Bk

/-! len(set(xs)), xs a list or a tuple of ints, some perhaps twice. -/
namespace Bk
open PySem PySem.Spec PyProof.Rows L2
theorem dd_len : ∀ (ns acc : List Int), (ns.foldl step_dedup acc).length ≤ acc.length + ns.length ∧ ((ns.foldl step_dedup acc).length = acc.length + ns.length ↔ ns.Nodup ∧ ∀ x ∈ ns, x ∉ acc)
  | [], acc => ⟨Nat.le_refl _, by simp⟩
  | x :: r, acc => by
    show ((r.foldl step_dedup (step_dedup acc x)).length ≤ _) ∧ ((r.foldl step_dedup (step_dedup acc x)).length = _ ↔ _)
    have hx : acc.any (· == x) = true ↔ x ∈ acc := by simp
    unfold step_dedup
    by_cases c : x ∈ acc
    · rw [if_pos (hx.mpr c)]
      have h := (dd_len r acc).1
      refine ⟨by rw [List.length_cons]; exact Nat.le_trans h (by omega), ⟨fun e => ?_, fun z => absurd c (z.2 x List.mem_cons_self)⟩⟩
      rw [List.length_cons] at e
      have h2 : (r.foldl step_dedup acc).length = acc.length + (r.length + 1) := e
      omega
    · rw [if_neg (fun z => c (hx.mp z))]
      obtain ⟨h1, h2⟩ := dd_len r (acc ++ [x])
      rw [List.length_append] at h1 h2
      have el : (x :: r).length = r.length + 1 := List.length_cons
      have e1 : [x].length = 1 := rfl
      refine ⟨Nat.le_trans h1 (by omega), ?_⟩
      rw [show acc.length + (x :: r).length = acc.length + [x].length + r.length by omega]
      refine h2.trans ⟨fun z => ⟨List.nodup_cons.mpr ⟨fun m => z.2 x m (List.mem_append.mpr (.inr List.mem_cons_self)), z.1⟩, fun y hy => ?_⟩, fun z => ⟨(List.nodup_cons.mp z.1).2, fun y hy m => ?_⟩⟩
      · rcases List.mem_cons.mp hy with rfl | hy
        · exact c
        · exact fun m => z.2 y hy (List.mem_append.mpr (.inl m))
      · rcases List.mem_append.mp m with m | m
        · exact z.2 y (List.mem_cons_of_mem _ hy) m
        · rw [List.mem_singleton.mp m] at hy
          exact (List.nodup_cons.mp z.1).1 hy
theorem dd_set : ∀ (ns acc : List Int), acc.Nodup → (ns.foldl step_dedup acc).Nodup ∧ ∀ x, x ∈ ns.foldl step_dedup acc ↔ x ∈ acc ∨ x ∈ ns
  | [], acc, h => ⟨h, fun x => by simp⟩
  | y :: r, acc, h => by
    show (r.foldl step_dedup (step_dedup acc y)).Nodup ∧ ∀ x, x ∈ r.foldl step_dedup (step_dedup acc y) ↔ _
    have hy : acc.any (· == y) = true ↔ y ∈ acc := by simp
    unfold step_dedup
    by_cases c : y ∈ acc
    · rw [if_pos (hy.mpr c)]
      obtain ⟨h1, h2⟩ := dd_set r acc h
      refine ⟨h1, fun x => (h2 x).trans ⟨fun z => z.imp id (List.mem_cons_of_mem _), fun z => ?_⟩⟩
      rcases z with z | z
      · exact .inl z
      · rcases List.mem_cons.mp z with rfl | z
        · exact .inl c
        · exact .inr z
    · rw [if_neg (fun z => c (hy.mp z))]
      obtain ⟨h1, h2⟩ := dd_set r (acc ++ [y]) (List.nodup_append.mpr ⟨h, by simp, fun a ha b hb e => by
        rw [List.mem_singleton.mp hb] at e
        exact c (e ▸ ha)⟩)
      refine ⟨h1, fun x => (h2 x).trans ?_⟩
      rw [List.mem_append, List.mem_singleton, List.mem_cons]
      exact or_assoc
/-- how many unlike ones -/
def unlike (ns : List Int) : Nat := (ns.foldl step_dedup []).length
theorem unlike_le (ns : List Int) : unlike ns ≤ ns.length := by
  have := (dd_len ns []).1
  rwa [List.length_nil, Nat.zero_add] at this
theorem unlike_all (ns : List Int) : unlike ns = ns.length ↔ ns.Nodup := by
  have := (dd_len ns []).2
  rw [List.length_nil, Nat.zero_add] at this
  exact this.trans ⟨fun z => z.1, fun z => ⟨z, fun _ _ m => by cases m⟩⟩
theorem firstMet_all (ns : List Int) : firstMet (fun i => ns.getD i 0) ns.length = ns.foldl step_dedup [] := by
  unfold firstMet
  congr 1
  apply List.ext_getElem (by simp)
  intro i h1 h2
  simp [List.getD_eq_getElem?_getD, List.getElem?_eq_getElem h2]
def tLenSetA (K : PySem.W.Frag) (ta : TE) : TE := fun σ H Q => ta σ H fun x H1 => ∃ (l : Addr) (ns : List Int), x = .ref l ∧ (SqL K H1 l (ns.map V.int) ∨ SqT K H1 l (ns.map V.int)) ∧ ns.length ≤ 63 ∧ Q (.int (unlike ns : Nat)) H1
theorem pe_lenSetA {X : Cx} (K : PySem.W.Frag) {a : Expr} {ta : TE} {p p2 q pos : Pos} (hK : X.K = K) (hc : X.calm = true) (hg : Gl X "len") (hm : X.mg "len" = none) (hg2 : Gl X "set") (hm2 : X.mg "set" = none) (ha : PE X a ta)
    (na : starEach [a] X.env = (false, eval a X.env) :: starEach [] X.env := by rfl) : PE X (.Call (.Name "len" p) [.Call (.Name "set" p2) [a] [] q] [] pos) (tLenSetA K ta) := by
  subst hK
  refine ⟨fun pins s σ H Q I h => Call_ (ld_blt I hg hm PySem.boot_len ?_)⟩
  refine PyProof.Rows.callWith_builtin1 (PyProof.Rows.args_cons (Call_ (ld_blt I hg2 hm2 PyProof.Rows.boot_set ?_)) rfl) rfl rfl
  refine PyProof.Rows.callWith_type1 (PyProof.Rows.args_cons (thn (ha.run pins s σ H _ I h) fun v s1 got => PyProof.Rows.args_nil ?_) na) na rfl
  obtain ⟨x, H1, J, rx, l, ns, rfl, hq, hlen, q1⟩ := got
  cases rx
  have room : ns.length + 1 < scanBound := by unfold scanBound; omega
  have small : (unlike ns : Int) < 2 ^ 63 := by have := unlike_le ns; omega
  rcases hq with hq | hq
  · obtain ⟨its, r, pl, _⟩ := J.list hq
    have hl : its.toArray.size = ns.length := by rw [List.size_toArray, ← r.length, List.length_map]
    refine PySem.call_set_list (J.ok.hd hc) pl.isList (ns := ns) (by simpa using intsAre_of r) (by rw [hl]; exact room) fun h' tk made kept => PyProof.Rows.args_nil ?_
    rw [hl, firstMet_all ns] at made
    obtain ⟨o, es, ep, t, ho, hex, hd, _, _, _, hf, hn⟩ := made
    have hn : es.size = unlike ns := hn
    have J2 : Inv X pins σ H1 { s1 with heap := h', toks := tk } := J.kept fun b u e => kept b u (Heap.lt_size e) e
    exact call_len_set ho hex hd hf (by rw [hn]; exact small) ⟨.int (unlike ns : Nat), H1, J2.tok _, ⟨_, by rw [hn]⟩, q1⟩
  · obtain ⟨its, r, pl, _⟩ := J.tuple hq
    refine call_set_tupI ns (J.ok.hd hc) (show s1.heap.IsTuple l its.toArray from pl) (by simpa using intsAre_of r) room fun h' tk c made _ kept => PyProof.Rows.args_nil ?_
    obtain ⟨o, es, ep, t, ho, hex, hd, _, nd, mem, _, hf, hn, _⟩ := made
    have same : (es.toList.map keyOf).Perm (ns.foldl step_dedup []) := by
      obtain ⟨d1, d2⟩ := dd_set ns [] List.nodup_nil
      refine (List.perm_ext_iff_of_nodup nd d1).mpr fun x => ?_
      rw [d2 x, ← mem x, decide_eq_true_eq]
      simp
    have hn2 : es.size = unlike ns := by
      have := same.length_eq
      rw [List.length_map, Array.length_toList] at this
      exact this
    have J2 : Inv X pins σ H1 { s1 with heap := h', toks := tk } := J.kept kept
    exact call_len_set ho hex hd hf (by rw [hn2]; exact small) ⟨.int (unlike ns : Nat), H1, J2.tok _, ⟨_, by rw [hn2]⟩, q1⟩
end Bk

namespace Bk
open PySem PySem.Spec PyProof.Rows L2
theorem cpow {i j : Int} (a : 0 ≤ j := by decide) (b : j ≤ 1000000 := by decide) (c : i.natAbs < 2 ^ 64 := by decide) : CPow i j := ⟨a, b, c⟩
theorem wideM : CMulW ((2 : Int) ^ (64 : Int).toNat) ((2 : Int) ^ (63 : Int).toNat) := wide_mul (a := 65) (b := 64) (by decide +kernel) (by decide +kernel) (by decide) (by decide) (by decide)
theorem M0 : (0 : Int) < 2 ^ (64 : Int).toNat * 2 ^ (63 : Int).toNat - 1 := by decide +kernel
local macro_rules | `(tactic| walk_at "g") => `(tactic| (repeat first | refine ⟨_, rfl, ?_⟩ | refine ⟨cpow, ?_⟩ | refine ⟨wideM, ?_⟩ | refine ⟨_, _, rfl, rfl, ?_⟩ | refine ⟨rfl, ?_⟩))
def topS (i : Nat) : Stmt := PySem.Challenge.pw_blockrooms_k20_whole_renamed.main.body.getD i (.Pass ⟨0, 0, 0, 0⟩)
section
variable {P : Program} {w : World} {K : PySem.W.Frag} {mg : Str → Option Value} {base : Heap}
/-! ### _law_reel -/
abbrev s_law_reel : Stmt := topS 36
abbrev N_law_reel : List Str := ["script", "stir", "cell", "great"]
theorem sc_law_reel : FnScope N_law_reel ["script"] (defScope s_law_reel) := ⟨rfl, rfl, rfl, by decide +kernel, rfl, by decide +kernel, by decide +kernel⟩
theorem natAbs_M {x : Int} (h0 : 0 ≤ x) (h1 : x < 2 ^ (64 : Int).toNat * 2 ^ (63 : Int).toNat - 1) : x.natAbs < 2 ^ 127 := by
  have e : (2 : Int) ^ (64 : Int).toNat * 2 ^ (63 : Int).toNat - 1 = 170141183460469231731687303715884105727 := by decide +kernel
  have e2 : (2 : Nat) ^ 127 = 170141183460469231731687303715884105728 := by decide +kernel
  rw [e] at h1
  rw [e2]
  omega
def spReel (K : PySem.W.Frag) : Sp := fun vs H Q _ => ∃ (a : Addr) (ns : List Int), vs = [.ref a] ∧ SqL K H a (ns.map V.int) ∧ ns.length ≤ 63 ∧
  ∀ H' R, Same H H' → H R = none → ReelOk R H' → Q (.ref R) H'
theorem ok_law_reel {f : Addr} {fd : FuncData} (F : Fun K "_law_reel" "_law_reel" s_law_reel f fd) : FnOk P w K mg base CX0 1 f fd ["script"] (spReel K) := by
  refine F.ok sc_law_reel (fun vs H Q E h => ?_) (fun cdv A outer s H vs Q E hr h => ?_)
  · obtain ⟨a, ns, rfl, _⟩ := h
    rfl
  · obtain ⟨a, ns, rfl, hS, hlen, q⟩ := h
    have nd := sc_law_reel.nd
    refine ⟨_, (pss_cons (ps_set (i := 1) nd rfl (.inl rfl) (pe_op op_pow pe_int pe_int))
      (pss_cons (ps_for PassesOwn.never rfl (kPiL K rfl (pi_list (pe_slice (kSlL K rfl) (pv 0) po_none (po_some pe_int)))) (pg_name (i := 2) nd rfl (.inl rfl)) (pss_one (ps_set (i := 1) nd rfl (.inl rfl) (pe_op op_modN (pe_op op_add (pe_op op_add (pe_op op_mulW (pv 1) (pv 1)) (pe_op op_modN (pv 2) pe_int)) pe_int) (pe_op op_sub (pe_op op_mulW (pe_op op_pow pe_int pe_int) (pe_op op_pow pe_int pe_int)) pe_int)))))
      (pss_cons (ps_setLc (i := 3) (own := [("cell", 2)]) (g := gName 2) rfl nd rfl rfl (sw_true rfl rfl rfl (by decide +kernel)) (kPiL K rfl (pi_list (pe_slice (kSlL K rfl) (pv 0) po_none (po_some pe_int)))) (blkOk_by (own := [("cell", 2)]) (N := N_law_reel) (sc := defScope s_law_reel) (by decide +kernel)) (fun _ _ _ _ _ => (pg_name (i := 2) nd rfl (Or.inl rfl))) (fun _ _ _ _ _ => (pts_one (pt_cmpR op_ge (pv 2) (pe_op op_pow pe_int pe_int) (nomark _)))) (fun _ _ _ _ _ => (pe_op op_sub (pv 2) (pe_op op_pow pe_int pe_int))))
      (pss_one (ps_ret (pe_lst (pa_cons (pv 3) (pa_cons (pe_op op_cat (pe_lc (own := [("cell", 2)]) (g := gName 2) (tt := tYes) rfl nd (kPiL K rfl (pi_list (pe_slice (kSlL K rfl) (pv 0) po_none (po_some pe_int)))) (blkOk_by (own := [("cell", 2)]) (N := N_law_reel) (sc := defScope s_law_reel) (by decide +kernel)) (fun _ _ _ _ _ => (pg_name (i := 2) nd rfl (Or.inl rfl))) (fun _ _ _ _ _ => pts_nil) (fun _ _ _ _ _ => (pe_op op_modN (pv 2) pe_int))) (pe_lst (pa_cons pe_int pa_nil))) (pa_cons pe_int (pa_cons (pv 1) pa_nil)))))))))), ?_⟩
    refine ⟨3, 60, rfl, rfl, ⟨by decide, by decide, by decide⟩, ?_⟩
    refine ⟨.ref a, rfl, 63, rfl, a, ns.map V.int, rfl, hS, fun c nc => ?_⟩
    refine ⟨c, rfl, ⟨_, .inl (.inl upd_same)⟩, ?_⟩
    have s1 : Same H (upd H c (.lst (cutV (ns.map V.int) none (some 63)))) := same_new nc
    have e63 : cutV (ns.map V.int) none (some 63) = ns.map V.int := by
      rw [show (63 : Int) = ((63 : Nat) : Int) from rfl, cut_to]
      exact List.take_of_length_le (by rw [List.length_map]; exact hlen)
    rw [e63] at s1 ⊢
    refine for_list (xs := ns.map V.int) (fun i σ H3 => ∃ st y, σ = [some (.ref a), some (.int st), y, none] ∧ 0 ≤ st ∧ st.natAbs < 2 ^ 127 ∧ H3 = upd H c (.lst (ns.map V.int))) ⟨3 ^ 60, none, rfl, by decide +kernel, by decide +kernel, rfl⟩ ?_ ?_ ?_
    · rintro i σ H3 _ ⟨st, y, rfl, _, _, rfl⟩
      exact .inl (.inl upd_same)
    · rintro i x σ H3 hx ⟨st, y, rfl, h0, h1, rfl⟩
      obtain ⟨k, rfl, hk⟩ := get_map_int hx
      walk_at "g"
      refine ⟨wide_mul h1 h1 (by decide) (by decide) (by decide), ?_⟩
      walk_at "g"
      refine ⟨(show (1000000000000000003 : Int) ≠ 0 by decide), ?_⟩
      walk_at "g"
      refine ⟨Int.ne_of_gt M0, ?_⟩
      exact ⟨_, _, rfl, (fmod_pos M0).1, natAbs_M (fmod_pos M0).1 (fmod_pos M0).2, rfl⟩
    · rintro σ H3 ⟨st, y, rfl, h0, h1, rfl⟩
      walk_at "g"
      -- great
      refine ⟨a, ns.map V.int, rfl, s1.seq hS, fun c2 nc2 => ?_⟩
      rw [e63]
      have s2 : Same H (upd (upd H c (.lst (ns.map V.int))) c2 (.lst (ns.map V.int))) := s1.trans (same_new nc2)
      have h2 : (upd (upd H c (.lst (ns.map V.int))) c2 (.lst (ns.map V.int))) c2 = some (.lst (ns.map V.int)) := upd_same
      generalize upd (upd H c (.lst (ns.map V.int))) c2 (.lst (ns.map V.int)) = H2 at s2 h2 ⊢
      refine ⟨c2, rfl, ⟨_, .inl (.inl h2)⟩, fun D nD => ?_⟩
      have nc2D : c2 ≠ D := ne_of_none h2 nD
      refine lc_list (xs := ns.map V.int) (fun i H3 => ∃ gs : List Int, (∀ x ∈ gs, 0 ≤ x) ∧ gs.length ≤ i ∧ H3 = upd H2 D (.lst (gs.map V.int))) ⟨[], by simp, Nat.le_refl _, rfl⟩ ?_ ?_ ?_
      · rintro i H3 _ ⟨gs, _, _, rfl⟩
        exact .inl (.inl (by rw [upd_ne nc2D]; exact h2))
      · rintro i x H3 hx ⟨gs, g0, gl, rfl⟩
        obtain ⟨k, rfl, hk⟩ := get_map_int hx
        have hi : i < ns.length := (List.getElem?_eq_some_iff.mp hk).1
        refine ⟨rfl, ?_⟩
        walk_at "g"
        refine ite2 (fun e => ?_) (fun e => ?_)
        · have hk0 : (10 : Int) ^ (18 : Int).toNat ≤ k := of_decide_eq_true e
          walk_at "g"
          refine ⟨_, upd_same, small1000 (by rw [List.length_map]; omega), gs ++ [k - 10 ^ (18 : Int).toNat], ?_, ?_, ?_⟩
          · intro x hx
            rcases List.mem_append.mp hx with h | h
            · exact g0 x h
            · rw [List.mem_singleton.mp h]
              exact Int.sub_nonneg_of_le hk0
          · rw [List.length_append]
            exact Nat.add_le_add_right gl 1
          · rw [upd_upd, List.map_append]
            rfl
        · exact ⟨gs, g0, Nat.le_succ_of_le gl, rfl⟩
      · rintro H3 ⟨gs, g0, gl, rfl⟩
        have s3 : Same H (upd H2 D (.lst (gs.map V.int))) := s2.trans (same_new nD)
        have h3 : (upd H2 D (.lst (gs.map V.int))) D = some (.lst (gs.map V.int)) := upd_same
        generalize upd H2 D (.lst (gs.map V.int)) = H3 at s3 h3 ⊢
        walk_at "g"
        -- cells
        refine ⟨a, ns.map V.int, rfl, s3.seq hS, fun c3 nc3 => ?_⟩
        rw [e63]
        have s4 : Same H3 (upd H3 c3 (.lst (ns.map V.int))) := same_new nc3
        have h4 : (upd H3 c3 (.lst (ns.map V.int))) c3 = some (.lst (ns.map V.int)) := upd_same
        generalize upd H3 c3 (.lst (ns.map V.int)) = H4 at s4 h4 ⊢
        refine ⟨c3, rfl, ⟨_, .inl (.inl h4)⟩, fun D2 nD2 => ?_⟩
        have nc3D : c3 ≠ D2 := ne_of_none h4 nD2
        refine lc_list (xs := ns.map V.int) (fun i H5 => ∃ cs : List Int, (∀ x ∈ cs, 0 ≤ x ∧ x < 1000003) ∧ cs.length = i ∧ H5 = upd H4 D2 (.lst (cs.map V.int))) ⟨[], by simp, rfl, rfl⟩ ?_ ?_ ?_
        · rintro i H5 _ ⟨cs, _, _, rfl⟩
          exact .inl (.inl (by rw [upd_ne nc3D]; exact h4))
        · rintro i x H5 hx ⟨cs, g0, rfl, rfl⟩
          obtain ⟨k, rfl, hk⟩ := get_map_int hx
          have hi : cs.length < ns.length := (List.getElem?_eq_some_iff.mp hk).1
          refine ⟨rfl, ?_⟩
          walk_at "g"
          refine ⟨(show (1000003 : Int) ≠ 0 by decide), ?_⟩
          refine ⟨_, upd_same, small1000 (by rw [List.length_map]; omega), cs ++ [k.fmod 1000003], ?_, by rw [List.length_append]; rfl, ?_⟩
          · intro x hx
            rcases List.mem_append.mp hx with h | h
            · exact g0 x h
            · rw [List.mem_singleton.mp h]
              exact fmod_pos (by decide)
          · rw [upd_upd, List.map_append]
            rfl
        · rintro H5 ⟨cs, c0, cl, rfl⟩
          rw [List.length_map] at cl
          have s5 : Same H3 (upd H4 D2 (.lst (cs.map V.int))) := s4.trans (same_new nD2)
          have h5 : (upd H4 D2 (.lst (cs.map V.int))) D2 = some (.lst (cs.map V.int)) := upd_same
          generalize upd H4 D2 (.lst (cs.map V.int)) = H5 at s5 h5 ⊢
          refine ⟨Nat.le_of_lt (small1000 (by show 1 ≤ 1000; decide)), fun p np => ?_⟩
          have nDp : D2 ≠ p := ne_of_none h5 np
          refine ⟨D2, p, _, _, rfl, rfl, by rw [upd_ne nDp]; exact h5, upd_same, by rw [List.length_map]; exact Nat.le_of_lt (small1000 (by show cs.length + 1 ≤ 1000; omega)), fun p2 np2 => ?_⟩
          have s6 : Same H3 (upd (upd H5 p (.lst [.int 41])) p2 (.lst (cs.map V.int ++ [.int 41]))) := (s5.trans (same_new np)).trans (same_new np2)
          have h6 : (upd (upd H5 p (.lst [.int 41])) p2 (.lst (cs.map V.int ++ [.int 41]))) p2 = some (.lst ((cs ++ [41]).map V.int)) := by
            rw [upd_same, List.map_append]
            rfl
          generalize upd (upd H5 p (.lst [.int 41])) p2 (.lst (cs.map V.int ++ [.int 41])) = H6 at s6 h6 ⊢
          walk_at "g"
          refine ⟨Nat.le_of_lt (small1000 (by show 4 ≤ 1000; decide)), fun R nR => ?_⟩
          refine q _ R ((s3.trans s6).trans (same_new nR)) (s3.trans s6 |>.free nR) ⟨D, p2, gs, cs ++ [41], 0, st, upd_same, (same_new nR) _ _ (s6 _ _ h3), (same_new nR) _ _ h6, ?_, ?_, g0, ?_, by simp, h0, h1⟩
          · rw [List.length_map] at gl
            omega
          · rw [List.length_append]
            show cs.length + 1 ≤ 64
            omega
          · intro x hx
            rcases List.mem_append.mp hx with h | h
            · exact c0 x h
            · rw [List.mem_singleton.mp h]
              decide
/-! ### _law_draw -/
theorem dp_ints {H : Hp} : ∀ ns : List Int, DpAll K H (ns.map V.int) (ns.map PyData.int)
  | [] => .nil
  | n :: ns => .cons (.int n) (dp_ints ns)
theorem ints_lay : ∀ ns : List Int, PyData.canLayAll0 (ns.map PyData.int) = true ∧ PyData.depthAll (ns.map PyData.int) ≤ 1
  | [] => by simp [PyData.canLayAll0, PyData.depthAll]
  | n :: ns => by
    have h := ints_lay ns
    simp only [List.map_cons, PyData.canLayAll0, PyData.depthAll, PyData.canLay0, PyData.depth, Bool.true_and]
    exact ⟨h.1, by omega⟩
theorem ints_shaped (ns : List Int) : SeqAt.shaped (.list (ns.map PyData.int)) = true := by
  have h := ints_lay ns
  have h2 : PyData.depth (.list (ns.map PyData.int)) ≤ 64 := by
    simp only [PyData.depth]
    omega
  show (PyData.canLay0 (.list (ns.map PyData.int)) && decide (PyData.depth (.list (ns.map PyData.int)) ≤ 64)) = true
  rw [Bool.and_eq_true]
  exact ⟨by simp only [PyData.canLay0]; exact h.1, decide_eq_true h2⟩
abbrev s_law_draw : Stmt := topS 37
abbrev N_law_draw : List Str := ["reel", "many", "rest", "told", "stir"]
theorem sc_law_draw : FnScope N_law_draw ["reel", "many"] (defScope s_law_draw) := ⟨rfl, rfl, rfl, by decide +kernel, rfl, by decide +kernel, by decide +kernel⟩
def spDraw : Sp := fun vs H Q _ => ∃ (R : Addr) (m : Int), vs = [.ref R, .int m] ∧ 0 < m ∧ m ≤ 1000 ∧ ReelOk R H ∧
  ∀ H' r, Keep R H H' → ReelOk R H' → (∀ D, H D ≠ none → Away R D H → Away R D H') → 0 ≤ r → r < m → Q (.int r) H'
theorem ok_law_draw {f : Addr} {fd : FuncData} (F : Fun K "_law_draw" "_law_draw" s_law_draw f fd) (m_len : mg "len" = none) (m_int : mg "int" = none) : FnOk P w K mg base CX0 1 f fd ["reel", "many"] spDraw := by
  refine F.ok sc_law_draw (fun vs H Q E h => ?_) (fun cdv A outer s H vs Q E hr h => ?_)
  · obtain ⟨R, m, rfl, _⟩ := h
    rfl
  · obtain ⟨R, m, rfl, hm0, hm1, ⟨g, c, gs, cs, n, st, r⟩, q⟩ := h
    have nd := sc_law_draw.nd
    refine ⟨_, (pss_cons (ps_if (pt_cmpR (kNeD K rfl hr.units) (pe_ix (kIxL K rfl) (pv 0) pe_int (fun _ _ => rfl)) (pe_lst pa_nil) (nomark _)) (pss_cons (ps_set (i := 2) nd rfl (.inl rfl) (pe_ix (kIxL K rfl) (pe_ix (kIxL K rfl) (pv 0) pe_int (fun _ _ => rfl)) pe_int (fun _ _ => rfl)))
      (pss_cons (ps_asg (pe_op op_cat (pe_op op_rep (pe_lst (pa_cons (pe_op op_fdivN (pv 2) (pv 1)) pa_nil)) (pe_callTy call_int1 (by rfl) m_int (by decide +kernel) (pa_cons (pe_cmpR op_ge (pv 2) (pv 1) (nomark _)) pa_nil))) (pe_slice (kSlL K rfl) (pe_ix (kIxL K rfl) (pv 0) pe_int (fun _ _ => rfl)) (po_some pe_int) po_none)) (pg_sub (pv 0) pe_int set_list))
      (pss_one (ps_ret (pe_op op_modN (pv 2) (pv 1)))))) pss_nil)
      (pss_cons (ps_asg (pe_op op_add (pe_ix (kIxL K rfl) (pv 0) pe_int (fun _ _ => rfl)) pe_int) (pg_sub (pv 0) pe_int set_list))
      (pss_cons (ps_set (i := 3) nd rfl (.inl rfl) (pe_ix (kIxL K rfl) (pe_ix (kIxL K rfl) (pv 0) pe_int (fun _ _ => rfl)) (pe_op op_modN (pe_ix (kIxL K rfl) (pv 0) pe_int (fun _ _ => rfl)) (pe_callB (kLen K rfl) (by rfl) m_len (by decide +kernel) (pa_cons (pe_ix (kIxL K rfl) (pv 0) pe_int (fun _ _ => rfl)) pa_nil))) (fun _ _ => rfl)))
      (pss_cons (ps_set (i := 4) nd rfl (.inl rfl) (pe_op op_add (pe_op op_add (pe_op op_mulW (pe_ix (kIxL K rfl) (pv 0) pe_int (fun _ _ => rfl)) (pe_ix (kIxL K rfl) (pv 0) pe_int (fun _ _ => rfl))) (pe_op op_mul (pe_op op_add (pv 3) pe_int) pe_int)) (pe_op op_mul (pe_ix (kIxL K rfl) (pv 0) pe_int (fun _ _ => rfl)) pe_int)))
      (pss_cons (ps_asg (pe_op op_modN (pv 4) (pe_op op_sub (pe_op op_mulW (pe_op op_pow pe_int pe_int) (pe_op op_pow pe_int pe_int)) pe_int)) (pg_sub (pv 0) pe_int set_list))
      (pss_one (ps_ret (pe_op op_modN (pe_op op_fdivW (pe_ix (kIxL K rfl) (pv 0) pe_int (fun _ _ => rfl)) (pe_op op_pow pe_int pe_int)) (pv 1))))))))), ?_⟩
    refine ⟨.ref R, rfl, R, _, 0, .ref g, rfl, rfl, .inl (.inl r.r), rfl, Nat.zero_le _, fun p np => ?_⟩
    have s1 : Same H (upd H p (.lst [])) := same_new np
    refine ⟨.list (gs.map PyData.int), .list [], .lst (.inl (.inl (s1 _ _ r.g))) (dp_ints gs), .lst (.inl (.inl upd_same)) .nil, ints_shaped gs, by decide, ?_⟩
    generalize upd H p (.lst []) = H1 at s1 ⊢
    walk_at "g"
    cases gs with
    | cons x gs' =>
      refine iteT ?_
      walk_at "g"
      refine ⟨R, _, 0, .ref g, rfl, rfl, .inl (.inl (s1 _ _ r.r)), rfl, ?_⟩
      walk_at "g"
      refine ⟨g, _, 0, .int x, rfl, rfl, .inl (.inl (s1 _ _ r.g)), atI_nat (j := 0) rfl, ?_⟩
      walk_at "g"
      have mb : CDivN x m := ⟨by omega, by omega⟩
      refine ⟨mb, Nat.le_of_lt (small1000 (by show 1 ≤ 1000; decide)), fun p1 np1 => ?_⟩
      have s2 : Same H (upd H1 p1 (.lst [.int (x.fdiv m)])) := s1.trans (same_new np1)
      have h2 : (upd H1 p1 (.lst [.int (x.fdiv m)])) p1 = some (.lst [.int (x.fdiv m)]) := upd_same
      generalize upd H1 p1 (.lst [.int (x.fdiv m)]) = H2 at s2 h2 ⊢
      walk_at "g"
      refine .inr ⟨_, rfl, ?_⟩
      have hk : ∃ kk : Nat, kk ≤ 1 ∧ (if decide (m ≤ x) = true then (1 : Int) else 0) = (kk : Int) := by
        by_cases h : m ≤ x
        · exact ⟨1, Nat.le_refl _, by rw [if_pos (decide_eq_true h)]; rfl⟩
        · exact ⟨0, Nat.zero_le _, by rw [if_neg (by rw [decide_eq_true_eq]; exact h)]; rfl⟩
      obtain ⟨kk, hk1, hk⟩ := hk
      rw [hk]
      have hx0 : 0 ≤ x := r.g0 x List.mem_cons_self
      have hq0 : 0 ≤ x.fdiv m := Int.fdiv_nonneg hx0 (by omega)
      refine ⟨p1, _, _, rfl, rfl, h2, by omega, by omega, ?_, fun p2 np2 => ?_⟩
      · show 1 * (kk : Int).toNat ≤ sizeLine
        exact Nat.le_of_lt (small1000 (by omega))
      have el : (List.replicate (kk : Int).toNat [V.int (x.fdiv m)]).flatten = (List.replicate kk (x.fdiv m)).map V.int := by
        rw [Int.toNat_natCast]
        match kk, hk1 with
        | 0, _ => rfl
        | 1, _ => rfl
      rw [el]
      have s3 : Same H (upd H2 p2 (.lst ((List.replicate kk (x.fdiv m)).map V.int))) := s2.trans (same_new np2)
      have h3 : (upd H2 p2 (.lst ((List.replicate kk (x.fdiv m)).map V.int))) p2 = some (.lst ((List.replicate kk (x.fdiv m)).map V.int)) := upd_same
      generalize upd H2 p2 (.lst ((List.replicate kk (x.fdiv m)).map V.int)) = H3 at s3 h3 ⊢
      refine ⟨.ref R, rfl, R, _, 0, .ref g, rfl, rfl, .inl (.inl (s3 _ _ r.r)), rfl, ?_⟩
      walk_at "g"
      refine ⟨g, _, rfl, .inl (.inl (s3 _ _ r.g)), fun p3 np3 => ?_⟩
      rw [cut_from1]
      have s4 : Same H (upd H3 p3 (.lst (((x :: gs').map V.int).drop 1))) := s3.trans (same_new np3)
      have h4 : (upd H3 p3 (.lst (((x :: gs').map V.int).drop 1))) p3 = some (.lst (gs'.map V.int)) := upd_same
      have h4' := same_new (o := .lst (((x :: gs').map V.int).drop 1)) np3 _ _ h3
      generalize upd H3 p3 (.lst (((x :: gs').map V.int).drop 1)) = H4 at s4 h4 h4' ⊢
      have gl := r.gl
      rw [List.length_cons] at gl
      refine ⟨p2, p3, _, _, rfl, rfl, h4', h4, ?_, fun p4 np4 => ?_⟩
      · rw [List.length_map, List.length_map, List.length_replicate]
        exact Nat.le_of_lt (small1000 (by omega))
      rw [← List.map_append]
      have s5 : Same H (upd H4 p4 (.lst ((List.replicate kk (x.fdiv m) ++ gs').map V.int))) := s4.trans (same_new np4)
      have h5 : (upd H4 p4 (.lst ((List.replicate kk (x.fdiv m) ++ gs').map V.int))) p4 = some (.lst ((List.replicate kk (x.fdiv m) ++ gs').map V.int)) := upd_same
      have n4 : p4 ≠ R := fun z => by
        rw [z, s4 _ _ r.r] at np4
        cases np4
      generalize upd H4 p4 (.lst ((List.replicate kk (x.fdiv m) ++ gs').map V.int)) = H5 at s5 h5 ⊢
      walk_at "g"
      refine ⟨R, _, 0, 0, rfl, rfl, s5 _ _ r.r, rfl, ?_⟩
      walk_at "g"
      have nc : c ≠ R := ne_of r.c r.r (by
        intro z
        have q := List.map_eq_cons_iff.mp (HO.lst.inj z)
        obtain ⟨a, l, _, e, _⟩ := q
        cases e)
      have new : Reel R p4 c (List.replicate kk (x.fdiv m) ++ gs') cs n st (upd H5 R (.lst [.ref p4, .ref c, .int n, .int st])) := ?new
      refine ⟨by omega, q _ _ ((Keep.of s5).trans keep_set) ⟨p4, c, _, cs, n, st, new⟩ (fun D hD hA => ?_) (fmod_pos hm0).1 (fmod_pos hm0).2⟩
      · obtain ⟨g2, c2, _, _, _, _, r2, z1, z2, z3⟩ := hA
        have e := lst_inj r.r r2.r
        injection e with _ e
        injection e with e _
        injection e with e
        subst e
        refine ⟨p4, c, _, _, _, _, new, z1, fun z => hD ?_, z3⟩
        rw [z]
        exact s4.free np4
      refine ⟨upd_same, by rw [upd_ne n4]; exact h5, by rw [upd_ne nc]; exact s5 _ _ r.c, ?_, r.cl, ?_, r.c0, r.ne, r.s0, r.s1⟩
      · rw [List.length_append, List.length_replicate]
        omega
      · intro y hy
        rcases List.mem_append.mp hy with h | h
        · rw [List.eq_of_mem_replicate h]
          exact hq0
        · exact r.g0 y (List.mem_cons_of_mem _ h)
    | nil =>
      refine iteF ?_
      walk_at "g"
      refine ⟨R, _, 2, .int n, rfl, rfl, .inl (.inl (s1 _ _ r.r)), rfl, ?_⟩
      walk_at "g"
      refine ⟨R, _, 2, 2, rfl, rfl, s1 _ _ r.r, rfl, ?_⟩
      have h2 : (upd H1 R (.lst [.ref g, .ref c, .int (n + 1), .int st])) R = some (.lst [.ref g, .ref c, .int (n + 1), .int st]) := upd_same
      have ng : g ≠ R := ne_of r.g r.r (by intro z; cases z)
      have nc : c ≠ R := ne_of r.c r.r (by
        intro z
        have q := List.map_eq_cons_iff.mp (HO.lst.inj z)
        obtain ⟨a, l, _, e, _⟩ := q
        cases e)
      have k2 : Keep R H (upd H1 R (.lst [.ref g, .ref c, .int (n + 1), .int st])) := (Keep.of s1).trans keep_set
      show tSeq _ _ _ _ (upd H1 R (.lst [.ref g, .ref c, .int (n + 1), .int st]))
      generalize upd H1 R (.lst [.ref g, .ref c, .int (n + 1), .int st]) = H2 at k2 h2 ⊢
      have hc2 : H2 c = some (.lst (cs.map V.int)) := k2 _ _ r.c nc
      have hg2 : H2 g = some (.lst []) := k2 _ _ r.g ng
      have cpos : (0 : Int) < (cs.length : Int) := by
        have := List.length_pos_iff.mpr r.ne
        omega
      walk_at "g"
      refine ⟨R, _, 1, .ref c, rfl, rfl, .inl (.inl h2), rfl, ?_⟩
      walk_at "g"
      refine ⟨R, _, 2, .int (n + 1), rfl, rfl, .inl (.inl h2), rfl, ?_⟩
      walk_at "g"
      refine ⟨R, _, 1, .ref c, rfl, rfl, .inl (.inl h2), rfl, ?_⟩
      refine ⟨c, _, rfl, .inl (.inl (.inl hc2)), ?_⟩
      walk_at "g"
      rw [List.length_map]
      refine ⟨Int.ne_of_gt cpos, ?_⟩
      have fm := fmod_pos (a := n + 1) cpos
      obtain ⟨told, htold⟩ : ∃ t, cs[((n + 1).fmod (cs.length : Int)).toNat]? = some t := ⟨_, List.getElem?_eq_getElem (by omega)⟩
      have ct := r.c0 told (List.mem_of_getElem? htold)
      refine ⟨c, _, _, .int told, rfl, rfl, .inl (.inl hc2), at_of (j := ((n + 1).fmod (cs.length : Int)).toNat) (by omega) (by rw [List.getElem?_map, htold]; rfl), ?_⟩
      walk_at "g"
      refine ⟨R, _, 3, .int st, rfl, rfl, .inl (.inl h2), rfl, ?_⟩
      walk_at "g"
      refine ⟨R, _, 3, .int st, rfl, rfl, .inl (.inl h2), rfl, ?_⟩
      walk_at "g"
      refine ⟨wide_mul r.s1 r.s1 (by decide) (by decide) (by decide), ?_⟩
      walk_at "g"
      refine ⟨.inr (by decide), ?_⟩
      walk_at "g"
      refine ⟨R, _, 2, .int (n + 1), rfl, rfl, .inl (.inl h2), rfl, ?_⟩
      walk_at "g"
      refine ⟨.inr (by decide), ?_⟩
      walk_at "g"
      refine ⟨Int.ne_of_gt M0, ?_⟩
      have fs := fmod_pos (a := st * st + (told + 7) * 69621 + (n + 1) * 1000003) M0
      walk_at "g"
      refine ⟨R, _, 3, 3, rfl, rfl, h2, rfl, ?_⟩
      walk_at "g"
      refine ⟨R, _, 3, _, rfl, rfl, .inl (.inl upd_same), rfl, ?_⟩
      walk_at "g"
      refine ⟨wide_div (b := 41) (by decide +kernel) (by decide +kernel) (by decide) (by decide), ?_⟩
      walk_at "g"
      have k3 := k2.trans (keep_set (o := .lst [.ref g, .ref c, .int (n + 1), .int ((st * st + (told + 7) * 69621 + (n + 1) * 1000003).fmod (2 ^ (64 : Int).toNat * 2 ^ (63 : Int).toNat - 1))]))
      have new : Reel R g c [] cs (n + 1) _ (upd H2 R (.lst [.ref g, .ref c, .int (n + 1), .int ((st * st + (told + 7) * 69621 + (n + 1) * 1000003).fmod (2 ^ (64 : Int).toNat * 2 ^ (63 : Int).toNat - 1))])) := ⟨upd_same, k3 _ _ r.g ng, k3 _ _ r.c nc, r.gl, r.cl, r.g0, r.c0, r.ne, fs.1, natAbs_M fs.1 fs.2⟩
      refine ⟨by omega, q _ _ k3 ⟨g, c, [], cs, n + 1, _, new⟩ (fun D hD hA => ?_) (fmod_pos hm0).1 (fmod_pos hm0).2⟩
      obtain ⟨g2, c2, _, _, _, _, r2, z1, z2, z3⟩ := hA
      have e := lst_inj r.r r2.r
      injection e with e1 e
      injection e with e _
      injection e with e
      injection e1 with e1
      subst e e1
      exact ⟨g, c, _, _, _, _, new, z1, z2, z3⟩
end
end Bk

namespace Bk
open PySem PySem.Spec PyProof.Rows L2
local macro_rules | `(tactic| walk_at "g") => `(tactic| (repeat first | refine ⟨_, rfl, ?_⟩ | refine ⟨cpow, ?_⟩ | refine ⟨wideM, ?_⟩ | refine ⟨_, _, rfl, rfl, ?_⟩ | refine ⟨rfl, ?_⟩))
section
variable {P : Program} {w : World} {K : PySem.W.Frag} {mg : Str → Option Value} {base : Heap}
/-! ### _law_turns -/
abbrev s_law_turns : Stmt := topS 38
abbrev N_law_turns : List Str := ["found", "a", "b", "c"]
theorem sc_law_turns : FnScope N_law_turns [] (defScope s_law_turns) := ⟨rfl, rfl, rfl, by decide +kernel, rfl, by decide +kernel, by decide +kernel⟩
def TsAt (H : Hp) (p : Addr) (ts : List Trn) : Prop := ∃ rs, H p = some (.lst rs) ∧ Paired (TAt H) rs ts
def spTurns : Sp := fun vs H Q _ => vs = [] ∧ ∀ H' p, Same H H' → H p = none → TsAt H' p allTurns → Q (.ref p) H'
theorem intV_eq (a b : Nat) : eqV (intV a) (intV b) = (a == b) := by
  show ((a : Int) == (b : Int)) = (a == b)
  by_cases h : a = b
  · subst h
    simp
  · rw [beq_eq_false_iff_ne.mpr h]
    exact beq_eq_false_iff_ne.mpr (by omega)
theorem ne_int (a b : Nat) : (!decide ((V.int (a : Int)) = V.int (b : Int))) = !(a == b) := by
  by_cases h : a = b
  · subst h
    simp
  · rw [beq_eq_false_iff_ne.mpr h]
    rw [decide_eq_false (fun z => h (by injection z with z; omega))]
theorem six_sub {a b c : Nat} (h : (c < 4) ∧ a < 4 ∧ b < 4) (hb : (b == a) = false) (hc : (a == c || b == c) = false) : (6 : Int) - a - b - c = ((6 - a - b - c : Nat) : Int) := by
  simp at hb hc
  omega
theorem bs_lt {a b : Nat} (h : b ∈ bsOf a) : b < 4 ∧ (b == a) = false := by
  unfold bsOf at h
  rw [List.mem_filter, List.mem_range] at h
  exact ⟨h.1, by simpa using h.2⟩
theorem turns_few : ∀ a < 4, ∀ j < 5, (turnsTo a ++ ((bsOf a).take j).flatMap (turnsAB a)).length ≤ 24 := by decide +kernel
theorem bs_len (a : Nat) : (bsOf a).length ≤ 4 := by
  have := List.length_filter_le (fun b => !(b == a)) (List.range 4)
  rw [List.length_range] at this
  exact this
theorem ok_law_turns {f : Addr} {fd : FuncData} (F : Fun K "_law_turns" "_law_turns" s_law_turns f fd) (m_range : mg "range" = none) : FnOk P w K mg base CX0 1 f fd [] spTurns := by
  refine F.ok sc_law_turns (fun vs H Q E h => ?_) (fun cdv A outer s H vs Q E hr h => ?_)
  · obtain ⟨rfl, _⟩ := h
    rfl
  · obtain ⟨rfl, q⟩ := h
    have nd := sc_law_turns.nd
    refine ⟨_, (pss_cons (ps_set (i := 0) nd rfl (.inl rfl) (pe_lst pa_nil))
      (pss_cons (ps_for PassesOwn.never rfl (pi_range1 (by rfl) m_range (pa_cons pe_int pa_nil)) (pg_name (i := 1) nd rfl (.inr rfl)) (pss_one (ps_for PassesOwn.never rfl (kPiL K rfl (pi_list (pe_lc (own := [("b", 2)]) (g := gName 2) rfl nd (pi_range1 (by rfl) m_range (pa_cons pe_int pa_nil)) (blkOk_by (own := [("b", 2)]) (N := N_law_turns) (sc := defScope s_law_turns) (by decide +kernel)) (fun _ _ _ _ _ => (pg_name (i := 2) nd rfl (Or.inl rfl))) (fun _ _ _ _ _ => (pts_one (pt_cmpR op_ne (pv 2) (pv 1) (nomark _)))) (fun _ _ _ _ _ => (pv 2))))) (pg_name (i := 2) nd rfl (.inr rfl)) (pss_one (ps_expr (kBM K rfl (pe_bm PySem.F.plainAttrs_list PySem.F.slot_list_extend PySem.F.type_list_extend mt_extend (pv 0) (pa_cons (pe_lc (own := [("c", 3)]) (g := gName 3) rfl nd (pi_range1 (by rfl) m_range (pa_cons pe_int pa_nil)) (blkOk_by (own := [("c", 3)]) (N := N_law_turns) (sc := defScope s_law_turns) (by decide +kernel)) (fun _ _ _ _ _ => (pg_name (i := 3) nd rfl (Or.inl rfl))) (fun _ _ _ _ _ => (pts_one (pt_cmpR (kNotIn K rfl) (pv 3) (pe_tupF (pa_cons (pv 1) (pa_cons (pv 2) pa_nil))) (by rfl)))) (fun _ _ _ _ _ => (pe_tupF (pa_cons (pv 1) (pa_cons (pv 2) (pa_cons (pv 3) (pa_cons (pe_op op_sub (pe_op op_sub (pe_op op_sub pe_int (pv 1)) (pv 2)) (pv 3)) pa_nil))))))) pa_nil))))))))
      (pss_one (ps_ret (pv 0))))), ?_⟩
    refine ⟨Nat.zero_le _, fun p np => ⟨4, rfl, by decide, by decide, ?_⟩⟩
    refine for_range (lo := 0) (n := 4) (fun i σ H' => ∃ y1 y2 rs, σ = [some (.ref p), y1, y2, none] ∧ H' p = some (.lst rs) ∧ Paired (TAt H') rs (turnsTo i) ∧ Same H H') ⟨none, none, [], rfl, upd_same, .nil, same_new np⟩ ?_ ?_
    · rintro a σ H1 ha ⟨y1, y2, rs, rfl, h1, t1, s1⟩
      rw [Int.zero_add]
      refine ⟨4, rfl, by decide, by decide, fun D nD => ?_⟩
      refine lc_range (lo := 0) (n := 4) (fun i H2 => H2 = upd H1 D (.lst (((List.range i).filter fun b => !(b == a)).map intV))) rfl ?_ ?_
      · rintro b H2 hb rfl
        rw [Int.zero_add]
        refine ⟨rfl, ?_⟩
        walk_at "g"
        rw [ne_int]
        refine ite2 (fun e => ?_) (fun e => ?_)
        · walk_at "g"
          refine ⟨_, upd_same, small1000 (Nat.le_trans (by rw [List.length_map]; exact Nat.le_trans (List.length_filter_le _ _) (by rw [List.length_range]; exact Nat.le_of_lt hb)) (by decide : 4 ≤ 1000)), ?_⟩
          rw [upd_upd, range_filter_succ, if_pos e, List.map_append]
          rfl
        · rw [range_filter_succ, if_neg e, List.append_nil]
      · rintro H2 rfl
        have nDp : D ≠ p := fun z => by
          rw [z, h1] at nD
          cases nD
        refine ⟨D, rfl, ⟨_, .inl (.inl upd_same)⟩, ?_⟩
        refine for_list (xs := (bsOf a).map intV) (fun j σ H2 => ∃ y2 rs, σ = [some (.ref p), some (intV a), y2, none] ∧ H2 p = some (.lst rs) ∧ Paired (TAt H2) rs (turnsTo a ++ ((bsOf a).take j).flatMap (turnsAB a)) ∧ H2 D = some (.lst ((bsOf a).map intV)) ∧ Same H H2) ⟨y2, rs, rfl, by rw [upd_ne nDp.symm]; exact h1, by
            rw [List.take_zero, List.flatMap_nil, List.append_nil]
            exact pmono t1 fun _ _ h => h.mono (same_new nD).tups, upd_same, s1.trans (same_new nD)⟩ ?_ ?_ ?_
        · rintro j σ H2 _ ⟨y2, rs, rfl, h2, t2, hD, s2⟩
          exact .inl (.inl hD)
        · rintro j x σ H2 hx ⟨y2, rs, rfl, h2, t2, hD, s2⟩
          rw [List.getElem?_map] at hx
          cases hb : (bsOf a)[j]? with
          | none =>
            rw [hb] at hx
            cases hx
          | some b =>
            rw [hb] at hx
            injection hx with hx
            subst hx
            obtain ⟨hb4, hba⟩ := bs_lt (List.mem_of_getElem? hb)
            walk_at "g"
            refine ⟨.inl ⟨rfl, _, .inl (.inl h2)⟩, ?_⟩
            refine ⟨4, rfl, by decide, by decide, fun D2 nD2 => ?_⟩
            refine lc_range (lo := 0) (n := 4) (fun i H3 => ∃ qs, H3 D2 = some (.lst qs) ∧ Paired (TAt H3) qs (((List.range i).filter fun c => !(a == c || b == c)).map fun c => [a, b, c, 6 - a - b - c]) ∧ Same H2 H3) ⟨[], upd_same, .nil, same_new nD2⟩ ?_ ?_
            · rintro c H3 hc ⟨qs, h3, t3, s3⟩
              rw [Int.zero_add]
              refine ⟨rfl, ?_⟩
              walk_at "g"
              refine ⟨Nat.le_of_lt (small1000 (by show 2 ≤ 1000; decide)), fun p2 o2 np2 d2 => ?_⟩
              refine ⟨p2, [intV a, intV b], rfl, .inr (FT.new d2).sqt, rfl, rfl, ?_⟩
              have e0 : inV (V.int (c : Int)) [intV a, intV b] = (a == c || b == c) := by
                show (eqV (intV a) (intV c) || (eqV (intV b) (intV c) || false)) = (a == c || b == c)
                rw [intV_eq, intV_eq, Bool.or_false]
              rw [if_pos rfl, e0]
              have s4 : Same H3 (upd H3 p2 (.frz o2 (.tup [intV a, intV b]))) := same_new np2
              generalize upd H3 p2 (.frz o2 (.tup [intV a, intV b])) = H4 at s4 ⊢
              refine ⟨_, rfl, ite2 (fun e => ?_) (fun e => ?_)⟩
              · walk_at "g"
                refine ⟨Nat.le_of_lt (small1000 (by show 4 ≤ 1000; decide)), fun p3 o3 np3 d3 => ?_⟩
                have e5 : ([intV a, intV b, intV c, V.int (6 - (a : Int) - b - c)] : List V) = trnV [a, b, c, 6 - a - b - c] := congrArg (fun z => [intV a, intV b, intV c, V.int z]) (six_sub ⟨hc, ha, hb4⟩ hba (by simpa using e))
                have s5 : Same H4 (upd H4 p3 (.frz o3 (.tup [intV a, intV b, intV c, V.int (6 - (a : Int) - b - c)]))) := same_new np3
                have h5 := s5 _ _ (s4 _ _ h3)
                have h6 : FT (upd H4 p3 (.frz o3 (.tup [intV a, intV b, intV c, V.int (6 - (a : Int) - b - c)]))) p3 (trnV [a, b, c, 6 - a - b - c]) := ⟨o3, d3, by rw [upd_same, e5]⟩
                have l5 := plen t3
                refine ⟨qs, h5, small1000 (by
                  rw [l5, List.length_map]
                  exact Nat.le_trans (List.length_filter_le _ _) (by rw [List.length_range]; omega)), qs ++ [.ref p3], upd_same, ?_, ?_⟩
                · rw [range_filter_succ, if_pos e, List.map_append]
                  refine papp (pmono t3 fun _ _ h => h.mono ((s4.trans s5).tups.trans (tups_set h5))) (.cons ⟨p3, rfl, ?_⟩ .nil)
                  exact h6.mono (tups_set h5)
                · exact same_fill (s3.trans (s4.trans s5)) nD2
              · rw [range_filter_succ, if_neg e, List.append_nil]
                exact ⟨qs, s4 _ _ h3, pmono t3 fun _ _ h => h.mono s4.tups, s3.trans s4⟩
            · rintro H3 ⟨qs, h3, t3, s3⟩
              have l3 := plen t3
              have l2 := plen t2
              refine ⟨p, D2, rs, qs, rfl, rfl, s3 _ _ h2, h3, ?_, ?_⟩
              · have hj : j < (bsOf a).length := (List.getElem?_eq_some_iff.mp hb).1
                have hj4 := bs_len a
                have hA := turns_few a ha j (by omega)
                have hB : (((List.range 4).filter fun c => !(a == c || b == c)).map fun c => [a, b, c, 6 - a - b - c]).length ≤ 4 := by
                  rw [List.length_map]
                  exact List.length_filter_le _ _
                exact Nat.le_of_lt (small1000 (by omega))
              · refine ⟨_, rs ++ qs, rfl, upd_same, ?_, ?_, ?_⟩
                · rw [List.take_add_one, hb, List.flatMap_append, ← List.append_assoc]
                  have hh := s3 _ _ h2
                  refine papp (pmono t2 fun _ _ h => h.mono (s3.tups.trans (tups_set hh))) ?_
                  show Paired _ qs (turnsAB a b ++ [])
                  rw [List.append_nil]
                  exact pmono t3 fun _ _ h => h.mono (tups_set hh)
                · rw [upd_ne nDp]
                  exact s3 _ _ hD
                · intro b o e
                  rw [upd_ne (ne_of_none e np)]
                  exact s3 _ _ (s2 _ _ e)
        · rintro σ H2 ⟨y2, rs, rfl, h2, t2, hD, s2⟩
          refine ⟨some (intV a), y2, rs, rfl, h2, ?_, s2⟩
          rw [turnsTo_succ]
          rw [List.length_map, List.take_length] at t2
          exact t2
    · rintro σ H1 ⟨y1, y2, rs, rfl, h1, t1, s1⟩
      walk_at "g"
      exact q H1 p s1 np ⟨rs, h1, t1⟩
end
end Bk

namespace Bk
open PySem PySem.Spec PyProof.Rows L2
local macro_rules | `(tactic| walk_at "g") => `(tactic| (repeat first | refine ⟨_, rfl, ?_⟩ | refine ⟨cpow, ?_⟩ | refine ⟨wideM, ?_⟩ | refine ⟨_, _, rfl, rfl, ?_⟩ | refine ⟨rfl, ?_⟩))
section
variable {P : Program} {w : World} {K : PySem.W.Frag} {mg : Str → Option Value} {base : Heap}
/-! ### _law_back -/
abbrev s_law_back : Stmt := topS 39
abbrev N_law_back : List Str := ["turn", "corner"]
theorem sc_law_back : FnScope N_law_back ["turn"] (defScope s_law_back) := ⟨rfl, rfl, rfl, by decide +kernel, rfl, by decide +kernel, by decide +kernel⟩
def spBack : Sp := fun vs H Q _ => ∃ v t, vs = [v] ∧ TAt H v t ∧ t ∈ allTurns ∧ ∀ H' p, Same H H' → H p = none → TAt H' (.ref p) (back t) → Q (.ref p) H'
theorem idx_int {t : Trn} {x : Nat} : (t.map fun c : Nat => (c : Int)).idxOf (x : Int) = t.idxOf x := by
  induction t with
  | nil => rfl
  | cons y r ih =>
    rw [List.map_cons, List.idxOf_cons, List.idxOf_cons, ih]
    by_cases h : y = x
    · subst h
      simp
    · rw [beq_eq_false_iff_ne.mpr h, beq_eq_false_iff_ne.mpr (show (y : Int) ≠ x by omega)]
theorem ok_law_back {f : Addr} {fd : FuncData} (F : Fun K "_law_back" "_law_back" s_law_back f fd) (m_range : mg "range" = none) (m_tuple : mg "tuple" = none) : FnOk P w K mg base CX0 1 f fd ["turn"] spBack := by
  refine F.ok sc_law_back (fun vs H Q E h => ?_) (fun cdv A outer s H vs Q E hr h => ?_)
  · obtain ⟨v, t, rfl, _⟩ := h
    rfl
  · obtain ⟨v, t, rfl, ⟨p, rfl, hp⟩, ht, q⟩ := h
    have nd := sc_law_back.nd
    refine ⟨_, (pss_one (ps_ret (pe_callTy (kTupleF K rfl) (by rfl) m_tuple (by decide +kernel) (pa_cons (pe_lc (own := [("corner", 1)]) (g := gName 1) (tt := tYes) rfl nd (pi_range1 (by rfl) m_range (pa_cons pe_int pa_nil)) (blkOk_by (own := [("corner", 1)]) (N := N_law_back) (sc := defScope s_law_back) (by decide +kernel)) (fun _ _ _ _ _ => (pg_name (i := 1) nd rfl (Or.inl rfl))) (fun _ _ _ _ _ => pts_nil) (fun _ _ _ _ _ => (pe_bmF PySem.F.plainAttrs_tuple PySem.F.slot_tuple_index PySem.F.type_tuple_index (kTupIx K rfl) (pv 0) (pa_cons (pv 1) pa_nil)))) pa_nil)))), ?_⟩
    refine ⟨4, rfl, by decide, by decide, fun D nD => ?_⟩
    have hpD : FT (upd H D (.lst [])) p (trnV t) := hp.mono (same_new nD).tups
    refine lc_range (lo := 0) (n := 4) (fun i H2 => H2 = upd H D (.lst (((List.range i).map fun c => t.idxOf c).map intV))) rfl ?_ ?_
    · rintro c H2 hc rfl
      rw [Int.zero_add]
      refine ⟨rfl, ?_⟩
      refine ⟨.ref p, rfl, ⟨p, _, rfl, hp.mono (same_new nD).tups⟩, ?_⟩
      walk_at "g"
      have t4 := turns4 t ht
      have e1 : trnV t = (t.map fun c : Nat => (c : Int)).map V.int := by
        rw [List.map_map]
        rfl
      have hm : (c : Int) ∈ t.map fun c : Nat => (c : Int) := List.mem_map_of_mem (List.mem_of_getElem? (t4.2.2.2.1 c hc))
      refine ⟨p, t.map fun c : Nat => (c : Int), c, rfl, rfl, ?_, hm, ?_⟩
      · rw [← e1]
        exact (hp.mono (same_new nD).tups).sqt
      rw [idx_int]
      refine ⟨_, upd_same, small1000 (by rw [List.length_map, List.length_map, List.length_range]; omega), ?_⟩
      rw [upd_upd, List.range_succ, List.map_append, List.map_append]
      rfl
    · rintro H2 rfl
      refine ⟨D, _, rfl, .inl ⟨.inl (.inl upd_same), fun p2 o2 np2 d2 => ?_⟩⟩
      exact q _ p2 ((same_new nD).trans (same_new np2)) ((same_new nD).free np2) ⟨p2, rfl, FT.new d2⟩
/-! ### _law_set -/
abbrev s_law_set : Stmt := topS 40
abbrev N_law_set : List Str := ["blocks", "block", "face", "other", "turn"]
theorem sc_law_set : FnScope N_law_set ["blocks", "block", "face", "other", "turn"] (defScope s_law_set) := ⟨rfl, rfl, rfl, by decide +kernel, rfl, by decide +kernel, by decide +kernel⟩
def spSet : Sp := fun vs H Q _ => ∃ (l : Addr) (rs : List V) (s : Spc) (b f n : Nat) (v : V) (t : Trn), vs = [.ref l, intV b, intV f, intV n, v] ∧ SpAt H l rs s ∧ L4 s ∧ TAt H v t ∧ t ∈ allTurns ∧ b < s.length ∧ f < 4 ∧ n < s.length ∧ s.length ≤ 1000 ∧
  ∀ H', KeepB rs H H' → SpAt H' l rs (joinJ s b f n t) → Q .non H'
theorem plen' {α β : Type} {F : α → β → Prop} {xs : List α} {ys : List β} (h : Paired F xs ys) {i : Nat} (hi : i < ys.length) : ∃ x y, xs[i]? = some x ∧ ys[i]? = some y ∧ F x y := by
  obtain ⟨x, h1, h2⟩ := pget h (List.getElem?_eq_getElem hi)
  exact ⟨x, _, h1, List.getElem?_eq_getElem hi, h2⟩
theorem pset {α β : Type} {F : α → β → Prop} {a : α} {b : β} (r : F a b) : ∀ {xs : List α} {ys : List β} (i : Nat), Paired F xs ys → Paired F (xs.set i a) (ys.set i b)
  | _, _, _, .nil => .nil
  | _, _, 0, .cons _ t => .cons r t
  | _, _, i + 1, .cons q t => .cons q (pset r i t)
/-- a store into one block: the others stand -/
theorem SpAt.set {H : Hp} {l : Addr} {rs : List V} {s : Spc} (h : SpAt H l rs s) {b f : Nat} {p : Addr} {vs : List V} {v : V} {j : Jn} (hb : rs[b]? = some (.ref p)) (hp : H p = some (.lst vs)) (hj : JAt H v j) :
    SpAt (upd H p (.lst (vs.set f v))) l rs (setJ s b f j) ∧ KeepB rs H (upd H p (.lst (vs.set f v))) := by
  have hm := List.mem_of_getElem? hb
  have hpl : l ≠ p := fun z => h.out (by rw [z]; exact hm)
  have tp := tups_set (o := .lst (vs.set f v)) hp
  refine ⟨⟨by rw [upd_ne hpl]; exact h.l, ?_, h.nd⟩, fun c o e n => ?_⟩
  · have hB := h.b
    have hN := h.nd
    have key : ∀ (xs : List V) (ys : Spc) (i : Nat), Paired (BAt H) xs ys → xs.Nodup → (xs[i]? = some (.ref p)) → Paired (BAt (upd H p (.lst (vs.set f v)))) xs (ys.modify i fun l => l.set f j) := by
      intro xs ys i hP
      induction hP generalizing i with
      | nil => intro _ hi; simp at hi
      | @cons a y xs ys r t ih =>
        intro nd hi
        rw [List.nodup_cons] at nd
        cases i with
        | zero =>
          have ea : a = .ref p := by simpa using hi
          subst ea
          rw [List.modify_zero_cons]
          refine .cons ?_ ?_
          · obtain ⟨p', vs', e1, e2, e3⟩ := r
            injection e1 with e1
            subst e1
            have := lst_inj hp e2
            subst this
            exact ⟨p, _, rfl, upd_same, pset (hj.mono tp) f (pmono e3 fun _ _ z => z.mono tp)⟩
          · clear ih
            have nm := nd.1
            have go : ∀ (xs : List V) (ys : Spc), Paired (BAt H) xs ys → V.ref p ∉ xs → Paired (BAt (upd H p (.lst (vs.set f v)))) xs ys := by
              intro xs ys hQ
              induction hQ with
              | nil => intro _; exact .nil
              | cons r t ih =>
                intro hn
                refine .cons (r.mono tp fun q xs e1 e2 => ?_) (ih fun z => hn (List.mem_cons_of_mem _ z))
                rw [upd_ne (fun z => hn (by rw [e1, z]; exact List.mem_cons_self))]
                exact e2
            exact go _ _ t nm
        | succ i =>
          rw [List.modify_succ_cons]
          refine .cons (r.mono tp fun q xs e1 e2 => ?_) (ih i nd.2 (by simpa using hi))
          rw [upd_ne (fun z => nd.1 (by rw [e1, z]; exact List.mem_of_getElem? (show _ = some (V.ref p) by simpa using hi)))]
          exact e2
    exact key rs s b hB hN hb
  · rw [upd_ne (fun z => n (by rw [z]; exact hm))]
    exact e
theorem SpAt.same {H H' : Hp} {l : Addr} {rs : List V} {s : Spc} (h : SpAt H l rs s) (m : Same H H') : SpAt H' l rs s :=
  ⟨m _ _ h.l, pmono h.b fun _ _ z => z.mono m.tups fun _ _ _ e => m _ _ e, h.nd⟩
theorem SpAt.keep {R : Addr} {H H' : Hp} {l : Addr} {rs : List V} {s : Spc} (h : SpAt H l rs s) (m : Keep R H H') (r : ReelOk R H) (h4 : L4 s) (hl : l ≠ R) : SpAt H' l rs s := by
  have nR := (r.keepB (KeepB.of (Same.refl H)) h.b h4).2
  have tp := m.tups r
  refine ⟨m _ _ h.l hl, ?_, h.nd⟩
  have hb := h.b
  have go : ∀ (xs : List V) (ys : Spc), Paired (BAt H) xs ys → V.ref R ∉ xs → Paired (BAt H') xs ys := by
    intro xs ys hQ
    induction hQ with
    | nil => intro _; exact .nil
    | cons r t ih =>
      intro hn
      refine .cons (r.mono tp fun q xs e1 e2 => m _ _ e2 fun z => hn (by rw [e1, z]; exact List.mem_cons_self)) (ih fun z => hn (List.mem_cons_of_mem _ z))
  exact go _ _ hb nR
theorem SpAt.at {H : Hp} {l : Addr} {rs : List V} {s : Spc} (h : SpAt H l rs s) {b : Nat} (hb : b < s.length) : ∃ p vs, rs[b]? = some (.ref p) ∧ H p = some (.lst vs) ∧ Paired (JAt H) vs (s[b]?.getD []) := by
  obtain ⟨x, y, h1, h2, p, vs, rfl, h3, h4⟩ := plen' h.b hb
  exact ⟨p, vs, h1, h3, by rw [h2]; exact h4⟩
theorem blk_len {s : Spc} (h : L4 s) {b : Nat} (hb : b < s.length) : (s[b]?.getD []).length = 4 := by
  rw [List.getElem?_eq_getElem hb]
  exact h _ (List.getElem_mem hb)
theorem ixN_lt {n k : Nat} (h : k < n) : ixN n (k : Int) = some k := by
  unfold ixN
  rw [if_pos (by omega), if_pos (by omega)]
  rfl
theorem ok_law_set {f fB : Addr} {fd fdB : FuncData} (F : Fun K "_law_set" "_law_set" s_law_set f fd) (F_law_back : Fun K "_law_back" "_law_back" s_law_back fB fdB) (g_law_back : mg "_law_back" = some (.ref fB)) (b_law_back : Binds K fdB ["turn"] [])
    (m_range : mg "range" = none) (m_tuple : mg "tuple" = none) : FnOk P w K mg base CX0 2 f fd ["blocks", "block", "face", "other", "turn"] spSet := by
  have G_law_back : FnOk P w K mg base CX0 1 fB fdB ["turn"] spBack := ok_law_back F_law_back m_range m_tuple
  refine F.ok sc_law_set (fun vs H Q E h => ?_) (fun cdv A outer s H vs Q E hr h => ?_)
  · obtain ⟨l, rs, s, b, f, n, v, t, rfl, _⟩ := h
    rfl
  · obtain ⟨l, rs, S, b, f, n, v, t, rfl, hS, h4, hT, ht, hb, hf, hn, hz, q⟩ := h
    have nd := sc_law_set.nd
    refine ⟨_, (pss_cons (ps_asg (pe_tupF (pa_cons (pv 3) (pa_cons (pv 4) pa_nil))) (pg_sub (pe_ix (kIxL K rfl) (pv 0) (pv 1) (fun _ _ => rfl)) (pv 2) set_list))
      (pss_one (ps_asg (pe_tupF (pa_cons (pv 1) (pa_cons (pe_call G_law_back (hr.mono (by first | decide | omega)) (by rfl) g_law_back F_law_back.kp b_law_back .nil pass0 (pa_cons (pv 4) pa_nil)) pa_nil))) (pg_sub (pe_ix (kIxL K rfl) (pv 0) (pv 3) (fun _ _ => rfl)) (pe_ix (kIxT K rfl) (pv 4) (pv 2) (fun _ _ => rfl)) set_list)))), ?_⟩
    walk_at "g"
    refine ⟨Nat.le_of_lt (small1000 (by show 2 ≤ 1000; decide)), fun p1 o1 np1 d1 => ?_⟩
    obtain ⟨pt, rfl, hpt⟩ := hT
    have s1 : Same H (upd H p1 (.frz o1 (.tup [intV n, .ref pt]))) := same_new np1
    have j1 : JAt (upd H p1 (.frz o1 (.tup [intV n, .ref pt]))) (.ref p1) (some (n, t)) := ⟨p1, pt, rfl, FT.new d1, hpt.mono s1.tups⟩
    generalize upd H p1 (.frz o1 (.tup [intV n, .ref pt])) = H1 at s1 j1 ⊢
    have hS1 := hS.same s1
    obtain ⟨pb, vb, eb, hvb, _⟩ := hS1.at hb
    have lvb : vb.length = 4 := by
      obtain ⟨x, y, h1, h2, p', vs', e1, e2, e3⟩ := plen' hS1.b hb
      rw [eb] at h1
      cases h1
      cases e1
      rw [lst_inj hvb e2, plen e3]
      exact h4 _ (List.mem_of_getElem? h2)
    have lrs : rs.length = S.length := plen hS1.b
    refine ⟨.ref l, rfl, intV b, rfl, l, rs, b, .ref pb, rfl, rfl, .inl (.inl hS1.l), atI_nat eb, intV f, rfl, pb, vb, f, f, rfl, rfl, hvb, ixN_lt (by omega), ?_⟩
    obtain ⟨hS2, k2⟩ := hS1.set (f := f) eb hvb j1
    have tp2 := k2.tups hS1.b
    have hpt2 := (hpt.mono s1.tups).mono tp2
    generalize upd H1 pb (.lst (vb.set f (.ref p1))) = H2 at hS2 k2 tp2 hpt2 ⊢
    refine ⟨intV b, rfl, .ref pt, rfl, .ref pt, t, rfl, ⟨pt, rfl, hpt2⟩, ht, fun H3 p3 s3 n3 T3 => ⟨Nat.le_of_lt (small1000 (by show 2 ≤ 1000; decide)), fun p4 o4 np4 d4 => ?_⟩⟩
    obtain ⟨p3', e3, T3⟩ := T3
    cases e3
    have s4 : Same H3 (upd H3 p4 (.frz o4 (.tup [intV b, .ref p3]))) := same_new np4
    have j4 : JAt (upd H3 p4 (.frz o4 (.tup [intV b, .ref p3]))) (.ref p4) (some (b, back t)) := ⟨p4, p3, rfl, FT.new d4, T3.mono s4.tups⟩
    have hpt4 := hpt2.mono (s3.trans s4).tups
    have hS4 := hS2.same (s3.trans s4)
    have k4 : KeepB rs H (upd H3 p4 (.frz o4 (.tup [intV b, .ref p3]))) := ((KeepB.of s1).trans k2).trans (KeepB.of (s3.trans s4))
    generalize upd H3 p4 (.frz o4 (.tup [intV b, .ref p3])) = H4 at s4 j4 hpt4 hS4 k4 ⊢
    have hn4 : n < (setJ S b f (some (n, t))).length := by rw [setJ_len]; exact hn
    obtain ⟨pn, vn, en, hvn, hvn2⟩ := hS4.at hn4
    have lvn : vn.length = 4 := by rw [plen hvn2]; exact blk_len (h4.set _ _ _) hn4
    have htf := tf_lt t ht f hf
    refine ⟨.ref l, rfl, intV n, rfl, l, rs, n, .ref pn, rfl, rfl, .inl (.inl hS4.l), atI_nat en, .ref pt, rfl, intV f, rfl, pt, trnV t, f, intV (tf t f), rfl, rfl, hpt4.sqt, atI_nat ?_, pn, vn, (tf t f : Nat), tf t f, rfl, rfl, hvn, ixN_lt (by omega), ?_⟩
    · unfold trnV
      rw [List.getElem?_map, htf.2]
      rfl
    · obtain ⟨hS5, k5⟩ := hS4.set (f := tf t f) en hvn j4
      exact q _ (k4.trans k5) hS5
end
end Bk

namespace Bk
open PySem PySem.Spec PyProof.Rows L2
local macro_rules | `(tactic| walk_at "g") => `(tactic| (repeat first | refine ⟨_, rfl, ?_⟩ | refine ⟨cpow, ?_⟩ | refine ⟨wideM, ?_⟩ | refine ⟨_, _, rfl, rfl, ?_⟩ | refine ⟨rfl, ?_⟩))
section
variable {P : Program} {w : World} {K : PySem.W.Frag} {mg : Str → Option Value} {base : Heap}
/-! ### _law_any -/
abbrev s_law_any : Stmt := topS 41
abbrev N_law_any : List Str := ["reel", "many", "blocks", "left", "k", "block", "face", "other", "at", "some", "turn"]
theorem sc_law_any : FnScope N_law_any ["reel", "many"] (defScope s_law_any) := ⟨rfl, rfl, rfl, by decide +kernel, rfl, by decide +kernel, by decide +kernel⟩
/-- what a maker of spaces tells: a new one -/
def MadeS (R : Addr) (H : Hp) (many : Nat) (Q : VK) : Prop := ∀ H' l rs S, Keep R H H' → ReelOk R H' → Aw R H H' → H l = none → SpAt H' l rs S → Fresh H rs → Good S → S.length = many → Q (.ref l) H'
def spAny : Sp := fun vs H Q _ => ∃ (R : Addr) (many : Nat), vs = [.ref R, intV many] ∧ 1 ≤ many ∧ many ≤ 20 ∧ ReelOk R H ∧ MadeS R H many Q
theorem flat4 : (List.replicate (4 : Int).toNat [V.non]).flatten = [V.non, .non, .non, .non] := rfl
theorem ok_law_any {f fD fT fB fS : Addr} {fd fdD fdT fdB fdS : FuncData} (F : Fun K "_law_any" "_law_any" s_law_any f fd)
    (F_law_draw : Fun K "_law_draw" "_law_draw" s_law_draw fD fdD) (g_law_draw : mg "_law_draw" = some (.ref fD)) (b_law_draw : Binds K fdD ["reel", "many"] [])
    (F_law_turns : Fun K "_law_turns" "_law_turns" s_law_turns fT fdT) (g_law_turns : mg "_law_turns" = some (.ref fT)) (b_law_turns : Binds K fdT [] [])
    (F_law_back : Fun K "_law_back" "_law_back" s_law_back fB fdB) (g_law_back : mg "_law_back" = some (.ref fB)) (b_law_back : Binds K fdB ["turn"] [])
    (F_law_set : Fun K "_law_set" "_law_set" s_law_set fS fdS) (g_law_set : mg "_law_set" = some (.ref fS)) (b_law_set : Binds K fdS ["blocks", "block", "face", "other", "turn"] [])
    (m_range : mg "range" = none) (m_tuple : mg "tuple" = none) (m_len : mg "len" = none) (m_int : mg "int" = none) : FnOk P w K mg base CX0 3 f fd ["reel", "many"] spAny := by
  have G_law_draw : FnOk P w K mg base CX0 1 fD fdD ["reel", "many"] spDraw := ok_law_draw F_law_draw m_len m_int
  have G_law_turns : FnOk P w K mg base CX0 1 fT fdT [] spTurns := ok_law_turns F_law_turns m_range
  have G_law_set : FnOk P w K mg base CX0 2 fS fdS ["blocks", "block", "face", "other", "turn"] spSet := ok_law_set F_law_set F_law_back g_law_back b_law_back m_range m_tuple
  refine F.ok sc_law_any (fun vs H Q E h => ?_) (fun cdv A outer s H vs Q E hr h => ?_)
  · obtain ⟨R, many, rfl, _⟩ := h
    rfl
  · obtain ⟨R, many, rfl, hm1, hm2, hR, q⟩ := h
    have nd := sc_law_any.nd
    refine ⟨_, (pss_cons (ps_setLc (i := 2) (own := [("block", 5)]) (g := gName 5) (tt := tYes) rfl nd rfl rfl (sw_true rfl rfl rfl (by decide +kernel)) (pi_range1 (by rfl) m_range (pa_cons (pv 1) pa_nil)) (blkOk_by (own := [("block", 5)]) (N := N_law_any) (sc := defScope s_law_any) (by decide +kernel)) (fun _ _ _ _ _ => (pg_name (i := 5) nd rfl (Or.inl rfl))) (fun _ _ _ _ _ => pts_nil) (fun _ _ _ _ _ => (pe_op op_rep (pe_lst (pa_cons pe_non pa_nil)) pe_int)))
      (pss_cons (ps_set (i := 3) nd rfl (.inr rfl) (pe_lc (own := [("k", 4)]) (g := gName 4) (tt := tYes) rfl nd (pi_range1 (by rfl) m_range (pa_cons (pe_op op_mul pe_int (pv 1)) pa_nil)) (blkOk_by (own := [("k", 4)]) (N := N_law_any) (sc := defScope s_law_any) (by decide +kernel)) (fun _ _ _ _ _ => (pg_name (i := 4) nd rfl (Or.inl rfl))) (fun _ _ _ _ _ => pts_nil) (fun _ _ _ _ _ => (pe_tupF (pa_cons (pe_op op_fdivN (pv 4) pe_int) (pa_cons (pe_op op_modN (pv 4) pe_int) pa_nil))))))
      (pss_cons (ps_set (i := 3) nd rfl (.inr rfl) (pe_lc (own := [("k", 4)]) (g := gName 4) (tt := tYes) rfl nd (pi_range1 (by rfl) m_range (pa_cons (pe_op op_mul pe_int (pv 1)) pa_nil)) (blkOk_by (own := [("k", 4)]) (N := N_law_any) (sc := defScope s_law_any) (by decide +kernel)) (fun _ _ _ _ _ => (pg_name (i := 4) nd rfl (Or.inl rfl))) (fun _ _ _ _ _ => pts_nil) (fun _ _ _ _ _ => (kBM K rfl (pe_bm PySem.F.plainAttrs_list PySem.F.slot_list_pop PySem.F.type_list_pop mt_popAt (pv 3) (pa_cons (pe_call G_law_draw (hr.mono (by first | decide | omega)) (by rfl) g_law_draw F_law_draw.kp b_law_draw .nil pass0 (pa_cons (pv 0) (pa_cons (pe_callB (kLen K rfl) (by rfl) m_len (by decide +kernel) (pa_cons (pv 3) pa_nil)) pa_nil))) pa_nil))))))
      (pss_cons (ps_for PassesOwn.never rfl (pi_range1 (by rfl) m_range (pa_cons (pe_ix (kIxL K rfl) (pe_lst (pa_cons (pe_call G_law_draw (hr.mono (by first | decide | omega)) (by rfl) g_law_draw F_law_draw.kp b_law_draw .nil pass0 (pa_cons (pv 0) (pa_cons (pe_op op_add (pe_op op_mul pe_int (pv 1)) pe_int) pa_nil))) (pa_cons (pe_op op_mul pe_int (pv 1)) pa_nil))) (pe_call G_law_draw (hr.mono (by first | decide | omega)) (by rfl) g_law_draw F_law_draw.kp b_law_draw .nil pass0 (pa_cons (pv 0) (pa_cons pe_int pa_nil))) (fun _ _ => rfl)) pa_nil)) (pg_name (i := 4) nd rfl (.inl rfl)) (pss_cons (ps_asg (pe_ix (kIxL K rfl) (pv 3) (pe_op op_mul pe_int (pv 4)) (fun _ _ => rfl)) (kPgT K rfl (pg_tup (n := 2) rfl (pgs_cons (pg_name (i := 5) nd rfl (.inl rfl)) (pgs_cons (pg_name (i := 6) nd rfl (.inr rfl)) pgs_nil)))))
      (pss_cons (ps_asg (pe_ix (kIxL K rfl) (pv 3) (pe_op op_add (pe_op op_mul pe_int (pv 4)) pe_int) (fun _ _ => rfl)) (kPgT K rfl (pg_tup (n := 2) rfl (pgs_cons (pg_name (i := 7) nd rfl (.inl rfl)) (pgs_cons (pg_name (i := 8) nd rfl (.inr rfl)) pgs_nil)))))
      (pss_cons (ps_setLc (i := 9) (own := [("turn", 10)]) (g := gName 10) rfl nd rfl rfl (sw_true rfl rfl rfl (by decide +kernel)) (kPiL K rfl (pi_list (pe_call0 G_law_turns (hr.mono (by first | decide | omega)) (by rfl) g_law_turns F_law_turns.kp b_law_turns .nil pass0))) (blkOk_by (own := [("turn", 10)]) (N := N_law_any) (sc := defScope s_law_any) (by decide +kernel)) (fun _ _ _ _ _ => (pg_name (i := 10) nd rfl (Or.inl rfl))) (fun _ _ _ _ _ => (pts_one (pt_cmpR op_eq (pe_ix (kIxT K rfl) (pv 10) (pv 6) (fun _ _ => rfl)) (pv 8) (nomark _)))) (fun _ _ _ _ _ => (pv 10)))
      (pss_one (ps_expr (pe_call G_law_set (hr.mono (by first | decide | omega)) (by rfl) g_law_set F_law_set.kp b_law_set .nil pass0 (pa_cons (pv 2) (pa_cons (pv 5) (pa_cons (pv 6) (pa_cons (pv 7) (pa_cons (pe_ix (kIxL K rfl) (pv 9) (pe_call G_law_draw (hr.mono (by first | decide | omega)) (by rfl) g_law_draw F_law_draw.kp b_law_draw .nil pass0 (pa_cons (pv 0) (pa_cons pe_int pa_nil))) (fun _ _ => rfl)) pa_nil))))))))))))
      (pss_one (ps_ret (pv 2))))))), ?_⟩
    -- blocks
    refine ⟨intV many, rfl, many, rfl, by omega, by omega, fun D nD => ?_⟩
    rw [Int.toNat_natCast]
    refine lc_range (lo := 0) (n := many) (fun i H1 => ∃ rs, SpAt H1 D rs (freeS i) ∧ Fresh H rs ∧ Same H H1) ⟨[], ⟨upd_same, .nil, .nil⟩, fun _ z => (by cases z), same_new nD⟩ ?_ ?_
    · rintro i H1 hi ⟨rs, hS, hF, s1⟩
      rw [Int.zero_add]
      refine ⟨rfl, ?_⟩
      refine ⟨Nat.le_of_lt (small1000 (by show 1 ≤ 1000; decide)), fun p np => ?_⟩
      refine ⟨p, 4, _, rfl, rfl, upd_same, by decide, by decide, Nat.le_of_lt (small1000 (by show 4 ≤ 1000; decide)), fun p2 np2 => ?_⟩
      rw [flat4]
      have s2 : Same H1 (upd (upd H1 p (.lst [.non])) p2 (.lst [.non, .non, .non, .non])) := (same_new np).trans (same_new np2)
      have h2 : (upd (upd H1 p (.lst [.non])) p2 (.lst [.non, .non, .non, .non])) p2 = some (.lst [.non, .non, .non, .non]) := upd_same
      have n2 : H1 p2 = none := (same_new np).free np2
      generalize upd (upd H1 p (.lst [.non])) p2 (.lst [.non, .non, .non, .non]) = H2 at s2 h2 ⊢
      have hD := s2 _ _ hS.l
      have l1 : rs.length = i := by rw [plen hS.b]; exact List.length_replicate
      refine ⟨rs, hD, small1000 (by omega), rs ++ [.ref p2], ?_, hF.push (fun o e => s1 _ _ e) n2, same_fill (s1.trans s2) nD⟩
      unfold freeS
      rw [List.replicate_succ']
      exact hS.push s2 n2 ⟨p2, _, rfl, h2, .cons rfl (.cons rfl (.cons rfl (.cons rfl .nil)))⟩
    · rintro H1 ⟨rs, hS, hF, s1⟩
      -- left
      walk_at "g"
      refine ⟨.inl (by decide), 4 * many, rfl, by omega, by omega, fun L nL => ?_⟩
      have hR1 := hR.same s1
      rw [show (4 * (many : Int)).toNat = 4 * many by omega]
      refine lc_range (lo := 0) (n := 4 * many) (fun i H2 => ∃ ys, H2 L = some (.lst ys) ∧ Paired (FcAt H2) ys (facesTo i) ∧ Same H1 H2) ⟨[], upd_same, .nil, same_new nL⟩ ?_ ?_
      · rintro i H2 hi ⟨ys, h2, t2, s2⟩
        rw [Int.zero_add]
        refine ⟨rfl, ?_⟩
        walk_at "g"
        refine ⟨⟨by decide, by decide⟩, ?_⟩
        walk_at "g"
        refine ⟨(show (4 : Int) ≠ 0 by decide), Nat.le_of_lt (small1000 (by show 2 ≤ 1000; decide)), fun p o np d => ?_⟩
        have ef : ([V.int ((i : Int).fdiv 4), V.int ((i : Int).fmod 4)] : List V) = [intV (i / 4), intV (i % 4)] := by
          rw [show (4 : Int) = ((4 : Nat) : Int) from rfl, fdiv_nat, fmod_nat]
          rfl
        have s3 : Same H2 (upd H2 p (.frz o (.tup [V.int ((i : Int).fdiv 4), V.int ((i : Int).fmod 4)]))) := same_new np
        have f3 : FcAt (upd H2 p (.frz o (.tup [V.int ((i : Int).fdiv 4), V.int ((i : Int).fmod 4)]))) (.ref p) (i / 4, i % 4) := ⟨p, rfl, o, d, by rw [ef]; exact upd_same⟩
        have h3 := s3 _ _ h2
        refine ⟨ys, h3, small1000 (by
          rw [plen t2]
          unfold facesTo
          rw [List.length_map, List.length_range]
          omega), ys ++ [.ref p], upd_same, ?_, same_fill (s2.trans s3) nL⟩
        rw [facesTo_succ]
        exact papp (pmono t2 fun _ _ z => z.mono (s3.tups.trans (tups_set h3))) (.cons (f3.mono (tups_set h3)) .nil)
      · rintro H2 ⟨ys, h2, t2, s2⟩
        -- the pops
        have hS2 := hS.same s2
        have hR2 := hR1.same s2
        have hm4 : (facesTo (4 * many)).length = 4 * many := by
          unfold facesTo
          rw [List.length_map, List.length_range]
        walk_at "g"
        refine ⟨.inl (by decide), 4 * many, rfl, by omega, by omega, fun L2 nL2 => ?_⟩
        rw [show (4 * (many : Int)).toNat = 4 * many by omega]
        have nLL : L ≠ L2 := ne_of_none h2 nL2
        have nDL : D ≠ L2 := ne_of_none hS2.l nL2
        refine lc_range (lo := 0) (n := 4 * many) (fun i H3 => ∃ xs ys fs gs, H3 L = some (.lst xs) ∧ H3 L2 = some (.lst ys) ∧ Paired (FcAt H3) xs fs ∧ Paired (FcAt H3) ys gs ∧ (gs ++ fs).Perm (facesTo (4 * many)) ∧ gs.length = i ∧ SpAt H3 D rs (freeS many) ∧ Away R L2 H3 ∧ Keep R H H3 ∧ Aw R H H3)
          ⟨ys, [], facesTo (4 * many), [], by rw [upd_ne nLL]; exact h2, upd_same, pmono t2 fun _ _ z => z.mono (same_new nL2).tups, .nil, .refl _, rfl, hS2.same (same_new nL2), hR2.away nL2, Keep.of ((s1.trans s2).trans (same_new nL2)), ((s1.trans s2).trans (same_new nL2)).aw⟩ ?_ ?_
        · rintro i H3 hi ⟨xs, ys, fs, gs, h3, h3', t3, t3', pm, rfl, hS3, hA3, k3, w3⟩
          have hl : fs.length = 4 * many - gs.length := by
            have := pm.length_eq
            rw [List.length_append, hm4] at this
            omega
          refine ⟨rfl, ?_⟩
          refine ⟨.ref L, rfl, .inl ⟨rfl, _, .inl (.inl h3)⟩, .ref R, rfl, .ref L, rfl, L, xs, rfl, .inl (.inl (.inl h3)), R, (xs.length : Int), rfl, by rw [plen t3]; omega, by rw [plen t3]; omega, hA3.ok, fun H4 r k4 hR4 hA4 r0 r1 => ?_⟩
          rw [plen t3] at r1
          have nLR : L ≠ R := hA3.ok.isR h3 (no_int (fc_refs t3))
          have nDR : D ≠ R := hA3.ok.isR hS3.l (no_int (bat_ref hS3.b))
          have tp4 := k4.tups hA3.ok
          have h4 := k4 _ _ h3 nLR
          have h4' := k4 _ _ h3' hA3.ne
          have hS4 := hS3.keep k4 hA3.ok (freeS_good many).l4 nDR
          have hA5 := hA4 L2 (by rw [h3']; exact fun z => nomatch z) hA3
          obtain ⟨y, x, hy, hx, hyx⟩ := plen' t3 (i := r.toNat) (by omega)
          refine ⟨L, xs, r, r.toNat, y, rfl, rfl, h4, by omega, by omega, ?_, hy, ?_⟩
          · have := seqIx_nat (n := xs.length) (k := r.toNat) (by rw [plen t3]; omega)
            rw [Int.toNat_of_nonneg r0] at this
            exact this
          have hA6 := (hA5.set (o := .lst (xs.eraseIdx r.toNat)) h4 (notReel_refs (fun z => by rw [z] at hy; cases hy) (fc_refs t3))).1
          have tp5 := tp4.trans (tups_set (o := .lst (xs.eraseIdx r.toNat)) h4)
          have hS5 := hS4.other (o := .lst (xs.eraseIdx r.toNat)) h4 (ne_of_none hS.l nL).symm (hS.fresh nL)
          have h5' : (upd H4 L (.lst (xs.eraseIdx r.toNat))) L2 = some (.lst ys) := by rw [upd_ne nLL.symm]; exact h4'
          have k5 : Keep R H (upd H4 L (.lst (xs.eraseIdx r.toNat))) := keep_fill (k3.trans k4) (s1.free nL)
          have h5 : (upd H4 L (.lst (xs.eraseIdx r.toNat))) L = some (.lst (xs.eraseIdx r.toNat)) := upd_same
          have w5 : Aw R H (upd H4 L (.lst (xs.eraseIdx r.toNat))) := (w3.trans k3 hA4).trans (k3.trans k4) (Aw.set h4 (notReel_refs (fun z => by rw [z] at hy; cases hy) (fc_refs t3)))
          generalize upd H4 L (.lst (xs.eraseIdx r.toNat)) = H5 at hA6 tp5 hS5 h5' k5 h5 w5 ⊢
          refine ⟨ys, h5', small1000 (by rw [plen t3']; omega), xs.eraseIdx r.toNat, ys ++ [y], fs.eraseIdx r.toNat, gs ++ [x], by rw [upd_ne nLL]; exact h5, upd_same, ?_, ?_, ?_, ?_, ?_, hA6.fill, ?_, w5.trans k5 (Aw.fill hA6)⟩
          · exact pmono (perase _ t3) fun _ _ z => z.mono (tp5.trans (tups_set h5'))
          · exact papp (pmono t3' fun _ _ z => z.mono (tp5.trans (tups_set h5'))) (.cons (hyx.mono (tp5.trans (tups_set h5'))) .nil)
          · rw [List.append_assoc]
            exact ((pperm_erase hx).append_left gs).trans pm
          · rw [List.length_append]
            rfl
          · exact hS5.other h5' nDL.symm (hS2.fresh nL2)
          · exact keep_fill k5 ((s1.trans s2).free nL2)
        · rintro H3 ⟨xs, ys, fs, gs, h3, h3', t3, t3', pm, hg, hS3, hA3, k3, w3⟩
          have el : fs = [] := by
            have := pm.length_eq
            rw [List.length_append, hm4] at this
            exact List.length_eq_zero_iff.mp (by omega)
          subst el
          rw [List.append_nil] at pm
          have gN : gs.Nodup := pm.symm.nodup (facesTo_nd _)
          have gm : ∀ {m : Nat} {x : Nat × Nat}, gs[m]? = some x → x.1 < many ∧ x.2 < 4 := fun h => facesTo_mem (pm.mem_iff.mp (List.mem_of_getElem? h))
          have nDR : D ≠ R := hA3.ok.isR hS3.l (no_int (bat_ref hS3.b))
          have nL2R : L2 ≠ R := hA3.ne
          have nL2D : L2 ≠ D := nDL.symm
          have nL2r : V.ref L2 ∉ rs := hS2.fresh nL2
          have hR3 := hA3.ok
          -- how many
          walk_at "g"
          refine ⟨.inl (by decide), ?_⟩
          walk_at "g"
          refine ⟨R, 2 * (many : Int) + 1, rfl, by omega, by omega, hR3, fun H4 r1 k4 hR4 aw4 r10 r11 => ?_⟩
          refine ⟨intV many, rfl, 2, many, rfl, rfl, .inl (by decide), Nat.le_of_lt (small1000 (by show 2 ≤ 1000; decide)), fun p np => ?_⟩
          have s5 : Same H4 (upd H4 p (.lst [.int r1, .int (2 * (many : Int))])) := same_new np
          have h5 : (upd H4 p (.lst [.int r1, .int (2 * (many : Int))])) p = some (.lst [.int r1, .int (2 * (many : Int))]) := upd_same
          have hA5 := hR4.away (o := .lst [.int r1, .int (2 * (many : Int))]) np
          generalize upd H4 p (.lst [.int r1, .int (2 * (many : Int))]) = H5 at s5 h5 hA5 ⊢
          refine ⟨.ref R, rfl, R, 2, rfl, by decide, by decide, hA5.ok, fun H6 r2 k6 hR6 aw6 r20 r21 => ?_⟩
          have k36 : Keep R H3 H6 := (k4.same s5).trans k6
          have w36 : Aw R H3 H6 := (Aw.trans aw4 k4 s5.aw).trans (k4.same s5) aw6
          obtain ⟨j, hj, j0, j1⟩ : ∃ j : Int, atI [V.int r1, .int (2 * (many : Int))] r2 = some (.int j) ∧ 0 ≤ j ∧ j ≤ 2 * (many : Int) := by
            by_cases h : r2 = 0
            · subst h
              exact ⟨r1, rfl, r10, by omega⟩
            · have h : r2 = 1 := by omega
              subst h
              exact ⟨_, rfl, by omega, by omega⟩
          refine ⟨p, _, r2, _, rfl, rfl, .inl (.inl (k6 _ _ h5 hA5.ne)), hj, j, rfl, by omega, by omega, ?_⟩
          refine for_range (lo := 0) (n := j.toNat) (fun k σ H7 => ∃ y4 y5 y6 y7 y8 y9 S, σ = [some (.ref R), some (intV many), some (.ref D), some (.ref L2), y4, y5, y6, y7, y8, y9, none] ∧ SpAt H7 D rs S ∧ Good S ∧ S.length = many ∧ ReelOk R H7 ∧
              H7 L2 = some (.lst ys) ∧ Paired (FcAt H7) ys gs ∧ Keep R H H7 ∧ Aw R H H7 ∧ ∀ m x, 2 * k ≤ m → gs[m]? = some x → getJ S x.1 x.2 = some none)
            ⟨none, none, none, none, none, none, freeS many, rfl, hS3.keep k36 hR3 (freeS_good many).l4 nDR, freeS_good many, List.length_replicate, hR6, k36 _ _ h3' nL2R, pmono t3' fun _ _ z => z.mono (k36.tups hR3), k3.trans k36, w3.trans k3 w36, fun m x _ hx => by
              obtain ⟨g1, g2⟩ := gm hx
              obtain ⟨z, hz⟩ := (freeS_good many).l4.get (b := x.1) (f := x.2) (by unfold freeS; rw [List.length_replicate]; exact g1) g2
              rw [hz, freeS_get hz]⟩ ?_ ?_
          · rintro k σ H7 hk ⟨y4, y5, y6, y7, y8, y9, S, rfl, hS7, hG, hlS, hR7, h7, t7, k7, w7, hfree⟩
            rw [Int.zero_add]
            obtain ⟨v0, x0, hv0, hx0, p0, e0, f0⟩ := plen' t7 (i := 2 * k) (by omega)
            obtain ⟨v1, x1, hv1, hx1, p1, e1, f1⟩ := plen' t7 (i := 2 * k + 1) (by omega)
            subst e0 e1
            obtain ⟨b0, f0'⟩ := x0
            obtain ⟨b1, f1'⟩ := x1
            obtain ⟨hb0, hf0⟩ := gm hx0
            obtain ⟨hb1, hf1⟩ := gm hx1
            have ne01 : ((b0, f0') : Nat × Nat) ≠ (b1, f1') := nodup_ne gN hx0 hx1 (by omega)
            walk_at "g"
            refine ⟨.inl (by decide), L2, ys, _, .ref p0, rfl, rfl, .inl (.inl h7), at_of (j := 2 * k) (by omega) hv0, p0, [intV b0, intV f0'], rfl, f0.sqt, rfl, _, _, rfl, _, _, rfl, rfl, ?_⟩
            walk_at "g"
            refine ⟨.inl (by decide), ?_⟩
            walk_at "g"
            refine ⟨L2, ys, _, .ref p1, rfl, rfl, .inl (.inl h7), at_of (j := 2 * k + 1) (by omega) hv1, p1, [intV b1, intV f1'], rfl, f1.sqt, rfl, _, _, rfl, _, _, rfl, rfl, ?_⟩
            -- some
            refine ⟨rfl, fun H8 pT s8 nT T8 => ⟨pT, rfl, ?_⟩⟩
            obtain ⟨ws, hw, tw⟩ := T8
            refine ⟨⟨_, .inl (.inl hw)⟩, fun D3 nD3 => ?_⟩
            have lw := plen tw
            rw [turns_len] at lw
            have nTD : pT ≠ D3 := ne_of_none hw nD3
            refine lc_list (xs := ws) (fun i H9 => ∃ zs, H9 D3 = some (.lst zs) ∧ Paired (TAt H9) zs ((allTurns.take i).filter fun t => tf t f0' == f1') ∧ H9 = upd H8 D3 (.lst zs)) ⟨[], upd_same, .nil, rfl⟩ ?_ ?_ ?_
            · rintro i H9 _ ⟨zs, h9, t9, rfl⟩
              exact .inl (.inl (by rw [upd_ne nTD]; exact hw))
            · rintro i v H9 hv ⟨zs, h9, t9, rfl⟩
              obtain ⟨t, ht, pt, rfl, ft⟩ := pget' tw hv
              have hmem := List.mem_of_getElem? ht
              have htf := tf_lt t hmem f0' hf0
              refine ⟨rfl, ?_⟩
              refine ⟨.ref pt, rfl, intV f0', rfl, pt, trnV t, f0', intV (tf t f0'), rfl, rfl, (ft.mono (same_new nD3).tups).sqt, atI_nat (by unfold trnV; rw [List.getElem?_map, htf.2]; rfl), intV f1', rfl, rfl, ?_⟩
              rw [dec_nat]
              refine ⟨_, rfl, ite2 (fun e => ?_) (fun e => ?_)⟩
              · refine ⟨.ref pt, rfl, zs, upd_same, small1000 (by
                  rw [plen t9]
                  refine Nat.le_trans (List.length_filter_le _ _) ?_
                  rw [List.length_take, turns_len]
                  omega), zs ++ [.ref pt], upd_same, ?_, by rw [upd_upd]⟩
                rw [filter_take_succ ht, if_pos e]
                have tp := tups_set (o := .lst (zs ++ [.ref pt])) h9
                exact papp (pmono t9 fun _ _ z => z.mono tp) (.cons ⟨pt, rfl, (ft.mono (same_new nD3).tups).mono tp⟩ .nil)
              · rw [filter_take_succ ht, if_neg e, List.append_nil]
                exact ⟨zs, h9, t9, rfl⟩
            · rintro H9 ⟨zs, h9, t9, e9⟩
              have s9 : Same H7 H9 := by
                rw [e9]
                exact s8.trans (same_new nD3)
              have hA9 : Away R D3 H9 := by
                rw [e9]
                exact (hR7.same s8).away nD3
              clear e9
              rw [lw, ← turns_len, List.take_length] at t9
              have l6 : zs.length = 6 := by rw [plen t9, turns_face6 f0' hf0 f1' hf1]
              have hS9 := hS7.same s9
              have h9l := s9 _ _ h7
              -- _law_set(..)
              refine ⟨.ref D, rfl, intV b0, rfl, intV f0', rfl, intV b1, rfl, .ref D3, rfl, .ref R, rfl, R, 6, rfl, by decide, by decide, hA9.ok, fun H10 r k10 hR10 aw10 r0 r1 => ?_⟩
              obtain ⟨v, t, hv, ht, hvt⟩ := plen' t9 (i := r.toNat) (by rw [← plen t9]; omega)
              have htm := List.mem_of_getElem? ht
              rw [List.mem_filter] at htm
              have etf : tf t f0' = f1' := by simpa using htm.2
              have tp10 := k10.tups hA9.ok
              have hS10 := hS9.keep k10 hA9.ok hG.l4 nDR
              refine ⟨D3, zs, r, v, rfl, rfl, .inl (.inl (k10 _ _ h9 hA9.ne)), at_of (j := r.toNat) (by omega) hv, ?_⟩
              refine ⟨D, rs, S, b0, f0', b1, v, t, rfl, hS10, hG.l4, hvt.mono tp10, htm.1, by omega, hf0, by omega, by omega, fun H11 kB hS11 => ?_⟩
              have q0 : getJ S b0 f0' = some none := hfree (2 * k) _ (Nat.le_refl _) hx0
              have q1 : getJ S b1 (tf t f0') = some none := by
                rw [etf]
                exact hfree (2 * k + 1) _ (by omega) hx1
              have k10' : Keep R H7 H10 := Same.keep s9 k10
              refine ⟨_, _, _, _, _, _, joinJ S b0 f0' b1 t, rfl, hS11, hG.join htm.1 q0 q1 (by rw [etf]; exact fun z => ne01 z.symm), by rw [joinJ_len]; exact hlS, (hR10.keepB kB hS10.b hG.l4).1,
                kB _ _ (k10 _ _ h9l nL2R) nL2r, pmono t7 fun _ _ z => (z.mono s9.tups).mono (tp10.trans (kB.tups hS10.b)), (k7.trans k10').inner kB hF, ((w7.trans k7 s9.aw).trans (k7.same s9) aw10).trans (k7.trans k10') (Aw.keepB kB hS10.b hG.l4), fun m x hm hx => ?_⟩
              rw [getJ_join]
              · exact hfree m x (by omega) hx
              · rintro ⟨z1, z2⟩
                exact nodup_ne gN hx0 hx (by omega) (Prod.ext z1.symm z2.symm)
              · rintro ⟨z1, z2⟩
                rw [etf] at z2
                exact nodup_ne gN hx1 hx (by omega) (Prod.ext z1.symm z2.symm)
          · rintro σ H7 ⟨y4, y5, y6, y7, y8, y9, S, rfl, hS7, hG, hlS, hR7, h7, t7, k7, w7, hfree⟩
            refine ⟨.ref D, rfl, ?_⟩
            exact q H7 D rs S k7 hR7 w7 nD hS7 hF hG hlS
end
end Bk

namespace Bk
open PySem PySem.Spec PyProof.Rows L2
local macro_rules | `(tactic| walk_at "g") => `(tactic| (repeat first | refine ⟨_, rfl, ?_⟩ | refine ⟨cpow, ?_⟩ | refine ⟨wideM, ?_⟩ | refine ⟨_, _, rfl, rfl, ?_⟩ | refine ⟨rfl, ?_⟩))
section
variable {P : Program} {w : World} {K : PySem.W.Frag} {mg : Str → Option Value} {base : Heap}
/-! ### _law_ball -/
abbrev s_law_ball : Stmt := topS 42
abbrev N_law_ball : List Str := ["reel", "many", "blocks", "k", "left", "block", "face", "at"]
theorem sc_law_ball : FnScope N_law_ball ["reel", "many"] (defScope s_law_ball) := ⟨rfl, rfl, rfl, by decide +kernel, rfl, by decide +kernel, by decide +kernel⟩
theorem JAt.isN {H : Hp} {v : V} {j : Jn} (h : JAt H v j) : decide (v = .non) = j.isNone := by
  cases j with
  | none =>
    rw [show v = .non from h]
    rfl
  | some k =>
    obtain ⟨p, q, e, _⟩ := h
    rw [e]
    exact decide_eq_false (fun z => by cases z)
/-- what stands at a face, as it stands -/
theorem SpAt.face {H : Hp} {l : Addr} {rs : List V} {s : Spc} (h : SpAt H l rs s) {b f : Nat} {j : Jn} (e : getJ s b f = some j) : ∃ p vs v, rs[b]? = some (.ref p) ∧ H p = some (.lst vs) ∧ vs[f]? = some v ∧ JAt H v j := by
  unfold getJ at e
  cases hs : s[b]? with
  | none =>
    rw [hs] at e
    cases e
  | some y =>
    rw [hs] at e
    obtain ⟨x, h1, p, vs, rfl, h3, h4⟩ := pget h.b hs
    obtain ⟨v, h5, h6⟩ := pget h4 (show y[f]? = some j from e)
    exact ⟨p, vs, v, h1, h3, h5, h6⟩
def isFr (s : Spc) (k : Nat) : Bool := (getJ s (k / 4) (k % 4)) == some none
theorem getJ_push {s : Spc} {b : Blk} {x f : Nat} (h : x < s.length) : getJ (s ++ [b]) x f = getJ s x f := by
  unfold getJ
  rw [List.getElem?_append_left h]
theorem getJ_last {s : Spc} {b : Blk} {f : Nat} : getJ (s ++ [b]) s.length f = b[f]? := by
  unfold getJ
  rw [List.getElem?_append_right (Nat.le_refl _), Nat.sub_self]
  rfl
theorem Good.push {s : Spc} (h : Good s) : Good (s ++ [free4]) := by
  have l4 : L4 (s ++ [free4]) := fun b hb => by
    rcases List.mem_append.mp hb with z | z
    · exact h.l4 b z
    · rw [List.mem_singleton.mp z]
      rfl
  refine ⟨l4, fun b f n t e => ?_⟩
  by_cases hb : b < s.length
  · rw [getJ_push hb] at e
    obtain ⟨q1, q2, q3⟩ := h.both b f n t e
    exact ⟨q1, q2, by rw [getJ_push (h.lt e)]; exact q3⟩
  · have hl := (l4.of e).1
    rw [List.length_append] at hl
    have eb : b = s.length := by
      have : b < s.length + 1 := hl
      omega
    rw [eb, getJ_last] at e
    have hm := List.mem_of_getElem? e
    simp [free4] at hm
theorem free4_get {f : Nat} (h : f < 4) : free4[f]? = some none := by
  match f, h with
  | 0, _ => rfl
  | 1, _ => rfl
  | 2, _ => rfl
  | 3, _ => rfl
theorem ok_law_ball {f fD fT fB fS : Addr} {fd fdD fdT fdB fdS : FuncData} (F : Fun K "_law_ball" "_law_ball" s_law_ball f fd)
    (F_law_draw : Fun K "_law_draw" "_law_draw" s_law_draw fD fdD) (g_law_draw : mg "_law_draw" = some (.ref fD)) (b_law_draw : Binds K fdD ["reel", "many"] [])
    (F_law_turns : Fun K "_law_turns" "_law_turns" s_law_turns fT fdT) (g_law_turns : mg "_law_turns" = some (.ref fT)) (b_law_turns : Binds K fdT [] [])
    (F_law_back : Fun K "_law_back" "_law_back" s_law_back fB fdB) (g_law_back : mg "_law_back" = some (.ref fB)) (b_law_back : Binds K fdB ["turn"] [])
    (F_law_set : Fun K "_law_set" "_law_set" s_law_set fS fdS) (g_law_set : mg "_law_set" = some (.ref fS)) (b_law_set : Binds K fdS ["blocks", "block", "face", "other", "turn"] [])
    (m_range : mg "range" = none) (m_tuple : mg "tuple" = none) (m_len : mg "len" = none) (m_int : mg "int" = none) : FnOk P w K mg base CX0 3 f fd ["reel", "many"] spAny := by
  have G_law_draw : FnOk P w K mg base CX0 1 fD fdD ["reel", "many"] spDraw := ok_law_draw F_law_draw m_len m_int
  have G_law_turns : FnOk P w K mg base CX0 1 fT fdT [] spTurns := ok_law_turns F_law_turns m_range
  have G_law_set : FnOk P w K mg base CX0 2 fS fdS ["blocks", "block", "face", "other", "turn"] spSet := ok_law_set F_law_set F_law_back g_law_back b_law_back m_range m_tuple
  refine F.ok sc_law_ball (fun vs H Q E h => ?_) (fun cdv A outer s H vs Q E hr h => ?_)
  · obtain ⟨R, many, rfl, _⟩ := h
    rfl
  · obtain ⟨R, many, rfl, hm1, hm2, hR, q⟩ := h
    have nd := sc_law_ball.nd
    refine ⟨_, (pss_cons (ps_set (i := 2) nd rfl (.inr rfl) (pe_lst (pa_cons (pe_op op_rep (pe_lst (pa_cons pe_non pa_nil)) pe_int) pa_nil)))
      (pss_cons (ps_for PassesOwn.never rfl (pi_range2 (by rfl) m_range (pa_cons pe_int (pa_cons (pv 1) pa_nil))) (pg_name (i := 3) nd rfl (.inl rfl)) (pss_cons (ps_setLc (i := 4) (own := [("at", 7)]) (g := gName 7) rfl nd rfl rfl (sw_true rfl rfl rfl (by decide +kernel)) (pi_range1 (by rfl) m_range (pa_cons (pe_op op_mul pe_int (pv 3)) pa_nil)) (blkOk_by (own := [("at", 7)]) (N := N_law_ball) (sc := defScope s_law_ball) (by decide +kernel)) (fun _ _ _ _ _ => (pg_name (i := 7) nd rfl (Or.inl rfl))) (fun _ _ _ _ _ => (pts_one (pt_cmpR op_isN (pe_ix (kIxL K rfl) (pe_ix (kIxL K rfl) (pv 2) (pe_op op_fdivN (pv 7) pe_int) (fun _ _ => rfl)) (pe_op op_modN (pv 7) pe_int) (fun _ _ => rfl)) pe_non (nomark _)))) (fun _ _ _ _ _ => (pe_tupF (pa_cons (pe_op op_fdivN (pv 7) pe_int) (pa_cons (pe_op op_modN (pv 7) pe_int) pa_nil)))))
      (pss_cons (ps_asg (pe_ix (kIxL K rfl) (pv 4) (pe_call G_law_draw (hr.mono (by first | decide | omega)) (by rfl) g_law_draw F_law_draw.kp b_law_draw .nil pass0 (pa_cons (pv 0) (pa_cons (pe_callB (kLen K rfl) (by rfl) m_len (by decide +kernel) (pa_cons (pv 4) pa_nil)) pa_nil))) (fun _ _ => rfl)) (kPgT K rfl (pg_tup (n := 2) rfl (pgs_cons (pg_name (i := 5) nd rfl (.inl rfl)) (pgs_cons (pg_name (i := 6) nd rfl (.inl rfl)) pgs_nil)))))
      (pss_cons (ps_expr (kBM K rfl (pe_bm PySem.F.plainAttrs_list PySem.F.slot_list_append PySem.F.type_list_append mt_append (pv 2) (pa_cons (pe_op op_rep (pe_lst (pa_cons pe_non pa_nil)) pe_int) pa_nil))))
      (pss_one (ps_expr (pe_call G_law_set (hr.mono (by first | decide | omega)) (by rfl) g_law_set F_law_set.kp b_law_set .nil pass0 (pa_cons (pv 2) (pa_cons (pv 5) (pa_cons (pv 6) (pa_cons (pv 3) (pa_cons (pe_ix (kIxL K rfl) (pe_call0 G_law_turns (hr.mono (by first | decide | omega)) (by rfl) g_law_turns F_law_turns.kp b_law_turns .nil pass0) (pe_call G_law_draw (hr.mono (by first | decide | omega)) (by rfl) g_law_draw F_law_draw.kp b_law_draw .nil pass0 (pa_cons (pv 0) (pa_cons pe_int pa_nil))) (fun _ _ => rfl)) pa_nil))))))))))))
      (pss_one (ps_ret (pv 2))))), ?_⟩
    refine ⟨Nat.le_of_lt (small1000 (by show 1 ≤ 1000; decide)), fun p np => ?_⟩
    refine ⟨p, 4, _, rfl, rfl, upd_same, by decide, by decide, Nat.le_of_lt (small1000 (by show 4 ≤ 1000; decide)), fun p2 np2 => ?_⟩
    rw [flat4]
    have s2 : Same H (upd (upd H p (.lst [.non])) p2 (.lst [.non, .non, .non, .non])) := (same_new np).trans (same_new np2)
    have h2 : (upd (upd H p (.lst [.non])) p2 (.lst [.non, .non, .non, .non])) p2 = some (.lst [.non, .non, .non, .non]) := upd_same
    have n2 : H p2 = none := (same_new np).free np2
    generalize upd (upd H p (.lst [.non])) p2 (.lst [.non, .non, .non, .non]) = H2 at s2 h2 ⊢
    refine ⟨Nat.le_of_lt (small1000 (by show 1 ≤ 1000; decide)), fun D nD => ?_⟩
    have n2D : p2 ≠ D := ne_of_none h2 nD
    have s3 : Same H (upd H2 D (.lst [.ref p2])) := s2.trans (same_new nD)
    have hS3 : SpAt (upd H2 D (.lst [.ref p2])) D [.ref p2] (freeS 1) := ⟨upd_same, .cons ⟨p2, _, rfl, by rw [upd_ne n2D]; exact h2, .cons rfl (.cons rfl (.cons rfl (.cons rfl .nil)))⟩ .nil, by simp⟩
    have hF3 : Fresh H [V.ref p2] := fun x z => by
      have e := List.mem_singleton.mp z
      injection e with e
      subst e
      exact n2
    generalize upd H2 D (.lst [.ref p2]) = H3 at s3 hS3 ⊢
    have hnD : H D = none := s2.free nD
    refine ⟨intV many, rfl, 1, many, rfl, ⟨by decide, by decide, by omega, by omega⟩, ?_⟩
    refine for_range (lo := 1) (n := ((many : Int) - 1).toNat) (fun i σ H4 => ∃ y3 y4 y5 y6 rs S, σ = [some (.ref R), some (intV many), some (.ref D), y3, y4, y5, y6, none] ∧ SpAt H4 D rs S ∧ Fresh H rs ∧ Good S ∧ S.length = i + 1 ∧ ReelOk R H4 ∧ Keep R H H4 ∧ Aw R H H4 ∧ ∃ f, f < 4 ∧ getJ S i f = some none)
      ⟨none, none, none, none, [.ref p2], freeS 1, rfl, hS3, hF3, freeS_good 1, rfl, hR.same s3, Keep.of s3, s3.aw, 0, by decide, rfl⟩ ?_ ?_
    · rintro i σ H4 hi ⟨y3, y4, y5, y6, rs, S, rfl, hS4, hF4, hG, hl, hR4, k4, w4, ff, hff, hfree⟩
      rw [show (1 : Int) + (i : Int) = ((i + 1 : Nat) : Int) by omega]
      have nDR : D ≠ R := hR4.isR hS4.l (no_int (bat_ref hS4.b))
      have lrs : rs.length = i + 1 := by rw [plen hS4.b, hl]
      -- left
      walk_at "g"
      refine ⟨.inl (by decide), 4 * ((i + 1 : Nat) : Int), rfl, by omega, by omega, fun L nL => ?_⟩
      rw [show (4 * ((i + 1 : Nat) : Int)).toNat = 4 * (i + 1) by omega]
      have nLD : L ≠ D := fun z => by
        rw [z, hS4.l] at nL
        cases nL
      have nLr := hS4.fresh nL
      refine lc_range (lo := 0) (n := 4 * (i + 1)) (fun m H5 => ∃ ys, H5 L = some (.lst ys) ∧ Paired (FcAt H5) ys (((List.range m).filter (isFr S)).map fun k => (k / 4, k % 4)) ∧ Same H4 H5 ∧ SpAt H5 D rs S ∧ Away R L H5)
        ⟨[], upd_same, .nil, same_new nL, hS4.same (same_new nL), hR4.away nL⟩ ?_ ?_
      · rintro m H5 hm ⟨ys, h5, t5, s5, hS5, hA5⟩
        rw [Int.zero_add]
        refine ⟨rfl, ?_⟩
        obtain ⟨j, hj⟩ := hG.l4.get (b := m / 4) (f := m % 4) (by omega) (by omega)
        obtain ⟨pb, vb, v, hb1, hb2, hb3, hb4⟩ := hS5.face hj
        walk_at "g"
        refine ⟨⟨by decide, by decide⟩, D, rs, _, .ref pb, rfl, rfl, .inl (.inl hS5.l), at_of (j := m / 4) (fdiv_nat m 4) hb1, ?_⟩
        walk_at "g"
        refine ⟨(show (4 : Int) ≠ 0 by decide), pb, vb, _, v, rfl, rfl, .inl (.inl hb2), at_of (j := m % 4) (fmod_nat m 4) hb3, ?_⟩
        walk_at "g"
        rw [hb4.isN]
        have eF : isFr S m = j.isNone := by
          unfold isFr
          rw [hj]
          cases j <;> rfl
        rw [← eF]
        refine ite2 (fun e => ?_) (fun e => ?_)
        · walk_at "g"
          refine ⟨⟨by decide, by decide⟩, ?_⟩
          walk_at "g"
          refine ⟨(show (4 : Int) ≠ 0 by decide), Nat.le_of_lt (small1000 (by show 2 ≤ 1000; decide)), fun p o np d => ?_⟩
          have ef : ([V.int ((m : Int).fdiv 4), V.int ((m : Int).fmod 4)] : List V) = [intV (m / 4), intV (m % 4)] := by
            rw [show (4 : Int) = ((4 : Nat) : Int) from rfl, fdiv_nat, fmod_nat]
            rfl
          have s6 : Same H5 (upd H5 p (.frz o (.tup [V.int ((m : Int).fdiv 4), V.int ((m : Int).fmod 4)]))) := same_new np
          have f6 : FcAt (upd H5 p (.frz o (.tup [V.int ((m : Int).fdiv 4), V.int ((m : Int).fmod 4)]))) (.ref p) (m / 4, m % 4) := ⟨p, rfl, o, d, by rw [ef]; exact upd_same⟩
          have h6 := s6 _ _ h5
          have hS6 := hS5.same s6
          refine ⟨ys, h6, small1000 (by
            rw [plen t5, List.length_map]
            refine Nat.le_trans (List.length_filter_le _ _) ?_
            rw [List.length_range]
            omega), ys ++ [.ref p], upd_same, ?_, same_fill (s5.trans s6) nL, hS6.other h6 nLD nLr, (hA5.same s6).fill⟩
          rw [range_filter_succ, if_pos e, List.map_append]
          exact papp (pmono t5 fun _ _ z => z.mono (s6.tups.trans (tups_set h6))) (.cons (f6.mono (tups_set h6)) .nil)
        · rw [range_filter_succ, if_neg e, List.append_nil]
          exact ⟨ys, h5, t5, s5, hS5, hA5⟩
      · rintro H5 ⟨ys, h5, t5, s5, hS5, hA5⟩
        have lpos : 0 < ys.length := by
          rw [plen t5, List.length_map]
          refine List.length_pos_of_mem (a := 4 * i + ff) ?_
          rw [List.mem_filter, List.mem_range]
          refine ⟨by omega, ?_⟩
          unfold isFr
          rw [show (4 * i + ff) / 4 = i by omega, show (4 * i + ff) % 4 = ff by omega, hfree]
          rfl
        have lmax : ys.length ≤ 80 := by
          rw [plen t5, List.length_map]
          refine Nat.le_trans (List.length_filter_le _ _) ?_
          rw [List.length_range]
          omega
        -- block, face = left[..]
        refine ⟨.ref L, rfl, .ref R, rfl, .ref L, rfl, L, ys, rfl, .inl (.inl (.inl h5)), R, ys.length, rfl, by omega, by omega, hA5.ok, fun H6 r k6 hR6 aw6 r0 r1 => ?_⟩
        have tp6 := k6.tups hA5.ok
        have hS6 := hS5.keep k6 hA5.ok hG.l4 nDR
        obtain ⟨v, x, hv, hx, px, rfl, fx⟩ := plen' t5 (i := r.toNat) (by rw [← plen t5]; omega)
        have hxm := List.mem_of_getElem? hx
        rw [List.mem_map] at hxm
        obtain ⟨kx, hkx, ex⟩ := hxm
        rw [List.mem_filter, List.mem_range] at hkx
        obtain ⟨b0, f0⟩ := x
        injection ex with ex1 ex2
        have hb0 : b0 < i + 1 := by omega
        have hf0 : f0 < 4 := by omega
        have q0 : getJ S b0 f0 = some none := by
          have := hkx.2
          unfold isFr at this
          rw [ex1, ex2] at this
          simpa using this
        refine ⟨L, ys, r, .ref px, rfl, rfl, .inl (.inl (k6 _ _ h5 hA5.ne)), at_of (j := r.toNat) (by omega) hv, px, [intV b0, intV f0], rfl, (fx.mono tp6).sqt, rfl, _, _, rfl, _, _, rfl, rfl, ?_⟩
        -- blocks.append([None] * 4)
        refine ⟨.ref D, rfl, .inl ⟨rfl, _, .inl (.inl hS6.l)⟩, Nat.le_of_lt (small1000 (by show 1 ≤ 1000; decide)), fun p3 np3 => ?_⟩
        refine ⟨p3, 4, _, rfl, rfl, upd_same, by decide, by decide, Nat.le_of_lt (small1000 (by show 4 ≤ 1000; decide)), fun p4 np4 => ?_⟩
        rw [flat4]
        have s7 : Same H6 (upd (upd H6 p3 (.lst [.non])) p4 (.lst [.non, .non, .non, .non])) := (same_new np3).trans (same_new np4)
        have h7 : (upd (upd H6 p3 (.lst [.non])) p4 (.lst [.non, .non, .non, .non])) p4 = some (.lst [.non, .non, .non, .non]) := upd_same
        have n7 : H6 p4 = none := (same_new np3).free np4
        generalize upd (upd H6 p3 (.lst [.non])) p4 (.lst [.non, .non, .non, .non]) = H7 at s7 h7 ⊢
        have hS7 := hS6.push s7 n7 ⟨p4, _, rfl, h7, .cons rfl (.cons rfl (.cons rfl (.cons rfl .nil)))⟩ (b := free4)
        have hD7 := s7 _ _ hS6.l
        have hR7 := ((hR6.same s7).set (o := .lst (rs ++ [.ref p4])) hD7 (notReel_refs (fun z => by rw [z] at lrs; cases lrs) (bat_ref hS6.b))).1
        have k7 : Keep R H (upd H7 D (.lst (rs ++ [.ref p4]))) := keep_fill (((k4.same s5).trans k6).same s7) hnD
        have hF7 : Fresh H (rs ++ [.ref p4]) := hF4.push (fun o e => ((k4.same s5).trans k6) _ _ e (hR.isNot e n7 hR6)) n7
        have kk := (k4.same s5).trans k6
        have w7 : Aw R H (upd H7 D (.lst (rs ++ [.ref p4]))) := (((w4.trans k4 s5.aw).trans (k4.same s5) aw6).trans kk s7.aw).trans (kk.same s7) (Aw.set hD7 (notReel_refs (fun z => by rw [z] at lrs; cases lrs) (bat_ref hS6.b)))
        refine ⟨D, rs, .ref p4, rfl, rfl, hD7, small1000 (by omega), ?_⟩
        generalize upd H7 D (.lst (rs ++ [.ref p4])) = H8 at hS7 hR7 k7 w7 ⊢
        -- _law_set
        refine ⟨.ref D, rfl, intV b0, rfl, intV f0, rfl, intV (i + 1), rfl, rfl, fun H9 pT s9 nT T9 => ?_⟩
        obtain ⟨ws, hw, tw⟩ := T9
        have hR9 := hR7.same s9
        have nTR : pT ≠ R := hR9.isR hw (no_int (tat_refs tw))
        refine ⟨.ref R, rfl, R, 24, rfl, by decide, by decide, hR9, fun H10 r2 k10 hR10 aw10 r20 r21 => ?_⟩
        have lw := plen tw
        rw [turns_len] at lw
        obtain ⟨v2, t, hv2, ht, hvt⟩ := plen' tw (i := r2.toNat) (by rw [turns_len]; omega)
        have htm := List.mem_of_getElem? ht
        have hS9 := hS7.same s9
        have hG7 := hG.push
        have nDR7 : D ≠ R := nDR
        have hS10 := hS9.keep k10 hR9 hG7.l4 nDR
        have htf := tf_lt t htm f0 hf0
        refine ⟨pT, ws, r2, v2, rfl, rfl, .inl (.inl (k10 _ _ hw nTR)), at_of (j := r2.toNat) (by omega) hv2, ?_⟩
        refine ⟨D, rs ++ [.ref p4], S ++ [free4], b0, f0, i + 1, v2, t, rfl, hS10, hG7.l4, hvt.mono (k10.tups hR9), htm, by rw [List.length_append]; omega, hf0, by rw [List.length_append]; show i + 1 < S.length + 1; omega, by rw [List.length_append]; show S.length + 1 ≤ 1000; omega, fun H11 kB hS11 => ?_⟩
        have q0' : getJ (S ++ [free4]) b0 f0 = some none := by
          rw [getJ_push (by omega)]
          exact q0
        have q1 : ∀ f, f < 4 → getJ (S ++ [free4]) (i + 1) f = some none := fun f hf => by
          rw [← hl, getJ_last]
          exact free4_get hf
        refine ⟨_, _, _, _, rs ++ [.ref p4], joinJ (S ++ [free4]) b0 f0 (i + 1) t, rfl, hS11, hF7, hG7.join htm q0' (q1 _ htf.1) (fun z => by injection z with z _; omega), by rw [joinJ_len, List.length_append, hl]; rfl, (hR10.keepB kB hS10.b hG7.l4).1, ((k7.same s9).trans k10).inner kB hF7, ((w7.trans k7 s9.aw).trans (k7.same s9) aw10).trans ((k7.same s9).trans k10) (Aw.keepB kB hS10.b hG7.l4), ?_⟩
        obtain ⟨f2, hf2, hne⟩ : ∃ f2, f2 < 4 ∧ f2 ≠ tf t f0 := by
          by_cases h : tf t f0 = 0
          · exact ⟨1, by decide, by omega⟩
          · exact ⟨0, by decide, by omega⟩
        refine ⟨f2, hf2, ?_⟩
        rw [getJ_join (fun z => by omega) (fun z => hne z.2)]
        exact q1 f2 hf2
    · rintro σ H4 ⟨y3, y4, y5, y6, rs, S, rfl, hS4, hF4, hG, hl, hR4, k4, w4, _⟩
      refine ⟨.ref D, rfl, ?_⟩
      exact q H4 D rs S k4 hR4 w4 hnD hS4 hF4 hG (by omega)
end
end Bk

namespace Bk
open PySem PySem.Spec PyProof.Rows L2
local macro_rules | `(tactic| walk_at "g") => `(tactic| (repeat first | refine ⟨_, rfl, ?_⟩ | refine ⟨cpow, ?_⟩ | refine ⟨wideM, ?_⟩ | refine ⟨_, _, rfl, rfl, ?_⟩ | refine ⟨rfl, ?_⟩))
section
variable {P : Program} {w : World} {K : PySem.W.Frag} {mg : Str → Option Value} {base : Heap}
/-! ### _law_doubled -/
abbrev s_law_doubled : Stmt := topS 43
abbrev N_law_doubled : List Str := ["blocks", "many", "found", "block", "face", "one"]
theorem sc_law_doubled : FnScope N_law_doubled ["blocks"] (defScope s_law_doubled) := ⟨rfl, rfl, rfl, by decide +kernel, rfl, by decide +kernel, by decide +kernel⟩
def shJ (m : Nat) : Jn → Jn
  | none => none
  | some (n, t) => some (n + m, t)
def shB (m : Nat) (b : Blk) : Blk := b.map (shJ m)
def shS (m : Nat) (s : Spc) : Spc := s.map (shB m)
theorem getJ_sh {m : Nat} {s : Spc} {b f : Nat} : getJ (shS m s) b f = (getJ s b f).map (shJ m) := by
  unfold getJ shS
  rw [List.getElem?_map]
  cases s[b]? with
  | none => rfl
  | some l =>
    show (shB m l)[f]? = (l[f]?).map (shJ m)
    exact List.getElem?_map
theorem getJ_left {s u : Spc} {b f : Nat} (h : b < s.length) : getJ (s ++ u) b f = getJ s b f := by
  unfold getJ
  rw [List.getElem?_append_left h]
theorem getJ_right {s u : Spc} {b f : Nat} : getJ (s ++ u) (s.length + b) f = getJ u b f := by
  unfold getJ
  rw [List.getElem?_append_right (Nat.le_add_right _ _), Nat.add_sub_cancel_left]
theorem Good.twice {s : Spc} (h : Good s) {u : Spc} (hu : Good u) : Good (s ++ shS s.length u) := by
  have l4 : L4 (s ++ shS s.length u) := fun b hb => by
    rcases List.mem_append.mp hb with z | z
    · exact h.l4 b z
    · obtain ⟨c, hc, rfl⟩ := List.mem_map.mp z
      unfold shB
      rw [List.length_map]
      exact hu.l4 c hc
  refine ⟨l4, fun b f n t e => ?_⟩
  by_cases hb : b < s.length
  · rw [getJ_left hb] at e
    obtain ⟨q1, q2, q3⟩ := h.both b f n t e
    exact ⟨q1, q2, by rw [getJ_left (h.lt e)]; exact q3⟩
  · obtain ⟨c, rfl⟩ : ∃ c, b = s.length + c := ⟨b - s.length, by omega⟩
    rw [getJ_right, getJ_sh] at e
    cases hj : getJ u c f with
    | none =>
      rw [hj] at e
      cases e
    | some j =>
      rw [hj] at e
      cases j with
      | none => cases e
      | some k =>
        obtain ⟨n', t'⟩ := k
        have e1 : (n' + s.length, t') = (n, t) := Option.some.inj (Option.some.inj e)
        injection e1 with e1 e2
        subst e2
        obtain ⟨q1, q2, q3⟩ := hu.both c f n' t' hj
        refine ⟨q1, fun z => ?_, ?_⟩
        · injection z with z1 z2
          exact q2 (Prod.ext (by show n' = c; omega) z2)
        · rw [← e1, Nat.add_comm n', getJ_right, getJ_sh, q3]
          show some (some (c + s.length, back t')) = _
          rw [Nat.add_comm c]
theorem JAt.sh {H : Hp} {m : Nat} {n : Nat} {t : Trn} {p q : Addr} (h1 : FT H p [intV (n + m), .ref q]) (h2 : FT H q (trnV t)) : JAt H (.ref p) (shJ m (some (n, t))) := ⟨p, q, rfl, h1, h2⟩
abbrev id4 : Trn := [0, 1, 2, 3]
theorem id4_mem : id4 ∈ allTurns := by decide +kernel
theorem tf_id4 {f : Nat} (h : f < 4) : tf id4 f = f := by
  match f, h with
  | 0, _ => rfl
  | 1, _ => rfl
  | 2, _ => rfl
  | 3, _ => rfl
def spDoubled : Sp := fun vs H Q _ => ∃ (l : Addr) (rs : List V) (S : Spc), vs = [.ref l] ∧ SpAt H l rs S ∧ Good S ∧ S.length ≤ 20 ∧
  ∀ H' l' rs' S', Same H H' → H l' = none → SpAt H' l' rs' S' → Fresh H rs' → Good S' → S'.length = 2 * S.length → Q (.ref l') H'
theorem ok_law_doubled {f fB fS : Addr} {fd fdB fdS : FuncData} (F : Fun K "_law_doubled" "_law_doubled" s_law_doubled f fd)
    (F_law_back : Fun K "_law_back" "_law_back" s_law_back fB fdB) (g_law_back : mg "_law_back" = some (.ref fB)) (b_law_back : Binds K fdB ["turn"] [])
    (F_law_set : Fun K "_law_set" "_law_set" s_law_set fS fdS) (g_law_set : mg "_law_set" = some (.ref fS)) (b_law_set : Binds K fdS ["blocks", "block", "face", "other", "turn"] [])
    (m_range : mg "range" = none) (m_tuple : mg "tuple" = none) (m_len : mg "len" = none) (m_list : mg "list" = none) : FnOk P w K mg base CX0 3 f fd ["blocks"] spDoubled := by
  have G_law_set : FnOk P w K mg base CX0 2 fS fdS ["blocks", "block", "face", "other", "turn"] spSet := ok_law_set F_law_set F_law_back g_law_back b_law_back m_range m_tuple
  refine F.ok sc_law_doubled (fun vs H Q E h => ?_) (fun cdv A outer s H vs Q E hr h => ?_)
  · obtain ⟨l, rs, S, rfl, _⟩ := h
    rfl
  · obtain ⟨l, rs, S, rfl, hS, hG, hl, q⟩ := h
    have nd := sc_law_doubled.nd
    refine ⟨_, (pss_cons (ps_set (i := 1) nd rfl (.inr rfl) (pe_callB (kLen K rfl) (by rfl) m_len (by decide +kernel) (pa_cons (pv 0) pa_nil)))
      (pss_cons (ps_setLc (i := 2) (own := [("block", 3)]) (g := gName 3) (tt := tYes) rfl nd rfl rfl (sw_true rfl rfl rfl (by decide +kernel)) (kPiL K rfl (pi_list (pv 0))) (blkOk_by (own := [("block", 3)]) (N := N_law_doubled) (sc := defScope s_law_doubled) (by decide +kernel)) (fun _ _ _ _ _ => (pg_name (i := 3) nd rfl (Or.inl rfl))) (fun _ _ _ _ _ => pts_nil) (fun _ _ _ _ _ => (pe_callTy (kList K rfl) (by rfl) m_list (by decide +kernel) (pa_cons (pv 3) pa_nil))))
      (pss_cons (ps_for PassesOwn.never rfl (kPiL K rfl (pi_list (pv 0))) (pg_name (i := 3) nd rfl (.inl rfl)) (pss_one (ps_expr (kBM K rfl (pe_bm PySem.F.plainAttrs_list PySem.F.slot_list_append PySem.F.type_list_append mt_append (pv 2) (pa_cons (pe_lc (own := [("one", 5)]) (g := gName 5) (tt := tYes) rfl nd (kPiL K rfl (pi_list (pv 3))) (blkOk_by (own := [("one", 5)]) (N := N_law_doubled) (sc := defScope s_law_doubled) (by decide +kernel)) (fun _ _ _ _ _ => (pg_name (i := 5) nd rfl (Or.inl rfl))) (fun _ _ _ _ _ => pts_nil) (fun _ _ _ _ _ => (pe_ifExp (pt_cmpR op_isN (pv 5) pe_non (nomark _)) pe_non (pe_tupF (pa_cons (pe_op op_add (pe_ix (kIxT K rfl) (pv 5) pe_int (fun _ _ => rfl)) (pv 1)) (pa_cons (pe_ix (kIxT K rfl) (pv 5) pe_int (fun _ _ => rfl)) pa_nil)))))) pa_nil))))))
      (pss_cons (ps_for PassesOwn.never rfl (pi_range1 (by rfl) m_range (pa_cons (pv 1) pa_nil)) (pg_name (i := 3) nd rfl (.inl rfl)) (pss_one (ps_for PassesOwn.never rfl (pi_range1 (by rfl) m_range (pa_cons pe_int pa_nil)) (pg_name (i := 4) nd rfl (.inl rfl)) (pss_one (ps_if (pt_cmpR op_isN (pe_ix (kIxL K rfl) (pe_ix (kIxL K rfl) (pv 0) (pv 3) (fun _ _ => rfl)) (pv 4) (fun _ _ => rfl)) pe_non (nomark _)) (pss_one (ps_expr (pe_call G_law_set (hr.mono (by first | decide | omega)) (by rfl) g_law_set F_law_set.kp b_law_set .nil pass0 (pa_cons (pv 2) (pa_cons (pv 3) (pa_cons (pv 4) (pa_cons (pe_op op_add (pv 1) (pv 3)) (pa_cons (pe_tupF (pa_cons pe_int (pa_cons pe_int (pa_cons pe_int (pa_cons pe_int pa_nil))))) pa_nil)))))))) pss_nil)))))
      (pss_one (ps_ret (pv 2))))))), ?_⟩
    have lrs : rs.length = S.length := plen hS.b
    refine ⟨.ref l, rfl, l, rs, rfl, .inl (.inl (.inl hS.l)), ?_⟩
    rw [lrs]
    -- found
    refine ⟨.ref l, rfl, l, rfl, ⟨_, .inl (.inl hS.l)⟩, fun D nD => ?_⟩
    refine lc_list (xs := rs) (fun i H1 => ∃ rf, SpAt H1 D rf (S.take i) ∧ Fresh H rf ∧ Same H H1) ⟨[], ⟨upd_same, .nil, .nil⟩, fun _ z => (by cases z), same_new nD⟩ ?_ ?_ ?_
    · rintro i H1 _ ⟨rf, hf, hF, s1⟩
      exact .inl (.inl (s1 _ _ hS.l))
    · rintro i x H1 hx ⟨rf, hf, hF, s1⟩
      obtain ⟨b, hb, p, vs, rfl, h1, h2⟩ := pget' hS.b hx
      have hi : i < S.length := (List.getElem?_eq_some_iff.mp hb).1
      refine ⟨rfl, .ref p, rfl, p, vs, rfl, .inl (.inl (.inl (s1 _ _ h1))), fun p2 np2 => ?_⟩
      have s2 : Same H1 (upd H1 p2 (.lst vs)) := same_new np2
      refine ⟨rf, s2 _ _ hf.l, small1000 (by rw [plen hf.b, List.length_take]; omega), rf ++ [.ref p2], ?_, hF.push (fun o e => s1 _ _ e) np2, same_fill (s1.trans s2) nD⟩
      rw [List.take_add_one, hb]
      exact hf.push s2 np2 ⟨p2, vs, rfl, upd_same, pmono h2 fun _ _ z => z.mono (s1.trans s2).tups⟩
    · rintro H1 ⟨rf, hf, hF, s1⟩
      rw [lrs, List.take_length] at hf
      -- the others
      refine ⟨.ref l, rfl, l, rfl, ⟨_, .inl (.inl (s1 _ _ hS.l))⟩, ?_⟩
      refine for_list (xs := rs) (fun i σ H2 => ∃ y3 y4 rf, σ = [some (.ref l), some (intV S.length), some (.ref D), y3, y4, none] ∧ SpAt H2 D rf (S ++ (shS S.length S).take i) ∧ Fresh H rf ∧ Same H H2) ⟨none, none, rf, rfl, by rw [List.take_zero, List.append_nil]; exact hf, hF, s1⟩ ?_ ?_ ?_
      · rintro i σ H2 _ ⟨y3, y4, rf, rfl, hf, hF, s2⟩
        exact .inl (.inl (s2 _ _ hS.l))
      · rintro i x σ H2 hx ⟨y3, y4, rf, rfl, hf, hF, s2⟩
        obtain ⟨b, hb, p, vs, rfl, h1, h2⟩ := pget' hS.b hx
        have hi : i < S.length := (List.getElem?_eq_some_iff.mp hb).1
        have lb : b.length = 4 := hG.l4 _ (List.mem_of_getElem? hb)
        refine ⟨.ref D, rfl, .inl ⟨rfl, _, .inl (.inl hf.l)⟩, ?_⟩
        refine ⟨.ref p, rfl, p, rfl, ⟨_, .inl (.inl (s2 _ _ h1))⟩, fun L nL => ?_⟩
        have npL : p ≠ L := ne_of_none (s2 _ _ h1) nL
        refine lc_list (xs := vs) (fun k H3 => ∃ ws, H3 L = some (.lst ws) ∧ Paired (JAt H3) ws ((shB S.length b).take k) ∧ Same H2 H3) ⟨[], upd_same, .nil, same_new nL⟩ ?_ ?_ ?_
        · rintro k H3 _ ⟨ws, h3, t3, s3⟩
          exact .inl (.inl (s3 _ _ (s2 _ _ h1)))
        · rintro k v H3 hv ⟨ws, h3, t3, s3⟩
          obtain ⟨j, hj, jv⟩ := pget' h2 hv
          have jv3 := jv.mono (s2.trans s3).tups
          have hk : k < 4 := by
            rw [← lb]
            exact (List.getElem?_eq_some_iff.mp hj).1
          have lw : ws.length < sizeLine := small1000 (by
            rw [plen t3, List.length_take]
            omega)
          have ej : (shB S.length b)[k]? = some (shJ S.length j) := by
            unfold shB
            rw [List.getElem?_map, hj]
            rfl
          refine ⟨rfl, v, rfl, rfl, ?_⟩
          rw [jv3.isN]
          refine ⟨_, rfl, ?_⟩
          cases j with
          | none =>
            refine iteT ⟨ws, h3, lw, ws ++ [.non], upd_same, ?_, same_fill s3 nL⟩
            rw [List.take_add_one, ej]
            exact papp (pmono t3 fun _ _ z => z.mono (tups_set h3)) (.cons rfl .nil)
          | some nt =>
            obtain ⟨n, t⟩ := nt
            obtain ⟨pj, pq, rfl, f1, f2⟩ := jv3
            refine iteF ?_
            refine ⟨.ref pj, rfl, pj, _, 0, intV n, rfl, rfl, f1.sqt, rfl, intV S.length, rfl, n, S.length, rfl, rfl, .ref pj, rfl, pj, _, 1, .ref pq, rfl, rfl, f1.sqt, rfl, Nat.le_of_lt (small1000 (by show 2 ≤ 1000; decide)), fun p4 o4 np4 d4 => ?_⟩
            have s4 : Same H3 (upd H3 p4 (.frz o4 (.tup [.int ((n : Int) + (S.length : Int)), .ref pq]))) := same_new np4
            have j4 : JAt (upd H3 p4 (.frz o4 (.tup [.int ((n : Int) + (S.length : Int)), .ref pq]))) (.ref p4) (shJ S.length (some (n, t))) := JAt.sh (q := pq) ⟨o4, d4, by
              rw [show (intV (n + S.length) : V) = .int ((n : Int) + (S.length : Int)) from congrArg V.int (by omega)]
              exact upd_same⟩ (f2.mono s4.tups)
            have h4 := s4 _ _ h3
            refine ⟨ws, h4, lw, ws ++ [.ref p4], upd_same, ?_, same_fill (s3.trans s4) nL⟩
            rw [List.take_add_one, ej]
            exact papp (pmono t3 fun _ _ z => z.mono (s4.tups.trans (tups_set h4))) (.cons (j4.mono (tups_set h4)) .nil)
        · rintro H3 ⟨ws, h3, t3, s3⟩
          have lvs : vs.length = (shB S.length b).length := by
            unfold shB
            rw [List.length_map]
            exact plen h2
          rw [lvs, List.take_length] at t3
          refine ⟨D, rf, .ref L, rfl, rfl, s3 _ _ hf.l, small1000 (by
            rw [plen hf.b, List.length_append, List.length_take]
            unfold shS
            rw [List.length_map]
            omega), _, _, rf ++ [.ref L], rfl, ?_, hF.push (fun o e => s2 _ _ e) nL, same_fill (s2.trans s3) nD⟩
          have eb : (shS S.length S)[i]? = some (shB S.length b) := by
            unfold shS
            rw [List.getElem?_map, hb]
            rfl
          rw [List.take_add_one, eb, ← List.append_assoc]
          exact hf.push s3 nL ⟨L, ws, rfl, h3, t3⟩
      · rintro σ H2 ⟨y3, y4, rf, rfl, hf, hF, s2⟩
        have e1 : rs.length = (shS S.length S).length := by
          unfold shS
          rw [List.length_map]
          exact lrs
        rw [e1, List.take_length] at hf
        have hG2 := hG.twice hG
        -- the ties
        refine ⟨intV S.length, rfl, S.length, rfl, by omega, by omega, ?_⟩
        rw [Int.toNat_natCast]
        refine for_range (lo := 0) (n := S.length) (fun b σ H3 => ∃ y3 y4 Sc, σ = [some (.ref l), some (intV S.length), some (.ref D), y3, y4, none] ∧ SpAt H3 D rf Sc ∧ Good Sc ∧ Sc.length = 2 * S.length ∧ Same H H3 ∧
            ∀ x y, b ≤ x → y < 4 → getJ S x y = some none → getJ Sc x y = some none ∧ getJ Sc (S.length + x) y = some none)
          ⟨y3, y4, _, rfl, hf, hG2, by rw [List.length_append, ← e1, lrs]; omega, s2, fun x y _ _ hxy => ⟨by rw [getJ_left (hG.l4.of hxy).1]; exact hxy, by rw [getJ_right, getJ_sh, hxy]; rfl⟩⟩ ?_ ?_
        · rintro b σ H3 hb ⟨y3, y4, Sc, rfl, hf3, hG3, hl3, s3, hfr⟩
          rw [Int.zero_add]
          refine ⟨4, rfl, by decide, by decide, ?_⟩
          refine for_range (lo := 0) (n := 4) (fun g σ H4 => ∃ y4 Sc, σ = [some (.ref l), some (intV S.length), some (.ref D), some (intV b), y4, none] ∧ SpAt H4 D rf Sc ∧ Good Sc ∧ Sc.length = 2 * S.length ∧ Same H H4 ∧
              ∀ x y, (b < x ∨ (x = b ∧ g ≤ y)) → y < 4 → getJ S x y = some none → getJ Sc x y = some none ∧ getJ Sc (S.length + x) y = some none)
            ⟨y4, Sc, rfl, hf3, hG3, hl3, s3, fun x y h1 h2 h3 => hfr x y (by omega) h2 h3⟩ ?_ ?_
          · rintro g σ H4 hg ⟨y4, Sc, rfl, hf4, hG4, hl4, s4, hfr⟩
            rw [Int.zero_add]
            have hS4 := hS.same s4
            obtain ⟨j, hj⟩ := hG.l4.get hb hg
            obtain ⟨pb, vb, v, hb1, hb2, hb3, hb4⟩ := hS4.face hj
            refine ⟨.ref l, rfl, intV b, rfl, l, rs, b, .ref pb, rfl, rfl, .inl (.inl hS4.l), atI_nat hb1, intV g, rfl, pb, vb, g, v, rfl, rfl, .inl (.inl hb2), atI_nat hb3, rfl, ?_⟩
            rw [hb4.isN]
            refine ⟨_, rfl, ?_⟩
            cases j with
            | some nt =>
              refine iteF ?_
              refine ⟨_, Sc, rfl, hf4, hG4, hl4, s4, fun x y h1 h2 h3 => hfr x y ?_ h2 h3⟩
              omega
            | none =>
              refine iteT ?_
              obtain ⟨q0, q1⟩ := hfr b g (.inr ⟨rfl, Nat.le_refl _⟩) hg hj
              refine ⟨.ref D, rfl, intV b, rfl, intV g, rfl, intV S.length, rfl, intV b, rfl, _, _, rfl, rfl, Nat.le_of_lt (small1000 (by show 4 ≤ 1000; decide)), fun p5 o5 np5 d5 => ?_⟩
              have s5 : Same H4 (upd H4 p5 (.frz o5 (.tup [intV 0, intV 1, intV 2, intV 3]))) := same_new np5
              have t5 : TAt (upd H4 p5 (.frz o5 (.tup [intV 0, intV 1, intV 2, intV 3]))) (.ref p5) id4 := ⟨p5, rfl, o5, d5, upd_same⟩
              have hf5 := hf4.same s5
              refine ⟨D, rf, Sc, b, g, S.length + b, .ref p5, id4, ?_, hf5, hG4.l4, t5, id4_mem, by omega, hg, by omega, by omega, fun H6 kB hf6 => ?_⟩
              · show [V.ref D, intV b, intV g, .int ((S.length : Int) + (b : Int)), .ref p5] = _
                rw [show (intV (S.length + b) : V) = .int ((S.length : Int) + (b : Int)) from congrArg V.int (by omega)]
              · have etf := tf_id4 hg
                refine ⟨_, joinJ Sc b g (S.length + b) id4, rfl, hf6, hG4.join id4_mem q0 (by rw [etf]; exact q1) (fun z => by injection z with z _; omega), by rw [joinJ_len]; exact hl4, (s4.trans s5).inner kB hF, fun x y h1 h2 h3 => ?_⟩
                have hx := (hG.l4.of h3).1
                obtain ⟨r0, r1⟩ := hfr x y (by omega) h2 h3
                rw [getJ_join (by omega) (by rw [etf]; omega), getJ_join (by omega) (by rw [etf]; omega)]
                exact ⟨r0, r1⟩
          · rintro σ H4 ⟨y4, Sc, rfl, hf4, hG4, hl4, s4, hfr⟩
            exact ⟨_, y4, Sc, rfl, hf4, hG4, hl4, s4, fun x y h1 h2 h3 => hfr x y (.inl (by omega)) h2 h3⟩
        · rintro σ H3 ⟨y3, y4, Sc, rfl, hf3, hG3, hl3, s3, hfr⟩
          exact ⟨.ref D, rfl, q H3 D rf Sc s3 nD hf3 hF hG3 hl3⟩
end
end Bk

namespace Bk
open PySem PySem.Spec PyProof.Rows L2
/-! ### data: lists and tuples as they stand, apart from the reel -/
mutual
inductive Dq (N : Addr → Prop) (H : Hp) : V → PyData → Prop
  | non : Dq N H .non .none
  | bl (b : Bool) : Dq N H (.bl b) (.bool b)
  | int (i : Int) : Dq N H (.int i) (.int i)
  | str (x : Str) : Dq N H (.str x) (.str x)
  | lst {a : Addr} {xs : List V} {ds : List PyData} : H a = some (.lst xs) → ¬ N a → Dqs N H xs ds → Dq N H (.ref a) (.list ds)
  | tup {a : Addr} {xs : List V} {ds : List PyData} : FT H a xs → Dqs N H xs ds → Dq N H (.ref a) (.tuple ds)
inductive Dqs (N : Addr → Prop) (H : Hp) : List V → List PyData → Prop
  | nil : Dqs N H [] []
  | cons {v : V} {vs : List V} {d : PyData} {ds : List PyData} : Dq N H v d → Dqs N H vs ds → Dqs N H (v :: vs) (d :: ds)
end
mutual
theorem Dq.mono {N N' : Addr → Prop} {H H' : Hp} (m : Tups H H') (n : ∀ a, N' a → N a) (k : ∀ a xs, H a = some (.lst xs) → ¬ N a → H' a = some (.lst xs)) : ∀ {d : PyData} {v : V}, Dq N H v d → Dq N' H' v d
  | .none, _, h => by
    cases h
    exact .non
  | .bool b, _, h => by
    cases h
    exact .bl b
  | .int i, _, h => by
    cases h
    exact .int i
  | .str x, _, h => by
    cases h
    exact .str x
  | .list ds, _, h => by
    cases h with
    | lst h1 h2 h3 => exact .lst (k _ _ h1 h2) (fun z => h2 (n _ z)) (Dqs.mono m n k h3)
  | .tuple ds, _, h => by
    cases h with
    | tup h1 h2 => exact .tup (h1.mono m) (Dqs.mono m n k h2)
  | .dict _, _, h => by cases h
theorem Dqs.mono {N N' : Addr → Prop} {H H' : Hp} (m : Tups H H') (n : ∀ a, N' a → N a) (k : ∀ a xs, H a = some (.lst xs) → ¬ N a → H' a = some (.lst xs)) : ∀ {ds : List PyData} {vs : List V}, Dqs N H vs ds → Dqs N' H' vs ds
  | [], _, h => by
    cases h
    exact .nil
  | d :: ds, _, h => by
    cases h with
    | cons h1 h2 => exact .cons (Dq.mono m n k h1) (Dqs.mono m n k h2)
end
theorem Dq.weak {N N' : Addr → Prop} {H : Hp} {v : V} {d : PyData} (h : Dq N H v d) (n : ∀ a, N' a → N a) : Dq N' H v d := h.mono (Tups.refl _) n fun _ _ e _ => e
theorem Dqs.weak {N N' : Addr → Prop} {H : Hp} {v : List V} {d : List PyData} (h : Dqs N H v d) (n : ∀ a, N' a → N a) : Dqs N' H v d := h.mono (Tups.refl _) n fun _ _ e _ => e
theorem Dq.same {N : Addr → Prop} {H H' : Hp} {v : V} {d : PyData} (h : Dq N H v d) (s : Same H H') : Dq N H' v d := h.mono s.tups (fun _ z => z) fun a xs e _ => s a _ e
theorem Dqs.same {N : Addr → Prop} {H H' : Hp} {v : List V} {d : List PyData} (h : Dqs N H v d) (s : Same H H') : Dqs N H' v d := h.mono s.tups (fun _ z => z) fun a xs e _ => s a _ e
theorem Dq.keep {N : Addr → Prop} {R : Addr} {H H' : Hp} {v : V} {d : PyData} (h : Dq N H v d) (k : Keep R H H') (r : ReelOk R H) (n : N R) : Dq N H' v d := h.mono (k.tups r) (fun _ z => z) fun a xs e m => k a _ e fun z => m (by rw [z]; exact n)
theorem Dqs.keep {N : Addr → Prop} {R : Addr} {H H' : Hp} {v : List V} {d : List PyData} (h : Dqs N H v d) (k : Keep R H H') (r : ReelOk R H) (n : N R) : Dqs N H' v d := h.mono (k.tups r) (fun _ z => z) fun a xs e m => k a _ e fun z => m (by rw [z]; exact n)
/-- a list that they avoid is filled -/
theorem Dqs.fill {N : Addr → Prop} {H : Hp} {D : Addr} {xs : List V} {o : HO} {v : List V} {d : List PyData} (h : Dqs N H v d) (hD : H D = some (.lst xs)) (n : N D) : Dqs N (upd H D o) v d := h.mono (tups_set hD) (fun _ z => z) fun a ys e m => by
  rw [upd_ne (show a ≠ D from fun z => m (by rw [z]; exact n))]
  exact e
theorem Dq.fill {N : Addr → Prop} {H : Hp} {D : Addr} {xs : List V} {o : HO} {v : V} {d : PyData} (h : Dq N H v d) (hD : H D = some (.lst xs)) (n : N D) : Dq N (upd H D o) v d := h.mono (tups_set hD) (fun _ z => z) fun a ys e m => by
  rw [upd_ne (show a ≠ D from fun z => m (by rw [z]; exact n))]
  exact e
mutual
theorem Dq.dp {K : PySem.W.Frag} {N : Addr → Prop} {H : Hp} : ∀ {d : PyData} {v : V}, Dq N H v d → Dp K H v d
  | .none, _, h => by
    cases h
    exact .non
  | .bool b, _, h => by
    cases h
    exact .bl b
  | .int i, _, h => by
    cases h
    exact .int i
  | .str x, _, h => by
    cases h
    exact .str x
  | .list ds, _, h => by
    cases h with
    | lst h1 h2 h3 => exact .lst (.inl (.inl h1)) (Dqs.dp h3)
  | .tuple ds, _, h => by
    cases h with
    | tup h1 h2 => exact .tup h1.sqt (Dqs.dp h2)
  | .dict _, _, h => by cases h
theorem Dqs.dp {K : PySem.W.Frag} {N : Addr → Prop} {H : Hp} : ∀ {ds : List PyData} {vs : List V}, Dqs N H vs ds → DpAll K H vs ds
  | [], _, h => by
    cases h
    exact .nil
  | d :: ds, _, h => by
    cases h with
    | cons h1 h2 => exact .cons (Dq.dp h1) (Dqs.dp h2)
end
theorem Dqs.len {N : Addr → Prop} {H : Hp} : ∀ {ds : List PyData} {vs : List V}, Dqs N H vs ds → vs.length = ds.length
  | [], _, h => by
    cases h
    rfl
  | d :: ds, _, h => by
    cases h with
    | cons h1 h2 =>
      rw [List.length_cons, List.length_cons, h2.len]
theorem Dqs.get {N : Addr → Prop} {H : Hp} : ∀ {ds : List PyData} {vs : List V} {i : Nat} {v : V}, Dqs N H vs ds → vs[i]? = some v → ∃ d, ds[i]? = some d ∧ Dq N H v d
  | [], _, i, v, h, e => by
    cases h
    simp at e
  | d :: ds, _, i, v, h, e => by
    cases h with
    | cons h1 h2 =>
      cases i with
      | zero =>
        have e' := Option.some.inj (show some _ = some v from e)
        subst e'
        exact ⟨d, rfl, h1⟩
      | succ i =>
        have q := Dqs.get (i := i) h2 (show _ = some v from e)
        exact q
theorem Dqs.get' {N : Addr → Prop} {H : Hp} : ∀ {ds : List PyData} {vs : List V} {i : Nat} {d : PyData}, Dqs N H vs ds → ds[i]? = some d → ∃ v, vs[i]? = some v ∧ Dq N H v d
  | [], _, i, v, h, e => by simp at e
  | d :: ds, _, i, v, h, e => by
    cases h with
    | cons h1 h2 =>
      cases i with
      | zero =>
        have e' := Option.some.inj (show some d = some v from e)
        subst e'
        exact ⟨_, rfl, h1⟩
      | succ i =>
        have q := Dqs.get' (i := i) h2 (show _ = some v from e)
        exact q
theorem Dqs.snoc {N : Addr → Prop} {H : Hp} {v : V} {d : PyData} (h : Dq N H v d) : ∀ {ds : List PyData} {vs : List V}, Dqs N H vs ds → Dqs N H (vs ++ [v]) (ds ++ [d])
  | [], _, k => by
    cases k
    exact .cons h .nil
  | d :: ds, _, k => by
    cases k with
    | cons h1 h2 => exact .cons h1 (h2.snoc h)

/-! ### lists for tuples: what a mixture keeps -/
mutual
def norm : PyData → PyData
  | .list ds => .list (norms ds)
  | .tuple ds => .list (norms ds)
  | .none => .none
  | .bool b => .bool b
  | .int i => .int i
  | .str x => .str x
  | .dict k => .dict k
def norms : List PyData → List PyData
  | [] => []
  | d :: ds => norm d :: norms ds
end
theorem norms_map : ∀ ds : List PyData, norms ds = ds.map norm
  | [] => by simp only [norms, List.map_nil]
  | d :: ds => by simp only [norms, List.map_cons, norms_map ds]
mutual
theorem norm_same (B : Nat) : ∀ d : PyData, (norm d).bulk = d.bulk ∧ (norm d).depth = d.depth ∧ (norm d).leavesShort B = d.leavesShort B ∧ (norm d).showable = d.showable ∧ (norm d).hasDict = d.hasDict
  | .list ds => by
    have h := norms_same B ds
    simp only [norm, PyData.bulk, PyData.depth, PyData.leavesShort, PyData.showable, PyData.hasDict]
    exact ⟨h.1, by rw [h.2.1], h.2.2.1, h.2.2.2.1, h.2.2.2.2⟩
  | .tuple ds => by
    have h := norms_same B ds
    simp only [norm, PyData.bulk, PyData.depth, PyData.leavesShort, PyData.showable, PyData.hasDict]
    exact ⟨h.1, by rw [h.2.1], h.2.2.1, h.2.2.2.1, h.2.2.2.2⟩
  | .none => by simp only [norm, and_self]
  | .bool b => by simp only [norm, and_self]
  | .int i => by simp only [norm, and_self]
  | .str x => by simp only [norm, and_self]
  | .dict k => by simp only [norm, and_self]
theorem norms_same (B : Nat) : ∀ ds : List PyData, PyData.bulkAll (norms ds) = PyData.bulkAll ds ∧ PyData.depthAll (norms ds) = PyData.depthAll ds ∧ PyData.leavesShortAll B (norms ds) = PyData.leavesShortAll B ds ∧ PyData.showableAll (norms ds) = PyData.showableAll ds ∧ PyData.hasDictAll (norms ds) = PyData.hasDictAll ds
  | [] => by simp only [norms, and_self]
  | d :: ds => by
    have h1 := norm_same B d
    have h2 := norms_same B ds
    simp only [norms, PyData.bulkAll, PyData.depthAll, PyData.leavesShortAll, PyData.showableAll, PyData.hasDictAll]
    exact ⟨by rw [h1.1, h2.1], by rw [h1.2.1, h2.2.1], by rw [h1.2.2.1, h2.2.2.1], by rw [h1.2.2.2.1, h2.2.2.2.1], by rw [h1.2.2.2.2, h2.2.2.2.2]⟩
end
def isSeqD : PyData → Bool
  | .list _ => true
  | .tuple _ => true
  | _ => false
def tyD : PyData → String
  | .list _ => "list"
  | .tuple _ => "tuple"
  | .none => "NoneType"
  | .bool _ => "bool"
  | .int _ => "int"
  | .str _ => "str"
  | .dict _ => "dict"
theorem Dq.ty {K : PySem.W.Frag} {N : Addr → Prop} {H : Hp} {v : V} {d : PyData} (h : Dq N H v d) : TyX K H v (.type (tyD d)) := by
  cases d with
  | none =>
    cases h
    exact .base .non
  | bool b =>
    cases h
    exact .base (.bl b)
  | int i =>
    cases h
    exact .base (.int i)
  | str x =>
    cases h
    exact .base (.str x)
  | list ds =>
    cases h with
    | lst h1 _ _ => exact .base (.lst h1)
  | tuple ds =>
    cases h with
    | tup h1 _ =>
      obtain ⟨o, _, h1⟩ := h1
      exact .fTuple h1
  | dict k => cases h
/-! data of tuples alone leans on tuples alone -/
mutual
def tupled : PyData → Bool
  | .list _ => false
  | .tuple ds => tupleds ds
  | .dict _ => false
  | .none => true
  | .bool _ => true
  | .int _ => true
  | .str _ => true
def tupleds : List PyData → Bool
  | [] => true
  | d :: ds => tupled d && tupleds ds
end
mutual
theorem Dq.monoT {N N' : Addr → Prop} {H H' : Hp} (m : Tups H H') : ∀ {d : PyData} {v : V}, tupled d = true → Dq N H v d → Dq N' H' v d
  | .none, _, _, h => by
    cases h
    exact .non
  | .bool b, _, _, h => by
    cases h
    exact .bl b
  | .int i, _, _, h => by
    cases h
    exact .int i
  | .str x, _, _, h => by
    cases h
    exact .str x
  | .list ds, _, e, _ => by simp only [tupled] at e; cases e
  | .tuple ds, _, e, h => by
    cases h with
    | tup h1 h2 => exact .tup (h1.mono m) (Dqs.monoT m (by simpa only [tupled] using e) h2)
  | .dict _, _, _, h => by cases h
theorem Dqs.monoT {N N' : Addr → Prop} {H H' : Hp} (m : Tups H H') : ∀ {ds : List PyData} {vs : List V}, tupleds ds = true → Dqs N H vs ds → Dqs N' H' vs ds
  | [], _, _, h => by
    cases h
    exact .nil
  | d :: ds, _, e, h => by
    simp only [tupleds, Bool.and_eq_true] at e
    cases h with
    | cons h1 h2 => exact .cons (Dq.monoT m e.1 h1) (Dqs.monoT m e.2 h2)
end
end Bk

namespace Bk
open PySem PySem.Spec PyProof.Rows L2
local macro_rules | `(tactic| walk_at "g") => `(tactic| (repeat first | refine ⟨_, rfl, ?_⟩ | refine ⟨cpow, ?_⟩ | refine ⟨wideM, ?_⟩ | refine ⟨_, _, rfl, rfl, ?_⟩ | refine ⟨rfl, ?_⟩))
section
variable {P : Program} {w : World} {K : PySem.W.Frag} {mg : Str → Option Value} {base : Heap}
/-! ### _law_blocks -/
abbrev s_law_blocks : Stmt := topS 44
abbrev N_law_blocks : List Str := ["reel", "most", "kind", "many"]
theorem sc_law_blocks : FnScope N_law_blocks ["reel", "most"] (defScope s_law_blocks) := ⟨rfl, rfl, rfl, by decide +kernel, rfl, by decide +kernel, by decide +kernel⟩
theorem Fresh.keep {R : Addr} {H H1 : Hp} {rs : List V} (f : Fresh H1 rs) (k : Keep R H H1) (r : ReelOk R H1) : Fresh H rs := fun p z => by
  have n := f p z
  exact k.free n (fun e => by
    obtain ⟨g, c, gs, cs, m, st, q⟩ := r
    rw [e, q.r] at n
    cases n)
theorem Keep.free' {R : Addr} {H H1 : Hp} (k : Keep R H H1) (r : ReelOk R H1) {p : Addr} (n : H1 p = none) : H p = none := k.free n (fun e => by
  obtain ⟨g, c, gs, cs, m, st, q⟩ := r
  rw [e, q.r] at n
  cases n)
theorem and_way {c d : Bool} {A B X : Prop} (hx : (if d = true then A else B) → X) (h1 : c = true → d = true → A) (h2 : ¬ (c = true ∧ d = true) → B) : if c = true then X else B := by
  by_cases hc : c = true
  · rw [if_pos hc]
    refine hx ?_
    by_cases hd : d = true
    · rw [if_pos hd]
      exact h1 hc hd
    · rw [if_neg hd]
      exact h2 fun z => hd z.2
  · rw [if_neg hc]
    exact h2 fun z => hc z.1
def spBlocks : Sp := fun vs H Q _ => ∃ (R : Addr) (most : Nat), vs = [.ref R, intV most] ∧ 1 ≤ most ∧ most ≤ 20 ∧ ReelOk R H ∧
  ∀ H' l rs S, Keep R H H' → ReelOk R H' → Aw R H H' → H l = none → SpAt H' l rs S → Fresh H rs → Good S → 1 ≤ S.length → S.length ≤ most → Q (.ref l) H'
theorem ok_law_blocks {f fD fA fL fO : Addr} {fd fdD fdA fdL fdO : FuncData} (F : Fun K "_law_blocks" "_law_blocks" s_law_blocks f fd)
    (F_law_draw : Fun K "_law_draw" "_law_draw" s_law_draw fD fdD) (g_law_draw : mg "_law_draw" = some (.ref fD)) (b_law_draw : Binds K fdD ["reel", "many"] [])
    (F_law_any : Fun K "_law_any" "_law_any" s_law_any fA fdA) (g_law_any : mg "_law_any" = some (.ref fA)) (b_law_any : Binds K fdA ["reel", "many"] [])
    (F_law_ball : Fun K "_law_ball" "_law_ball" s_law_ball fL fdL) (g_law_ball : mg "_law_ball" = some (.ref fL)) (b_law_ball : Binds K fdL ["reel", "many"] [])
    (F_law_doubled : Fun K "_law_doubled" "_law_doubled" s_law_doubled fO fdO) (g_law_doubled : mg "_law_doubled" = some (.ref fO)) (b_law_doubled : Binds K fdO ["blocks"] [])
    (G_law_draw : FnOk P w K mg base CX0 1 fD fdD ["reel", "many"] spDraw) (G_law_any : FnOk P w K mg base CX0 3 fA fdA ["reel", "many"] spAny) (G_law_ball : FnOk P w K mg base CX0 3 fL fdL ["reel", "many"] spAny) (G_law_doubled : FnOk P w K mg base CX0 3 fO fdO ["blocks"] spDoubled)
    (m_min : mg "min" = none) : FnOk P w K mg base CX0 4 f fd ["reel", "most"] spBlocks := by
  refine F.ok sc_law_blocks (fun vs H Q E h => ?_) (fun cdv A outer s H vs Q E hr h => ?_)
  · obtain ⟨R, most, rfl, _⟩ := h
    rfl
  · obtain ⟨R, most, rfl, hm1, hm2, hR, q⟩ := h
    have nd := sc_law_blocks.nd
    refine ⟨_, (pss_cons (ps_set (i := 2) nd rfl (.inl rfl) (pe_call G_law_draw (hr.mono (by first | decide | omega)) (by rfl) g_law_draw F_law_draw.kp b_law_draw .nil pass0 (pa_cons (pv 0) (pa_cons pe_int pa_nil))))
      (pss_cons (ps_if (pw_and (pt_cmpR op_eq (pv 2) pe_int (nomark _)) (pw_and1 (pt_cmpR op_gt (pv 1) pe_int (nomark _)))).pt (pss_one (ps_ret (pe_call G_law_doubled (hr.mono (by first | decide | omega)) (by rfl) g_law_doubled F_law_doubled.kp b_law_doubled .nil pass0 (pa_cons (pe_call G_law_ball (hr.mono (by first | decide | omega)) (by rfl) g_law_ball F_law_ball.kp b_law_ball .nil pass0 (pa_cons (pv 0) (pa_cons (pe_op op_add pe_int (pe_call G_law_draw (hr.mono (by first | decide | omega)) (by rfl) g_law_draw F_law_draw.kp b_law_draw .nil pass0 (pa_cons (pv 0) (pa_cons (pe_op op_fdivN (pv 1) pe_int) pa_nil)))) pa_nil))) pa_nil)))) pss_nil)
      (pss_cons (ps_set (i := 3) nd rfl (.inl rfl) (pe_op op_add pe_int (pe_call G_law_draw (hr.mono (by first | decide | omega)) (by rfl) g_law_draw F_law_draw.kp b_law_draw .nil pass0 (pa_cons (pv 0) (pa_cons (pe_ix (kIxL K rfl) (pe_lst (pa_cons (pv 1) (pa_cons (pe_callB (call_min2 rfl) (by rfl) m_min (by decide +kernel) (pa_cons (pv 1) (pa_cons pe_int pa_nil))) pa_nil))) (pe_call G_law_draw (hr.mono (by first | decide | omega)) (by rfl) g_law_draw F_law_draw.kp b_law_draw .nil pass0 (pa_cons (pv 0) (pa_cons pe_int pa_nil))) (fun _ _ => rfl)) pa_nil)))))
      (pss_one (ps_ret (pe_ifExp (pt_cmpR op_eq (pv 2) pe_int (nomark _)) (pe_call G_law_ball (hr.mono (by first | decide | omega)) (by rfl) g_law_ball F_law_ball.kp b_law_ball .nil pass0 (pa_cons (pv 0) (pa_cons (pv 3) pa_nil))) (pe_call G_law_any (hr.mono (by first | decide | omega)) (by rfl) g_law_any F_law_any.kp b_law_any .nil pass0 (pa_cons (pv 0) (pa_cons (pv 3) pa_nil))))))))), ?_⟩
    refine ⟨.ref R, rfl, R, 5, rfl, by decide, by decide, hR, fun H1 kd k1 hR1 aw1 d0 d1 => ?_⟩
    refine ⟨_, rfl, rfl, _, rfl, ?_⟩
    refine and_way (d := decide ((1 : Int) < (most : Int))) (fun z => ⟨intV most, rfl, _, _, rfl, rfl, _, rfl, z⟩) (fun e1 e2 => ?_) (fun e => ?_)
    · have hm : 1 < most := by
        have := of_decide_eq_true e2
        omega
      have efd : (most : Int).fdiv 2 = ((most / 2 : Nat) : Int) := fdiv_nat most 2
      refine ⟨.ref R, rfl, .ref R, rfl, intV most, rfl, _, _, rfl, rfl, ⟨by decide, by decide⟩, ?_⟩
      refine ⟨R, (most : Int).fdiv 2, rfl, by omega, by omega, hR1, fun H2 r k2 hR2 aw2 r0 r1 => ?_⟩
      rw [efd] at r1
      refine ⟨_, _, rfl, rfl, R, r.toNat + 1, ?_, by omega, by omega, hR2, fun H3 l rs S k3 hR3 aw3 nl hS hF hG hlen => ?_⟩
      · show [V.ref R, .int (1 + r)] = _
        rw [show (intV (r.toNat + 1) : V) = .int (1 + r) from congrArg V.int (by omega)]
      refine ⟨l, rs, S, rfl, hS, hG, by omega, fun H4 l' rs' S' s4 nl' hS' hF' hG' hlen' => ?_⟩
      have k13 : Keep R H H3 := (k1.trans k2).trans k3
      have w13 : Aw R H H3 := (Aw.trans aw1 k1 aw2).trans (k1.trans k2) aw3
      exact q H4 l' rs' S' (k13.same s4) (hR3.same s4) (w13.trans k13 s4.aw) (k13.free' hR3 nl') hS' (hF'.keep k13 hR3) hG' (by omega) (by omega)
    · -- many
      refine ⟨.ref R, rfl, intV most, rfl, intV most, rfl, most, 3, rfl, ?_⟩
      obtain ⟨mn, hmn⟩ : ∃ mn : Nat, (if (3 : Int) < (most : Int) then (3 : Int) else (most : Int)) = (mn : Int) ∧ 1 ≤ mn ∧ mn ≤ most := by
        by_cases h : (3 : Int) < (most : Int)
        · exact ⟨3, by rw [if_pos h]; rfl, by omega, by omega⟩
        · exact ⟨most, by rw [if_neg h], hm1, Nat.le_refl _⟩
      rw [hmn.1]
      refine ⟨Nat.le_of_lt (small1000 (by show 2 ≤ 1000; decide)), fun p np => ?_⟩
      have s2 : Same H1 (upd H1 p (.lst [intV most, intV mn])) := same_new np
      have h2 : (upd H1 p (.lst [intV most, intV mn])) p = some (.lst [intV most, intV mn]) := upd_same
      have hA2 := hR1.away (o := .lst [intV most, intV mn]) np
      show tCall _ _ _ _ _ (upd H1 p (.lst [intV most, intV mn])) _
      generalize upd H1 p (.lst [intV most, intV mn]) = H2 at s2 h2 hA2 ⊢
      refine ⟨.ref R, rfl, R, 2, rfl, by decide, by decide, hA2.ok, fun H3 r k3 hR3 aw3 r0 r1 => ?_⟩
      have h3 := k3 _ _ h2 hA2.ne
      obtain ⟨bd, hbd, b0, b1⟩ : ∃ bd : Nat, atI [intV most, intV mn] r = some (intV bd) ∧ 1 ≤ bd ∧ bd ≤ most := by
        by_cases h : r = 0
        · subst h
          exact ⟨most, rfl, hm1, Nat.le_refl _⟩
        · have h : r = 1 := by omega
          subst h
          exact ⟨mn, rfl, hmn.2.1, hmn.2.2⟩
      refine ⟨p, _, r, _, rfl, rfl, .inl (.inl h3), hbd, R, bd, rfl, by omega, by omega, hR3, fun H4 r2 k4 hR4 aw4 r20 r21 => ?_⟩
      have k14 : Keep R H H4 := ((k1.same s2).trans k3).trans k4
      have w14 : Aw R H H4 := ((Aw.trans aw1 k1 s2.aw).trans (k1.same s2) aw3).trans ((k1.same s2).trans k3) aw4
      refine ⟨_, _, rfl, rfl, ?_⟩
      have em : [V.ref R, .int (1 + r2)] = [V.ref R, intV (r2.toNat + 1)] := by
        rw [show (intV (r2.toNat + 1) : V) = .int (1 + r2) from congrArg V.int (by omega)]
      have fin : MadeS R H4 (r2.toNat + 1) Q := fun H5 l rs S k5 hR5 aw5 nl hS hF hG hlen =>
        q H5 l rs S (k14.trans k5) hR5 (w14.trans k14 aw5) (k14.free' hR4 nl) hS (hF.keep k14 hR4) hG (by omega) (by omega)
      refine ⟨_, rfl, rfl, _, rfl, ite2 (fun _ => ?_) (fun _ => ?_)⟩
      · exact ⟨_, rfl, _, rfl, R, r2.toNat + 1, em, by omega, by omega, hR4, fin⟩
      · exact ⟨_, rfl, _, rfl, R, r2.toNat + 1, em, by omega, by omega, hR4, fin⟩
end
end Bk

namespace Bk
open PySem PySem.Spec PyProof.Rows L2
local macro_rules | `(tactic| walk_at "g") => `(tactic| (repeat first | refine ⟨_, rfl, ?_⟩ | refine ⟨cpow, ?_⟩ | refine ⟨wideM, ?_⟩ | refine ⟨_, _, rfl, rfl, ?_⟩ | refine ⟨rfl, ?_⟩))
section
variable {P : Program} {w : World} {K : PySem.W.Frag} {mg : Str → Option Value} {base : Heap}
/-! ### _law_shut -/
abbrev s_law_shut : Stmt := topS 45
abbrev N_law_shut : List Str := ["blocks", "block"]
theorem sc_law_shut : FnScope N_law_shut ["blocks"] (defScope s_law_shut) := ⟨rfl, rfl, rfl, by decide +kernel, rfl, by decide +kernel, by decide +kernel⟩
def intD (n : Nat) : PyData := .int (n : Int)
def jD : Jn → PyData
  | none => .none
  | some (n, t) => .tuple [intD n, .tuple (t.map intD)]
def shutD (S : Spc) : PyData := .tuple (S.map fun b => .tuple (b.map jD))
theorem dqs_ints {N : Addr → Prop} {H : Hp} : ∀ t : Trn, Dqs N H (trnV t) (t.map intD)
  | [] => .nil
  | n :: t => .cons (.int (n : Int)) (dqs_ints t)
theorem JAt.dq {N : Addr → Prop} {H : Hp} {v : V} {j : Jn} (h : JAt H v j) : Dq N H v (jD j) := by
  cases j with
  | none =>
    rw [show v = .non from h]
    exact .non
  | some k =>
    obtain ⟨n, t⟩ := k
    obtain ⟨p, q, rfl, h1, h2⟩ := h
    exact .tup h1 (.cons (.int (n : Int)) (.cons (.tup h2 (dqs_ints t)) .nil))
theorem jats_dqs {N : Addr → Prop} {H : Hp} : ∀ {vs : List V} {b : Blk}, Paired (JAt H) vs b → Dqs N H vs (b.map jD)
  | _, _, .nil => .nil
  | _, _, .cons r t => .cons r.dq (jats_dqs t)
theorem j_tupled (j : Jn) : tupled (jD j) = true := by
  cases j with
  | none => simp only [jD, tupled]
  | some k =>
    obtain ⟨n, t⟩ := k
    have h : tupleds (t.map intD) = true := by
      induction t with
      | nil => simp only [List.map_nil, tupleds]
      | cons x r ih => simp only [List.map_cons, tupleds, intD, tupled, Bool.true_and, ih]
    simp only [jD, tupled, tupleds, intD, h, Bool.and_self]
theorem js_tupled : ∀ b : Blk, tupleds (b.map jD) = true
  | [] => by simp only [List.map_nil, tupleds]
  | j :: b => by simp only [List.map_cons, tupleds, j_tupled j, js_tupled b, Bool.and_self]
theorem blks_tupled : ∀ S : Spc, tupleds (S.map fun b => .tuple (b.map jD)) = true
  | [] => by simp only [List.map_nil, tupleds]
  | b :: S => by simp only [List.map_cons, tupleds, tupled, js_tupled b, blks_tupled S, Bool.and_self]
def spShut : Sp := fun vs H Q _ => ∃ (l : Addr) (rs : List V) (S : Spc), vs = [.ref l] ∧ SpAt H l rs S ∧ S.length ≤ 40 ∧ ∀ H' v, Same H H' → (∀ N, Dq N H' v (shutD S)) → Q v H'
theorem ok_law_shut {f : Addr} {fd : FuncData} (F : Fun K "_law_shut" "_law_shut" s_law_shut f fd) (m_tuple : mg "tuple" = none) : FnOk P w K mg base CX0 1 f fd ["blocks"] spShut := by
  refine F.ok sc_law_shut (fun vs H Q E h => ?_) (fun cdv A outer s H vs Q E hr h => ?_)
  · obtain ⟨l, rs, S, rfl, _⟩ := h
    rfl
  · obtain ⟨l, rs, S, rfl, hS, hl, q⟩ := h
    have nd := sc_law_shut.nd
    refine ⟨_, (pss_one (ps_ret (pe_callTy (kTupleF K rfl) (by rfl) m_tuple (by decide +kernel) (pa_cons (pe_lc (own := [("block", 1)]) (g := gName 1) (tt := tYes) rfl nd (kPiL K rfl (pi_list (pv 0))) (blkOk_by (own := [("block", 1)]) (N := N_law_shut) (sc := defScope s_law_shut) (by decide +kernel)) (fun _ _ _ _ _ => (pg_name (i := 1) nd rfl (Or.inl rfl))) (fun _ _ _ _ _ => pts_nil) (fun _ _ _ _ _ => (pe_callTy (kTupleF K rfl) (by rfl) m_tuple (by decide +kernel) (pa_cons (pv 1) pa_nil)))) pa_nil)))), ?_⟩
    have lrs : rs.length = S.length := plen hS.b
    refine ⟨.ref l, rfl, l, rfl, ⟨_, .inl (.inl hS.l)⟩, fun D nD => ?_⟩
    refine lc_list (xs := rs) (fun i H1 => ∃ ws, H1 D = some (.lst ws) ∧ (∀ N, Dqs N H1 ws ((S.take i).map fun b => .tuple (b.map jD))) ∧ ws.length = i ∧ Same H H1) ⟨[], upd_same, fun _ => .nil, rfl, same_new nD⟩ ?_ ?_ ?_
    · rintro i H1 _ ⟨ws, h1, t1, l1, s1⟩
      exact .inl (.inl (s1 _ _ hS.l))
    · rintro i x H1 hx ⟨ws, h1, t1, l1, s1⟩
      obtain ⟨b, hb, p, vs, rfl, hp, hv⟩ := pget' hS.b hx
      have hi : i < S.length := (List.getElem?_eq_some_iff.mp hb).1
      refine ⟨rfl, .ref p, rfl, p, vs, rfl, .inl ⟨.inl (.inl (s1 _ _ hp)), fun p2 o2 np2 d2 => ?_⟩⟩
      have s2 : Same H1 (upd H1 p2 (.frz o2 (.tup vs))) := same_new np2
      have f2 : FT (upd H1 p2 (.frz o2 (.tup vs))) p2 vs := FT.new d2
      generalize upd H1 p2 (.frz o2 (.tup vs)) = H2 at s2 f2 ⊢
      have h2 := s2 _ _ h1
      have st : Same H2 H2 := Same.refl _
      refine ⟨ws, h2, small1000 (by omega), ws ++ [.ref p2], upd_same, fun N => ?_, by rw [List.length_append, l1]; rfl, same_fill (s1.trans s2) nD⟩
      rw [List.take_add_one, hb, List.map_append]
      -- frozen tuples alone stand in these
      have tp := s2.tups.trans (tups_set (o := .lst (ws ++ [.ref p2])) h2)
      have jv : Dqs N (upd H2 D (.lst (ws ++ [.ref p2]))) vs (b.map jD) := jats_dqs (pmono hv fun _ _ z => z.mono (s1.tups.trans tp))
      refine Dqs.snoc (.tup (f2.mono (tups_set h2)) jv) ?_
      exact (t1 N).monoT tp (blks_tupled _)
    · rintro H1 ⟨ws, h1, t1, l1, s1⟩
      rw [lrs, List.take_length] at t1
      refine ⟨D, ws, rfl, .inl ⟨.inl (.inl h1), fun p2 o2 np2 d2 => ?_⟩⟩
      refine q _ _ (s1.trans (same_new np2)) fun N => ?_
      exact .tup (FT.new d2) ((t1 N).same (same_new np2))
theorem item_le : ∀ {ds : List PyData} {i : Nat} {d : PyData}, ds[i]? = some d → d.bulk ≤ PyData.bulkAll ds ∧ d.depth ≤ PyData.depthAll ds ∧ i < PyData.bulkAll ds
  | [], i, d, e => by simp at e
  | x :: xs, 0, d, e => by
    have e' := Option.some.inj (show some x = some d from e)
    subst e'
    simp only [PyData.bulkAll, PyData.depthAll]
    omega
  | x :: xs, i + 1, d, e => by
    have h := item_le (ds := xs) (i := i) (d := d) e
    simp only [PyData.bulkAll, PyData.depthAll]
    omega
theorem kit_seq {K : PySem.W.Frag} (d : PyData) : PySem.W.kitAny K (.type (tyD d)) [.type "list", .type "tuple"] = some (isSeqD d) := by
  have go : ∀ (a : String) (b1 b2 r : Bool), kitB a "list" = some b1 → kitB a "tuple" = some b2 → (b1 = false → b2 = r) → (b1 = true → r = true) → PySem.W.kitAny K (.type a) [.type "list", .type "tuple"] = some r := fun a b1 b2 r h1 h2 h3 h4 =>
    kitAny_cons (kit_ty h1) (fun e => by
      have e2 := h3 e
      subst e2
      exact kitAny_cons (kit_ty h2) (fun z => by rw [z]; rfl) fun z => z) h4
  cases d with
  | none => exact go "NoneType" false false _ (by decide +kernel) (by decide +kernel) (fun _ => rfl) (fun z => by cases z)
  | bool b => exact go "bool" false false _ (by decide +kernel) (by decide +kernel) (fun _ => rfl) (fun z => by cases z)
  | int i => exact go "int" false false _ (by decide +kernel) (by decide +kernel) (fun _ => rfl) (fun z => by cases z)
  | str x => exact go "str" false false _ (by decide +kernel) (by decide +kernel) (fun _ => rfl) (fun z => by cases z)
  | list ds => exact go "list" true false _ (by decide +kernel) (by decide +kernel) (fun z => by cases z) (fun _ => rfl)
  | tuple ds => exact go "tuple" false true _ (by decide +kernel) (by decide +kernel) (fun _ => rfl) (fun z => by cases z)
  | dict k => exact go "dict" false false _ (by decide +kernel) (by decide +kernel) (fun _ => rfl) (fun z => by cases z)
theorem norms_len : ∀ ds : List PyData, (norms ds).length = ds.length := fun ds => by rw [norms_map, List.length_map]
end
end Bk

namespace Bk
open PySem PySem.Spec PyProof.Rows L2
/-! ### places in a text -/
def stAt (l : List Stmt) (i : Nat) : Stmt := l.getD i (.Pass ⟨0, 0, 0, 0⟩)
def forBody (s : Stmt) : List Stmt := match s with
  | .For _ _ b _ _ => b
  | _ => []
def lcScope (s : Stmt) : Scope := match s with
  | .Assign _ (.ListComp _ _ sc _) _ => sc
  | _ => { kind := .function, names := [], isGenerator := false, isCoroutine := false }
def numT (n : Nat) : Str := Str.ofString (toString (n : Int))
def Jb (j : Jn) : Prop := ∀ n t, j = some (n, t) → n < 64 ∧ t.length = 4 ∧ ∀ x ∈ t, x < 4
theorem num_len : ∀ n < 64, (numT n).length ≤ 2 := by decide +kernel
theorem num_log {n : Nat} (h : n < 64) : (n : Int).natAbs.log2 < 1920 := by
  have h1 : ∀ n : Nat, n < 64 → n.log2 < 1920 := by decide +kernel
  rw [Int.natAbs_natCast]
  exact h1 n h
def Sb (S : Spc) : Prop := S.length ≤ 40 ∧ ∀ b ∈ S, b.length = 4 ∧ ∀ j ∈ b, Jb j
theorem Good.sb {S : Spc} (h : Good S) (hl : S.length ≤ 40) : Sb S := by
  refine ⟨hl, fun b hb => ⟨h.l4 b hb, fun j hj n t e => ?_⟩⟩
  subst e
  obtain ⟨i, hi⟩ := List.mem_iff_getElem?.mp hb
  obtain ⟨f, hf⟩ := List.mem_iff_getElem?.mp hj
  have g : getJ S i f = some (some (n, t)) := by
    unfold getJ
    rw [hi]
    exact hf
  have ht := (h.both _ _ _ _ g).1
  have h4 := turns4 t ht
  have := h.lt g
  exact ⟨by omega, h4.1, h4.2.1⟩
/-! ### data by their norms -/
theorem Dq.seq {K : PySem.W.Frag} {N : Addr → Prop} {H : Hp} {v : V} {d : PyData} {es : List PyData} (h : Dq N H v d) (e : norm d = .list es) : ∃ a xs ds, v = .ref a ∧ (SqL K H a xs ∨ SqT K H a xs) ∧ (∀ o, H a = some o → True) ∧ Dqs N H xs ds ∧ norms ds = es := by
  cases d with
  | list ds =>
    cases h with
    | lst h1 h2 h3 => exact ⟨_, _, ds, rfl, .inl (.inl (.inl h1)), fun _ _ => trivial, h3, by simpa only [norm, PyData.list.injEq] using e⟩
  | tuple ds =>
    cases h with
    | tup h1 h2 => exact ⟨_, _, ds, rfl, .inr h1.sqt, fun _ _ => trivial, h2, by simpa only [norm, PyData.list.injEq] using e⟩
  | none => simp only [norm] at e; cases e
  | bool b => simp only [norm] at e; cases e
  | int i => simp only [norm] at e; cases e
  | str x => simp only [norm] at e; cases e
  | dict k => simp only [norm] at e; cases e
theorem Dq.isInt {N : Addr → Prop} {H : Hp} {v : V} {d : PyData} {i : Int} (h : Dq N H v d) (e : norm d = .int i) : v = .int i := by
  cases h with
  | int j => simp only [norm, PyData.int.injEq] at e; rw [e]
  | non => simp only [norm] at e; cases e
  | bl b => simp only [norm] at e; cases e
  | str x => simp only [norm] at e; cases e
  | lst _ _ _ => simp only [norm] at e; cases e
  | tup _ _ => simp only [norm] at e; cases e
theorem Dq.isNon {N : Addr → Prop} {H : Hp} {v : V} {d : PyData} (h : Dq N H v d) (e : norm d = .none) : v = .non := by
  cases h with
  | non => rfl
  | int j => simp only [norm] at e; cases e
  | bl b => simp only [norm] at e; cases e
  | str x => simp only [norm] at e; cases e
  | lst _ _ _ => simp only [norm] at e; cases e
  | tup _ _ => simp only [norm] at e; cases e
def nJ (j : Jn) : PyData := norm (jD j)
theorem nJ_some (n : Nat) (t : Trn) : nJ (some (n, t)) = .list [intD n, .list (t.map intD)] := by
  have h : norms (t.map intD) = t.map intD := by
    rw [norms_map, List.map_map]
    exact List.map_congr_left fun x _ => by simp only [Function.comp, intD, norm]
  simp only [nJ, jD, norm, norms, h, intD]
theorem nJ_none : nJ none = .none := by simp only [nJ, jD, norm]
theorem norms_inv : ∀ {ds : List PyData} {e : PyData} {es : List PyData}, norms ds = e :: es → ∃ d ds', ds = d :: ds' ∧ norm d = e ∧ norms ds' = es
  | [], _, _, h => by
    simp only [norms] at h
    cases h
  | d :: ds, e, es, h => by
    simp only [norms, List.cons.injEq] at h
    exact ⟨d, ds, rfl, h.1, h.2⟩
theorem norms_nil_inv : ∀ {ds : List PyData}, norms ds = [] → ds = []
  | [], _ => rfl
  | d :: ds, h => by
    simp only [norms] at h
    cases h
theorem Dqs.uncons {N : Addr → Prop} {H : Hp} {xs : List V} {d : PyData} {ds : List PyData} (h : Dqs N H xs (d :: ds)) : ∃ v vs, xs = v :: vs ∧ Dq N H v d ∧ Dqs N H vs ds := by
  cases h with
  | cons h1 h2 => exact ⟨_, _, rfl, h1, h2⟩
theorem Dqs.pair {N : Addr → Prop} {H : Hp} {xs : List V} {ds : List PyData} {e1 e2 : PyData} (h : Dqs N H xs ds) (e : norms ds = [e1, e2]) :
    ∃ v1 v2 d1 d2, xs = [v1, v2] ∧ Dq N H v1 d1 ∧ norm d1 = e1 ∧ Dq N H v2 d2 ∧ norm d2 = e2 := by
  obtain ⟨d1, r, rfl, n1, e⟩ := norms_inv e
  obtain ⟨d2, r2, rfl, n2, e⟩ := norms_inv e
  obtain rfl := norms_nil_inv e
  obtain ⟨v1, w1, rfl, h1, h⟩ := h.uncons
  obtain ⟨v2, w2, rfl, h2, h⟩ := h.uncons
  cases h
  exact ⟨v1, v2, d1, d2, rfl, h1, n1, h2, n2⟩
def nB (b : Blk) : PyData := .list (b.map nJ)
def nS (S : Spc) : PyData := .list (S.map nB)
theorem norm_at {ds : List PyData} {α : Type} {l : List α} {f : α → PyData} {i : Nat} {d : PyData} (e : norms ds = l.map f) (h : ds[i]? = some d) : ∃ x, l[i]? = some x ∧ norm d = f x := by
  have z : (norms ds)[i]? = some (norm d) := by rw [norms_map, List.getElem?_map, h]; rfl
  rw [e, List.getElem?_map] at z
  cases hx : l[i]? with
  | none =>
    rw [hx] at z
    cases z
  | some x =>
    rw [hx] at z
    exact ⟨x, rfl, (Option.some.inj z).symm⟩
theorem norm_len {ds : List PyData} {α : Type} {l : List α} {f : α → PyData} (e : norms ds = l.map f) : ds.length = l.length := by
  rw [← norms_len, e, List.length_map]
theorem norm_jD (j : Jn) : norm (jD j) = nJ j := rfl
theorem norm_blk (b : Blk) : norms (b.map jD) = b.map nJ := by
  rw [norms_map, List.map_map]
  rfl
theorem norm_shut (S : Spc) : norm (shutD S) = nS S := by
  have h : norms (S.map fun b => PyData.tuple (b.map jD)) = S.map nB := by
    rw [norms_map, List.map_map]
    refine List.map_congr_left fun b _ => ?_
    show norm (PyData.tuple (b.map jD)) = nB b
    simp only [norm, norm_blk, nB]
  simp only [shutD, norm, h, nS]
theorem norm_open (S : Spc) : norm (.list (S.map fun b => PyData.list (b.map jD))) = nS S := by
  have h : norms (S.map fun b => PyData.list (b.map jD)) = S.map nB := by
    rw [norms_map, List.map_map]
    refine List.map_congr_left fun b _ => ?_
    show norm (PyData.list (b.map jD)) = nB b
    simp only [norm, norm_blk, nB]
  simp only [norm, h, nS]
/-- what data of ints and nothing else is: small -/
structure Tiny (d : PyData) (b k : Nat) : Prop where
  b : d.bulk ≤ b
  k : d.depth ≤ k
  s : d.showable = true
  h : d.hasDict = false
  l : d.leavesShort 8 = true
theorem ints_tiny : ∀ {t : Trn}, (∀ x ∈ t, x < 64) → PyData.bulkAll (t.map intD) = t.length ∧ PyData.depthAll (t.map intD) = 0 ∧ PyData.showableAll (t.map intD) = true ∧ PyData.hasDictAll (t.map intD) = false ∧ PyData.leavesShortAll 8 (t.map intD) = true
  | [], _ => by simp [PyData.bulkAll, PyData.depthAll, PyData.showableAll, PyData.hasDictAll, PyData.leavesShortAll]
  | x :: t, h => by
    obtain ⟨h1, h2, h3, h4, h5⟩ := ints_tiny (t := t) fun y hy => h y (List.mem_cons_of_mem _ hy)
    have hx := h x List.mem_cons_self
    have e1 : (intD x).showable = true := by
      simp only [intD, PyData.showable, decide_eq_true_eq]
      exact num_log hx
    have e2 : (intD x).leavesShort 8 = true := by
      simp only [intD, PyData.leavesShort, decide_eq_true_eq]
      exact Nat.le_trans (num_len x hx) (by decide)
    simp only [List.map_cons, PyData.bulkAll, PyData.depthAll, PyData.showableAll, PyData.hasDictAll, PyData.leavesShortAll, h1, h2, h3, h4, h5, e1, e2, List.length_cons]
    refine ⟨?_, ?_, rfl, ?_, rfl⟩
    · simp only [intD, PyData.bulk]
      omega
    · simp only [intD, PyData.depth]
      rfl
    · simp only [intD, PyData.hasDict]
      rfl
theorem j_tiny {j : Jn} (h : Jb j) : Tiny (jD j) 7 2 := by
  cases j with
  | none => exact ⟨by simp only [jD, PyData.bulk]; omega, by simp only [jD, PyData.depth]; omega, by simp only [jD, PyData.showable], by simp only [jD, PyData.hasDict], by simp only [jD, PyData.leavesShort]⟩
  | some k =>
    obtain ⟨n, t⟩ := k
    obtain ⟨hn, ht, hx⟩ := h n t rfl
    obtain ⟨h1, h2, h3, h4, h5⟩ := ints_tiny (t := t) fun y hy => Nat.lt_of_lt_of_le (hx y hy) (by decide)
    obtain ⟨g1, g2, g3, g4, g5⟩ := ints_tiny (t := [n]) fun y hy => by rw [List.mem_singleton.mp hy]; exact hn
    simp only [List.map_cons, List.map_nil, PyData.bulkAll, PyData.depthAll, PyData.showableAll, PyData.hasDictAll, PyData.leavesShortAll, Bool.and_true, Bool.or_false] at g1 g2 g3 g4 g5
    refine ⟨?_, ?_, ?_, ?_, ?_⟩
    · simp only [jD, PyData.bulk, PyData.bulkAll, h1, ht]
      simp only [intD, PyData.bulk]
      omega
    · simp only [jD, PyData.depth, PyData.depthAll, h2]
      simp only [intD, PyData.depth]
      omega
    · simp only [jD, PyData.showable, PyData.showableAll, h3, g3]
      rfl
    · simp only [jD, PyData.hasDict, PyData.hasDictAll, h4, g4]
      rfl
    · simp only [jD, PyData.leavesShort, PyData.leavesShortAll, h5, g5]
      rfl
theorem js_tiny : ∀ {b : Blk}, (∀ j ∈ b, Jb j) → PyData.bulkAll (b.map jD) ≤ 8 * b.length ∧ PyData.depthAll (b.map jD) ≤ 2 ∧ PyData.showableAll (b.map jD) = true ∧ PyData.hasDictAll (b.map jD) = false ∧ PyData.leavesShortAll 8 (b.map jD) = true
  | [], _ => by simp [PyData.bulkAll, PyData.depthAll, PyData.showableAll, PyData.hasDictAll, PyData.leavesShortAll]
  | j :: b, h => by
    obtain ⟨h1, h2, h3, h4, h5⟩ := js_tiny (b := b) fun y hy => h y (List.mem_cons_of_mem _ hy)
    obtain ⟨g1, g2, g3, g4, g5⟩ := j_tiny (h j List.mem_cons_self)
    simp only [List.map_cons, PyData.bulkAll, PyData.depthAll, PyData.showableAll, PyData.hasDictAll, PyData.leavesShortAll, h3, h4, h5, g3, g4, g5, List.length_cons]
    exact ⟨by omega, by omega, rfl, rfl, rfl⟩
theorem bs_tiny : ∀ {S : Spc}, (∀ b ∈ S, b.length = 4 ∧ ∀ j ∈ b, Jb j) → PyData.bulkAll (S.map fun b => PyData.tuple (b.map jD)) ≤ 33 * S.length ∧ PyData.depthAll (S.map fun b => PyData.tuple (b.map jD)) ≤ 3 ∧ PyData.showableAll (S.map fun b => PyData.tuple (b.map jD)) = true ∧
    PyData.hasDictAll (S.map fun b => PyData.tuple (b.map jD)) = false ∧ PyData.leavesShortAll 8 (S.map fun b => PyData.tuple (b.map jD)) = true
  | [], _ => by simp [PyData.bulkAll, PyData.depthAll, PyData.showableAll, PyData.hasDictAll, PyData.leavesShortAll]
  | b :: S, h => by
    obtain ⟨h1, h2, h3, h4, h5⟩ := bs_tiny (S := S) fun y hy => h y (List.mem_cons_of_mem _ hy)
    obtain ⟨l4, hj⟩ := h b List.mem_cons_self
    obtain ⟨g1, g2, g3, g4, g5⟩ := js_tiny hj
    simp only [List.map_cons, PyData.bulkAll, PyData.depthAll, PyData.showableAll, PyData.hasDictAll, PyData.leavesShortAll, PyData.bulk, PyData.depth, PyData.showable, PyData.hasDict, PyData.leavesShort, h3, h4, h5, g3, g4, g5, List.length_cons]
    exact ⟨by omega, by omega, rfl, rfl, rfl⟩
theorem shut_tiny {S : Spc} (h : Sb S) : Tiny (shutD S) 1320 4 := by
  obtain ⟨h1, h2, h3, h4, h5⟩ := bs_tiny h.2
  have hl := h.1
  exact ⟨by simp only [shutD, PyData.bulk]; omega, by simp only [shutD, PyData.depth]; omega, by simpa only [shutD, PyData.showable] using h3, by simpa only [shutD, PyData.hasDict] using h4, by simpa only [shutD, PyData.leavesShort] using h5⟩
/-- a mixture is as tiny -/
theorem Tiny.mix {d d' : PyData} {b k : Nat} (h : Tiny d b k) (e : norm d' = norm d) : Tiny d' b k := by
  obtain ⟨a1, a2, a3, a4, a5⟩ := norm_same 8 d
  obtain ⟨b1, b2, b3, b4, b5⟩ := norm_same 8 d'
  rw [e] at b1 b2 b3 b4 b5
  exact ⟨by rw [← b1, a1]; exact h.b, by rw [← b2, a2]; exact h.k, by rw [← b4, a4]; exact h.s, by rw [← b5, a5]; exact h.h, by rw [← b3, a3]; exact h.l⟩
theorem Tiny.shown {d : PyData} {b k : Nat} (h : Tiny d b k) (hb : b ≤ 100000) : d.shown.length ≤ sizeLine := by
  have h1 := PyData.shown_le_bulk 8 (by decide) d h.l
  have h2 := h.b
  have h3 : sizeLine = 16777216 := by decide +kernel
  omega
/-- a space of lists, as data -/
theorem SpAt.dq {H : Hp} {l : Addr} {rs : List V} {S : Spc} (h : SpAt H l rs S) : Dq (fun _ => False) H (.ref l) (.list (S.map fun b => .list (b.map jD))) := by
  have go : ∀ {rs : List V} {S : Spc}, Paired (BAt H) rs S → Dqs (fun _ => False) H rs (S.map fun b => .list (b.map jD)) := by
    intro rs S hp
    induction hp with
    | nil => exact .nil
    | cons r t ih =>
      obtain ⟨p, vs, rfl, h1, h2⟩ := r
      exact .cons (.lst h1 (fun z => z) (jats_dqs h2)) ih
  exact .lst h.l (fun z => z) (go h.b)
theorem Sb.set {S : Spc} (h : Sb S) (b f : Nat) {j : Jn} (hj : Jb j) : Sb (setJ S b f j) := by
  refine ⟨by rw [setJ_len]; exact h.1, fun c hc => ?_⟩
  obtain ⟨i, hi⟩ := List.mem_iff_getElem?.mp hc
  unfold setJ at hi
  rw [List.getElem?_modify] at hi
  cases hs : S[i]? with
  | none =>
    rw [hs] at hi
    cases hi
  | some m =>
    rw [hs] at hi
    obtain ⟨m4, mj⟩ := h.2 m (List.mem_of_getElem? hs)
    have e : (if b = i then List.set m f j else m) = c := Option.some.inj hi
    by_cases hb : b = i
    · rw [if_pos hb] at e
      subst e
      refine ⟨by rw [List.length_set]; exact m4, fun x hx => ?_⟩
      rcases List.mem_or_eq_of_mem_set hx with z | z
      · exact mj x z
      · rw [z]
        exact hj
    · rw [if_neg hb] at e
      subst e
      exact ⟨m4, mj⟩
theorem jb_none : Jb none := fun _ _ e => by cases e
theorem eqv_nil (ns : List Int) : PyData.eqv (.list (ns.map PyData.int)) (.list []) = ns.isEmpty := by
  cases ns with
  | nil => rfl
  | cons x r => rfl
end Bk

namespace Bk
open PySem PySem.Spec PyProof.Rows L2
/-! ### sorted(t), t a tuple of ints -/
section
variable {prog : Program} {w : World} {A : Around} {E : Value → Shared → Prop} {s : Shared}
theorem gather_tuple {l : Addr} {vs : List Value} {Q : List Value → Shared → Prop} (ht : s.heap.IsTuple l vs.toArray)
    (h : Q vs { s with heap := (s.heap.push (seqObj "list" #[] 0)).update s.heap.objs.size (Obj.mapSeq (· ++ vs.toArray)) }) (hz : vs.length ≤ sizeLine) : wpAny (model prog w) A (collect (.ref l)) Q E s := by
  obtain ⟨o, ho, hc, n, hd⟩ := ht
  have ho' := Heap.get?_push_of_some (seqObj "list" #[] 0) ho
  have hn : (s.heap.push (seqObj "list" #[] 0)).get? s.heap.objs.size = some (seqObj "list" #[] 0) := Heap.get?_push_size _ rfl
  unfold collect
  refine wpAny_bind (wpAny_runValue (codeAny_builtin entry_proto_collect' ?_))
  show wpAny _ _ (do again (.builtin "list.__iadd__" ⟨[← newList [], .ref l], []⟩)) _ _ s
  refine wpAny_bind (wpAny_newList (wpAny_pure ⟨Code.quiet_builtin _ (by decide +kernel), codeAny_builtin entry_list_iadd' ?_⟩))
  show wpAny _ _ (Builtin.List.listExtendWith (.ref s.heap.objs.size) (.ref l) (.ref s.heap.objs.size)) _ _ { s with heap := s.heap.push (seqObj "list" #[] 0) }
  unfold Builtin.List.listExtendWith
  refine wpAny_bind (wpAny_typeOf (T := "tuple") ⟨o, ho', hc⟩ ?_)
  rw [if_pos (by simp)]
  refine wpAny_bind (listItems_at ho' hd (wpAny_bind (listItems_at hn rfl ?_)))
  rw [if_neg (by simp)]
  refine wpAny_bind (listUpdate_at hn rfl (wpAny_pure ?_) (Nat.zero_le _) (by
    show (#[] ++ vs.toArray).size ≤ sizeLine + 1
    simp only [Array.size_append, List.size_toArray, List.length_nil]
    omega))
  refine wpAny_bind (wpAny_load (get?_update_seq hn _) ?_)
  have e : ((#[] : Array Value) ++ vs.toArray).toList = vs := by simp
  show wpAny _ _ (pure ((#[] : Array Value) ++ vs.toArray).toList) Q E _
  rw [e]
  exact wpAny_pure h
theorem sort_tuple {l : Addr} {vs : List Value} {ns : List Int} {Q : Value → Shared → Prop} (ht : s.heap.IsTuple l vs.toArray) (hI : IntsAre vs ns) (h64 : vs.length < 64)
    (h : ∀ (out : Array Value) (ns' : List Int), IntsAre out.toList ns' → ns'.Perm ns → ns'.Pairwise (· ≤ ·) → Q (.ref (s.heap.objs.size + 1)) { s with heap := sortedAll s.heap vs out }) : wpAny (model prog w) A (call (.builtin "sorted") [.ref l]) Q E s := by
  refine Calls.call_function_entry kind_sorted plain_sorted entry_sorted (args_sorted1 _) ?_
  unfold Builtin.«sorted»
  have hz : vs.length ≤ sizeLine := small64 h64
  refine wpAny_bind (m := checkCount "sorted" 1 1 _) (wpAny_pure (wpAny_bind (gather_tuple ht (wpAny_bind (wpAny_newList ?_)) hz)))
  have size1 : ((s.heap.push (seqObj "list" #[] 0)).update s.heap.objs.size (Obj.mapSeq (· ++ vs.toArray))).objs.size = s.heap.objs.size + 1 := by rw [Heap.size_update, size_push']
  have at1 : (((s.heap.push (seqObj "list" #[] 0)).update s.heap.objs.size (Obj.mapSeq (· ++ vs.toArray))).push (seqObj "list" vs.toArray 0)).get? (s.heap.objs.size + 1) = some (seqObj "list" vs.toArray 0) := by
    rw [← size1]
    exact Heap.get?_push_size _ rfl
  show wpAny _ _ _ _ _ { s with heap := ((s.heap.push (seqObj "list" #[] 0)).update s.heap.objs.size (Obj.mapSeq (· ++ vs.toArray))).push (seqObj "list" vs.toArray 0) }
  rw [size1]
  exact wpAny_bind (wpAny_holding (wpAny_call_entry slot_list_sort ⟨_, at1, rfl⟩ entry_list_sort (list_sort_tree at1 hI h64 fun out ns' a1 a2 a3 => ⟨_, rfl, wpAny_pure ⟨_, rfl, h out ns' a1 a2 a3⟩⟩) (args_list_sort _)))
end
section
variable {X : Cx} (K : PySem.W.Frag)
def rSortX (K : PySem.W.Frag) : List V → Hp → VK → Prop := fun vs H Q => ∃ (a : Addr) (ns : List Int), vs = [V.ref a] ∧ (SqL K H a (ns.map V.int) ∨ SqT K H a (ns.map V.int)) ∧ ns.length < 64 ∧
  ∀ (ns' : List Int) (p : Addr), ns'.Perm ns → ns'.Pairwise (· ≤ ·) → H p = none → Q (.ref p) (upd H p (.lst (ns'.map V.int)))
theorem kSorted (h : X.K = K) : CallR X (.builtin "sorted") (rSortX K) := by
  subst h
  rintro pins s σ H vs us Q I r ⟨a, ns, rfl, hq, h64, q⟩
  rcases hq with hq | hq
  · exact cr_sorted pins s σ H _ us Q I r ⟨a, ns, rfl, hq, h64, q⟩
  obtain ⟨its, rv, pt, _⟩ := I.tuple hq
  obtain ⟨u, rfl, rx⟩ := vals1 r
  cases rx
  have hi := rv.ints
  refine sort_tuple pt hi (by rw [hi.length]; exact h64) fun out ns' h1 h2 h3 => ?_
  obtain ⟨ep, he⟩ := sortedAll_at s.heap its out
  have hlen : (ns'.map V.int).length ≤ sizeLine := by
    rw [List.length_map, h2.length_eq]
    exact small64 h64
  exact ⟨.ref (s.heap.objs.size + 1), upd H (s.heap.objs.size + 1) (.lst (ns'.map V.int)), I.laid (t' := s.toks) (fun _ _ => sortedAll_old) (Nat.le_succ _) ⟨hlen, out.toList, ep, vals_of_ints h1, he⟩, rfl, q ns' _ h2 h3 (I.hok.fresh (Nat.le_succ _))⟩
end
end Bk

namespace Bk
open PySem PySem.Spec PyProof.Rows L2
local macro_rules | `(tactic| walk_at "g") => `(tactic| (repeat first | refine ⟨_, rfl, ?_⟩ | refine ⟨cpow, ?_⟩ | refine ⟨wideM, ?_⟩ | refine ⟨_, _, rfl, rfl, ?_⟩ | refine ⟨rfl, ?_⟩))
def isIntD : PyData → Bool
  | .int _ => true
  | _ => false
theorem perm_same {a b : List Int} (hp : a.Perm b) (ha : a.Pairwise (· ≤ ·)) (hb : b.Pairwise (· ≤ ·)) : a = b := hp.eq_of_pairwise (fun x y _ _ h1 h2 => Int.le_antisymm h1 h2) ha hb
theorem range_up (m : Nat) : ((List.range m).map fun k : Nat => (k : Int)).Pairwise (· ≤ ·) := by
  rw [List.pairwise_map]
  exact List.pairwise_le_range.imp fun h => by omega
theorem turn_perm : ∀ t ∈ allTurns, t.Perm (List.range 4) := by decide +kernel
theorem intD_map (t : Trn) : t.map intD = (t.map fun c : Nat => (c : Int)).map PyData.int := by
  rw [List.map_map]
  rfl
theorem intV_map (t : Trn) : trnV t = (t.map fun c : Nat => (c : Int)).map V.int := by
  unfold trnV
  rw [List.map_map]
  rfl
/-- the values of data of ints -/
theorem Dqs.ints {N : Addr → Prop} {H : Hp} : ∀ {t : Trn} {vs : List V} {ds : List PyData}, Dqs N H vs ds → norms ds = t.map intD → vs = trnV t
  | [], vs, ds, h, e => by
    obtain rfl := norms_nil_inv e
    cases h
    rfl
  | n :: t, vs, ds, h, e => by
    obtain ⟨d, ds', rfl, e1, e2⟩ := norms_inv (show norms ds = intD n :: t.map intD from e)
    obtain ⟨v, vs', rfl, h1, h2⟩ := h.uncons
    have ev := h1.isInt (i := (n : Int)) e1
    have ih := h2.ints (t := t) e2
    rw [ev, ih]
    rfl
section
variable {P : Program} {w : World} {K : PySem.W.Frag} {mg : Str → Option Value} {base : Heap}
theorem kit_one {d : PyData} {s : String} {b : Bool} (h : ∀ a, a = tyD d → kitB a s = some b) : PySem.W.kitOne K (.type (tyD d)) (.type s) = some b := kit_ty (h _ rfl)
theorem kit_int (d : PyData) : PySem.W.kitOne K (.type (tyD d)) (.type "int") = some (isIntD d || tyD d == "bool") := by
  cases d with
  | none => exact kit_ty (a := "NoneType") (b := "int") (show kitB "NoneType" "int" = some false by decide +kernel)
  | bool b => exact kit_ty (a := "bool") (b := "int") (show kitB "bool" "int" = some true by decide +kernel)
  | int i => exact kit_ty (a := "int") (b := "int") (show kitB "int" "int" = some true by decide +kernel)
  | str x => exact kit_ty (a := "str") (b := "int") (show kitB "str" "int" = some false by decide +kernel)
  | list ds => exact kit_ty (a := "list") (b := "int") (show kitB "list" "int" = some false by decide +kernel)
  | tuple ds => exact kit_ty (a := "tuple") (b := "int") (show kitB "tuple" "int" = some false by decide +kernel)
  | dict k => exact kit_ty (a := "dict") (b := "int") (show kitB "dict" "int" = some false by decide +kernel)
theorem kit_bool (d : PyData) : PySem.W.kitOne K (.type (tyD d)) (.type "bool") = some (tyD d == "bool") := by
  cases d with
  | none => exact kit_ty (a := "NoneType") (b := "bool") (show kitB "NoneType" "bool" = some false by decide +kernel)
  | bool b => exact kit_ty (a := "bool") (b := "bool") (show kitB "bool" "bool" = some true by decide +kernel)
  | int i => exact kit_ty (a := "int") (b := "bool") (show kitB "int" "bool" = some false by decide +kernel)
  | str x => exact kit_ty (a := "str") (b := "bool") (show kitB "str" "bool" = some false by decide +kernel)
  | list ds => exact kit_ty (a := "list") (b := "bool") (show kitB "list" "bool" = some false by decide +kernel)
  | tuple ds => exact kit_ty (a := "tuple") (b := "bool") (show kitB "tuple" "bool" = some false by decide +kernel)
  | dict k => exact kit_ty (a := "dict") (b := "bool") (show kitB "dict" "bool" = some false by decide +kernel)
theorem whole_b (d : PyData) : ((isIntD d || tyD d == "bool") = true → (!(tyD d == "bool")) = isIntD d) ∧ ((isIntD d || tyD d == "bool") = false → isIntD d = false) := by
  cases d <;> simp [isIntD, tyD]
/-! ### is_whole, is_listed, is_below, is_order, is_turn -/
abbrev sis_whole : Stmt := topS 10
abbrev Nis_whole : List Str := ["thing"]
theorem scis_whole : FnScope Nis_whole ["thing"] (defScope sis_whole) := ⟨rfl, rfl, rfl, by decide +kernel, rfl, by decide +kernel, by decide +kernel⟩
def spWhole : Sp := fun vs H Q _ => ∃ (N : Addr → Prop) (v : V) (d : PyData), vs = [v] ∧ Dq N H v d ∧ Q (.bl (isIntD d)) H
theorem okis_whole {f : Addr} {fd : FuncData} (F : Fun K "is_whole" "is_whole" sis_whole f fd) (m_isinstance : mg "isinstance" = none) (m_int : mg "int" = none) (m_bool : mg "bool" = none) : FnOk P w K mg base CX0 1 f fd ["thing"] spWhole := by
  refine F.ok scis_whole (fun vs H Q E h => ?_) (fun cdv A outer s H vs Q E hr h => ?_)
  · obtain ⟨N, v, d, rfl, _⟩ := h
    rfl
  · obtain ⟨N, v, d, rfl, hd, q⟩ := h
    have nd := scis_whole.nd
    refine ⟨_, (pss_one (ps_ret (pe_and (pe_callB (kIsi K rfl) (by rfl) m_isinstance (by decide +kernel) (pa_cons (pv 0) (pa_cons (pe_bltn (v := .ty "int") (by rfl) m_int (by decide +kernel) rfl) pa_nil))) (pe_one (pe_not (pe_callB (kIsi K rfl) (by rfl) m_isinstance (by decide +kernel) (pa_cons (pv 0) (pa_cons (pe_bltn (v := .ty "bool") (by rfl) m_bool (by decide +kernel) rfl) pa_nil)))))))), ?_⟩
    refine ⟨v, rfl, v, .ty "int", _, .type "int", _, rfl, .ty _, hd.ty, kit_int d, _, rfl, ?_⟩
    obtain ⟨w1, w2⟩ := whole_b d
    refine ite2 (fun e => ?_) (fun e => ?_)
    · refine ⟨v, rfl, v, .ty "bool", _, .type "bool", _, rfl, .ty _, hd.ty, kit_bool d, _, rfl, ?_⟩
      rw [w1 e]
      exact q
    · rw [w2 (by simpa using e)] at q
      exact q
abbrev sis_listed : Stmt := topS 11
abbrev Nis_listed : List Str := ["thing"]
theorem scis_listed : FnScope Nis_listed ["thing"] (defScope sis_listed) := ⟨rfl, rfl, rfl, by decide +kernel, rfl, by decide +kernel, by decide +kernel⟩
def spListed : Sp := fun vs H Q _ => ∃ (N : Addr → Prop) (v : V) (d : PyData), vs = [v] ∧ Dq N H v d ∧ ∀ H', Same H H' → Q (.bl (isSeqD d)) H'
theorem okis_listed {f : Addr} {fd : FuncData} (F : Fun K "is_listed" "is_listed" sis_listed f fd) (m_isinstance : mg "isinstance" = none) (m_list : mg "list" = none) (m_tuple : mg "tuple" = none) : FnOk P w K mg base CX0 1 f fd ["thing"] spListed := by
  refine F.ok scis_listed (fun vs H Q E h => ?_) (fun cdv A outer s H vs Q E hr h => ?_)
  · obtain ⟨N, v, d, rfl, _⟩ := h
    rfl
  · obtain ⟨N, v, d, rfl, hd, q⟩ := h
    have nd := scis_listed.nd
    refine ⟨_, (pss_one (ps_ret (pe_callB (kIsiT K rfl) (by rfl) m_isinstance (by decide +kernel) (pa_cons (pv 0) (pa_cons (pe_tup (pa_cons (pe_bltn (v := .ty "list") (by rfl) m_list (by decide +kernel) rfl) (pa_cons (pe_bltn (v := .ty "tuple") (by rfl) m_tuple (by decide +kernel) rfl) pa_nil))) pa_nil))))), ?_⟩
    refine ⟨v, rfl, Nat.le_of_lt (small1000 (by show 2 ≤ 1000; decide)), fun tp ntp => ?_⟩
    have s1 : Same H (upd H tp (.tup [.ty "list", .ty "tuple"])) := same_new ntp
    exact ⟨v, tp, _, _, _, isSeqD d, rfl, upd_same, .cons (.ty _) (.cons (.ty _) .nil), (hd.same s1).ty, kit_seq d, q _ s1⟩
abbrev sis_below : Stmt := topS 12
abbrev Nis_below : List Str := ["thing", "many"]
theorem scis_below : FnScope Nis_below ["thing", "many"] (defScope sis_below) := ⟨rfl, rfl, rfl, by decide +kernel, rfl, by decide +kernel, by decide +kernel⟩
def spBelow : Sp := fun vs H Q _ => ∃ (i : Int) (m : Nat), vs = [.int i, intV m] ∧ Q (.bl (decide (0 ≤ i) && decide (i < m))) H
theorem okis_below {f fW : Addr} {fd fdW : FuncData} (F : Fun K "is_below" "is_below" sis_below f fd) (Fis_whole : Fun K "is_whole" "is_whole" sis_whole fW fdW) (gis_whole : mg "is_whole" = some (.ref fW)) (bis_whole : Binds K fdW ["thing"] [])
    (Gis_whole : FnOk P w K mg base CX0 1 fW fdW ["thing"] spWhole) : FnOk P w K mg base CX0 2 f fd ["thing", "many"] spBelow := by
  refine F.ok scis_below (fun vs H Q E h => ?_) (fun cdv A outer s H vs Q E hr h => ?_)
  · obtain ⟨i, m, rfl, _⟩ := h
    rfl
  · obtain ⟨i, m, rfl, q⟩ := h
    have nd := scis_below.nd
    refine ⟨_, (pss_one (ps_ret (pe_and (pe_call Gis_whole (hr.mono (by first | decide | omega)) (by rfl) gis_whole Fis_whole.kp bis_whole .nil pass0 (pa_cons (pv 0) pa_nil)) (pe_one (pe_chain op_le op_lt pe_int (pv 0) (pv 1)))))), ?_⟩
    refine ⟨.int i, rfl, fun _ => False, .int i, .int i, rfl, .int i, _, rfl, iteT ?_⟩
    refine ⟨.int i, rfl, _, _, rfl, rfl, _, rfl, ite2 (fun e => ?_) (fun e => ?_)⟩
    · refine ⟨intV m, rfl, _, _, rfl, rfl, ?_⟩
      rw [e, Bool.true_and] at q
      exact q
    · have e' : decide ((0 : Int) ≤ i) = false := by simpa using e
      rw [e', Bool.false_and] at q
      exact q
abbrev sis_order : Stmt := topS 13
abbrev Nis_order : List Str := ["thing", "many", "part"]
theorem scis_order : FnScope Nis_order ["thing", "many"] (defScope sis_order) := ⟨rfl, rfl, rfl, by decide +kernel, rfl, by decide +kernel, by decide +kernel⟩
def spOrder : Sp := fun vs H Q _ => ∃ (N : Addr → Prop) (v : V) (d : PyData) (t : Trn) (m : Nat), vs = [v, intV m] ∧ Dq N H v d ∧ norm d = .list (t.map intD) ∧ t.Perm (List.range m) ∧ m ≤ 60 ∧ ∀ H', Same H H' → Q (.bl true) H'
theorem okis_order {f fW fL : Addr} {fd fdW fdL : FuncData} (F : Fun K "is_order" "is_order" sis_order f fd) (Fis_whole : Fun K "is_whole" "is_whole" sis_whole fW fdW) (gis_whole : mg "is_whole" = some (.ref fW)) (bis_whole : Binds K fdW ["thing"] [])
    (Gis_whole : FnOk P w K mg base CX0 1 fW fdW ["thing"] spWhole) (Fis_listed : Fun K "is_listed" "is_listed" sis_listed fL fdL) (gis_listed : mg "is_listed" = some (.ref fL)) (bis_listed : Binds K fdL ["thing"] []) (Gis_listed : FnOk P w K mg base CX0 1 fL fdL ["thing"] spListed)
    (m_all : mg "all" = none) (m_sorted : mg "sorted" = none) (m_list : mg "list" = none) (m_range : mg "range" = none) : FnOk P w K mg base CX0 2 f fd ["thing", "many"] spOrder := by
  refine F.ok scis_order (fun vs H Q E h => ?_) (fun cdv A outer s H vs Q E hr h => ?_)
  · obtain ⟨N, v, d, t, m, rfl, _⟩ := h
    rfl
  · obtain ⟨N, v, d, t, m, rfl, hd, hn, hp, hm, q⟩ := h
    have nd := scis_order.nd
    refine ⟨_, (pss_one (ps_ret (pe_and (pe_call Gis_listed (hr.mono (by first | decide | omega)) (by rfl) gis_listed Fis_listed.kp bis_listed .nil pass0 (pa_cons (pv 0) pa_nil)) (pe_and (pe_callB (kAll K rfl rfl) (by rfl) m_all (by decide +kernel) (pa_cons (pe_lc (own := [("part", 2)]) (g := gName 2) (tt := tYes) rfl nd (kPiS K rfl (pv 0)) (blkOk_by (own := [("part", 2)]) (N := Nis_order) (sc := defScope sis_order) (by decide +kernel)) (fun _ _ _ _ _ => (pg_name (i := 2) nd rfl (Or.inl rfl))) (fun _ _ _ _ _ => pts_nil) (fun _ _ _ _ _ => (pe_call Gis_whole (hr.mono (by first | decide | omega)) (by rfl) gis_whole Fis_whole.kp bis_whole .nil pass0 (pa_cons (pv 2) pa_nil)))) pa_nil)) (pe_one (pe_cmpR (kEqD K rfl hr.units) (pe_callB (kSorted K rfl) (by rfl) m_sorted (by decide +kernel) (pa_cons (pv 0) pa_nil)) (pe_listRg rfl (by rfl) m_list (prg_1 (by rfl) m_range (pv 1))) (nomark _))))))), ?_⟩
    have sq : isSeqD d = true := by
      cases d <;> first | rfl | (simp only [norm] at hn; cases hn)
    have lt : t.length = m := by rw [hp.length_eq, List.length_range]
    refine ⟨v, rfl, N, v, d, rfl, hd, fun H1 s1 => ?_⟩
    rw [sq]
    refine ⟨_, rfl, iteT ?_⟩
    obtain ⟨a, xs, ds, rfl, hq, _, hds, en⟩ := (hd.same s1).seq (K := K) hn
    have ex := hds.ints en
    refine ⟨.ref a, rfl, a, xs, rfl, hq, fun J C hJ hC => ?_⟩
    intro D nD
    refine lc_seq (xs := xs) hJ (fun i H2 => H2 = upd H1 D (.lst ((List.replicate i true).map V.bl))) rfl ?_ ?_ ?_
    · rintro i H2 rfl
      exact SeqIt.mono K hJ (fun o e => same_new nD _ _ e) hC
    · rintro i x H2 hx rfl
      have hi : i < m := by
        have := (List.getElem?_eq_some_iff.mp hx).1
        rw [ex] at this
        unfold trnV at this
        rw [List.length_map] at this
        omega
      rw [ex] at hx
      unfold trnV at hx
      rw [List.getElem?_map] at hx
      cases hc : t[i]? with
      | none =>
        rw [hc] at hx
        cases hx
      | some c =>
        rw [hc] at hx
        have e2 : intV c = x := Option.some.inj hx
        subst e2
        refine ⟨rfl, intV c, rfl, fun _ => False, intV c, .int (c : Int), rfl, .int _, _, upd_same, small1000 (by rw [List.length_map, List.length_replicate]; omega), ?_⟩
        rw [upd_upd, List.replicate_succ', List.map_append]
        rfl
    · rintro H2 rfl
      refine ⟨D, _, rfl, .inl (.inl upd_same), _, rfl, ?_⟩
      have eall : (List.replicate xs.length true).all id = true := by
        rw [List.all_eq_true]
        intro y hy
        rw [List.eq_of_mem_replicate hy]
        rfl
      rw [eall]
      have s2 : Same H1 (upd H1 D (.lst ((List.replicate xs.length true).map V.bl))) := same_new nD
      generalize upd H1 D (.lst ((List.replicate xs.length true).map V.bl)) = H2 at s2 ⊢
      refine iteT ?_
      rw [ex, intV_map] at hq
      refine ⟨.ref a, rfl, a, _, rfl, hq.imp (fun z => s2.seq z) (fun z => s2.sqt z), by rw [List.length_map]; omega, fun ns p p1 p2 np => ?_⟩
      have s3 : Same H2 (upd H2 p (.lst (ns.map V.int))) := same_new np
      have h3 : (upd H2 p (.lst (ns.map V.int))) p = some (.lst (ns.map V.int)) := upd_same
      generalize upd H2 p (.lst (ns.map V.int)) = H3 at s3 h3 ⊢
      refine ⟨intV m, rfl, m, rfl, .of_le (by decide) (by omega) (by decide) (by omega), fun q2 nq2 => ?_⟩
      have er : rgV 0 (m : Int) = ((List.range m).map fun k : Nat => (k : Int)).map V.int := by
        unfold rgV
        rw [show ((m : Int) - 0).toNat = m by omega, List.map_map]
        exact List.map_congr_left fun x _ => by
          show V.int (0 + (x : Int)) = V.int (x : Int)
          rw [Int.zero_add]
      rw [er]
      have s4 : Same H3 (upd H3 q2 (.lst (((List.range m).map fun k : Nat => (k : Int)).map V.int))) := same_new nq2
      have en2 : ns = (List.range m).map fun k : Nat => (k : Int) := perm_same (p1.trans (hp.map _)) p2 (range_up m)
      refine ⟨.list (ns.map PyData.int), .list (((List.range m).map fun k : Nat => (k : Int)).map PyData.int), .lst (.inl (.inl (s4 _ _ h3))) (dp_ints _), .lst (.inl (.inl upd_same)) (dp_ints _), ints_shaped _, ints_shaped _, ?_⟩
      rw [en2, SeqAt.eqv_refl _ (by have := ints_lay ((List.range m).map fun k : Nat => (k : Int)); simp only [PyData.canLay0]; exact this.1)]
      exact q _ (((s1.trans s2).trans s3).trans s4)
abbrev sis_turn : Stmt := topS 14
abbrev Nis_turn : List Str := ["thing"]
theorem scis_turn : FnScope Nis_turn ["thing"] (defScope sis_turn) := ⟨rfl, rfl, rfl, by decide +kernel, rfl, by decide +kernel, by decide +kernel⟩
def spTurn : Sp := fun vs H Q _ => ∃ (N : Addr → Prop) (v : V) (d : PyData) (t : Trn), vs = [v] ∧ Dq N H v d ∧ norm d = .list (t.map intD) ∧ t ∈ allTurns ∧ ∀ H', Same H H' → Q (.bl true) H'
theorem okis_turn {f fO : Addr} {fd fdO : FuncData} (F : Fun K "is_turn" "is_turn" sis_turn f fd) (Fis_order : Fun K "is_order" "is_order" sis_order fO fdO) (gis_order : mg "is_order" = some (.ref fO)) (bis_order : Binds K fdO ["thing", "many"] [])
    (Gis_order : FnOk P w K mg base CX0 2 fO fdO ["thing", "many"] spOrder) : FnOk P w K mg base CX0 3 f fd ["thing"] spTurn := by
  refine F.ok scis_turn (fun vs H Q E h => ?_) (fun cdv A outer s H vs Q E hr h => ?_)
  · obtain ⟨N, v, d, t, rfl, _⟩ := h
    rfl
  · obtain ⟨N, v, d, t, rfl, hd, hn, ht, q⟩ := h
    have nd := scis_turn.nd
    refine ⟨_, (pss_one (ps_ret (pe_call Gis_order (hr.mono (by first | decide | omega)) (by rfl) gis_order Fis_order.kp bis_order .nil pass0 (pa_cons (pv 0) (pa_cons pe_int pa_nil))))), ?_⟩
    exact ⟨v, rfl, N, v, d, t, 4, rfl, hd, hn, turn_perm t ht, by decide, q⟩
/-! ### contrary -/
abbrev scontrary : Stmt := topS 15
abbrev Ncontrary : List Str := ["turn", "corner"]
theorem sccontrary : FnScope Ncontrary ["turn"] (defScope scontrary) := ⟨rfl, rfl, rfl, by decide +kernel, rfl, by decide +kernel, by decide +kernel⟩
theorem okcontrary {f : Addr} {fd : FuncData} (F : Fun K "contrary" "contrary" scontrary f fd) (m_range : mg "range" = none) (m_tuple : mg "tuple" = none) : FnOk P w K mg base CX0 1 f fd ["turn"] spBack := by
  refine F.ok sccontrary (fun vs H Q E h => ?_) (fun cdv A outer s H vs Q E hr h => ?_)
  · obtain ⟨v, t, rfl, _⟩ := h
    rfl
  · obtain ⟨v, t, rfl, ⟨p, rfl, hp⟩, ht, q⟩ := h
    have nd := sccontrary.nd
    refine ⟨_, (pss_one (ps_ret (pe_callTy (kTupleF K rfl) (by rfl) m_tuple (by decide +kernel) (pa_cons (pe_lc (own := [("corner", 1)]) (g := gName 1) (tt := tYes) rfl nd (pi_range1 (by rfl) m_range (pa_cons pe_int pa_nil)) (blkOk_by (own := [("corner", 1)]) (N := Ncontrary) (sc := defScope scontrary) (by decide +kernel)) (fun _ _ _ _ _ => (pg_name (i := 1) nd rfl (Or.inl rfl))) (fun _ _ _ _ _ => pts_nil) (fun _ _ _ _ _ => (pe_bmF PySem.F.plainAttrs_tuple PySem.F.slot_tuple_index PySem.F.type_tuple_index (kTupIx K rfl) (pv 0) (pa_cons (pv 1) pa_nil)))) pa_nil)))), ?_⟩
    refine ⟨4, rfl, by decide, by decide, fun D nD => ?_⟩
    refine lc_range (lo := 0) (n := 4) (fun i H2 => H2 = upd H D (.lst (((List.range i).map fun c => t.idxOf c).map intV))) rfl ?_ ?_
    · rintro c H2 hc rfl
      rw [Int.zero_add]
      refine ⟨rfl, ?_⟩
      refine ⟨.ref p, rfl, ⟨p, _, rfl, hp.mono (same_new nD).tups⟩, ?_⟩
      walk_at "g"
      have t4 := turns4 t ht
      have hm : (c : Int) ∈ t.map fun c : Nat => (c : Int) := List.mem_map_of_mem (List.mem_of_getElem? (t4.2.2.2.1 c hc))
      refine ⟨p, t.map fun c : Nat => (c : Int), c, rfl, rfl, ?_, hm, ?_⟩
      · rw [← intV_map]
        exact (hp.mono (same_new nD).tups).sqt
      rw [idx_int]
      refine ⟨_, upd_same, small1000 (by rw [List.length_map, List.length_map, List.length_range]; omega), ?_⟩
      rw [upd_upd, List.range_succ, List.map_append, List.map_append]
      rfl
    · rintro H2 rfl
      refine ⟨D, _, rfl, .inl ⟨.inl (.inl upd_same), fun p2 o2 np2 d2 => ?_⟩⟩
      exact q _ p2 ((same_new nD).trans (same_new np2)) ((same_new nD).free np2) ⟨p2, rfl, FT.new d2⟩
end
end Bk

namespace Bk
open PySem PySem.Spec PyProof.Rows L2
local macro_rules | `(tactic| walk_at "g") => `(tactic| (repeat first | refine ⟨_, rfl, ?_⟩ | refine ⟨cpow, ?_⟩ | refine ⟨wideM, ?_⟩ | refine ⟨_, _, rfl, rfl, ?_⟩ | refine ⟨rfl, ?_⟩))
def Jok (m : Nat) (j : Jn) : Prop := ∀ n t, j = some (n, t) → n < m ∧ t ∈ allTurns
/-- blocks and spaces of tuples, as they stand -/
def BT (H : Hp) (v : V) (b : Blk) : Prop := ∃ p vs, v = .ref p ∧ FT H p vs ∧ Paired (JAt H) vs b
def ST (H : Hp) (v : V) (S : Spc) : Prop := ∃ p rs, v = .ref p ∧ FT H p rs ∧ Paired (BT H) rs S
theorem BT.mono {H H' : Hp} {v : V} {b : Blk} (h : BT H v b) (m : Tups H H') : BT H' v b := by
  obtain ⟨p, vs, e, h1, h2⟩ := h
  exact ⟨p, vs, e, h1.mono m, pmono h2 fun _ _ z => z.mono m⟩
theorem ST.mono {H H' : Hp} {v : V} {S : Spc} (h : ST H v S) (m : Tups H H') : ST H' v S := by
  obtain ⟨p, vs, e, h1, h2⟩ := h
  exact ⟨p, vs, e, h1.mono m, pmono h2 fun _ _ z => z.mono m⟩
theorem BT.dq {N : Addr → Prop} {H : Hp} {v : V} {b : Blk} (h : BT H v b) : Dq N H v (.tuple (b.map jD)) := by
  obtain ⟨p, vs, rfl, h1, h2⟩ := h
  exact .tup h1 (jats_dqs h2)
theorem bts_dqs {N : Addr → Prop} {H : Hp} : ∀ {rs : List V} {S : Spc}, Paired (BT H) rs S → Dqs N H rs (S.map fun b => .tuple (b.map jD))
  | _, _, .nil => .nil
  | _, _, .cons r t => .cons r.dq (bts_dqs t)
theorem ST.dq {N : Addr → Prop} {H : Hp} {v : V} {S : Spc} (h : ST H v S) : Dq N H v (shutD S) := by
  obtain ⟨p, vs, rfl, h1, h2⟩ := h
  exact .tup h1 (bts_dqs h2)
theorem Good.jok {S : Spc} (h : Good S) {b : Blk} (hb : b ∈ S) : ∀ j ∈ b, Jok S.length j := fun j hj n t e => by
  subst e
  obtain ⟨i, hi⟩ := List.mem_iff_getElem?.mp hb
  obtain ⟨f, hf⟩ := List.mem_iff_getElem?.mp hj
  have g : getJ S i f = some (some (n, t)) := by
    unfold getJ
    rw [hi]
    exact hf
  exact ⟨h.lt g, (h.both _ _ _ _ g).1⟩
theorem ST.face {H : Hp} {v : V} {S : Spc} (h : ST H v S) {b f : Nat} {j : Jn} (e : getJ S b f = some j) : ∃ p rs q vs x, v = .ref p ∧ FT H p rs ∧ rs[b]? = some (.ref q) ∧ FT H q vs ∧ vs[f]? = some x ∧ JAt H x j := by
  obtain ⟨p, rs, rfl, h1, h2⟩ := h
  unfold getJ at e
  cases hs : S[b]? with
  | none =>
    rw [hs] at e
    cases e
  | some y =>
    rw [hs] at e
    obtain ⟨x, g1, q, vs, rfl, g3, g4⟩ := pget h2 hs
    obtain ⟨z, g5, g6⟩ := pget g4 (show y[f]? = some j from e)
    exact ⟨p, rs, q, vs, z, rfl, h1, g1, g3, g5, g6⟩
theorem jD_lay (j : Jn) : (jD j).canLay0 = true ∧ (jD j).depth ≤ 3 := by
  cases j with
  | none => simp [jD, PyData.canLay0, PyData.depth]
  | some k =>
    obtain ⟨n, t⟩ := k
    have h : PyData.canLayAll0 (t.map intD) = true ∧ PyData.depthAll (t.map intD) ≤ 1 := by
      rw [intD_map]
      exact ints_lay _
    have h2 := h.2
    have e : PyData.depth (intD n) = 0 := by simp only [intD, PyData.depth]
    have e2 : PyData.canLay0 (intD n) = true := by simp only [intD, PyData.canLay0]
    constructor
    · simp only [jD, PyData.canLay0, PyData.canLayAll0, e2, h.1, Bool.and_self]
    · have e3 : (jD (some (n, t))).depth = PyData.depth (.tuple [intD n, .tuple (t.map intD)]) := rfl
      rw [e3]
      simp only [PyData.depth, PyData.depthAll, e]
      generalize PyData.depthAll (t.map intD) = z at h2 ⊢
      omega
section
variable {P : Program} {w : World} {K : PySem.W.Frag} {mg : Str → Option Value} {base : Heap}
/-! ### _joining_of -/
abbrev s_joining_of : Stmt := topS 19
abbrev N_joining_of : List Str := ["joining", "many", "other", "turn"]
theorem sc_joining_of : FnScope N_joining_of ["joining", "many"] (defScope s_joining_of) := ⟨rfl, rfl, rfl, by decide +kernel, rfl, by decide +kernel, by decide +kernel⟩
def spJoining : Sp := fun vs H Q _ => ∃ (N : Addr → Prop) (v : V) (d : PyData) (j : Jn) (m : Nat), vs = [v, intV m] ∧ Dq N H v d ∧ norm d = nJ j ∧ Jok m j ∧ ∀ H' v', Same H H' → JAt H' v' j → Q v' H'
theorem ok_joining_of {f fL fB fT : Addr} {fd fdL fdB fdT : FuncData} (F : Fun K "_joining_of" "_joining_of" s_joining_of f fd) (Fis_listed : Fun K "is_listed" "is_listed" sis_listed fL fdL) (gis_listed : mg "is_listed" = some (.ref fL)) (bis_listed : Binds K fdL ["thing"] []) (Gis_listed : FnOk P w K mg base CX0 1 fL fdL ["thing"] spListed)
    (Fis_below : Fun K "is_below" "is_below" sis_below fB fdB) (gis_below : mg "is_below" = some (.ref fB)) (bis_below : Binds K fdB ["thing", "many"] []) (Gis_below : FnOk P w K mg base CX0 2 fB fdB ["thing", "many"] spBelow)
    (Fis_turn : Fun K "is_turn" "is_turn" sis_turn fT fdT) (gis_turn : mg "is_turn" = some (.ref fT)) (bis_turn : Binds K fdT ["thing"] []) (Gis_turn : FnOk P w K mg base CX0 3 fT fdT ["thing"] spTurn)
    (m_len : mg "len" = none) (m_tuple : mg "tuple" = none) : FnOk P w K mg base CX0 4 f fd ["joining", "many"] spJoining := by
  refine F.ok sc_joining_of (fun vs H Q E h => ?_) (fun cdv A outer s H vs Q E hr h => ?_)
  · obtain ⟨N, v, d, j, m, rfl, _⟩ := h
    rfl
  · obtain ⟨N, v, d, j, m, rfl, hd, hn, hj, q⟩ := h
    have nd := sc_joining_of.nd
    refine ⟨_, (pss_cons (ps_if (pt_cmpR op_isN (pv 0) pe_non (nomark _)) (pss_one (ps_ret pe_non)) pss_nil)
      (pss_cons (ps_if (pw_or (pt_not (pt_val (pe_call Gis_listed (hr.mono (by first | decide | omega)) (by rfl) gis_listed Fis_listed.kp bis_listed .nil pass0 (pa_cons (pv 0) pa_nil)))) (pw_or1 (pt_cmpR op_ne (pe_callB (kLen K rfl) (by rfl) m_len (by decide +kernel) (pa_cons (pv 0) pa_nil)) pe_int (nomark _)))).pt (pss_one ps_never) pss_nil)
      (pss_cons (ps_asg (pv 0) (kPgS K rfl (pg_tup (n := 2) rfl (pgs_cons (pg_name (i := 2) nd rfl (.inl rfl)) (pgs_cons (pg_name (i := 3) nd rfl (.inl rfl)) pgs_nil))) (pg_unl (n := 2) rfl (pgs_cons (pg_name (i := 2) nd rfl (.inl rfl)) (pgs_cons (pg_name (i := 3) nd rfl (.inl rfl)) pgs_nil)))))
      (pss_cons (ps_if (pw_or (pt_not (pt_val (pe_call Gis_below (hr.mono (by first | decide | omega)) (by rfl) gis_below Fis_below.kp bis_below .nil pass0 (pa_cons (pv 2) (pa_cons (pv 1) pa_nil))))) (pw_or1 (pt_not (pt_val (pe_call Gis_turn (hr.mono (by first | decide | omega)) (by rfl) gis_turn Fis_turn.kp bis_turn .nil pass0 (pa_cons (pv 3) pa_nil)))))).pt (pss_one ps_never) pss_nil)
      (pss_one (ps_ret (pe_tupF (pa_cons (pv 2) (pa_cons (pe_callTy (kTupleF K rfl) (by rfl) m_tuple (by decide +kernel) (pa_cons (pv 3) pa_nil)) pa_nil))))))))), ?_⟩
    refine ⟨v, rfl, rfl, _, rfl, ?_⟩
    cases j with
    | none =>
      rw [nJ_none] at hn
      have ev := hd.isNon hn
      subst ev
      exact iteT (q H .non (Same.refl H) rfl)
    | some k =>
      obtain ⟨n, t⟩ := k
      obtain ⟨hnm, ht⟩ := hj n t rfl
      rw [nJ_some] at hn
      have sq : isSeqD d = true := by
        cases d <;> first | rfl | (simp only [norm] at hn; cases hn)
      obtain ⟨a, xs, ds, rfl, hq, _, hds, en⟩ := hd.seq (K := K) hn
      obtain ⟨v1, v2, d1, d2, rfl, h1, en1, h2, en2⟩ := hds.pair en
      have e1 := h1.isInt (i := (n : Int)) en1
      subst e1
      refine iteF ?_
      refine ⟨.ref a, rfl, N, .ref a, d, rfl, hd, fun H1 s1 => ?_⟩
      rw [sq]
      have hq1 : SqL K H1 a [V.int (n : Int), v2] ∨ SqT K H1 a [V.int (n : Int), v2] := hq.imp (fun z => s1.seq z) (fun z => s1.sqt z)
      refine ⟨_, rfl, iteF ⟨.ref a, rfl, a, _, rfl, hq1, rfl, _, rfl, iteNS rfl ?_⟩⟩
      refine ⟨.ref a, rfl, a, _, rfl, hq1, rfl, _, _, rfl, _, _, rfl, rfl, ?_⟩
      refine ⟨.int (n : Int), rfl, intV m, rfl, (n : Int), m, rfl, ?_⟩
      rw [decide_eq_true (show (0 : Int) ≤ (n : Int) by omega), decide_eq_true (show (n : Int) < (m : Int) by omega)]
      refine ⟨_, rfl, iteF ⟨v2, rfl, N, v2, d2, t, rfl, h2.same s1, en2, ht, fun H2 s2 => ⟨_, rfl, iteF ?_⟩⟩⟩
      have h22 := h2.same (s1.trans s2)
      obtain ⟨a2, xs2, ds2, rfl, hq2, _, hds2, en3⟩ := h22.seq (K := K) en2
      have ex := hds2.ints en3
      subst ex
      have fin : ∀ H3 p2, Same H2 H3 → FT H3 p2 (trnV t) → [V.int (n : Int), V.ref p2].length ≤ sizeLine ∧ ∀ p o, H3 p = none → o.dict = none → Q (.ref p) (upd H3 p (.frz o (.tup [V.int (n : Int), V.ref p2]))) := fun H3 p2 s3 f3 => by
        refine ⟨Nat.le_of_lt (small1000 (by show 2 ≤ 1000; decide)), fun p o np dn => ?_⟩
        exact q _ _ (((s1.trans s2).trans s3).trans (same_new np)) ⟨p, p2, rfl, FT.new dn, f3.mono (same_new np).tups⟩
      refine ⟨.int (n : Int), rfl, .ref a2, rfl, a2, trnV t, rfl, ?_⟩
      cases h22 with
      | lst g1 g2 g3 =>
        have e := g3.ints (by simpa only [norm, PyData.list.injEq] using en2)
        subst e
        exact .inl ⟨.inl (.inl g1), fun p2 o2 np2 dn2 => fin _ p2 (same_new np2) (FT.new dn2)⟩
      | tup g1 g2 =>
        have e := g2.ints (by simpa only [norm, PyData.list.injEq] using en2)
        subst e
        exact .inr ⟨g1.sqt, fin _ a2 (Same.refl _) g1⟩
/-! ### _block_of -/
abbrev s_block_of : Stmt := topS 18
abbrev N_block_of : List Str := ["faces", "many", "joining"]
theorem sc_block_of : FnScope N_block_of ["faces", "many"] (defScope s_block_of) := ⟨rfl, rfl, rfl, by decide +kernel, rfl, by decide +kernel, by decide +kernel⟩
def spBlockOf : Sp := fun vs H Q _ => ∃ (N : Addr → Prop) (v : V) (d : PyData) (b : Blk) (m : Nat), vs = [v, intV m] ∧ Dq N H v d ∧ norm d = nB b ∧ b.length = 4 ∧ (∀ j ∈ b, Jok m j) ∧ ∀ H' v', Same H H' → BT H' v' b → Q v' H'
theorem ok_block_of {f fL fJ : Addr} {fd fdL fdJ : FuncData} (F : Fun K "_block_of" "_block_of" s_block_of f fd) (Fis_listed : Fun K "is_listed" "is_listed" sis_listed fL fdL) (gis_listed : mg "is_listed" = some (.ref fL)) (bis_listed : Binds K fdL ["thing"] []) (Gis_listed : FnOk P w K mg base CX0 1 fL fdL ["thing"] spListed)
    (F_joining_of : Fun K "_joining_of" "_joining_of" s_joining_of fJ fdJ) (g_joining_of : mg "_joining_of" = some (.ref fJ)) (b_joining_of : Binds K fdJ ["joining", "many"] []) (G_joining_of : FnOk P w K mg base CX0 4 fJ fdJ ["joining", "many"] spJoining)
    (m_len : mg "len" = none) (m_tuple : mg "tuple" = none) : FnOk P w K mg base CX0 5 f fd ["faces", "many"] spBlockOf := by
  refine F.ok sc_block_of (fun vs H Q E h => ?_) (fun cdv A outer s H vs Q E hr h => ?_)
  · obtain ⟨N, v, d, b, m, rfl, _⟩ := h
    rfl
  · obtain ⟨N, v, d, b, m, rfl, hd, hn, h4, hj, q⟩ := h
    have nd := sc_block_of.nd
    refine ⟨_, (pss_cons (ps_if (pw_or (pt_not (pt_val (pe_call Gis_listed (hr.mono (by first | decide | omega)) (by rfl) gis_listed Fis_listed.kp bis_listed .nil pass0 (pa_cons (pv 0) pa_nil)))) (pw_or1 (pt_cmpR op_ne (pe_callB (kLen K rfl) (by rfl) m_len (by decide +kernel) (pa_cons (pv 0) pa_nil)) pe_int (nomark _)))).pt (pss_one ps_never) pss_nil)
      (pss_one (ps_ret (pe_callTy (kTupleF K rfl) (by rfl) m_tuple (by decide +kernel) (pa_cons (pe_lc (own := [("joining", 2)]) (g := gName 2) (tt := tYes) rfl nd (kPiS K rfl (pv 0)) (blkOk_by (own := [("joining", 2)]) (N := N_block_of) (sc := defScope s_block_of) (by decide +kernel)) (fun _ _ _ _ _ => (pg_name (i := 2) nd rfl (Or.inl rfl))) (fun _ _ _ _ _ => pts_nil) (fun _ _ _ _ _ => (pe_call G_joining_of (hr.mono (by first | decide | omega)) (by rfl) g_joining_of F_joining_of.kp b_joining_of .nil pass0 (pa_cons (pv 2) (pa_cons (pv 1) pa_nil))))) pa_nil))))), ?_⟩
    have sq : isSeqD d = true := by
      cases d <;> first | rfl | (simp only [norm, nB] at hn; cases hn)
    obtain ⟨a, xs, ds, rfl, hq, _, hds, en⟩ := hd.seq (K := K) hn
    have lx : xs.length = 4 := by rw [hds.len, norm_len en, h4]
    refine ⟨.ref a, rfl, N, .ref a, d, rfl, hd, fun H1 s1 => ?_⟩
    rw [sq]
    have hq1 : SqL K H1 a xs ∨ SqT K H1 a xs := hq.imp (fun z => s1.seq z) (fun z => s1.sqt z)
    refine ⟨_, rfl, iteF ⟨.ref a, rfl, a, _, rfl, hq1, rfl, _, rfl, iteNS (by rw [lx]; rfl) ?_⟩⟩
    refine ⟨.ref a, rfl, a, xs, rfl, hq1, fun J C hJ hC => ?_⟩
    intro D nD
    refine lc_seq (xs := xs) hJ (fun i H2 => ∃ ws, H2 D = some (.lst ws) ∧ Paired (JAt H2) ws (b.take i) ∧ Same H1 H2) ⟨[], upd_same, .nil, same_new nD⟩ ?_ ?_ ?_
    · rintro i H2 ⟨ws, h2, t2, s2⟩
      exact SeqIt.mono K hJ (fun o e => s2 _ _ e) hC
    · rintro i x H2 hx ⟨ws, h2, t2, s2⟩
      obtain ⟨di, hdi, hxi⟩ := hds.get hx
      obtain ⟨j, hji, ej⟩ := norm_at en hdi
      refine ⟨rfl, x, rfl, intV m, rfl, N, x, di, j, m, rfl, hxi.same (s1.trans s2), ej, hj j (List.mem_of_getElem? hji), fun H3 v3 s3 j3 => ?_⟩
      have h3 := s3 _ _ h2
      refine ⟨ws, h3, small1000 (by rw [plen t2, List.length_take]; omega), ws ++ [v3], upd_same, ?_, same_fill (s2.trans s3) nD⟩
      rw [List.take_add_one, hji]
      exact papp (pmono t2 fun _ _ z => z.mono (s3.tups.trans (tups_set h3))) (.cons (j3.mono (tups_set h3)) .nil)
    · rintro H2 ⟨ws, h2, t2, s2⟩
      rw [lx, ← h4, List.take_length] at t2
      refine ⟨D, ws, rfl, .inl ⟨.inl (.inl h2), fun p o np dn => ?_⟩⟩
      exact q _ _ ((s1.trans s2).trans (same_new np)) ⟨p, ws, rfl, FT.new dn, pmono t2 fun _ _ z => z.mono (same_new np).tups⟩
end
end Bk

namespace Bk
open PySem PySem.Spec PyProof.Rows L2
local macro_rules | `(tactic| walk_at "g") => `(tactic| (repeat first | refine ⟨_, rfl, ?_⟩ | refine ⟨cpow, ?_⟩ | refine ⟨wideM, ?_⟩ | refine ⟨_, _, rfl, rfl, ?_⟩ | refine ⟨rfl, ?_⟩))
theorem jD_shaped (j : Jn) : SeqAt.shaped (jD j) = true := by
  obtain ⟨h1, h2⟩ := jD_lay j
  show ((jD j).canLay0 && decide ((jD j).depth ≤ 64)) = true
  rw [h1, decide_eq_true (by omega)]
  rfl
theorem tints_shaped (ns : List Int) : SeqAt.shaped (.tuple (ns.map PyData.int)) = true := by
  have h := ints_lay ns
  have h2 : PyData.depth (.tuple (ns.map PyData.int)) ≤ 64 := by
    simp only [PyData.depth]
    omega
  show (PyData.canLay0 (.tuple (ns.map PyData.int)) && decide (PyData.depth (.tuple (ns.map PyData.int)) ≤ 64)) = true
  rw [Bool.and_eq_true]
  exact ⟨by simp only [PyData.canLay0]; exact h.1, decide_eq_true h2⟩
theorem pair_eqv (a b c d : Nat) : PyData.eqv (.tuple [intD a, intD b]) (.tuple [intD c, intD d]) = decide ((a, b) = (c, d)) := by
  have e : PyData.eqv (.tuple [intD a, intD b]) (.tuple [intD c, intD d]) = (((a : Int) == (c : Int)) && (((b : Int) == (d : Int)) && true)) := by simp only [intD, PyData.eqv, PyData.eqvAll]
  rw [e]
  by_cases h : ((a, b) : Nat × Nat) = (c, d)
  · injection h with h1 h2
    subst h1 h2
    simp
  · rw [decide_eq_false h]
    by_cases h1 : a = c
    · have h2 : b ≠ d := fun z => h (by rw [h1, z])
      rw [show ((b : Int) == (d : Int)) = false from beq_eq_false_iff_ne.mpr (by omega)]
      simp
    · rw [show ((a : Int) == (c : Int)) = false from beq_eq_false_iff_ne.mpr (by omega)]
      simp
section
variable {P : Program} {w : World} {K : PySem.W.Frag} {mg : Str → Option Value} {base : Heap}
/-! ### _goes_both_ways -/
abbrev s_goes_both_ways : Stmt := topS 20
abbrev N_goes_both_ways : List Str := ["space", "block", "face", "joining", "other", "turn", "across"]
theorem sc_goes_both_ways : FnScope N_goes_both_ways ["space", "block", "face"] (defScope s_goes_both_ways) := ⟨rfl, rfl, rfl, by decide +kernel, rfl, by decide +kernel, by decide +kernel⟩
def spGoes : Sp := fun vs H Q _ => ∃ (v : V) (S : Spc) (b f : Nat), vs = [v, intV b, intV f] ∧ ST H v S ∧ Good S ∧ b < S.length ∧ f < 4 ∧ ∀ H', Same H H' → Q (.bl true) H'
theorem ok_goes_both_ways {f fC : Addr} {fd fdC : FuncData} (F : Fun K "_goes_both_ways" "_goes_both_ways" s_goes_both_ways f fd) (Fcontrary : Fun K "contrary" "contrary" scontrary fC fdC) (gcontrary : mg "contrary" = some (.ref fC)) (bcontrary : Binds K fdC ["turn"] [])
    (Gcontrary : FnOk P w K mg base CX0 1 fC fdC ["turn"] spBack) : FnOk P w K mg base CX0 2 f fd ["space", "block", "face"] spGoes := by
  refine F.ok sc_goes_both_ways (fun vs H Q E h => ?_) (fun cdv A outer s H vs Q E hr h => ?_)
  · obtain ⟨v, S, b, f, rfl, _⟩ := h
    rfl
  · obtain ⟨v, S, b, f, rfl, hv, hG, hb, hf, q⟩ := h
    have nd := sc_goes_both_ways.nd
    refine ⟨_, (pss_cons (ps_set (i := 3) nd rfl (.inl rfl) (pe_ix (kIxT K rfl) (pe_ix (kIxT K rfl) (pv 0) (pv 1) (fun _ _ => rfl)) (pv 2) (fun _ _ => rfl)))
      (pss_cons (ps_if (pt_cmpR op_isN (pv 3) pe_non (nomark _)) (pss_one (ps_ret pe_bl)) pss_nil)
      (pss_cons (ps_asg (pv 3) (kPgT K rfl (pg_tup (n := 2) rfl (pgs_cons (pg_name (i := 4) nd rfl (.inl rfl)) (pgs_cons (pg_name (i := 5) nd rfl (.inl rfl)) pgs_nil)))))
      (pss_cons (ps_set (i := 6) nd rfl (.inl rfl) (pe_ix (kIxT K rfl) (pv 5) (pv 2) (fun _ _ => rfl)))
      (pss_cons (ps_if (pt_cmpR (kEqD K rfl hr.units) (pe_tupF (pa_cons (pv 4) (pa_cons (pv 6) pa_nil))) (pe_tupF (pa_cons (pv 1) (pa_cons (pv 2) pa_nil))) (nomark _)) (pss_one (ps_ret pe_bl)) pss_nil)
      (pss_one (ps_ret (pe_cmpR (kEqD K rfl hr.units) (pe_ix (kIxT K rfl) (pe_ix (kIxT K rfl) (pv 0) (pv 4) (fun _ _ => rfl)) (pv 6) (fun _ _ => rfl)) (pe_tupF (pa_cons (pv 1) (pa_cons (pe_call Gcontrary (hr.mono (by first | decide | omega)) (by rfl) gcontrary Fcontrary.kp bcontrary .nil pass0 (pa_cons (pv 5) pa_nil)) pa_nil))) (nomark _))))))))), ?_⟩
    obtain ⟨j, hj⟩ := hG.l4.get hb hf
    obtain ⟨p, rs, pb, vb, x, rfl, f1, g1, f2, g2, jx⟩ := hv.face hj
    refine ⟨.ref p, rfl, intV b, rfl, p, rs, b, .ref pb, rfl, rfl, f1.sqt, atI_nat g1, intV f, rfl, pb, vb, f, x, rfl, rfl, f2.sqt, atI_nat g2, ?_⟩
    refine ⟨x, rfl, rfl, ?_⟩
    rw [jx.isN]
    refine ⟨_, rfl, ?_⟩
    cases j with
    | none => exact iteT (q H (Same.refl H))
    | some k =>
      obtain ⟨n, t⟩ := k
      obtain ⟨ht, hne, hbk⟩ := hG.both _ _ _ _ hj
      have htf := tf_lt t ht f hf
      obtain ⟨pj, pq, rfl, f3, f4⟩ := jx
      refine iteF ?_
      refine ⟨.ref pj, rfl, pj, _, rfl, f3.sqt, rfl, _, _, rfl, _, _, rfl, rfl, ?_⟩
      refine ⟨.ref pq, rfl, intV f, rfl, pq, trnV t, f, intV (tf t f), rfl, rfl, f4.sqt, atI_nat (by unfold trnV; rw [List.getElem?_map, htf.2]; rfl), ?_⟩
      refine ⟨intV n, rfl, intV (tf t f), rfl, Nat.le_of_lt (small1000 (by show 2 ≤ 1000; decide)), fun p1 o1 np1 dn1 => ?_⟩
      have s1 : Same H (upd H p1 (.frz o1 (.tup [intV n, intV (tf t f)]))) := same_new np1
      have ft1 : FT (upd H p1 (.frz o1 (.tup [intV n, intV (tf t f)]))) p1 [intV n, intV (tf t f)] := FT.new dn1
      generalize upd H p1 (.frz o1 (.tup [intV n, intV (tf t f)])) = H1 at s1 ft1 ⊢
      refine ⟨intV b, rfl, intV f, rfl, Nat.le_of_lt (small1000 (by show 2 ≤ 1000; decide)), fun p2 o2 np2 dn2 => ?_⟩
      have s2 : Same H1 (upd H1 p2 (.frz o2 (.tup [intV b, intV f]))) := same_new np2
      have ft2 : FT (upd H1 p2 (.frz o2 (.tup [intV b, intV f]))) p2 [intV b, intV f] := FT.new dn2
      generalize upd H1 p2 (.frz o2 (.tup [intV b, intV f])) = H2 at s2 ft2 ⊢
      refine ⟨.tuple [intD n, intD (tf t f)], .tuple [intD b, intD f], .tup (ft1.mono s2.tups).sqt (.cons (.int _) (.cons (.int _) .nil)), .tup ft2.sqt (.cons (.int _) (.cons (.int _) .nil)), tints_shaped [n, tf t f], tints_shaped [b, f], ?_⟩
      rw [pair_eqv, decide_eq_false hne]
      refine ⟨_, rfl, iteF ?_⟩
      have s12 := s1.trans s2
      have hv2 : ST H2 (.ref p) S := hv.mono s12.tups
      obtain ⟨p', rs', pn, vn, x2, ep, f5, g3, f6, g4, jx2⟩ := hv2.face hbk
      cases ep
      refine ⟨.ref p, rfl, intV n, rfl, p, rs', n, .ref pn, rfl, rfl, f5.sqt, atI_nat g3, intV (tf t f), rfl, pn, vn, (tf t f : Nat), x2, rfl, rfl, f6.sqt, atI_nat g4, ?_⟩
      refine ⟨intV b, rfl, .ref pq, rfl, .ref pq, t, rfl, ⟨pq, rfl, f4.mono s12.tups⟩, ht, fun H3 p3 s3 n3 T3 => ⟨Nat.le_of_lt (small1000 (by show 2 ≤ 1000; decide)), fun p4 o4 np4 dn4 => ?_⟩⟩
      obtain ⟨p3', e3, T3⟩ := T3
      cases e3
      have s4 : Same H3 (upd H3 p4 (.frz o4 (.tup [intV b, .ref p3]))) := same_new np4
      have j4 : JAt (upd H3 p4 (.frz o4 (.tup [intV b, .ref p3]))) (.ref p4) (some (b, back t)) := ⟨p4, p3, rfl, FT.new dn4, T3.mono s4.tups⟩
      have j5 := jx2.mono (s3.trans s4).tups
      refine ⟨jD (some (b, back t)), jD (some (b, back t)), (j5.dq (N := fun _ => False)).dp, (j4.dq (N := fun _ => False)).dp, jD_shaped _, jD_shaped _, ?_⟩
      rw [SeqAt.eqv_refl _ (jD_lay _).1]
      exact q _ ((s12.trans s3).trans s4)
/-! ### space_of -/
abbrev sspace_of : Stmt := topS 17
abbrev Nspace_of : List Str := ["blocks", "space", "block", "face", "faces"]
theorem scspace_of : FnScope Nspace_of ["blocks"] (defScope sspace_of) := ⟨rfl, rfl, rfl, by decide +kernel, rfl, by decide +kernel, by decide +kernel⟩
def spSpace : Sp := fun vs H Q _ => ∃ (N : Addr → Prop) (v : V) (d : PyData) (S : Spc), vs = [v] ∧ Dq N H v d ∧ norm d = nS S ∧ Good S ∧ 1 ≤ S.length ∧ S.length ≤ 100 ∧ ∀ H' v', Same H H' → ST H' v' S → Q v' H'
theorem okspace_of {f fL fB fG : Addr} {fd fdL fdB fdG : FuncData} (F : Fun K "space_of" "space_of" sspace_of f fd) (Fis_listed : Fun K "is_listed" "is_listed" sis_listed fL fdL) (gis_listed : mg "is_listed" = some (.ref fL)) (bis_listed : Binds K fdL ["thing"] []) (Gis_listed : FnOk P w K mg base CX0 1 fL fdL ["thing"] spListed)
    (F_block_of : Fun K "_block_of" "_block_of" s_block_of fB fdB) (g_block_of : mg "_block_of" = some (.ref fB)) (b_block_of : Binds K fdB ["faces", "many"] []) (G_block_of : FnOk P w K mg base CX0 5 fB fdB ["faces", "many"] spBlockOf)
    (F_goes_both_ways : Fun K "_goes_both_ways" "_goes_both_ways" s_goes_both_ways fG fdG) (g_goes_both_ways : mg "_goes_both_ways" = some (.ref fG)) (b_goes_both_ways : Binds K fdG ["space", "block", "face"] []) (G_goes_both_ways : FnOk P w K mg base CX0 2 fG fdG ["space", "block", "face"] spGoes)
    (m_len : mg "len" = none) (m_tuple : mg "tuple" = none) (m_range : mg "range" = none) : FnOk P w K mg base CX0 6 f fd ["blocks"] spSpace := by
  refine F.ok scspace_of (fun vs H Q E h => ?_) (fun cdv A outer s H vs Q E hr h => ?_)
  · obtain ⟨N, v, d, S, rfl, _⟩ := h
    rfl
  · obtain ⟨N, v, d, S, rfl, hd, hn, hG, hl1, hl2, q⟩ := h
    have nd := scspace_of.nd
    refine ⟨_, (pss_cons (ps_if (pw_or (pt_not (pt_val (pe_call Gis_listed (hr.mono (by first | decide | omega)) (by rfl) gis_listed Fis_listed.kp bis_listed .nil pass0 (pa_cons (pv 0) pa_nil)))) (pw_or1 (pt_not (pt_truth (pv 0) (by intro _; rfl))))).pt (pss_one ps_never) pss_nil)
      (pss_cons (ps_set (i := 1) nd rfl (.inl rfl) (pe_callTy (kTupleF K rfl) (by rfl) m_tuple (by decide +kernel) (pa_cons (pe_lc (own := [("faces", 4)]) (g := gName 4) (tt := tYes) rfl nd (kPiS K rfl (pv 0)) (blkOk_by (own := [("faces", 4)]) (N := Nspace_of) (sc := defScope sspace_of) (by decide +kernel)) (fun _ _ _ _ _ => (pg_name (i := 4) nd rfl (Or.inl rfl))) (fun _ _ _ _ _ => pts_nil) (fun _ _ _ _ _ => (pe_call G_block_of (hr.mono (by first | decide | omega)) (by rfl) g_block_of F_block_of.kp b_block_of .nil pass0 (pa_cons (pv 4) (pa_cons (pe_callB (kLen K rfl) (by rfl) m_len (by decide +kernel) (pa_cons (pv 0) pa_nil)) pa_nil))))) pa_nil)))
      (pss_cons (ps_for PassesOwn.never rfl (pi_range1 (by rfl) m_range (pa_cons (pe_callB (kLen K rfl) (by rfl) m_len (by decide +kernel) (pa_cons (pv 1) pa_nil)) pa_nil)) (pg_name (i := 2) nd rfl (.inl rfl)) (pss_one (ps_for PassesOwn.never rfl (pi_range1 (by rfl) m_range (pa_cons pe_int pa_nil)) (pg_name (i := 3) nd rfl (.inl rfl)) (pss_one (ps_if (pt_not (pt_val (pe_call G_goes_both_ways (hr.mono (by first | decide | omega)) (by rfl) g_goes_both_ways F_goes_both_ways.kp b_goes_both_ways .nil pass0 (pa_cons (pv 1) (pa_cons (pv 2) (pa_cons (pv 3) pa_nil)))))) (pss_one ps_never) pss_nil)))))
      (pss_one (ps_ret (pv 1)))))), ?_⟩
    have sq : isSeqD d = true := by
      cases d <;> first | rfl | (simp only [norm, nS] at hn; cases hn)
    obtain ⟨a, xs, ds, rfl, hq, _, hds, en⟩ := hd.seq (K := K) hn
    have lx : xs.length = S.length := by rw [hds.len, norm_len en]
    have xe : xs.isEmpty = false := by
      cases xs with
      | nil =>
        have : 0 = S.length := lx
        omega
      | cons x r => rfl
    refine ⟨.ref a, rfl, N, .ref a, d, rfl, hd, fun H1 s1 => ?_⟩
    rw [sq]
    have hq1 : SqL K H1 a xs ∨ SqT K H1 a xs := hq.imp (fun z => s1.seq z) (fun z => s1.sqt z)
    have tru : TruV K (.ref a) H1 true := by
      rcases hq1 with z | z
      · exact .inl ⟨xs, z, by rw [xe]; rfl⟩
      · exact .inr (.inl ⟨xs, z, by rw [xe]; rfl⟩)
    refine ⟨_, rfl, iteF ⟨.ref a, rfl, true, tru, iteF ?_⟩⟩
    refine ⟨.ref a, rfl, a, xs, rfl, hq1, fun J C hJ hC => ?_⟩
    intro D nD
    refine lc_seq (xs := xs) hJ (fun i H2 => ∃ ws, H2 D = some (.lst ws) ∧ Paired (BT H2) ws (S.take i) ∧ Same H1 H2) ⟨[], upd_same, .nil, same_new nD⟩ ?_ ?_ ?_
    · rintro i H2 ⟨ws, h2, t2, s2⟩
      exact SeqIt.mono K hJ (fun o e => s2 _ _ e) hC
    · rintro i x H2 hx ⟨ws, h2, t2, s2⟩
      obtain ⟨di, hdi, hxi⟩ := hds.get hx
      obtain ⟨b, hbi, eb⟩ := norm_at en hdi
      have hbm := List.mem_of_getElem? hbi
      have hi : i < S.length := (List.getElem?_eq_some_iff.mp hbi).1
      refine ⟨rfl, x, rfl, .ref a, rfl, a, xs, rfl, hq1.imp (fun z => s2.seq z) (fun z => s2.sqt z), ?_⟩
      refine ⟨N, x, di, b, S.length, (by rw [lx]; rfl), hxi.same (s1.trans s2), eb, hG.l4 b hbm, hG.jok hbm, fun H3 v3 s3 j3 => ?_⟩
      have h3 := s3 _ _ h2
      refine ⟨ws, h3, small1000 (by rw [plen t2, List.length_take]; omega), ws ++ [v3], upd_same, ?_, same_fill (s2.trans s3) nD⟩
      rw [List.take_add_one, hbi]
      exact papp (pmono t2 fun _ _ z => z.mono (s3.tups.trans (tups_set h3))) (.cons (j3.mono (tups_set h3)) .nil)
    · rintro H2 ⟨ws, h2, t2, s2⟩
      rw [lx, List.take_length] at t2
      refine ⟨D, ws, rfl, .inl ⟨.inl (.inl h2), fun p o np dn => ?_⟩⟩
      have s3 : Same H2 (upd H2 p (.frz o (.tup ws))) := same_new np
      have st : ST (upd H2 p (.frz o (.tup ws))) (.ref p) S := ⟨p, ws, rfl, FT.new dn, pmono t2 fun _ _ z => z.mono s3.tups⟩
      have ftp : FT (upd H2 p (.frz o (.tup ws))) p ws := FT.new dn
      generalize upd H2 p (.frz o (.tup ws)) = H3 at s3 st ftp ⊢
      have s13 := (s1.trans s2).trans s3
      have lw : ws.length = S.length := plen t2
      refine ⟨.ref p, rfl, p, ws, rfl, .inr ftp.sqt, _, rfl, by rw [lw]; omega, by rw [lw]; omega, ?_⟩
      rw [lw, Int.toNat_natCast]
      refine for_range (lo := 0) (n := S.length) (fun b σ H4 => ∃ y2 y3, σ = [some (.ref a), some (.ref p), y2, y3, none] ∧ Same H3 H4) ⟨none, none, rfl, Same.refl _⟩ ?_ ?_
      · rintro b σ H4 hb ⟨y2, y3, rfl, s4⟩
        rw [Int.zero_add]
        refine ⟨4, rfl, by decide, by decide, ?_⟩
        refine for_range (lo := 0) (n := 4) (fun f σ H5 => ∃ y3, σ = [some (.ref a), some (.ref p), some (intV b), y3, none] ∧ Same H3 H5) ⟨y3, rfl, s4⟩ ?_ ?_
        · rintro f σ H5 hf ⟨y3, rfl, s5⟩
          rw [Int.zero_add]
          refine ⟨.ref p, rfl, intV b, rfl, intV f, rfl, .ref p, S, b, f, rfl, st.mono s5.tups, hG, hb, hf, fun H6 s6 => ⟨_, rfl, iteF ?_⟩⟩
          exact ⟨_, rfl, s5.trans s6⟩
        · rintro σ H5 ⟨y3, rfl, s5⟩
          exact ⟨_, _, rfl, s5⟩
      · rintro σ H4 ⟨y2, y3, rfl, s4⟩
        exact ⟨.ref p, rfl, q H4 _ (s13.trans s4) (st.mono s4.tups)⟩
end
end Bk

namespace Bk
open PySem PySem.Spec PyProof.Rows L2 RZ
local macro_rules | `(tactic| walk_at "g") => `(tactic| (repeat first | refine ⟨_, rfl, ?_⟩ | refine ⟨cpow, ?_⟩ | refine ⟨wideM, ?_⟩ | refine ⟨_, _, rfl, rfl, ?_⟩ | refine ⟨rfl, ?_⟩))
/-! ### two walked at once -/
structure ZipIt (a b : Addr) (xs ys : List V) (J : It) (G : Hp → Prop) : Prop where
  walk : Walk J (min xs.length ys.length) G (YPair (fun i => xs[i]?) (fun i => ys[i]?))
  stay : ∀ H H' : Hp, (∀ o, H a = some o → H' a = some o) → (∀ o, H b = some o → H' b = some o) → G H → G H'
theorem sqL_at {K : PySem.W.Frag} {H H' : Hp} {a : Addr} {xs : List V} (m : ∀ o, H a = some o → H' a = some o) (c : SqL K H a xs) : SqL K H' a xs := by
  rcases c with (c | ⟨o, c⟩) | c
  · exact .inl (.inl (m _ c))
  · exact .inl (.inr ⟨o, m _ c⟩)
  · exact .inr c
theorem sqT_at {K : PySem.W.Frag} {H H' : Hp} {a : Addr} {xs : List V} (m : ∀ o, H a = some o → H' a = some o) (c : SqT K H a xs) : SqT K H' a xs := by
  rcases c with (c | ⟨o, c⟩) | c
  · exact .inl (.inl (m _ c))
  · exact .inl (.inr ⟨o, m _ c⟩)
  · exact .inr c
theorem walk_zipT {K : PySem.W.Frag} {a b : Addr} {xs ys : List V} : Walk (ItzT K a b) (min xs.length ys.length) (fun H => SqT K H a xs ∧ SqT K H b ys) (YPair (fun i => xs[i]?) (fun i => ys[i]?)) := by
  refine ⟨fun i _ hi q => ?_, fun _ q => ⟨xs, ys, q.1, q.2, by omega⟩, fun i H v H' _ q y => ?_⟩
  · exact ⟨xs, ys, _, _, q.1, q.2, List.getElem?_eq_getElem (show i < xs.length by omega), List.getElem?_eq_getElem (show i < ys.length by omega)⟩
  · obtain ⟨T, x, z, z1, z2, z3, z4, z5⟩ := y
    exact ⟨T, x, z, z1, z2, z3, z4 xs q.1, z5 ys q.2⟩
def iZipS (K : PySem.W.Frag) (ta : TA) : TI := fun σ H R => ta σ H fun vs H1 => ∃ a b xs ys, vs = [.ref a, .ref b] ∧ ((SqL K H1 a xs ∧ SqL K H1 b ys) ∨ (SqT K H1 a xs ∧ SqT K H1 b ys)) ∧ ∀ J G, ZipIt a b xs ys J G → G H1 → R J H1
/-- what an argument list's reading asks is monotone -/
theorem kPiZ {X : Cx} (K : PySem.W.Frag) {tg l : Expr} {ta : TA} (h : X.K = K) (x : PI X tg l (iZipA X.K ta)) (mono : ∀ σ H (Q Q' : List V → Hp → Prop), ta σ H Q → (∀ vs H', Q vs H' → Q' vs H') → ta σ H Q' := by
    intro σ H Q Q' hq m
    first
      | exact m _ _ hq
      | (obtain ⟨v1, e1, v2, e2, hq⟩ := hq; exact ⟨v1, e1, v2, e2, m _ _ hq⟩)) : PI X tg l (iZipS K ta) := by
  subst h
  refine ⟨fun pins s σ H R I hw => x.run pins s σ H R I (mono σ H _ _ hw fun vs H' hv => ?_)⟩
  obtain ⟨a, b, xs, ys, e, hq, q⟩ := hv
  rcases hq with ⟨q1, q2⟩ | ⟨q1, q2⟩
  · exact ⟨a, b, xs, ys, e, .inl ⟨q1, q2, q _ _ ⟨walk_zip rfl, fun _ _ m1 m2 z => ⟨sqL_at m1 z.1, sqL_at m2 z.2⟩⟩ ⟨q1, q2⟩⟩⟩
  · exact ⟨a, b, xs, ys, e, .inr ⟨q1, q2, q _ _ ⟨walk_zipT, fun _ _ m1 m2 z => ⟨sqT_at m1 z.1, sqT_at m2 z.2⟩⟩ ⟨q1, q2⟩⟩⟩
section
variable {P : Program} {w : World} {K : PySem.W.Frag} {mg : Str → Option Value} {base : Heap}
theorem kit_tuple (d : PyData) : PySem.W.kitOne K (.type (tyD d)) (.type "tuple") = some (tyD d == "tuple") := by
  cases d with
  | none => exact kit_ty (a := "NoneType") (b := "tuple") (show kitB "NoneType" "tuple" = some false by decide +kernel)
  | bool b => exact kit_ty (a := "bool") (b := "tuple") (show kitB "bool" "tuple" = some false by decide +kernel)
  | int i => exact kit_ty (a := "int") (b := "tuple") (show kitB "int" "tuple" = some false by decide +kernel)
  | str x => exact kit_ty (a := "str") (b := "tuple") (show kitB "str" "tuple" = some false by decide +kernel)
  | list ds => exact kit_ty (a := "list") (b := "tuple") (show kitB "list" "tuple" = some false by decide +kernel)
  | tuple ds => exact kit_ty (a := "tuple") (b := "tuple") (show kitB "tuple" "tuple" = some true by decide +kernel)
  | dict k => exact kit_ty (a := "dict") (b := "tuple") (show kitB "dict" "tuple" = some false by decide +kernel)
theorem kit_list (d : PyData) : PySem.W.kitOne K (.type (tyD d)) (.type "list") = some (tyD d == "list") := by
  cases d with
  | none => exact kit_ty (a := "NoneType") (b := "list") (show kitB "NoneType" "list" = some false by decide +kernel)
  | bool b => exact kit_ty (a := "bool") (b := "list") (show kitB "bool" "list" = some false by decide +kernel)
  | int i => exact kit_ty (a := "int") (b := "list") (show kitB "int" "list" = some false by decide +kernel)
  | str x => exact kit_ty (a := "str") (b := "list") (show kitB "str" "list" = some false by decide +kernel)
  | list ds => exact kit_ty (a := "list") (b := "list") (show kitB "list" "list" = some true by decide +kernel)
  | tuple ds => exact kit_ty (a := "tuple") (b := "list") (show kitB "tuple" "list" = some false by decide +kernel)
  | dict k => exact kit_ty (a := "dict") (b := "list") (show kitB "dict" "list" = some false by decide +kernel)
theorem kit_str (d : PyData) : PySem.W.kitOne K (.type (tyD d)) (.type "str") = some (tyD d == "str") := by
  cases d with
  | none => exact kit_ty (a := "NoneType") (b := "str") (show kitB "NoneType" "str" = some false by decide +kernel)
  | bool b => exact kit_ty (a := "bool") (b := "str") (show kitB "bool" "str" = some false by decide +kernel)
  | int i => exact kit_ty (a := "int") (b := "str") (show kitB "int" "str" = some false by decide +kernel)
  | str x => exact kit_ty (a := "str") (b := "str") (show kitB "str" "str" = some true by decide +kernel)
  | list ds => exact kit_ty (a := "list") (b := "str") (show kitB "list" "str" = some false by decide +kernel)
  | tuple ds => exact kit_ty (a := "tuple") (b := "str") (show kitB "tuple" "str" = some false by decide +kernel)
  | dict k => exact kit_ty (a := "dict") (b := "str") (show kitB "dict" "str" = some false by decide +kernel)
theorem or_way {c d : Bool} {A B X : Prop} (h1 : (c || d) = true → A) (hx : (if d = true then A else B) → X) (h2 : (c || d) = false → B) : if c = true then A else X := by
  cases c with
  | true => exact iteT (h1 rfl)
  | false =>
    refine iteF (hx ?_)
    cases d with
    | true => exact iteT (h1 rfl)
    | false => exact iteF (h2 rfl)
theorem seq_ty (d : PyData) : (tyD d == "tuple" || tyD d == "list") = isSeqD d := by
  cases d <;> simp [isSeqD, tyD]
theorem scal_ty (d : PyData) : (tyD d == "bool" || tyD d == "str") = true → (∃ b, d = .bool b) ∨ ∃ x, d = .str x := by
  cases d <;> simp [tyD]
end
end Bk

namespace Bk
open PySem PySem.Spec PyProof.Rows L2
/-! ### defs that show things: no other showing is under way around them -/
section
variable {P : Program} {w : World} {K : PySem.W.Frag} {mg : Str → Option Value} {base : Heap}
structure FnG (P : Program) (w : World) (K : PySem.W.Frag) (mg : Str → Option Value) (base : Heap) (k : Nat) (f : Addr) (fd : FuncData) (ps : List Str) (sp : Sp) : Prop where
  len : ∀ vs H Q E, sp vs H Q E → vs.length = ps.length
  go : ∀ (A : Around) (outer : List Env) (s : Shared) (H : Hp) (args : Args) (us : List Value) (vs : List V) (Q : VK) (E : XK), A.guards = some [] → Room k A → Env0 P w K mg base A outer s H → BindsTo s fd args (ps.zip us) →
    Vals vs us → sp vs H Q E → codeAny (model P w) A (.call (.ref f) args) (CR CX0 outer P w H s Q E) s
theorem fnG_of {x qual : Str} {st : Stmt} {f : Addr} {fd : FuncData} {N ps : List Str} {k : Nat} {sp : Sp} (F : Fun K x qual st f fd) (S : FnScope N ps (defScope st)) (len : ∀ vs H Q E, sp vs H Q E → vs.length = ps.length)
    (body : ∀ (cdv : Value) (A : Around) (outer : List Env) (s : Shared) (H : Hp) (vs : List V) (Q : VK) (E : XK), A.guards = some [] → Room k (A.deeper (envOfC qual (defScope st) s.heap.objs.size f cdv)) → sp vs H Q E →
      ∃ t, PSs (cxOf CX0 P w K mg base N qual (defScope st) f cdv A outer s H E).nox (defBody st) t ∧ t { nx := fun _ H' => Q .non H', rt := Q } (start N vs) H) : FnG P w K mg base (k + 1) f fd ps sp := by
  obtain ⟨oc, od, kV, doc, pm, an, cdv, ct, osl, rfl, lk, hcd⟩ := F.ex
  refine ⟨len, fun A outer s H args us vs Q E hg hr e0 hb r hsp => ?_⟩
  obtain ⟨t, ht, hq⟩ := body cdv A outer s H vs Q E hg (hr.deeper _) hsp
  have up : ∀ b o, base.get? b = some o → s.heap.get? b = some o := fun b o e => (e0.bs b o e).1
  refine Att.call_fn (e0.mod.kin.keeps up) (e0.mod.nolimit.keeps up) lk hcd hr.depth hb ?_ (fun s1 x => ?_) S.co S.gen S.kind
  · rw [List.all_eq_true]
    rintro ⟨n, v⟩ hy
    rcases S.par n (List.of_mem_zip hy).1 with q | q
    · show ((defScope st).names.lookup n == some .local || (defScope st).names.lookup n == some .cell) = true
      rw [q]
      rfl
    · show ((defScope st).names.lookup n == some .local || (defScope st).names.lookup n == some .cell) = true
      rw [q]
      rfl
  · have I := inv_start (CX := CX0) (P := P) (E := E) S hr.hd e0 (len _ _ _ _ hsp) r x
    refine wpAny_mono (ht.nox.run [] s1 (start N vs) H _ I hq) (fun fl s' hs => ?_) fun _ _ z => z
    cases fl with
    | ret u =>
      obtain ⟨v, σ', H', J, rv, z⟩ := hs
      exact ⟨v, H', J.os, J.bare, J.base, J.hok, rv, z⟩
    | next =>
      obtain ⟨σ', H', J, z⟩ := hs
      exact ⟨V.non, H', J.os, J.bare, J.base, J.hok, rfl, z⟩
    | brk =>
      obtain ⟨_, _, _, z⟩ := hs
      exact z.elim
    | cont =>
      obtain ⟨_, _, _, z⟩ := hs
      exact z.elim
/-- the same called within another -/
theorem FnG.ok {k : Nat} {f : Addr} {fd : FuncData} {ps : List Str} {sp : Sp} (F : FnOk P w K mg base CX0 k f fd ps sp) : FnG P w K mg base k f fd ps sp := ⟨F.len, fun A outer s H args us vs Q E _ => F.run A outer s H args us vs Q E⟩
/-! ### repr of data -/
def rRepr : List V → Hp → VK → Prop := fun xs H Q => ∃ N v d es, xs = [v] ∧ Dq N H v d ∧ norm d = .list es ∧ d.showable = true ∧ d.hasDict = false ∧ d.depth ≤ 60 ∧ d.shown.length ≤ sizeLine ∧ Q (.str d.shown) H
theorem kRepr {X : Cx} {k : Nat} (hr : Room k X.A) (hg : X.A.guards = some []) : CallR X (.builtin "repr") rRepr := by
  rintro pins s σ H _ us Q I r ⟨N, v, d, es, rfl, hd, hn, h1, h2, h3, h4, q⟩
  obtain ⟨u, rfl, rx⟩ := vals1 r
  obtain ⟨as, rd⟩ := Dp.reads I d v u hd.dp rx
  obtain ⟨a, _, _, rfl, _⟩ := hd.seq (K := X.K) hn
  cases rx
  have hu := hr.units
  exact repr_of_reads' rd h1 (fun z => by rw [h2] at z; cases z) hg (by omega) (fun _ _ e => e) (fun h' t tk hk => ⟨.str d.shown, H, I.kept hk, ⟨t, rfl⟩, q⟩) h4
/-! ### the law called -/
/-- the heap ahead of the law's call: at most the script is told -/
theorem go_law {mb : Str → Option Value} {k : Nat} {fa a : Addr} {fd : FuncData} {x : Str} {sp : Sp} {s₁ : Shared} {vs : List Value} {ns : List Int}
    (KX : K.In s₁.heap) (h1 : s₁.heap.Ns mainGlobals mg) (h2 : s₁.heap.Ns builtinsNs mb) (h3 : ∀ x : Str, x ≠ "__name__" → mb x = bootBuiltins x) (h4 : s₁.heap.NoLimit) (h5 : s₁.gens = #[])
    (ha : s₁.heap.get? a = some { cls := .type "list", data := .seq vs.toArray }) (hi : IntsAre vs ns) (hl : ns.length ≤ sizeLine) (hr : Room k callerA)
    (F : ∀ base : Heap, K.In base → base.Ns mainGlobals mg → FnG P w K mg base k fa fd [x] sp) (hb : ∀ (s : Shared) (u : Value), BindsTo s fd ⟨[u], []⟩ [(x, u)])
    (hsp : ∀ H : Hp, Only H → SqL K H a (ns.map V.int) → sp [.ref a] H (fun v _ => v = .bl true) fun _ _ _ => False) :
    codeAny (model P w) callerA (.call (.ref fa) ⟨[.ref a], []⟩) (fun r s' => r = .ok (.ret (.bool true)) ∧ OldK s₁.heap s'.heap ∧ s'.os = s₁.os ∧ AllBare s'.gens) s₁ := by
  have rv := vals_ints hi
  have start : ∀ H : Hp, Only H → SqL K H a (ns.map V.int) → HOk P w H s₁.heap → (∀ b u, H b = some u → b = a ∧ K.lookup a = none) →
      codeAny (model P w) callerA (.call (.ref fa) ⟨[.ref a], []⟩) (fun r s' => r = .ok (.ret (.bool true)) ∧ OldK s₁.heap s'.heap ∧ s'.os = s₁.os ∧ AllBare s'.gens) s₁ := by
    intro H only hS ok told
    have none_at : ∀ {b : Addr} {o : Obj}, s₁.heap.get? b = some o → (b = a → K.lookup a = none → False) → (hidT s₁.heap H).get? b = some o := fun {b o} e n => hidT_get e (by
      cases z : H b with
      | none => rfl
      | some u => exact (n (told b u z).1 (told b u z).2).elim)
    have dicts : ∀ {b : Addr} {m : Str → Option Value}, s₁.heap.Ns b m → (hidT s₁.heap H).Ns b m := fun {b m} ⟨o, es, ep, e, d, r⟩ => ⟨o, es, ep, none_at e (fun z _ => by
      subst z
      rw [ha] at e
      cases e
      have d' : Data.seq vs.toArray _ = Data.dict es ep := d
      cases d'), d, r⟩
    have kb : K.In (hidT s₁.heap H) := fun b o e => none_at (KX b o e) fun z n => by
      subst z
      rw [n] at e
      cases e
    have md : Mod K mg (hidT s₁.heap H) := ⟨kb, dicts h1, ⟨mb, dicts h2, h3⟩, let ⟨mc, z1, z2⟩ := h4; ⟨mc, dicts z1, z2⟩⟩
    have e0 : Env0 P w K mg (hidT s₁.heap H) callerA [] s₁ H := ⟨rfl, md, fun b o e => of_hidT e, Nat.le_of_eq (hidT_size _ _), trivial, fun b z => (by cases z), ok, .of_eq h5⟩
    refine codeAny_mono ((F _ kb (dicts h1)).go callerA [] s₁ H ⟨[.ref a], []⟩ [.ref a] [.ref a] _ _ rfl hr e0 (hb s₁ (.ref a)) (.cons rfl .nil) (hsp H only hS)) fun r s' h => ?_
    match r, h with
    | .ok (.ret u), h =>
      obtain ⟨v, H', os, bare, un, ok', r', q⟩ := h
      obtain rfl : v = .bl true := q
      obtain rfl : u = Value.bool true := r'
      refine ⟨rfl, OldK.of_keep fun b o e => ?_, os, bare⟩
      cases z : H b with
      | none => exact un.keep b o e z (fun z => by cases z) (by simp)
      | some u =>
        obtain y | ⟨ob, xs, y⟩ := only b
        · rw [z] at y
          cases y
        · have c1 := (ok b _ y).1
          rw [e] at c1
          cases c1
          exact (ok' b _ (un.frzs b _ _ y)).1
  cases hk : K.lookup a with
  | some o =>
    have e := KX a o hk
    rw [ha] at e
    cases e
    have hn := hi.length
    exact start (fun _ => none) (fun _ => .inl rfl) (.inr ⟨_, vs.toArray, _, hk, rfl, rfl, rfl, by rw [List.size_toArray, hn]; exact hl, by simpa using rv⟩) (fun b u z => by cases z) fun b u z => by cases z
  | none =>
    let ob : Obj := { cls := .type "list", data := .seq vs.toArray }
    have at_ : ∀ b u, (fun b => if b = a then some (HO.frz ob (.lst (ns.map V.int))) else none) b = some u → b = a ∧ u = HO.frz ob (.lst (ns.map V.int)) := fun b u z => by
      by_cases c : b = a
      · exact ⟨c, (Option.some.inj ((if_pos c).symm.trans z)).symm⟩
      · cases (if_neg c).symm.trans z
    refine start (fun b => if b = a then some (HO.frz ob (.lst (ns.map V.int))) else none) (fun b => ?_) (.inl (.inr ⟨ob, if_pos rfl⟩)) (fun b u z => ?_) fun b u z => ⟨(at_ b u z).1, hk⟩
    · by_cases c : b = a
      · exact .inr ⟨_, _, if_pos c⟩
      · exact .inl (if_neg c)
    · obtain ⟨rfl, rfl⟩ := at_ b u z
      exact ⟨ha, by rw [List.length_map]; exact hl, vs, _, rv, ha⟩
end
theorem walk_G {l : PySem.W.OpenLaw} {n k : Nat} {q : Program} {loose : List Str} {XP : (Str → Option Value) → Heap → Prop} {YP : World → Heap → Prop} {d : DefRec} {K : Params → PySem.W.Frag} {sp : PySem.W.Frag → Sp} {x : Str}
    (hn : l.most = some n) (hn2 : n ≤ sizeLine) (hdf : d.params.defaults = []) (hr : Room k callerA) (hY : ∀ (w : World) (h : Heap), YP w h → (K w.params).In h)
    (F : ∀ (w : World) (mg : Str → Option Value) (fa : Addr) (h : Heap), (K w.params).In h → h.Ns mainGlobals mg → mg d.name = some (.ref fa) →
      ∃ fd : FuncData, (∀ (s : Shared) (u : Value), BindsTo s fd ⟨[u], []⟩ [(x, u)]) ∧ ∀ base : Heap, (K w.params).In base → base.Ns mainGlobals mg → FnG l.prog w (K w.params) mg base k fa fd [x] (sp (K w.params)))
    (hsp : ∀ (K : PySem.W.Frag) (H : Hp) (a : Addr) (ns : List Int), ns.length ≤ n → Only H → SqL K H a (ns.map V.int) → sp K [.ref a] H (fun v _ => v = .bl true) fun _ _ _ => False) :
    PySem.W.WalkO q loose XP YP l.row.toRowW d [] (fun f vs => PySem.call f vs) := by
  refine Att.attach_call hn hdf fun w s₀ s₁ mg mb fa o pm cd doc a vs ns G Y ho hd hcd hmg hobj hints hlen hg => ?_
  obtain ⟨fd, hb, hF⟩ := F w mg fa _ (hY w _ Y) G.T.g hmg
  exact go_law (hY w _ Y) G.T.g G.T.b G.T.builtins G.T.nolimit hg hobj hints (Nat.le_trans hlen hn2) hr hF hb fun H z1 z2 => hsp _ H a ns hlen z1 z2
end Bk

namespace Bk
open PySem PySem.Spec PyProof.Rows L2
/-! ### the call of a def that shows things -/
theorem pe_callG {X : Cx} {j : Nat} {a : Addr} {fn : FuncData} {names : List Str} {sq : Sp} {y : Str} {q q' : Pos} {e1 : Expr} {rest : List Expr} {tt : TA}
    (F : FnG X.prog X.w X.K X.mg X.base j a fn names sq) (hg : X.A.guards = some []) (room : Room j X.A) (gl : Gl X y) (at_ : X.mg y = some (.ref a))
    (kp : PySem.W.keepIn X.K (.ref a) = true) (bs : Binds X.K fn names []) (args : PA X (e1 :: rest) tt)
    (nd : (y == ("__debug__" : Str)) = false := by decide)
    (hs : starEach (e1 :: rest) X.env = (false, eval e1 X.env) :: starEach rest X.env := by rfl)
    (hp : (backTo q' (starEach rest X.env)).any (·.1) = false := by rfl) :
    PE X (.Call (.Name y q) (e1 :: rest) [] q') (tCall sq [] E0 tt) := by
  constructor
  intro pins s σ H Q I hq
  refine wpAny_Call_Name_kw (ld_glob I gl at_ ?_ nd)
  have ran := args.run q' pins s σ H _ I hq
  refine PySem.W.callWith_K (h₀ := X.base) I.ok.mod.kin kp (thn ran ?_) hs hp
  rintro us s1 ⟨vs, H1, I1, r, z⟩
  refine ⟨I1.kIn, wpAny_call ?_⟩
  have rr : Vals (vs ++ []) (us ++ []) := r.append Paired.nil
  have len : (us ++ []).length = names.length := (rr.length.symm).trans (F.len _ _ _ _ z)
  have run := F.go X.A X.stack s1 H1 ⟨us, []⟩ (us ++ []) (vs ++ []) Q E0 hg room I1.env0 (bs s1 us I1.kIn len) rr z
  refine codeAny_mono run ?_
  rintro (e | fl) s2 h2
  · exact h2.elim
  · match fl, h2 with
    | .ret u, h2 => exact I1.after h2
end Bk

namespace Bk
open PySem PySem.Spec PyProof.Rows L2 RZ
section
variable {X : Cx} (K : PySem.W.Frag)
def rIxE (K : PySem.W.Frag) : R2 := fun x y H Q => rIxL K x y H Q ∨ rIxT K x y H Q
theorem kIxE (h : X.K = K) : IxR X (rIxE K) := h ▸ ix_list.or ix_tup
def rIndexI (K : PySem.W.Frag) : V → List V → Hp → VK → Prop := fun x xs H Q => ∃ p, ∃ ns : List Int, ∃ k : Int, x = .ref p ∧ xs = [.int k] ∧ SqL K H p (ns.map V.int) ∧ k ∈ ns ∧ ns.length ≤ sizeLine ∧ Q (.int (ns.idxOf k : Nat)) H
theorem kIndexI (h : X.K = K) : MtR X "list.index" (rIndexI K) := by
  subst h
  rintro pins s σ H x xs v us Q I rx rs ⟨p, ns, k, rfl, rfl, hq, hk, hz, q⟩
  cases rx
  obtain ⟨u, rfl, ru⟩ := rs.one
  obtain ⟨t, rfl⟩ := ru
  obtain ⟨its, r, pl, _⟩ := I.list hq
  exact SeqAt.list_index_ints pl.isList (intsAre_of r) hz hk ⟨.int _, H, I.tok _, ⟨_, rfl⟩, q⟩
end
theorem fn_or {P : Program} {w : World} {K : PySem.W.Frag} {mg : Str → Option Value} {base : Heap} {CX : CXT} {k : Nat} {f : Addr} {fd : FuncData} {ps : List Str} {sp sp' : Sp} (F : FnOk P w K mg base CX k f fd ps sp) (G : FnOk P w K mg base CX k f fd ps sp') :
    FnOk P w K mg base CX k f fd ps (fun vs H Q E => sp vs H Q E ∨ sp' vs H Q E) :=
  ⟨fun vs H Q E q => q.elim (F.len vs H Q E) (G.len vs H Q E), fun A outer s H args us vs Q E hr he hb hv hs => hs.elim (F.run A outer s H args us vs Q E hr he hb hv) (G.run A outer s H args us vs Q E hr he hb hv)⟩
theorem turn_of {K : PySem.W.Frag} {N : Addr → Prop} {H : Hp} {v : V} {d : PyData} {t : Trn} (h : Dq N H v d) (e : norm d = .list (t.map intD)) : ∃ a, v = .ref a ∧ (H a = some (.lst (trnV t)) ∨ FT H a (trnV t)) := by
  cases d with
  | list ds =>
    cases h with
    | lst h1 h2 h3 =>
      have := h3.ints (t := t) (by simpa only [norm, PyData.list.injEq] using e)
      subst this
      exact ⟨_, rfl, .inl h1⟩
  | tuple ds =>
    cases h with
    | tup h1 h2 =>
      have := h2.ints (t := t) (by simpa only [norm, PyData.list.injEq] using e)
      subst this
      exact ⟨_, rfl, .inr h1⟩
  | none => simp only [norm] at e; cases e
  | bool b => simp only [norm] at e; cases e
  | int i => simp only [norm] at e; cases e
  | str x => simp only [norm] at e; cases e
  | dict k => simp only [norm] at e; cases e
theorem ixE {K : PySem.W.Frag} {a : Addr} {xs : List V} {i : Int} {v : V} {H : Hp} {Q : VK} (h : H a = some (.lst xs) ∨ FT H a xs) (e : atI xs i = some v) (q : Q v H) : rIxE K (.ref a) (.int i) H Q :=
  h.elim (fun h => .inl ⟨a, xs, i, v, rfl, rfl, .inl (.inl h), e, q⟩) fun h => .inr ⟨a, xs, i, v, rfl, rfl, h.sqt, e, q⟩
theorem tupE {K : PySem.W.Frag} {a : Addr} {xs : List V} {H : Hp} {Q : VK} (h : H a = some (.lst xs) ∨ FT H a xs) (q : ∀ H' b, Same H H' → FT H' b xs → Q (.ref b) H') : rTupleF K [.ref a] H Q :=
  h.elim (fun h => ⟨a, xs, rfl, .inl ⟨.inl (.inl h), fun l o n d => q _ _ (same_new n) (FT.new d)⟩⟩) fun h => ⟨a, xs, rfl, .inr ⟨h.sqt, q _ _ (Same.refl _) h⟩⟩
theorem seq_same {a : Addr} {xs : List V} {H H' : Hp} (h : H a = some (.lst xs) ∨ FT H a xs) (s : Same H H') : H' a = some (.lst xs) ∨ FT H' a xs := h.imp (fun z => s _ _ z) fun z => z.mono s.tups
theorem setJ_comm {S : Spc} {b f n g : Nat} {x y : Jn} (h : (n, g) ≠ (b, f)) : setJ (setJ S n g x) b f y = setJ (setJ S b f y) n g x := by
  unfold setJ
  by_cases e : n = b
  · subst e
    rw [List.modify_modify_eq, List.modify_modify_eq]
    congr 1
    funext l
    exact List.set_comm _ _ (fun z => h (by rw [z]))
  · exact List.modify_modify_ne _ _ _ e
theorem join_sym {S : Spc} {b f n : Nat} {t : Trn} (ht : t ∈ allTurns) (hf : f < 4) (h : (n, tf t f) ≠ (b, f)) : joinJ S n (tf t f) b (back t) = joinJ S b f n t := by
  unfold joinJ
  rw [tf_back t ht f hf, back_back t ht]
  exact setJ_comm h
theorem erase_map {l : List Nat} {i : Nat} : (l.map intV).eraseIdx i = (l.eraseIdx i).map intV := by
  induction l generalizing i with
  | nil => rfl
  | cons x r ih =>
    cases i with
    | zero => rfl
    | succ i =>
      show intV x :: (r.map intV).eraseIdx i = intV x :: (r.eraseIdx i).map intV
      rw [ih]
theorem pop_ix {l : List Nat} {r : Int} (e : (l.map intV).length = l.length) (r0 : 0 ≤ r) (r1 : r < l.length) : seqIndex? r (l.map intV).length = some r.toNat := by
  have := seqIx_nat (n := (l.map intV).length) (k := r.toNat) (by rw [e]; omega)
  rw [Int.toNat_of_nonneg r0] at this
  exact this
theorem turn_dq {H : Hp} {a : Addr} {t : Trn} (h : H a = some (.lst (trnV t)) ∨ FT H a (trnV t)) : ∃ dt, Dq (fun _ => False) H (.ref a) dt ∧ norm dt = .list (t.map intD) := by
  have hn : norms (t.map intD) = t.map intD := by
    rw [norms_map, List.map_map]
    exact List.map_congr_left fun x _ => by simp only [Function.comp, intD, norm]
  rcases h with h | h
  · exact ⟨.list (t.map intD), .lst h (fun z => z) (dqs_ints t), by simp only [norm, hn]⟩
  · exact ⟨.tuple (t.map intD), .tup h (dqs_ints t), by simp only [norm, hn]⟩
theorem norm_turn (t : Trn) : norm (.tuple (t.map intD)) = .list (t.map intD) := by
  have hn : norms (t.map intD) = t.map intD := by
    rw [norms_map, List.map_map]
    exact List.map_congr_left fun x _ => by simp only [Function.comp, intD, norm]
  simp only [norm, hn]
theorem ints_shapedD (t : Trn) : SeqAt.shaped (.list (t.map intD)) = true := by
  rw [intD_map]
  exact ints_shaped _
theorem ints_eqv (t : Trn) : PyData.eqv (.list (t.map intD)) (.list (t.map intD)) = true := by
  refine SeqAt.eqv_refl _ ?_
  simp only [PyData.canLay0]
  induction t with
  | nil => rfl
  | cons x r ih => simpa only [List.map_cons, PyData.canLayAll0, intD, PyData.canLay0, Bool.true_and] using ih
mutual
theorem Dq.strong {N N' : Addr → Prop} {H : Hp} (n : ∀ a, N' a → N a ∨ H a = none) : ∀ {d : PyData} {v : V}, Dq N H v d → Dq N' H v d
  | .none, _, h => by
    cases h
    exact .non
  | .bool b, _, h => by
    cases h
    exact .bl b
  | .int i, _, h => by
    cases h
    exact .int i
  | .str x, _, h => by
    cases h
    exact .str x
  | .list ds, _, h => by
    cases h with
    | lst h1 h2 h3 => exact .lst h1 (fun z => (n _ z).elim h2 fun y => by rw [h1] at y; cases y) (Dqs.strong n h3)
  | .tuple ds, _, h => by
    cases h with
    | tup h1 h2 => exact .tup h1 (Dqs.strong n h2)
  | .dict _, _, h => by cases h
theorem Dqs.strong {N N' : Addr → Prop} {H : Hp} (n : ∀ a, N' a → N a ∨ H a = none) : ∀ {ds : List PyData} {vs : List V}, Dqs N H vs ds → Dqs N' H vs ds
  | [], _, h => by
    cases h
    exact .nil
  | d :: ds, _, h => by
    cases h with
    | cons h1 h2 => exact .cons (Dq.strong n h1) (Dqs.strong n h2)
end
/-- tuples of a space, from its data -/
theorem Dq.st {N : Addr → Prop} {H : Hp} {v : V} {S : Spc} (h : Dq N H v (shutD S)) : ST H v S := by
  have jat : ∀ {v : V} {j : Jn}, Dq N H v (jD j) → JAt H v j := by
    intro v j h
    cases j with
    | none => exact h.isNon (by simp only [jD, norm])
    | some k =>
      obtain ⟨n, t⟩ := k
      cases h with
      | tup g1 g2 =>
        obtain ⟨v1, w1, rfl, g3, g4⟩ := g2.uncons
        obtain ⟨v2, w2, rfl, g5, g6⟩ := g4.uncons
        cases g6
        cases g5 with
        | tup k1 k2 =>
          have e1 := g3.isInt (i := (n : Int)) (by simp only [intD, norm])
          subst e1
          have e2 := k2.ints (t := t) (by
            rw [norms_map, List.map_map]
            exact List.map_congr_left fun x _ => by simp only [Function.comp, intD, norm])
          subst e2
          exact ⟨_, _, rfl, g1, k1⟩
  have jats : ∀ {b : Blk} {vs : List V}, Dqs N H vs (b.map jD) → Paired (JAt H) vs b := by
    intro b
    induction b with
    | nil =>
      intro vs h
      cases h
      exact .nil
    | cons j b ih =>
      intro vs h
      obtain ⟨v, w, rfl, g1, g2⟩ := h.uncons
      exact .cons (jat g1) (ih g2)
  have bts : ∀ {S : Spc} {vs : List V}, Dqs N H vs (S.map fun b => .tuple (b.map jD)) → Paired (BT H) vs S := by
    intro S
    induction S with
    | nil =>
      intro vs h
      cases h
      exact .nil
    | cons b S ih =>
      intro vs h
      obtain ⟨v, w, rfl, g1, g2⟩ := h.uncons
      cases g1 with
      | tup k1 k2 => exact .cons ⟨_, _, rfl, k1, jats k2⟩ (ih g2)
  cases h with
  | tup g1 g2 => exact ⟨_, _, rfl, g1, bts g2⟩

theorem seq_of {a rest : TS} {D : Ends} {σ : L2.St} {H : Hp} (I : L2.St → Hp → Prop) (key : ∀ σ' H', I σ' H' → rest D σ' H') (h : ∀ r : TS, (∀ σ' H', I σ' H' → r D σ' H') → tSeq a r D σ H) : tSeq a rest D σ H := h rest key
/-- either reading of an expression -/
theorem pe_or2 {X : Cx} {e : Expr} {t u : TE} (h : PE X e t) (k : PE X e u) : PE X e (fun σ H Q => t σ H Q ∨ u σ H Q) := ⟨fun pins s σ H Q I q => q.elim (h.run pins s σ H Q I) (k.run pins s σ H Q I)⟩
theorem ixS {K : PySem.W.Frag} {a : Addr} {xs : List V} {i : Int} {v : V} {H : Hp} {Q : VK} (h : SqL K H a xs ∨ SqT K H a xs) (e : atI xs i = some v) (q : Q v H) : rIxE K (.ref a) (.int i) H Q :=
  h.elim (fun h => .inl ⟨a, xs, i, v, rfl, rfl, h, e, q⟩) fun h => .inr ⟨a, xs, i, v, rfl, rfl, h, e, q⟩
def rTupI (K : PySem.W.Frag) : V → List V → Hp → VK → Prop := fun x xs H Q => ∃ p, ∃ ns : List Int, ∃ k : Int, x = .ref p ∧ xs = [.int k] ∧ SqT K H p (ns.map V.int) ∧ k ∈ ns ∧ Q (.int (ns.idxOf k : Nat)) H
theorem kTupIxN {X : Cx} (K : PySem.W.Frag) (h : X.K = K) : MtR X "tuple.index" (rTupI K) := kTupIx K h
/-- o.index(e), o a list or a tuple -/
def tIdxE (K : PySem.W.Frag) (to : TE) (t : TA) : TE := fun σ H Q => tBM K "list" (rIndexI K) to t σ H Q ∨ tBMF (rTupI K) to t σ H Q
theorem pe_idxE {X : Cx} {K : PySem.W.Frag} {e : Expr} {to : TE} {t : TA} (h : PE X e (tBM K "list" (rIndexI K) to t)) (k : PE X e (tBMF (rTupI K) to t)) : PE X e (tIdxE K to t) := pe_or2 h k
theorem intV_map' (t : List Nat) : trnV t = (t.map fun c : Nat => (c : Int)).map V.int := by
  rw [List.map_map]
  rfl
theorem idxE {K : PySem.W.Frag} {to : TE} {t : TA} {σ : L2.St} {H : Hp} {Q : VK} (a : Addr) (o : List Nat) (b : Nat) (h1 : ∀ R : VK, R (.ref a) H → to σ H R) (h2 : ∀ R : List V → Hp → Prop, R [intV b] H → t σ H R)
    (ha : H a = some (.lst (trnV o)) ∨ FT H a (trnV o)) (mb : b ∈ o) (lo : o.length ≤ 1000) (q : Q (intV (o.idxOf b)) H) : tIdxE K to t σ H Q := by
  have mi : (b : Int) ∈ o.map fun c : Nat => (c : Int) := List.mem_map_of_mem mb
  have q' : Q (V.int (((o.map fun c : Nat => (c : Int)).idxOf (b : Int) : Nat) : Int)) H := by
    rw [idx_int]
    exact q
  rcases ha with ha | ha
  · refine .inl (h1 _ ⟨.inl ⟨rfl, _, .inl (.inl ha)⟩, h2 _ ⟨a, o.map (fun c : Nat => (c : Int)), b, rfl, rfl, ?_, mi, Nat.le_of_lt (small1000 (by rw [List.length_map]; exact lo)), q'⟩⟩)
    rw [← intV_map']
    exact .inl (.inl ha)
  · refine .inr (h1 _ ⟨⟨a, _, rfl, ha⟩, h2 _ ⟨a, o.map (fun c : Nat => (c : Int)), b, rfl, rfl, ?_, mi, q'⟩⟩)
    rw [← intV_map']
    exact ha.sqt
/-! ### names: an order, and a turn for each block -/
def nT (t : Trn) : PyData := .list (t.map intD)
def trnsD (ts : List Trn) : PyData := .list (ts.map nT)
/-- one of the turns that stand -/
theorem turns_at {K : PySem.W.Frag} {N : Addr → Prop} {H : Hp} {v : V} {d : PyData} {ts : List Trn} (h : Dq N H v d) (e : norm d = trnsD ts) {k : Nat} {t : Trn} (hk : ts[k]? = some t) :
    ∃ a xs x dx, v = .ref a ∧ (SqL K H a xs ∨ SqT K H a xs) ∧ xs.length = ts.length ∧ xs[k]? = some x ∧ Dq N H x dx ∧ norm dx = nT t := by
  obtain ⟨a, xs, ds, rfl, hq, _, hds, en⟩ := h.seq (K := K) e
  have ld : ds.length = ts.length := norm_len en
  obtain ⟨dx, hd⟩ : ∃ dx, ds[k]? = some dx := ⟨_, List.getElem?_eq_getElem (by have := (List.getElem?_eq_some_iff.mp hk).1; omega)⟩
  obtain ⟨x, hx, hxd⟩ := hds.get' hd
  obtain ⟨t', ht', et⟩ := norm_at en hd
  rw [hk] at ht'
  cases ht'
  exact ⟨a, xs, x, dx, rfl, hq, by rw [hds.len, ld], hx, hxd, et⟩
theorem Good.jokAt {S : Spc} (h : Good S) {b f : Nat} {j : Jn} (e : getJ S b f = some j) : Jok S.length j := fun n t z => by
  subst z
  exact ⟨h.lt e, (h.both _ _ _ _ e).1⟩
def tsAt (ts : List Trn) (k : Nat) : Trn := ts[k]?.getD []
def renJ (o : List Nat) (ts : List Trn) (bk : Trn) : Jn → Jn
  | none => none
  | some (n, t) => some (o.idxOf n, bk.map fun c => tf (tsAt ts (o.idxOf n)) (tf t c))
def renB (S : Spc) (o : List Nat) (ts : List Trn) (k : Nat) : Blk := (back (tsAt ts k)).map fun f => renJ o ts (back (tsAt ts k)) ((getJ S (tf o k) f).getD none)
def renS (S : Spc) (o : List Nat) (ts : List Trn) : Spc := (List.range S.length).map (renB S o ts)
structure Names (n : Nat) (o : List Nat) (ts : List Trn) : Prop where
  o : o.Perm (List.range n)
  l : ts.length = n
  t : ∀ t ∈ ts, t ∈ allTurns
theorem Names.lo {n : Nat} {o : List Nat} {ts : List Trn} (h : Names n o ts) : o.length = n := by rw [h.o.length_eq, List.length_range]
theorem Names.at {n : Nat} {o : List Nat} {ts : List Trn} (h : Names n o ts) {k : Nat} (hk : k < n) : o[k]? = some (tf o k) ∧ tf o k < n ∧ ts[k]? = some (tsAt ts k) ∧ tsAt ts k ∈ allTurns := by
  have e1 : o[k]? = some (o[k]'(by rw [h.lo]; exact hk)) := List.getElem?_eq_getElem _
  have e2 : ts[k]? = some (ts[k]'(by rw [h.l]; exact hk)) := List.getElem?_eq_getElem _
  have m1 := h.o.mem_iff.mp (List.mem_of_getElem? e1)
  rw [List.mem_range] at m1
  refine ⟨?_, ?_, ?_, ?_⟩
  · unfold tf
    rw [e1]
    rfl
  · unfold tf
    rw [e1]
    exact m1
  · unfold tsAt
    rw [e2]
    rfl
  · unfold tsAt
    rw [e2]
    exact h.t _ (List.mem_of_getElem? e2)
theorem Names.idx {n : Nat} {o : List Nat} {ts : List Trn} (h : Names n o ts) {b : Nat} (hb : b < n) : b ∈ o ∧ o.idxOf b < n := by
  have m : b ∈ o := h.o.mem_iff.mpr (List.mem_range.mpr hb)
  exact ⟨m, by rw [← h.lo]; exact List.idxOf_lt_length_iff.mpr m⟩
theorem back4 {t : Trn} (ht : t ∈ allTurns) : (back t).length = 4 ∧ (∀ c < 4, (back t)[c]? = some (tf (back t) c) ∧ tf (back t) c < 4) ∧ ∀ c ∈ back t, c < 4 := by
  have hb := back_mem ht
  have h4 := turns4 _ hb
  exact ⟨h4.1, fun c hc => ⟨(tf_lt _ hb c hc).2, (tf_lt _ hb c hc).1⟩, h4.2.1⟩
theorem renB_len {S : Spc} {o : List Nat} {ts : List Trn} {k : Nat} (h : tsAt ts k ∈ allTurns) : (renB S o ts k).length = 4 := by
  unfold renB
  rw [List.length_map, (back4 h).1]
theorem renS_len (S : Spc) (o : List Nat) (ts : List Trn) : (renS S o ts).length = S.length := by
  unfold renS
  rw [List.length_map, List.length_range]
theorem len3 {α : Type} {l : List α} (h : l.length = 3) : ∃ a b c, l = [a, b, c] := by
  match l, h with
  | [a, b, c], _ => exact ⟨a, b, c, rfl⟩
theorem p3 {α β : Type} {F : α → β → Prop} {xs : List α} {a b c : β} (h : Paired F xs [a, b, c]) : ∃ x y z, xs = [x, y, z] ∧ F x a ∧ F y b ∧ F z c := by
  cases h with
  | cons h0 h => cases h with
    | cons h1 h => cases h with
      | cons h2 h => cases h with
        | nil => exact ⟨_, _, _, rfl, h0, h1, h2⟩
theorem tiny3 {d0 d1 d2 : PyData} {b k : Nat} (h0 : Tiny d0 b k) (h1 : Tiny d1 b k) (h2 : Tiny d2 b k) : Tiny (.list [d0, d1, d2]) (b + b + b + 3) (k + 1) := by
  have a0 := h0.b
  have a1 := h1.b
  have a2 := h2.b
  have c0 := h0.k
  have c1 := h1.k
  have c2 := h2.k
  refine ⟨?_, ?_, ?_, ?_, ?_⟩
  · simp only [PyData.bulk, PyData.bulkAll]
    omega
  · simp only [PyData.depth, PyData.depthAll]
    omega
  · simp only [PyData.showable, PyData.showableAll, h0.s, h1.s, h2.s]
    rfl
  · simp only [PyData.hasDict, PyData.hasDictAll, h0.h, h1.h, h2.h]
    rfl
  · simp only [PyData.leavesShort, PyData.leavesShortAll, h0.l, h1.l, h2.l]
    rfl
theorem Tiny.le {d : PyData} {b k b' k' : Nat} (h : Tiny d b k) (hb : b ≤ b') (hk : k ≤ k') : Tiny d b' k' := ⟨Nat.le_trans h.b hb, Nat.le_trans h.k hk, h.s, h.h, h.l⟩
def tupD (t : Trn) : PyData := .tuple (t.map intD)
theorem norm_ints (t : Trn) : norms (t.map intD) = t.map intD := by
  rw [norms_map, List.map_map]
  exact List.map_congr_left fun x _ => by simp only [Function.comp, intD, norm]
theorem norm_tups (ts : List Trn) : norm (.list (ts.map tupD)) = trnsD ts := by
  have h : norms (ts.map tupD) = ts.map nT := by
    rw [norms_map, List.map_map]
    exact List.map_congr_left fun t _ => by simp only [Function.comp, tupD, norm, norm_ints, nT]
  simp only [norm, h, trnsD]
theorem norm_list (t : Trn) : norm (.list (t.map intD)) = .list (t.map intD) := by simp only [norm, norm_ints]
theorem tats_dqs {N : Addr → Prop} {H : Hp} : ∀ {ws : List V} {ts : List Trn}, Paired (TAt H) ws ts → Dqs N H ws (ts.map tupD)
  | _, _, .nil => .nil
  | _, _, .cons r t => by
    obtain ⟨p, rfl, fp⟩ := r
    exact .cons (.tup fp (dqs_ints _)) (tats_dqs t)
theorem order_tiny {o : List Nat} (h : ∀ x ∈ o, x < 64) (l : o.length ≤ 60) : Tiny (.list (o.map intD)) 1320 4 := by
  obtain ⟨h1, h2, h3, h4, h5⟩ := ints_tiny h
  exact ⟨by simp only [PyData.bulk, h1]; omega, by simp only [PyData.depth, h2]; omega, by simpa only [PyData.showable] using h3, by simpa only [PyData.hasDict] using h4, by simpa only [PyData.leavesShort] using h5⟩
theorem turns_tiny0 : ∀ {ts : List Trn}, (∀ t ∈ ts, t ∈ allTurns) → PyData.bulkAll (ts.map tupD) ≤ 5 * ts.length ∧ PyData.depthAll (ts.map tupD) ≤ 1 ∧ PyData.showableAll (ts.map tupD) = true ∧ PyData.hasDictAll (ts.map tupD) = false ∧ PyData.leavesShortAll 8 (ts.map tupD) = true
  | [], _ => by simp [PyData.bulkAll, PyData.depthAll, PyData.showableAll, PyData.hasDictAll, PyData.leavesShortAll]
  | t :: ts, h => by
    obtain ⟨h1, h2, h3, h4, h5⟩ := turns_tiny0 (ts := ts) fun y hy => h y (List.mem_cons_of_mem _ hy)
    have ht := turns4 t (h t List.mem_cons_self)
    obtain ⟨g1, g2, g3, g4, g5⟩ := ints_tiny (t := t) fun x hx => Nat.lt_of_lt_of_le (ht.2.1 x hx) (by decide)
    simp only [List.map_cons, PyData.bulkAll, PyData.depthAll, PyData.showableAll, PyData.hasDictAll, PyData.leavesShortAll, h3, h4, h5, tupD, PyData.bulk, PyData.depth, PyData.showable, PyData.hasDict, PyData.leavesShort, g1, g2, g3, g4, g5, List.length_cons]
    refine ⟨?_, ?_, rfl, rfl, rfl⟩
    · have := ht.1
      omega
    · omega
theorem turns_tiny {ts : List Trn} (h : ∀ t ∈ ts, t ∈ allTurns) (l : ts.length ≤ 60) : Tiny (.list (ts.map tupD)) 1320 4 := by
  obtain ⟨h1, h2, h3, h4, h5⟩ := turns_tiny0 h
  exact ⟨by simp only [PyData.bulk]; omega, by simp only [PyData.depth]; omega, by simpa only [PyData.showable] using h3, by simpa only [PyData.hasDict] using h4, by simpa only [PyData.leavesShort] using h5⟩
theorem ren_sb {S : Spc} {o : List Nat} {ts : List Trn} (hG : Good S) (hn : Names S.length o ts) (hl : S.length ≤ 40) : Sb (renS S o ts) := by
  refine ⟨by rw [renS_len]; exact hl, fun b hb => ?_⟩
  unfold renS at hb
  obtain ⟨k, hk, rfl⟩ := List.mem_map.mp hb
  have hk := List.mem_range.mp hk
  obtain ⟨eo, lo, et, mt⟩ := hn.at hk
  refine ⟨renB_len mt, fun j hj n t e => ?_⟩
  unfold renB at hj
  obtain ⟨f, hf, rfl⟩ := List.mem_map.mp hj
  have f4 := (back4 mt).2.2 f hf
  obtain ⟨x, hx⟩ := hG.l4.get (b := tf o k) (f := f) lo f4
  rw [hx] at e
  cases x with
  | none => cases e
  | some y =>
    obtain ⟨m, u⟩ := y
    obtain ⟨hm, hu⟩ := hG.jokAt hx m u rfl
    obtain ⟨_, im⟩ := hn.idx hm
    obtain ⟨_, _, _, ma⟩ := hn.at im
    cases e
    refine ⟨by omega, by rw [List.length_map, (back4 mt).1], fun z hz => ?_⟩
    obtain ⟨c, hc, rfl⟩ := List.mem_map.mp hz
    exact (tf_lt _ ma _ (tf_lt u hu c ((back4 mt).2.2 c hc)).1).1
theorem Names.lt {n : Nat} {o : List Nat} {ts : List Trn} (h : Names n o ts) : ∀ x ∈ o, x < n := fun x hx => List.mem_range.mp (h.o.mem_iff.mp hx)
end Bk

namespace Bk
open PySem PySem.Spec PyProof.Rows L2 RZ
local macro_rules | `(tactic| walk_at "g") => `(tactic| (repeat first | refine ⟨_, rfl, ?_⟩ | refine ⟨cpow, ?_⟩ | refine ⟨wideM, ?_⟩ | refine ⟨_, _, rfl, rfl, ?_⟩ | refine ⟨rfl, ?_⟩))
section
variable {P : Program} {w : World} {K : PySem.W.Frag} {mg : Str → Option Value} {base : Heap}
/-! ### contrary, of lists too -/
def spBackL : Sp := fun vs H Q _ => ∃ p t, vs = [.ref p] ∧ H p = some (.lst (trnV t)) ∧ t ∈ allTurns ∧ ∀ H' p', Same H H' → H p' = none → TAt H' (.ref p') (back t) → Q (.ref p') H'
theorem okcontraryL {f : Addr} {fd : FuncData} (F : Fun K "contrary" "contrary" scontrary f fd) (m_range : mg "range" = none) (m_tuple : mg "tuple" = none) : FnOk P w K mg base CX0 1 f fd ["turn"] spBackL := by
  refine F.ok sccontrary (fun vs H Q E h => ?_) (fun cdv A outer s H vs Q E hr h => ?_)
  · obtain ⟨p, t, rfl, _⟩ := h
    rfl
  · obtain ⟨p, t, rfl, hp, ht, q⟩ := h
    have nd := sccontrary.nd
    refine ⟨_, (pss_one (ps_ret (pe_callTy (kTupleF K rfl) (by rfl) m_tuple (by decide +kernel) (pa_cons (pe_lc (own := [("corner", 1)]) (g := gName 1) (tt := tYes) rfl nd (pi_range1 (by rfl) m_range (pa_cons pe_int pa_nil)) (blkOk_by (own := [("corner", 1)]) (N := Ncontrary) (sc := defScope scontrary) (by decide +kernel)) (fun _ _ _ _ _ => (pg_name (i := 1) nd rfl (Or.inl rfl))) (fun _ _ _ _ _ => pts_nil) (fun _ _ _ _ _ => (kBM K rfl (pe_bm PySem.F.plainAttrs_list PySem.F.slot_list_index PySem.F.type_list_index (kIndexI K rfl) (pv 0) (pa_cons (pv 1) pa_nil))))) pa_nil)))), ?_⟩
    refine ⟨4, rfl, by decide, by decide, fun D nD => ?_⟩
    have hpD : p ≠ D := ne_of_none hp nD
    refine lc_range (lo := 0) (n := 4) (fun i H2 => H2 = upd H D (.lst (((List.range i).map fun c => t.idxOf c).map intV))) rfl ?_ ?_
    · rintro c H2 hc rfl
      rw [Int.zero_add]
      have t4 := turns4 t ht
      have hm : (c : Int) ∈ t.map fun c : Nat => (c : Int) := List.mem_map_of_mem (List.mem_of_getElem? (t4.2.2.2.1 c hc))
      have h1 : (upd H D (.lst (((List.range c).map fun c => t.idxOf c).map intV))) p = some (.lst (trnV t)) := by
        rw [upd_ne hpD]
        exact hp
      refine ⟨rfl, .ref p, rfl, .inl ⟨rfl, _, .inl (.inl h1)⟩, _, rfl, p, t.map fun c : Nat => (c : Int), c, rfl, rfl, ?_, hm, Nat.le_of_lt (small1000 (by rw [List.length_map]; have := t4.1; omega)), ?_⟩
      · rw [← intV_map]
        exact .inl (.inl h1)
      rw [idx_int]
      refine ⟨_, upd_same, small1000 (by rw [List.length_map, List.length_map, List.length_range]; omega), ?_⟩
      rw [upd_upd, List.range_succ, List.map_append, List.map_append]
      rfl
    · rintro H2 rfl
      refine ⟨D, _, rfl, .inl ⟨.inl (.inl upd_same), fun p2 o2 np2 d2 => ?_⟩⟩
      exact q _ p2 ((same_new nD).trans (same_new np2)) ((same_new nD).free np2) ⟨p2, rfl, FT.new d2⟩
def spBackE : Sp := fun vs H Q E => spBack vs H Q E ∨ spBackL vs H Q E
theorem backE {a : Addr} {t : Trn} {H : Hp} {Q : VK} {E : XK} (h : H a = some (.lst (trnV t)) ∨ FT H a (trnV t)) (ht : t ∈ allTurns) (q : ∀ H' p', Same H H' → H p' = none → TAt H' (.ref p') (back t) → Q (.ref p') H') : spBackE [.ref a] H Q E :=
  h.elim (fun h => .inr ⟨a, t, rfl, h, ht, q⟩) fun h => .inl ⟨_, t, rfl, ⟨a, rfl, h⟩, ht, q⟩
end
end Bk

namespace Bk
open PySem PySem.Spec PyProof.Rows L2
/-! ### list(d.values()) -/
def rValsL : V → Hp → VK → Prop := fun x H Q => ∃ (d : Addr) (kvs : List (Key × V)), x = .ref d ∧ H d = some (.dK kvs) ∧ ∀ p, H p = none → Q (.ref p) (upd H p (.lst (kvs.map fun kv => kv.2)))
def tListVals (te : TE) : TE := fun σ H Q => te σ H fun x H1 => rValsL x H1 Q
theorem kv_snd : ∀ {kvs : List (Key × V)} {ws : List (Key × Value)}, KV kvs ws → Vals (kvs.map fun kv => kv.2) (ws.map fun kv => kv.2)
  | [], _, h => by
    cases h
    exact .nil
  | _ :: _, _, h => by
    cases h with
    | cons a b => exact .cons a.2 (kv_snd b)
section
variable {X : Cx} {e : Expr} {te : TE} {p apos cpos pos : Pos}
theorem pe_listVals (calm : X.calm = true) (ie : PE X e te) (gl : Gl X "list") (nm : X.mg "list" = none) (bl : bootBuiltins "list" = some (.type "list"))
    (b0 : attributeBase e "values" X.env (eval e X.env) = eval e X.env := by rfl) (ln : (apos.endLine == cpos.line) = true := by rfl)
    (st : starEach [.Call (.Attribute e "values" apos) [] [] cpos] X.env = (false, eval (.Call (.Attribute e "values" apos) [] [] cpos) X.env) :: starEach [] X.env := by rfl) :
    PE X (.Call (.Name "list" p) [.Call (.Attribute e "values" apos) [] [] cpos] [] pos) (tListVals te) := by
  constructor
  intro pins s σ H Q I hw
  apply wpAny_Call_Name_kw
  refine ld_blt I gl nm bl (PyProof.Rows.callWith_type1 ?_ st rfl)
  rw [st]
  show wpAny _ _ (spliced ((false, eval (.Call (.Attribute e "values" apos) [] [] cpos) X.env) :: backTo pos (starEach [] X.env))) _ _ s
  apply Calls.spliced_cons
  refine wpAny_Call_method (T := "dict") (id := "dict.values") b0 rfl ln F.plainAttrs_dict F.slot_dict_values F.type_dict_values ?_
  refine thn (ie.run pins s σ H _ I hw) ?_
  rintro u s1 ⟨x, H1, I1, rx, d, kvs, rfl, hd, q⟩
  obtain rfl : u = Value.ref d := rx
  obtain ⟨hz, lo, ws, kv, hdo⟩ := I1.hok d _ hd
  obtain ⟨ep, dat⟩ := hdo.dictAt
  have lk : kvs.length = ws.length := Paired.length kv
  let vw : Obj := { cls := .type "dict_values", data := .fields #[.ref d] }
  have I2 : Inv X pins σ H1 { s1 with heap := s1.heap.push vw } := I1.kept (t' := s1.toks) fun b ob z => Heap.get?_push_of_some _ z
  refine ⟨hdo.typeIs, hdo.mapOf.noDict, ?_⟩
  show wpAny _ _ (callWith cpos (.builtin "dict.values") [.ref d] [] []) _ X.xe s1
  refine method_meetsIn F.slot_dict_values F.entry_dict_values rfl (PySem.evalArgs_none ⟨rfl, hdo.typeIs, F.args_dict_values_1 _, _, meets_dict_values (mixKind X.prog X.w) d lo, ⟨ws, hdo⟩, ?_⟩)
  apply Calls.spliced_nil
  have view : (s1.heap.push vw).IsValuesView s1.heap.objs.size d := ⟨_, Heap.get?_push_size _ rfl, rfl, rfl⟩
  refine PySem.W.kdl_call (PySem.W.kdl_values (knd := mixKind X.prog X.w) (kvs := ws) (ep := ep)) (I1.ok.hd calm) ⟨view, dat.push _⟩ (by omega) ?_
  intro h' tk acc c keep hS hacc
  have new := I2.hok.fresh (Nat.le_refl _)
  refine ⟨.ref _, _, I2.laid (t' := tk) keep (Nat.le_refl _) (show ObjOk X.prog X.w _ _ _ (.lst (kvs.map fun kv => kv.2)) from ⟨?_, acc.toList, c, ?_, ?_⟩), rfl, q _ new⟩
  · rw [List.length_map]
    exact hz
  · have el : acc.toList.length = acc.size := by simp
    have e := PySem.W.kdl_vals_eq (kvs := ws) acc.toList (by rw [el, hacc.1]) fun j v z => hacc.2 j v (by rw [← Array.getElem?_toList]; exact z)
    rw [e]
    exact kv_snd kv
  · rw [Array.toArray_toList]
    exact hS
end
end Bk

namespace Bk
/-! ### things that hang together, told in rows -/
section
variable {α : Type}
theorem snoc_ind {P : List α → Prop} (h0 : P []) (h1 : ∀ l x, P l → P (l ++ [x])) (l : List α) : P l := by
  have go : ∀ l : List α, P l.reverse := by
    intro l
    induction l with
    | nil => exact h0
    | cons x l ih =>
      rw [List.reverse_cons]
      exact h1 _ _ ih
  have := go l.reverse
  rwa [List.reverse_reverse] at this
/-- the first one of each lot, in the list's order -/
def fstE (E : α → α → Bool) (l : List α) : List α := l.foldl (fun acc x => if acc.any (fun y => E y x) then acc else acc ++ [x]) []
theorem fstE_snoc (E : α → α → Bool) (l : List α) (x : α) : fstE E (l ++ [x]) = if (fstE E l).any (fun y => E y x) then fstE E l else fstE E l ++ [x] := by
  unfold fstE
  rw [List.foldl_append]
  rfl
theorem fstE_take {E : α → α → Bool} {l : List α} {i : Nat} {x : α} (h : l[i]? = some x) : fstE E (l.take (i + 1)) = if (fstE E (l.take i)).any (fun y => E y x) then fstE E (l.take i) else fstE E (l.take i) ++ [x] := by
  rw [List.take_add_one, h]
  exact fstE_snoc E _ x
theorem fstE_sub (E : α → α → Bool) : ∀ (l : List α) (y : α), y ∈ fstE E l → y ∈ l := by
  refine snoc_ind (fun y h => h) fun l x ih y h => ?_
  · skip
    rw [fstE_snoc] at h
    split at h
    · exact List.mem_append_left _ (ih y h)
    · rcases List.mem_append.mp h with h | h
      · exact List.mem_append_left _ (ih y h)
      · exact List.mem_append_right _ h
/-- the rows -/
def rowsE (E : α → α → Bool) (l : List α) : List (List α) := (fstE E l).map fun x => l.filter (E x)
theorem fstE_congr {E E' : α → α → Bool} : ∀ (l : List α), (∀ x ∈ l, ∀ y ∈ l, E x y = E' x y) → fstE E l = fstE E' l := by
  refine snoc_ind (fun _ => rfl) fun l x ih h => ?_
  · skip
    have ih := ih fun a ha b hb => h a (List.mem_append_left _ ha) b (List.mem_append_left _ hb)
    rw [fstE_snoc, fstE_snoc, ih]
    have e : (fstE E' l).any (fun y => E y x) = (fstE E' l).any (fun y => E' y x) := by
      have go : ∀ m : List α, (∀ y ∈ m, y ∈ l) → m.any (fun y => E y x) = m.any (fun y => E' y x) := by
        intro m hm
        induction m with
        | nil => rfl
        | cons a m im =>
          rw [List.any_cons, List.any_cons, im fun y hy => hm y (List.mem_cons_of_mem _ hy), h a (List.mem_append_left _ (hm a List.mem_cons_self)) x (List.mem_append_right _ (List.mem_singleton.mpr rfl))]
      exact go _ (fstE_sub E' l)
    rw [e]
theorem rowsE_congr {E E' : α → α → Bool} {l : List α} (h : ∀ x ∈ l, ∀ y ∈ l, E x y = E' x y) : rowsE E l = rowsE E' l := by
  unfold rowsE
  rw [fstE_congr l h]
  refine List.map_congr_left fun x hx => ?_
  refine List.filter_congr fun y hy => h x (fstE_sub E' l x hx) y hy
/-- an equivalence -/
structure EqvB (E : α → α → Bool) : Prop where
  rfl : ∀ x, E x x = true
  symm : ∀ x y, E x y = true → E y x = true
  trans : ∀ x y z, E x y = true → E y z = true → E x z = true
/-- what hangs together by steps of r, each of them both ways -/
inductive Hang (r : α → α → Prop) : α → α → Prop
  | rfl (x : α) : Hang r x x
  | step {x y z : α} : Hang r x y → r y z → Hang r x z
theorem Hang.trans {r : α → α → Prop} {x y z : α} (a : Hang r x y) (b : Hang r y z) : Hang r x z := by
  induction b with
  | rfl => exact a
  | step _ s ih => exact .step ih s
theorem Hang.one {r : α → α → Prop} {x y : α} (h : r x y) : Hang r x y := .step (.rfl x) h
theorem Hang.symm {r : α → α → Prop} (hr : ∀ x y, r x y → r y x) {x y : α} (a : Hang r x y) : Hang r y x := by
  induction a with
  | rfl => exact .rfl _
  | step _ s ih => exact (Hang.one (hr _ _ s)).trans ih
theorem Hang.mono {r r' : α → α → Prop} (h : ∀ x y, r x y → Hang r' x y) {x y : α} (a : Hang r x y) : Hang r' x y := by
  induction a with
  | rfl => exact .rfl _
  | step _ s ih => exact ih.trans (h _ _ s)
open Classical in
noncomputable def hangB (r : α → α → Prop) (x y : α) : Bool := @decide (Hang r x y) (propDecidable _)
theorem hangB_iff {r : α → α → Prop} {x y : α} : hangB r x y = true ↔ Hang r x y := by
  unfold hangB
  exact @decide_eq_true_iff _ (Classical.propDecidable _)
theorem hangB_eqv {r : α → α → Prop} (hr : ∀ x y, r x y → r y x) : EqvB (hangB r) :=
  ⟨fun x => hangB_iff.mpr (.rfl x), fun x y h => hangB_iff.mpr ((hangB_iff.mp h).symm hr), fun x y z a b => hangB_iff.mpr ((hangB_iff.mp a).trans (hangB_iff.mp b))⟩
theorem bool_ext {a b : Bool} (h : a = true ↔ b = true) : a = b := by
  cases a <;> cases b <;> simp_all
/-! labels: pairs put together one by one -/
def relab (lab : List Nat) (low high : Nat) : List Nat := if low = high then lab else lab.map fun m => if m = high then low else m
/-- labels are alike just where things hang together by the pairs so far -/
def LabOk (lab : List Nat) (r : Nat → Nat → Prop) : Prop := ∀ i j x y, lab[i]? = some x → lab[j]? = some y → (x = y ↔ Hang r i j)
theorem relab_len (lab : List Nat) (a b : Nat) : (relab lab a b).length = lab.length := by
  unfold relab
  split
  · rfl
  · rw [List.length_map]
theorem relab_get {lab : List Nat} {a b i : Nat} {x : Nat} (h : lab[i]? = some x) : (relab lab a b)[i]? = some (if x = b then a else x) := by
  unfold relab
  split
  · rename_i e
    subst e
    rw [h]
    split
    · rename_i z; rw [z]
    · rfl
  · rw [List.getElem?_map, h]
    rfl
def both2 (r : Nat → Nat → Prop) (p q : Nat) : Nat → Nat → Prop := fun x y => r x y ∨ (x = p ∧ y = q) ∨ (x = q ∧ y = p)
theorem both2_symm {r : Nat → Nat → Prop} (hr : ∀ x y, r x y → r y x) {p q : Nat} : ∀ x y, both2 r p q x y → both2 r p q y x := by
  rintro x y (h | ⟨rfl, rfl⟩ | ⟨rfl, rfl⟩)
  · exact .inl (hr _ _ h)
  · exact .inr (.inr ⟨rfl, rfl⟩)
  · exact .inr (.inl ⟨rfl, rfl⟩)
theorem hang_both2 {r : Nat → Nat → Prop} (hr : ∀ x y, r x y → r y x) {p q x y : Nat} (h : Hang (both2 r p q) x y) :
    Hang r x y ∨ (Hang r x p ∧ Hang r q y) ∨ (Hang r x q ∧ Hang r p y) := by
  induction h with
  | rfl => exact .inl (.rfl _)
  | step _ s ih =>
    rcases s with s | ⟨rfl, rfl⟩ | ⟨rfl, rfl⟩
    · rcases ih with a | ⟨a, b⟩ | ⟨a, b⟩
      · exact .inl (.step a s)
      · exact .inr (.inl ⟨a, .step b s⟩)
      · exact .inr (.inr ⟨a, .step b s⟩)
    · rcases ih with a | ⟨a, b⟩ | ⟨a, b⟩
      · exact .inr (.inl ⟨a, .rfl _⟩)
      · exact .inr (.inl ⟨a, .rfl _⟩)
      · exact .inl a
    · rcases ih with a | ⟨a, b⟩ | ⟨a, b⟩
      · exact .inr (.inr ⟨a, .rfl _⟩)
      · exact .inl a
      · exact .inr (.inr ⟨a, .rfl _⟩)
theorem Hang.weak2 {r : Nat → Nat → Prop} {p q x y : Nat} (h : Hang r x y) : Hang (both2 r p q) x y := h.mono fun _ _ s => .one (.inl s)
theorem LabOk.put {lab : List Nat} {r : Nat → Nat → Prop} (h : LabOk lab r) (hr : ∀ x y, r x y → r y x) {p q a b : Nat} (hp : lab[p]? = some a) (hq : lab[q]? = some b) : LabOk (relab lab a b) (both2 r p q) := by
  intro i j x y hi hj
  have li : i < lab.length := by
    have := (List.getElem?_eq_some_iff.mp hi).1
    rwa [relab_len] at this
  have lj : j < lab.length := by
    have := (List.getElem?_eq_some_iff.mp hj).1
    rwa [relab_len] at this
  have gi : lab[i]? = some lab[i] := List.getElem?_eq_getElem li
  have gj : lab[j]? = some lab[j] := List.getElem?_eq_getElem lj
  rw [relab_get gi] at hi
  rw [relab_get gj] at hj
  injection hi with hi
  injection hj with hj
  generalize lab[i] = u at *
  generalize lab[j] = v at *
  have e1 := h i j u v gi gj
  have e2 := h i p u a gi hp
  have e3 := h i q u b gi hq
  have e4 := h j p v a gj hp
  have e5 := h j q v b gj hq
  have pq : Hang (both2 r p q) p q := .one (.inr (.inl ⟨rfl, rfl⟩))
  have sy := fun {x y} (z : Hang (both2 r p q) x y) => z.symm (both2_symm hr)
  subst hi hj
  constructor
  · intro e
    by_cases c1 : u = b
    · rw [if_pos c1] at e
      have k1 := (e3.mp c1).weak2 (p := p) (q := q)
      by_cases c2 : v = b
      · exact k1.trans (sy (e5.mp c2).weak2)
      · rw [if_neg c2] at e
        exact (k1.trans (sy pq)).trans (sy (e4.mp e.symm).weak2)
    · rw [if_neg c1] at e
      by_cases c2 : v = b
      · rw [if_pos c2] at e
        exact ((e2.mp e).weak2.trans pq).trans (sy (e5.mp c2).weak2)
      · rw [if_neg c2] at e
        exact (e1.mp e).weak2
  · intro k
    have hs := fun {x y} (z : Hang r x y) => z.symm hr
    rcases hang_both2 hr k with k | ⟨k1, k2⟩ | ⟨k1, k2⟩
    · rw [e1.mpr k]
    · have u1 := e2.mpr k1
      have v1 := e5.mpr (hs k2)
      rw [if_pos v1, u1]
      split
      · rfl
      · rfl
    · have u1 := e3.mpr k1
      have v1 := e4.mpr (hs k2)
      rw [if_pos u1, v1]
      split
      · rfl
      · rfl
/-- by a list of pairs -/
def pairR (ps : List (Nat × Nat)) : Nat → Nat → Prop := fun x y => (x, y) ∈ ps ∨ (y, x) ∈ ps
theorem pairR_symm (ps : List (Nat × Nat)) : ∀ x y, pairR ps x y → pairR ps y x := fun _ _ h => h.symm
theorem LabOk.snoc {lab : List Nat} {ps : List (Nat × Nat)} (h : LabOk lab (pairR ps)) {p q a b : Nat} (hp : lab[p]? = some a) (hq : lab[q]? = some b) : LabOk (relab lab a b) (pairR (ps ++ [(p, q)])) := by
  have k := h.put (pairR_symm ps) hp hq
  have e : ∀ x y, both2 (pairR ps) p q x y ↔ pairR (ps ++ [(p, q)]) x y := by
    intro x y
    unfold both2 pairR
    simp only [List.mem_append, List.mem_singleton, Prod.mk.injEq]
    constructor
    · rintro ((h | h) | ⟨h1, h2⟩ | ⟨h1, h2⟩)
      · exact .inl (.inl h)
      · exact .inr (.inl h)
      · exact .inl (.inr ⟨h1, h2⟩)
      · exact .inr (.inr ⟨h2, h1⟩)
    · rintro ((h | ⟨h1, h2⟩) | (h | ⟨h1, h2⟩))
      · exact .inl (.inl h)
      · exact .inr (.inl ⟨h1, h2⟩)
      · exact .inl (.inr h)
      · exact .inr (.inr ⟨h2, h1⟩)
  intro i j x y hi hj
  refine (k i j x y hi hj).trans ⟨fun z => z.mono fun _ _ s => .one ((e _ _).mp s), fun z => z.mono fun _ _ s => .one ((e _ _).mpr s)⟩
theorem LabOk.start (n : Nat) : LabOk (List.range n) (pairR []) := by
  intro i j x y hi hj
  have e1 := (List.getElem?_eq_some_iff.mp hi)
  have e2 := (List.getElem?_eq_some_iff.mp hj)
  obtain ⟨l1, e1⟩ := e1
  obtain ⟨l2, e2⟩ := e2
  rw [List.getElem_range] at e1 e2
  subst e1 e2
  refine ⟨fun e => e ▸ .rfl _, fun h => ?_⟩
  induction h with
  | rfl => rfl
  | step _ s _ => exact absurd s (by unfold pairR; simp)
end
end Bk

namespace Bk
section
variable {α : Type} [DecidableEq α]
theorem nodup_filter {l : List α} (p : α → Bool) (h : l.Nodup) : (l.filter p).Nodup := List.Nodup.sublist List.filter_sublist h
theorem nodup_sub {l m : List α} (hl : l.Nodup) (hm : m.Nodup) (h : ∀ x ∈ l, x ∈ m) : l.Perm (m.filter fun x => decide (x ∈ l)) := by
  refine (List.perm_ext_iff_of_nodup hl (nodup_filter _ hm)).mpr fun a => ?_
  rw [List.mem_filter, decide_eq_true_eq]
  exact ⟨fun z => ⟨h a z, z⟩, fun z => z.2⟩
theorem nodup_len {l m : List α} (hl : l.Nodup) (hm : m.Nodup) (h : ∀ x ∈ l, x ∈ m) : l.length ≤ m.length := by
  rw [(nodup_sub hl hm h).length_eq]
  exact List.length_filter_le _ _
/-- what has been reached: row, of which wait is not looked at yet -/
structure Rch (lk : α → List α) (ts : List α) (a : α) (row wait : List α) : Prop where
  nd : row.Nodup
  sub : ∀ x ∈ row, x ∈ ts
  at_ : a ∈ row
  hang : ∀ x ∈ row, Hang (fun x y => y ∈ lk x) a x
  wt : ∀ x ∈ wait, x ∈ row
  cl : ∀ x ∈ row, x ∈ wait ∨ ∀ y ∈ lk x, y ∈ row
theorem Rch.start {lk : α → List α} {ts : List α} {a : α} (h : a ∈ ts) : Rch lk ts a [a] [a] :=
  ⟨by simp, fun x hx => by rw [List.mem_singleton.mp hx]; exact h, List.mem_singleton.mpr rfl, fun x hx => by rw [List.mem_singleton.mp hx]; exact .rfl _, fun x hx => hx, fun x hx => .inl hx⟩
/-- within the look at x, whose links done are all in -/
structure RchIn (lk : α → List α) (ts : List α) (a x : α) (done row wait : List α) : Prop where
  nd : row.Nodup
  sub : ∀ x ∈ row, x ∈ ts
  at_ : a ∈ row
  hang : ∀ x ∈ row, Hang (fun x y => y ∈ lk x) a x
  wt : ∀ x ∈ wait, x ∈ row
  cl : ∀ y ∈ row, y ∈ wait ∨ y = x ∨ ∀ z ∈ lk y, z ∈ row
  x : x ∈ row
  dn : ∀ y ∈ done, y ∈ row
theorem Rch.look {lk : α → List α} {ts : List α} {a x : α} {row wait : List α} (h : Rch lk ts a row (wait ++ [x])) : RchIn lk ts a x [] row wait :=
  ⟨h.nd, h.sub, h.at_, h.hang, fun y hy => h.wt y (List.mem_append_left _ hy), fun y hy => by
    rcases h.cl y hy with z | z
    · rcases List.mem_append.mp z with z | z
      · exact .inl z
      · exact .inr (.inl (List.mem_singleton.mp z))
    · exact .inr (.inr z), h.wt x (List.mem_append_right _ (List.mem_singleton.mpr rfl)), fun y hy => by cases hy⟩
theorem RchIn.old {lk : α → List α} {ts : List α} {a x y : α} {done row wait : List α} (h : RchIn lk ts a x done row wait) (hy : y ∈ row) : RchIn lk ts a x (done ++ [y]) row wait :=
  ⟨h.nd, h.sub, h.at_, h.hang, h.wt, h.cl, h.x, fun z hz => (List.mem_append.mp hz).elim (h.dn z) fun hz => by
    rw [List.mem_singleton.mp hz]
    exact hy⟩
theorem RchIn.new {lk : α → List α} {ts : List α} {a x y : α} {done row wait : List α} (h : RchIn lk ts a x done row wait) (hy : y ∉ row) (hl : y ∈ lk x) (ht : y ∈ ts) : RchIn lk ts a x (done ++ [y]) (row ++ [y]) (wait ++ [y]) := by
  have inr : ∀ z, z ∈ row → z ∈ row ++ [y] := fun z hz => List.mem_append_left _ hz
  have iny : y ∈ row ++ [y] := List.mem_append_right _ (List.mem_singleton.mpr rfl)
  refine ⟨?_, fun z hz => ?_, inr _ h.at_, fun z hz => ?_, fun z hz => ?_, fun z hz => ?_, inr _ h.x, fun z hz => ?_⟩
  · rw [List.nodup_append]
    refine ⟨h.nd, by simp, fun u hu v hv e => ?_⟩
    rw [List.mem_singleton.mp hv] at e
    exact hy (e ▸ hu)
  · rcases List.mem_append.mp hz with hz | hz
    · exact h.sub z hz
    · rw [List.mem_singleton.mp hz]
      exact ht
  · rcases List.mem_append.mp hz with hz | hz
    · exact h.hang z hz
    · rw [List.mem_singleton.mp hz]
      exact .step (h.hang x h.x) hl
  · rcases List.mem_append.mp hz with hz | hz
    · exact inr _ (h.wt z hz)
    · rw [List.mem_singleton.mp hz]
      exact iny
  · rcases List.mem_append.mp hz with hz | hz
    · rcases h.cl z hz with k | k | k
      · exact .inl (List.mem_append_left _ k)
      · exact .inr (.inl k)
      · exact .inr (.inr fun u hu => inr _ (k u hu))
    · exact .inl (List.mem_append_right _ hz)
  · rcases List.mem_append.mp hz with hz | hz
    · exact inr _ (h.dn z hz)
    · rw [List.mem_singleton.mp hz]
      exact iny
theorem RchIn.done {lk : α → List α} {ts : List α} {a x : α} {row wait : List α} (h : RchIn lk ts a x (lk x) row wait) : Rch lk ts a row wait :=
  ⟨h.nd, h.sub, h.at_, h.hang, h.wt, fun y hy => by
    rcases h.cl y hy with k | k | k
    · exact .inl k
    · rw [k]
      exact .inr h.dn
    · exact .inr k⟩
theorem Rch.mem {lk : α → List α} {ts : List α} {a : α} {row : List α} (h : Rch lk ts a row []) (x : α) : x ∈ row ↔ Hang (fun x y => y ∈ lk x) a x := by
  refine ⟨h.hang x, fun k => ?_⟩
  induction k with
  | rfl => exact h.at_
  | step _ s ih =>
    rcases h.cl _ ih with z | z
    · cases z
    · exact z _ s
/-- all of it, in the things' order -/
theorem Rch.perm {lk : α → List α} {ts : List α} {a : α} {row : List α} (h : Rch lk ts a row []) (hts : ts.Nodup) : row.Perm (ts.filter (hangB (fun x y => y ∈ lk x) a)) := by
  refine (List.perm_ext_iff_of_nodup h.nd (nodup_filter _ hts)).mpr fun x => ?_
  rw [List.mem_filter, hangB_iff, h.mem]
  exact ⟨fun z => ⟨h.sub x ((h.mem x).mpr z), z⟩, fun z => z.2⟩
end
end Bk

namespace Bk
open PySem PySem.Spec PyProof.Rows L2
/-! ### things as keys: whole numbers, or tuples of such, each by one number -/
structure Mo where
  t : Bool
  dec : Nat → List Int
  /-- how many can be sorted -/
  cap : Nat
def Mo.at (M : Mo) (H : Hp) (v : V) (n : Nat) : Prop := if M.t = true then ∃ p, v = .ref p ∧ H p = some (.tup ((M.dec n).map V.int)) else v = intV n
def Mo.key (M : Mo) (n : Nat) : List L2.Key := (M.dec n).map Sum.inl
def Mo.obj (M : Mo) (kvs : List (Nat × V)) : HO := if M.t = true then .dT (kvs.map fun q => (M.key q.1, q.2)) else .dK (kvs.map fun q => (Sum.inl (q.1 : Int), q.2))
/-- tuples that are told as such stand -/
def TupK (H H' : Hp) : Prop := ∀ b xs, H b = some (.tup xs) → H' b = some (.tup xs)
theorem TupK.refl (H : Hp) : TupK H H := fun _ _ h => h
theorem TupK.trans {H H1 H2 : Hp} (a : TupK H H1) (b : TupK H1 H2) : TupK H H2 := fun c xs h => b c xs (a c xs h)
theorem _root_.L2.Same.tupK {H H' : Hp} (a : Same H H') : TupK H H' := fun b xs h => a b _ h
theorem tupK_set {H : Hp} {p : Addr} {u o : HO} (h : H p = some u) (n : ∀ xs, u ≠ .tup xs) : TupK H (upd H p o) := fun b xs e => by
  rw [upd_ne (fun z => by
    rw [z, h] at e
    exact n xs (Option.some.inj e))]
  exact e
theorem tupK_lst {H : Hp} {p : Addr} {xs : List V} {o : HO} (h : H p = some (.lst xs)) : TupK H (upd H p o) := tupK_set h fun _ z => by cases z
theorem Mo.obj_tup (M : Mo) (kvs : List (Nat × V)) (xs : List V) : M.obj kvs ≠ .tup xs := by
  unfold Mo.obj
  split <;> intro z <;> cases z
theorem tupK_dic {M : Mo} {H : Hp} {p : Addr} {kvs : List (Nat × V)} {o : HO} (h : H p = some (M.obj kvs)) : TupK H (upd H p o) := tupK_set h (M.obj_tup kvs)
theorem Mo.at.mono {M : Mo} {H H' : Hp} {v : V} {n : Nat} (h : M.at H v n) (m : TupK H H') : M.at H' v n := by
  unfold Mo.at at *
  by_cases c : M.t = true
  · rw [if_pos c] at h ⊢
    obtain ⟨p, e, h⟩ := h
    exact ⟨p, e, m _ _ h⟩
  · rw [if_neg c] at h ⊢
    exact h
theorem Mo.obj_lst (M : Mo) (kvs : List (Nat × V)) (xs : List V) : M.obj kvs ≠ .lst xs := by
  unfold Mo.obj
  split <;> intro z <;> cases z
/-- what a mode's keys keep apart -/
def Mo.Inj (M : Mo) (N : Nat) : Prop := ∀ a b, a < N → b < N → M.dec a = M.dec b → a = b
theorem Mo.key_inj {M : Mo} {N a b : Nat} (h : M.Inj N) (ha : a < N) (hb : b < N) (e : M.key a = M.key b) : a = b := by
  refine h a b ha hb ?_
  unfold Mo.key at e
  exact List.map_inj_right (fun x y z => Sum.inl.inj z) |>.mp e
theorem valV_map_key {κ κ' : Type} [DecidableEq κ] [DecidableEq κ'] {f : κ → κ'} {k : κ} : ∀ {kvs : List (κ × V)}, (∀ q ∈ kvs, f q.1 = f k → q.1 = k) → valV (kvs.map fun q => (f q.1, q.2)) (f k) = valV kvs k
  | [], _ => rfl
  | q :: r, h => by
    rw [List.map_cons]
    by_cases e : q.1 = k
    · rw [valV_pos (p := (f q.1, q.2)) (by show f q.1 = f k; rw [e]), valV_pos e]
    · rw [valV_neg (p := (f q.1, q.2)) (fun z => e (h q List.mem_cons_self z)), valV_neg e]
      exact valV_map_key fun x hx => h x (List.mem_cons_of_mem _ hx)
theorem putK_map_key {κ κ' : Type} [DecidableEq κ] [DecidableEq κ'] {f : κ → κ'} {k : κ} {v : V} {kvs : List (κ × V)} (h : ∀ q ∈ kvs, f q.1 = f k → q.1 = k) : putK (kvs.map fun q => (f q.1, q.2)) (f k) v = (putK kvs k v).map fun q => (f q.1, q.2) := by
  unfold putK
  have e : ∀ {l : List (κ × V)}, (∀ q ∈ l, f q.1 = f k → q.1 = k) → ((l.map fun q => (f q.1, q.2)).any fun kv => decide (kv.1 = f k)) = l.any fun kv => decide (kv.1 = k) := by
    intro l hl
    induction l with
    | nil => rfl
    | cons q l ih =>
      rw [List.map_cons, List.any_cons, List.any_cons, ih fun x hx => hl x (List.mem_cons_of_mem _ hx)]
      exact congrArg (· || _) (decide_eq_decide.mpr ⟨hl q List.mem_cons_self, fun z => congrArg f z⟩)
  rw [e h]
  split
  · rw [List.map_map, List.map_map]
    refine List.map_congr_left fun q hq => ?_
    show (if f q.1 = f k then (f q.1, v) else (f q.1, q.2)) = (f (if q.1 = k then (q.1, v) else q).1, (if q.1 = k then (q.1, v) else q).2)
    by_cases z : q.1 = k
    · rw [if_pos (congrArg f z), if_pos z]
    · rw [if_neg (fun y => z (h q hq y)), if_neg z]
  · rw [List.map_append]
    rfl
theorem Mo.get {M : Mo} {N : Nat} {H : Hp} {d : Addr} {kvs : List (Nat × V)} {v : V} {n : Nat} (hi : M.Inj N) (hd : H d = some (M.obj kvs)) (hv : M.at H v n) (hk : ∀ q ∈ kvs, q.1 < N) (hn : n < N) : DGet H d v (valV kvs n) := by
  unfold Mo.obj Mo.at at *
  split at hd
  · rename_i ht
    rw [if_pos ht] at hv
    obtain ⟨p, rfl, hp⟩ := hv
    have e := DGet.t (k := M.key n) hd (by rw [hp]; unfold Mo.key; rw [List.map_map]; rfl)
    rw [valV_map_key fun q hq z => M.key_inj hi (hk q hq) hn z] at e
    exact e
  · rename_i ht
    rw [if_neg ht] at hv
    subst hv
    have e := DGet.k (k := (Sum.inl (n : Int) : L2.Key)) hd
    rw [valV_map_key (f := fun m : Nat => (Sum.inl (m : Int) : L2.Key)) fun q hq z => by injection z with z; omega] at e
    exact e
theorem Mo.put {M : Mo} {N : Nat} {H : Hp} {d : Addr} {kvs : List (Nat × V)} {v x : V} {n : Nat} (hi : M.Inj N) (hd : H d = some (M.obj kvs)) (hv : M.at H v n) (hk : ∀ q ∈ kvs, q.1 < N) (hn : n < N) (hz : kvs.length < sizeLine) :
    DPut H d v x (upd H d (M.obj (putK kvs n x))) := by
  unfold Mo.obj Mo.at at *
  split at hd
  · rename_i ht
    rw [if_pos ht] at hv
    obtain ⟨p, rfl, hp⟩ := hv
    have e := DPut.t (k := M.key n) (v := x) hd (by rw [hp]; unfold Mo.key; rw [List.map_map]; rfl) (by rw [List.length_map]; exact hz)
    rw [putK_map_key fun q hq z => M.key_inj hi (hk q hq) hn z] at e
    rw [if_pos ht]
    exact e
  · rename_i ht
    rw [if_neg ht] at hv
    subst hv
    have e := DPut.k (k := (Sum.inl (n : Int) : L2.Key)) (v := x) hd (by rw [List.length_map]; exact hz)
    rw [putK_map_key (f := fun m : Nat => (Sum.inl (m : Int) : L2.Key)) fun q hq z => by injection z with z; omega] at e
    rw [if_neg ht]
    exact e
/-! ### rules by a mode -/
theorem callR_or {X : Cx} {f : Value} {r1 r2 : List V → Hp → VK → Prop} (a : CallR X f r1) (b : CallR X f r2) : CallR X f (fun xs H Q => r1 xs H Q ∨ r2 xs H Q) := fun pins s σ H xs us Q I r h => h.elim (a pins s σ H xs us Q I r) (b pins s σ H xs us Q I r)
/-- sorted(a list of things) -/
def rSortE (M : Mo) (N : Nat) (K : PySem.W.Frag) : List V → Hp → VK → Prop := fun vs H Q => ∃ (a : Addr) (xs : List V) (l : List Nat), vs = [.ref a] ∧ H a = some (.lst xs) ∧ Paired (M.at H) xs l ∧ (∀ n ∈ l, n < N) ∧ l.length < M.cap ∧
  ∀ ys l' p, Paired (M.at H) ys l' → l'.Perm l → l'.Pairwise (· ≤ ·) → H p = none → Q (.ref p) (upd H p (.lst ys))
/-- sorted(a dict) -/
def rSortD (M : Mo) (N : Nat) (K : PySem.W.Frag) : List V → Hp → VK → Prop := fun vs H Q => ∃ (a : Addr) (kvs : List (Nat × V)), vs = [.ref a] ∧ H a = some (M.obj kvs) ∧ (∀ q ∈ kvs, q.1 < N) ∧ kvs.length < M.cap ∧
  ∀ ys l' p, Paired (M.at H) ys l' → l'.Perm (kvs.map (·.1)) → l'.Pairwise (· ≤ ·) → H p = none → Q (.ref p) (upd H p (.lst ys))
/-- list(a dict) -/
def rListM (M : Mo) : List V → Hp → VK → Prop := fun vs H Q => ∃ (a : Addr) (kvs : List (Nat × V)), vs = [.ref a] ∧ H a = some (M.obj kvs) ∧ ∀ ys p, Paired (M.at H) ys (kvs.map (·.1)) → H p = none → Q (.ref p) (upd H p (.lst ys))
/-- dict(a list of pairs) -/
def rDictM (M : Mo) (N : Nat) (K : PySem.W.Frag) : List V → Hp → VK → Prop := fun vs H Q => ∃ (a : Addr) (ps : List Addr) (kvs : List (Nat × V)), vs = [.ref a] ∧ H a = some (.lst (ps.map V.ref)) ∧ Paired (fun p q => ∃ v, H p = some (.tup [v, q.2]) ∧ M.at H v q.1) ps kvs ∧ (∀ q ∈ kvs, q.1 < N) ∧ (kvs.map (·.1)).Nodup ∧
  ∀ p, H p = none → Q (.ref p) (upd H p (M.obj kvs))
structure MoR (M : Mo) (N : Nat) (K : PySem.W.Frag) : Prop where
  inj : M.Inj N
  srt : ∀ X : Cx, X.K = K → X.A.units + 8 < cLine → CallR X (.builtin "sorted") (rSortE M N K)
  srtD : ∀ X : Cx, X.K = K → X.calm = true → X.A.units + 8 < cLine → CallR X (.builtin "sorted") (rSortD M N K)
  lst : ∀ X : Cx, X.K = K → X.calm = true → CallR X (.type "list") (rListM M)
  dic : ∀ X : Cx, X.K = K → X.calm = true → X.A.units + 8 < cLine → CallR X (.type "dict") (rDictM M N K)
theorem srtM {M : Mo} {N : Nat} {K : PySem.W.Frag} (R : MoR M N K) {X : Cx} (h : X.K = K) (u : X.A.units + 8 < cLine) : CallR X (.builtin "sorted") (rSortE M N K) := R.srt X h u
theorem srtDM {M : Mo} {N : Nat} {K : PySem.W.Frag} (R : MoR M N K) {X : Cx} (h : X.K = K) (c : X.calm = true) (u : X.A.units + 8 < cLine) : CallR X (.builtin "sorted") (rSortD M N K) := R.srtD X h c u
theorem lstM {M : Mo} {N : Nat} {K : PySem.W.Frag} (R : MoR M N K) {X : Cx} (h : X.K = K) (c : X.calm = true) : CallR X (.type "list") (rListM M) := R.lst X h c
theorem dicM {M : Mo} {N : Nat} {K : PySem.W.Frag} (R : MoR M N K) {X : Cx} (h : X.K = K) (c : X.calm = true) (u : X.A.units + 8 < cLine) : CallR X (.type "dict") (rDictM M N K) := R.dic X h c u
/-! whole numbers -/
def moI : Mo := ⟨false, fun n => [(n : Int)], 64⟩
theorem moI_at (H : Hp) (v : V) (n : Nat) : moI.at H v n ↔ v = intV n := Iff.rfl
theorem moI_list {H : Hp} : ∀ {xs : List V} {l : List Nat}, Paired (moI.at H) xs l → xs = l.map intV
  | _, _, .nil => rfl
  | _, _, .cons a t => by
    rw [List.map_cons, ← moI_list t]
    exact congrArg (· :: _) a
theorem moI_paired (H : Hp) : ∀ l : List Nat, Paired (moI.at H) (l.map intV) l
  | [] => .nil
  | n :: l => .cons rfl (moI_paired H l)
theorem ints_nat {l : List Nat} : l.map intV = (l.map fun n : Nat => (n : Int)).map V.int := by
  rw [List.map_map]
  rfl
theorem nats_of {l : List Nat} {ns : List Int} (h : ns.Perm (l.map fun n : Nat => (n : Int))) : ∃ l' : List Nat, ns = l'.map (fun n : Nat => (n : Int)) ∧ l'.Perm l := by
  refine ⟨ns.map Int.toNat, ?_, ?_⟩
  · rw [List.map_map]
    conv => lhs; rw [← List.map_id ns]
    refine List.map_congr_left fun x hx => ?_
    have := h.mem_iff.mp hx
    obtain ⟨y, _, rfl⟩ := List.mem_map.mp this
    rfl
  · have := h.map Int.toNat
    rw [List.map_map] at this
    refine this.trans (List.Perm.of_eq ?_)
    conv => rhs; rw [← List.map_id l]
    rfl
theorem nats_up {l : List Nat} (h : (l.map fun n : Nat => (n : Int)).Pairwise (· ≤ ·)) : l.Pairwise (· ≤ ·) := by
  rw [List.pairwise_map] at h
  exact h.imp fun z => by omega
theorem mergeK_nodup {κ : Type} [DecidableEq κ] : ∀ (more kvs : List (κ × V)), ((kvs ++ more).map (·.1)).Nodup → more.foldl (fun acc kv => putK acc kv.1 kv.2) kvs = kvs ++ more
  | [], kvs, _ => by simp
  | q :: r, kvs, h => by
    rw [List.foldl_cons]
    have n : valV kvs q.1 = none := by
      cases e : valV kvs q.1 with
      | none => rfl
      | some v =>
        have m := valV_in e
        rw [List.map_append, List.nodup_append] at h
        exact absurd rfl (h.2.2 _ m _ (List.mem_map_of_mem List.mem_cons_self))
    rw [putK_new _ n, mergeK_nodup r (kvs ++ [(q.1, q.2)]) (by simpa using h)]
    simp
theorem moI_rules (N : Nat) (K : PySem.W.Frag) : MoR moI N K := by
  refine ⟨fun a b _ _ h => by injection h with h; omega, fun X hX _ => ?_, fun X hX hc _ => ?_, fun X hX hc => ?_, fun X hX hc hu => ?_⟩
  · rintro pins s σ H vs us Q I r ⟨a, xs, l, rfl, ha, hp, _, hl, q⟩
    have ex := moI_list hp
    subst ex
    refine kSorted (K := K) hX pins s σ H _ us Q I r ⟨a, l.map fun n : Nat => (n : Int), rfl, .inl (.inl (.inl (by rw [ha, ints_nat]))), by rw [List.length_map]; exact hl, fun ns p h1 h2 hn => ?_⟩
    obtain ⟨l', rfl, h3⟩ := nats_of h1
    have := q _ l' p (moI_paired H l') h3 (nats_up h2) hn
    rw [ints_nat] at this
    exact this
  · rintro pins s σ H vs us Q I r ⟨a, kvs, rfl, ha, _, hl, q⟩
    refine call_sortedDI hc pins s σ H _ us Q I r ⟨a, _, (kvs.map (·.1)).map fun n : Nat => (n : Int), rfl, .inl ha, ?_, by have hl : kvs.length < 64 := hl; simpa using hl, fun ns p h1 h2 hn => ?_⟩
    · rw [List.map_map, List.map_map, List.map_map]
      rfl
    · obtain ⟨l', rfl, h3⟩ := nats_of h1
      have := q _ l' p (moI_paired H l') h3 (nats_up h2) hn
      rw [ints_nat] at this
      exact this
  · rintro pins s σ H vs us Q I r ⟨a, kvs, rfl, ha, q⟩
    refine call_list_dK hc pins s σ H _ us Q I r ⟨a, _, rfl, ha, fun p hn => ?_⟩
    have := q _ p (moI_paired H _) hn
    rw [List.map_map] at this ⊢
    exact this
  · rintro pins s σ H vs us Q I r ⟨a, ps, kvs, rfl, ha, hp, _, nd, q⟩
    refine call_dictP hc pins s σ H _ us Q I r ⟨a, ps, kvs.map fun q => ((Sum.inl (q.1 : Int) : L2.Key), q.2), rfl, .inl (.inl ha), ?_, fun p hn => ?_⟩
    · rename_i hb
      clear q nd ha r hb
      induction hp with
      | nil => exact .nil
      | cons x t ih =>
        obtain ⟨v, h1, h2⟩ := x
        refine .cons (.inl (.inl ?_)) ih
        rw [h1, show v = intV _ from h2]
        rfl
    · have e : mergeK [] (kvs.map fun q => ((Sum.inl (q.1 : Int) : L2.Key), q.2)) = kvs.map fun q => ((Sum.inl (q.1 : Int) : L2.Key), q.2) := by
        unfold mergeK
        rw [mergeK_nodup _ [] ?_, List.nil_append]
        rw [List.nil_append, List.map_map]
        have : (kvs.map (·.1)).map (fun n : Nat => (Sum.inl (n : Int) : L2.Key)) = kvs.map ((fun x => x.1) ∘ fun q => ((Sum.inl (q.1 : Int) : L2.Key), q.2)) := by
          rw [List.map_map]
          rfl
        rw [← this]
        refine List.Pairwise.map _ (fun x y h z => h ?_) nd
        injection z with z
        omega
      rw [e]
      exact q p hn
end Bk

namespace Bk
open PySem PySem.Spec PyProof.Rows L2
/-! ### dicts made of a mode's things -/
theorem Mo.obj_nil (M : Mo) : M.obj [] = .dK [] ∨ M.obj [] = .dT [] := by
  unfold Mo.obj
  split
  · exact .inr rfl
  · exact .inl rfl
section
variable {X : Cx} {pos : Pos}
def tDNewE : TE := fun _ H Q => ∃ o, (o = .dK [] ∨ o = .dT []) ∧ ∀ p, H p = none → Q (.ref p) (upd H p o)
theorem pe_dnewE : PE X (.Dict [] [] pos) tDNewE := by
  constructor
  rintro pins s σ H Q I ⟨o, rfl | rfl, q⟩
  · exact pe_dnewK.run pins s σ H Q I q
  · exact pe_dnewT.run pins s σ H Q I q
variable {pins : List (Addr × Obj)} {σ : L2.St} {H H' : Hp} {s : Shared} {E : Value → Shared → Prop}
/-- a thing stored by a display or a comprehension -/
theorem d_dset {D : Addr} {y v : V} {u r : Value} {Q : Unit → Shared → Prop} (room : X.A.units < cLine) (I : Inv X pins σ H s) (g : DPut H D y v H') (ry : RelV y u) (rv : RelV v r) (k : ∀ s', Inv X pins σ H' s' → Q () s') :
    wpAny (model X.prog X.w) X.A (dictSet D u r) Q E s := by
  rcases g with ⟨kvs, key, e, rfl, lt, rfl⟩ | ⟨kvs, key, b, e, rfl, eb, lt, rfl⟩
  · exact d_dictSet I e lt ry rv k
  · obtain rfl : u = Value.ref b := ry
    obtain ⟨z, low, xs, rel, dd⟩ := dt_of I.hok e
    have zx : xs.length ≤ sizeLine := by
      rw [← Paired.length rel]
      exact z
    have zp : (putK kvs key v).length ≤ sizeLine := Nat.le_trans (length_putK kvs key v) lt
    refine wpAny_dictSet_heap (hsz := zx) (knd := tupleKind (mixKind X.prog X.w)) room (key_of I.hok eb) dd ?_
    intro h' dd' same
    obtain ⟨ob, es, ep, at_, x2, x3, x4, _, x5⟩ := dd'
    refine k _ (d_write I ?_ same ⟨ob, at_⟩ ?_)
    · rw [e]
      exact True.intro
    · refine ⟨zp, low, _, ?_, ob, es, ep, at_, x2, x3, x4, x5⟩
      exact (rel.put key eb rv).keeps fun c ys ec => by
        have ne := ne_of ec e (fun z => by cases z)
        rw [upd_ne ne]
        exact ec
/-- {k: v} -/
def tOne (tk tv : TE) : TE := fun σ H Q => ∃ o, (o = .dK [] ∨ o = .dT []) ∧ ∀ p, H p = none → tk σ (upd H p o) fun x H1 => tv σ H1 fun y H2 => ∃ H3, DPut H2 p x y H3 ∧ Q (.ref p) H3
theorem pe_one1 {k v : Expr} {tk tv : TE} (room : X.A.units < cLine) (hk : PE X k tk) (hv : PE X v tv) : PE X (.Dict [some k] [v] pos) (tOne tk tv) := by
  constructor
  rintro pins s σ H Q I ⟨o, ho, q⟩
  have hn := I.hok.fresh (Nat.le_refl s.heap.objs.size)
  have I1 : Inv X pins σ (upd H s.heap.objs.size o) { s with heap := s.heap.push { cls := .type "dict", data := .dict #[] } } := by
    rcases ho with rfl | rfl
    · exact I.laid (t' := s.toks) (fun _ _ z => Heap.get?_push_of_some _ z) (Nat.le_refl _) (dk_empty s.heap I.big)
    · exact I.laid (t' := s.toks) (fun _ _ z => Heap.get?_push_of_some _ z) (Nat.le_refl _) (dt_empty s.heap I.big)
  refine wpAny_Dict_any (keys := [some k]) (values := [v]) rfl rfl (by simp) (by simp) ?_
  let R : List (V × V) → Hp → Prop := fun ps H2 => match ps with
    | [(x, y)] => ∃ H3, DPut H2 s.heap.objs.size x y H3 ∧ Q (.ref s.heap.objs.size) H3
    | _ => False
  refine thn ((pps_cons hk hv pps_nil).run pins _ σ _ R I1 (show tPairs [(tk, tv)] σ _ R from q _ hn)) ?_
  rintro ws s2 ⟨ps, H2, I2, rel, z⟩
  match ps, ws, rel, z with
  | [(x, y)], [b], .cons r .nil, z =>
    obtain ⟨H3, put, qq⟩ := z
    show wpAny _ _ (storeAll s.heap.objs.size [b]) _ _ s2
    unfold storeAll
    rw [List.forIn_cons]
    refine wpAny_bind (wpAny_bind (d_dset room I2 put r.1 r.2 fun s3 I3 => wpAny_pure ?_))
    exact wpAny_pure ⟨.ref _, H3, I3, rfl, qq⟩
end
end Bk

namespace Bk
open PySem PySem.Spec PyProof.Rows L2
/-! ### tuples of two numbers as keys: a thing n is (n // 4, n % 4) -/
def moT : Mo := ⟨true, fun n => [((n / 4 : Nat) : Int), ((n % 4 : Nat) : Int)], 1000⟩
theorem moT_iff (H : Hp) (v : V) (n : Nat) : moT.at H v n ↔ ∃ p, v = .ref p ∧ H p = some (.tup ((moT.dec n).map V.int)) := Iff.rfl
theorem moT_inj (N : Nat) : moT.Inj N := fun a b _ _ h => by
  injection h with h1 h2
  injection h2 with h2 _
  omega
theorem paired_perm {α β : Type} {F : α → β → Prop} {xs ys : List α} (h : ys.Perm xs) : ∀ {l : List β}, Paired F xs l → ∃ l', Paired F ys l' ∧ l'.Perm l := by
  induction h with
  | nil => exact fun p => ⟨_, p, .refl _⟩
  | cons x _ ih =>
    intro l p
    cases p with
    | cons r t =>
      obtain ⟨l', a, b⟩ := ih t
      exact ⟨_, .cons r a, b.cons _⟩
  | swap x y l0 =>
    intro l p
    cases p with
    | cons r t =>
      cases t with
      | cons r2 t2 => exact ⟨_, .cons r2 (.cons r t2), .swap _ _ _⟩
  | trans _ _ ih1 ih2 =>
    intro l p
    obtain ⟨l2, a, b⟩ := ih2 p
    obtain ⟨l3, c, d⟩ := ih1 a
    exact ⟨l3, c, d.trans b⟩
theorem paired_up {α β : Type} {F : α → β → Prop} {R : α → α → Prop} {S : β → β → Prop} {xs : List α} {l : List β} (p : Paired F xs l) (h : xs.Pairwise R) (m : ∀ x y a b, x ∈ xs → y ∈ xs → F x a → F y b → a ∈ l → b ∈ l → R x y → S a b) : l.Pairwise S := by
  induction p with
  | nil => exact .nil
  | @cons x a xs l r t ih =>
    obtain ⟨h1, h2⟩ := List.pairwise_cons.mp h
    refine .cons (fun b hb => ?_) (ih h2 fun x y a b hx hy f g ha hb => m x y a b (List.mem_cons_of_mem _ hx) (List.mem_cons_of_mem _ hy) f g (List.mem_cons_of_mem _ ha) (List.mem_cons_of_mem _ hb))
    obtain ⟨j, hj⟩ := List.mem_iff_getElem?.mp hb
    obtain ⟨y, hy, g⟩ := pget t hj
    have hy' := List.mem_of_getElem? hy
    exact m x y a b List.mem_cons_self (List.mem_cons_of_mem _ hy') r g List.mem_cons_self (List.mem_cons_of_mem _ hb) (h1 y hy')
end Bk

namespace Bk
open PySem PySem.Spec PyProof.Rows L2
/-! ### sorted(a dict of tuples), dict(pairs with tuples ahead) -/
/-- the tuples that a walk over the dict gives -/
theorem walk_keys {es : Array DictEntry} {ks : List (List L2.Key × Addr × Value)} {vs : Array Value} (hl : es.size = ks.length) (he : ∀ i (hi : i < es.size), ∃ y, ks[i]? = some y ∧ es[i].key = .ref y.2.1) (hv : ItemsOf (fun i v => ∃ en : DictEntry, es[i]? = some en ∧ v = en.key) vs es.size) :
    vs.toList = (ks.map fun y => y.2.1).map Value.ref := by
  obtain ⟨h1, h2⟩ := hv
  refine List.ext_getElem? fun j => ?_
  rw [List.map_map, List.getElem?_map]
  by_cases hj : j < es.size
  · obtain ⟨y, e1, e2⟩ := he j hj
    have hj2 : j < vs.toList.length := by
      rw [Array.length_toList, h1]
      exact hj
    obtain ⟨en, e3, e4⟩ := h2 j (vs.toList[j]) (by rw [← Array.getElem?_toList]; exact List.getElem?_eq_getElem hj2)
    rw [Array.getElem?_eq_getElem hj] at e3
    rw [List.getElem?_eq_getElem hj2, e1, e4, ← Option.some.inj e3, e2]
    rfl
  · rw [List.getElem?_eq_none (by rw [Array.length_toList, h1]; omega), List.getElem?_eq_none (by omega)]
    rfl
theorem kt_merge {H : Hp} : ∀ {more : List (List L2.Key × V)} {ps : List (List L2.Key × Addr × Value)} {kvs : List (List L2.Key × V)} {xs : List (List L2.Key × Addr × Value)}, KT H kvs xs → KT H more ps → KT H (more.foldl (fun acc kv => putK acc kv.1 kv.2) kvs) (storedAllH xs ps)
  | [], _, _, _, r, m => by
    cases m
    exact r
  | kv :: more, _, _, _, r, m => by
    cases m with
    | @cons _ p _ _ a t =>
      obtain ⟨e1, e2, e3⟩ := a
      have := r.put kv.1 e2 e3
      rw [show storedH _ kv.1 p.2.1 p.2.2 = storedH _ p.1 p.2.1 p.2.2 by rw [e1]] at this
      have z := kt_merge this t
      exact z
end Bk

namespace Bk
open PySem PySem.Spec PyProof.Rows L2 RZ
/-- sorted(xs), things that read as data of one kind -/
def rSortG {β : Type} (K : PySem.W.Frag) (enc : β → PyData) (At : Hp → V → β → Prop) : List V → Hp → VK → Prop := fun vs H Q => ∃ (a : Addr) (xs : List V) (bs : List β), vs = [.ref a] ∧ SqL K H a xs ∧ Paired (At H) xs bs ∧ ∀ l ys, H l = none → Paired (At H) ys (bs.mergeSort (PySem.W.dataLe false enc)) → Q (.ref l) (upd H l (.lst ys))
theorem kSortG {β : Type} {X : Cx} {K : PySem.W.Frag} {enc : β → PyData} {At : Hp → V → β → Prop} (h : X.K = K) (hat : ∀ H v b, At H v b → ∃ p, v = .ref p ∧ Dp K H v (enc b)) (hal : ∀ b b', PySem.W.alike (enc b) (enc b') = true) (hk : ∀ bs : List β, PySem.W.Sortable (bs.map enc)) (hd : ∀ b, (enc b).depth ≤ 4) (hu : X.A.units + 8 < cLine) : CallR X (.builtin "sorted") (rSortG K enc At) := by
  subst h
  rintro pins s σ H vs us Q I r ⟨a, xs, bs, rfl, hs, hp, q⟩
  obtain ⟨its, rv, hl, hz⟩ := I.list hs
  rw [Vals.ref1 r]
  have go : ∀ {xs : List V} {its : List Value} {bs : List β}, Vals xs its → Paired (At H) xs bs → PySem.W.EachIs (fun v b => ∃ p, v = Value.ref p ∧ At H (.ref p) b) its bs ∧ PySem.W.EachIs (fun v b => ∃ as, Reads s.heap v (enc b) as) its bs := by
    intro xs its bs rv hp
    induction hp generalizing its with
    | nil =>
      cases rv
      exact ⟨.nil, .nil⟩
    | cons x t ih =>
      cases rv with
      | cons r rr =>
        obtain ⟨p, rfl, dp⟩ := hat _ _ _ x
        obtain ⟨as, rd⟩ := Dp.reads I _ _ _ dp r
        obtain ⟨e1, e2⟩ := ih rr
        cases r
        exact ⟨.cons ⟨p, rfl, x⟩ e1, .cons ⟨as, rd⟩ e2⟩
  obtain ⟨e1, e2⟩ := go rv hp
  refine PySem.W.sorted_data hl.isList e1 e2 (PySem.W.AllAlike.of hal) (hk bs) (by rw [← e1.length, ← rv.length]; exact hz) (fun b _ => by have := hd b; omega) fun out lo eo => ?_
  have back : ∀ {out : List Value} {bs : List β}, PySem.W.EachIs (fun v b => ∃ p, v = Value.ref p ∧ At H (.ref p) b) out bs → ∃ ys, Vals ys out ∧ Paired (At H) ys bs := by
    intro out bs e
    induction e with
    | nil => exact ⟨[], .nil, .nil⟩
    | cons x t ih =>
      obtain ⟨p, rfl, z⟩ := x
      obtain ⟨ys, v, pp⟩ := ih
      exact ⟨.ref p :: ys, .cons rfl v, .cons z pp⟩
  obtain ⟨ys, vy, py⟩ := back eo
  obtain ⟨ep, he'⟩ := PyProof.Rows.sortedAll_at s.heap its out.toArray
  have hlen : ys.length ≤ sizeLine := by
    rw [vy.length, lo, ← e1.length, ← rv.length]
    exact hz
  exact ⟨.ref _, upd H (s.heap.objs.size + 1) (.lst ys), I.laid (t' := s.toks) (fun _ _ => PyProof.Rows.sortedAll_old) (Nat.le_succ _) ⟨hlen, out, ep, vy, he'⟩, rfl, q _ _ (I.hok.fresh (Nat.le_succ _)) py⟩
end Bk

/-! ### tuples of three numbers as keys: a thing n is (n // 16, n // 4 % 4, n % 4); any number of them -/
namespace Bk
open PySem PySem.Spec PyProof.Rows L2
def moQ : Mo := ⟨true, fun n => [((n / 16 : Nat) : Int), ((n / 4 % 4 : Nat) : Int), ((n % 4 : Nat) : Int)], 1000⟩
theorem moQ_inj (N : Nat) : moQ.Inj N := fun a b _ _ h => by
  injection h with h1 h2
  injection h2 with h2 h3
  injection h3 with h3 _
  omega
theorem moQ_tup {K : PySem.W.Frag} {H : Hp} {v : V} {n : Nat} (h : moQ.at H v n) : TupI K H v (moQ.dec n) := by
  obtain ⟨p, e, h⟩ := h
  exact ⟨p, e, .inl (.inl h)⟩
def encQ (n : Nat) : PyData := .tuple ((moQ.dec n).map PyData.int)
theorem dataLe_tups {β : Type} (x : β → List Int) : PySem.W.dataLe false (fun b => .tuple ((x b).map .int)) = fun p q => decide (x p ≤ x q) := by
  funext p q
  show (!PySem.W.dataLt (.tuple ((x q).map .int)) (.tuple ((x p).map .int))) = _
  rw [PySem.W.dataLt_tuple]
  show (!PySem.W.rowLt ((x q).map .int) ((x p).map .int)) = _
  rw [PySem.W.dataLt_ints]
  by_cases h : x q < x p
  · have h' : ¬ x p ≤ x q := fun r => List.not_lt.mpr r h
    simp [h, h']
  · have h' : x p ≤ x q := List.not_lt.mp h
    simp [h, h']
theorem decQ_le (n m : Nat) : moQ.dec n ≤ moQ.dec m ↔ n ≤ m := by
  have lt : moQ.dec m < moQ.dec n ↔ m < n := by
    show [((m / 16 : Nat) : Int), ((m / 4 % 4 : Nat) : Int), ((m % 4 : Nat) : Int)] < [((n / 16 : Nat) : Int), ((n / 4 % 4 : Nat) : Int), ((n % 4 : Nat) : Int)] ↔ m < n
    simp only [List.cons_lt_cons_iff, List.not_lt_nil, and_false, or_false]
    omega
  constructor
  · intro h
    by_cases c : n ≤ m
    · exact c
    · exact absurd (lt.mpr (by omega)) (List.not_lt.mpr h)
  · intro h
    exact List.not_lt.mp fun z => by
      have := lt.mp z
      omega
theorem leQ : PySem.W.dataLe false encQ = fun n m => decide (n ≤ m) := by
  have e : PySem.W.dataLe false encQ = fun p q => decide (moQ.dec p ≤ moQ.dec q) := dataLe_tups moQ.dec
  rw [e]
  funext n m
  by_cases h : n ≤ m
  · rw [decide_eq_true h, decide_eq_true ((decQ_le n m).mpr h)]
  · rw [decide_eq_false h, decide_eq_false (fun z => h ((decQ_le n m).mp z))]
theorem encQ_alike : ∀ b b', PySem.W.alike (encQ b) (encQ b') = true := fun b b' => by
  unfold encQ
  rw [PySem.W.alike]
  exact PySem.W.alike_ints _ _
theorem encQ_key (bs : List Nat) : PySem.W.Sortable (bs.map encQ) := PySem.W.Sortable.tuples fun b => ⟨_, _, rfl⟩
theorem encQ_deep (b : Nat) : (encQ b).depth ≤ 4 := by
  unfold encQ
  rw [PyData.depth, PySem.W.depth_ints]
  decide
theorem moQ_at {K : PySem.W.Frag} : ∀ H v b, moQ.at H v b → ∃ p, v = .ref p ∧ Dp K H v (encQ b) := fun H v b ⟨p, e, h⟩ => ⟨p, e, by
  subst e
  exact .tup (.inl (.inl h)) (dp_ints _)⟩
theorem sortQ_perm (l : List Nat) : (l.mergeSort (PySem.W.dataLe false encQ)).Perm l ∧ (l.mergeSort (PySem.W.dataLe false encQ)).Pairwise (· ≤ ·) := by
  rw [leQ]
  refine ⟨List.mergeSort_perm _ _, ?_⟩
  have := List.pairwise_mergeSort (le := fun n m : Nat => decide (n ≤ m)) (fun a b c h k => decide_eq_true (Nat.le_trans (of_decide_eq_true h) (of_decide_eq_true k))) (fun a b => by
    rcases Nat.le_total a b with h | h
    · rw [decide_eq_true h, Bool.true_or]
    · rw [decide_eq_true h, Bool.or_true]) l
  exact this.imp fun z => of_decide_eq_true z
theorem moQ_srt {N : Nat} {K : PySem.W.Frag} {X : Cx} (hX : X.K = K) (hu : X.A.units + 8 < cLine) : CallR X (.builtin "sorted") (rSortE moQ N K) := by
  have c : CallR X (.builtin "sorted") (rSortG K encQ moQ.at) := kSortG hX moQ_at encQ_alike encQ_key encQ_deep hu
  rintro pins s σ H vs us Q I r ⟨a, xs, l, rfl, ha, hp, hN, hl, q⟩
  obtain ⟨e1, e2⟩ := sortQ_perm l
  exact c pins s σ H _ us Q I r ⟨a, xs, l, rfl, .inl (.inl ha), hp, fun p ys np py => q ys _ p py e1 e2 np⟩
def qKvs (kvs : List (Nat × V)) : List (List L2.Key × V) := kvs.map fun q => (moQ.key q.1, q.2)
theorem moQ_obj (kvs : List (Nat × V)) : moQ.obj kvs = .dT (qKvs kvs) := rfl
theorem keysQ_paired {H : Hp} : ∀ {kvs : List (Nat × V)} {bs : List Addr}, IsKeys H (qKvs kvs) bs → Paired (moQ.at H) (bs.map V.ref) (kvs.map (·.1))
  | [], _, h => by
    cases h
    exact .nil
  | q :: r, _, h => by
    cases h with
    | cons a t =>
      refine .cons ⟨_, rfl, ?_⟩ (keysQ_paired t)
      rw [a]
      show some (HO.tup (((moQ.dec q.1).map Sum.inl).map kV)) = _
      rw [List.map_map]
      rfl
theorem moQ_lst {X : Cx} (hc : X.calm = true) : CallR X (.type "list") (rListM moQ) := by
  rintro pins s σ H vs us Q I r ⟨a, kvs, rfl, ha, q⟩
  exact call_list_dT hc pins s σ H _ us Q I r ⟨a, qKvs kvs, rfl, .inl ha, fun p bs hn hk => q _ p (keysQ_paired hk) hn⟩
theorem moQ_srtD {K : PySem.W.Frag} {X : Cx} {N : Nat} (hc : X.calm = true) (hu : X.A.units + 8 < cLine) : CallR X (.builtin "sorted") (rSortD moQ N K) := by
  rintro pins s σ H vs us Q I r ⟨a, kvs, rfl, ha, hN, hl, q⟩
  have hl : kvs.length < 1000 := hl
  obtain ⟨u, rfl, rx⟩ := r.one
  cases rx
  obtain ⟨z, lo, ks, pr, dd⟩ := dt_of I.hok (show H a = some (.dT (qKvs kvs)) from ha)
  obtain ⟨es, ep, ⟨o, g1, g2, g3⟩, hes, hen⟩ := dd.raw
  have lk : kvs.length = ks.length := by
    have := plen pr
    unfold qKvs at this
    rw [List.length_map] at this
    exact this
  have isk := isKeys_of pr
  have kp := keysQ_paired isk
  generalize hbs : (ks.map fun y => y.2.1) = bs at isk kp
  have lb : bs.length = kvs.length := by rw [← hbs, List.length_map, lk]
  refine Calls.call_function_entry kind_sorted plain_sorted entry_sorted (args_sorted1 _) ?_
  unfold Builtin.«sorted»
  refine wpAny_bind (m := checkCount "sorted" 1 1 _) (wpAny_pure ?_)
  have hes' : es.size ≤ sizeLine := by
    rw [sizeLine_eq]
    omega
  refine wpAny_bind (PySem.W.kdu_collect (A := X.A.in1) (kdl_raw lo g2 g3) (I.ok.hd hc) g1 hes' fun h' tk acc hk hacc => ?_)
  have eacc : acc.toList = bs.map Value.ref := by
    rw [← hbs]
    exact walk_keys hes (fun i hi => by obtain ⟨y, e1, e2, _⟩ := hen i hi; exact ⟨y, e1, e2⟩) hacc
  have I1 : Inv X pins σ H { s with heap := h', toks := tk } := I.kept hk
  generalize hacl : acc.toList = al at eacc
  have lal : al.length = kvs.length := by rw [eacc, List.length_map, lb]
  refine wpAny_bind (wpAny_newList ?_ (by rw [lal, sizeLine_eq]; omega))
  have new : (h'.push (seqObj "list" al.toArray 0)).get? h'.objs.size = some (seqObj "list" al.toArray 0) := Heap.get?_push_size _ rfl
  have each : PySem.W.EachIs (fun v b => ∃ p, v = Value.ref p ∧ moQ.at H (.ref p) b) al (kvs.map (·.1)) ∧ PySem.W.EachIs (fun v b => ∃ as, Reads (h'.push (seqObj "list" al.toArray 0)) v (encQ b) as ∧ h'.objs.size ∉ as) al (kvs.map (·.1)) := by
    have go : ∀ {bs : List Addr} {l : List Nat}, Paired (moQ.at H) (bs.map V.ref) l → PySem.W.EachIs (fun v b => ∃ p, v = Value.ref p ∧ moQ.at H (.ref p) b) (bs.map Value.ref) l ∧ PySem.W.EachIs (fun v b => ∃ as, Reads (h'.push (seqObj "list" al.toArray 0)) v (encQ b) as ∧ h'.objs.size ∉ as) (bs.map Value.ref) l := by
      intro bs
      induction bs with
      | nil =>
        intro l p
        cases p
        exact ⟨.nil, .nil⟩
      | cons b bs ih =>
        intro l p
        cases p with
        | cons f t =>
          obtain ⟨e1, e2⟩ := ih t
          obtain ⟨p0, e0, dp⟩ := moQ_at (K := X.K) _ _ _ f
          obtain ⟨as, rd⟩ := Dp.reads I1 _ _ _ dp (show RelV (V.ref b) (.ref b) from rfl)
          refine ⟨.cons ⟨b, rfl, f⟩ e1, .cons ⟨as, Reads.keeps (fun c ob ec => Heap.get?_push_of_some _ ec) rd, fun z => ?_⟩ e2⟩
          obtain ⟨ob, eo⟩ := PyProof.On.reads_mem_get rd _ z
          exact Nat.lt_irrefl _ (Heap.lt_size eo)
    have := go kp
    rw [← eacc] at this
    exact this
  show wpAny _ _ _ _ _ { s with heap := h'.push (seqObj "list" al.toArray 0), toks := tk }
  refine wpAny_bind (wpAny_holding (PySem.W.list_sort_data (enc := encQ) (s := { s with heap := h'.push (seqObj "list" al.toArray 0), toks := tk }) new each.1 each.2 (PySem.W.AllAlike.of encQ_alike) (encQ_key _) (by rw [List.length_map, sizeLine_eq]; have : kvs.length < 1000 := hl; omega) (fun b _ => ?_) fun out lo eo => ?_))
  · have e1 := encQ_deep b
    have e : X.A.in1.units + 1 ≤ X.A.units + 4 := by
      simp [Around.in1, Around.units]
      try omega
    omega
  · obtain ⟨cap, at_⟩ := sortedHeap_at (vs := al) (out := out.toArray) new
    obtain ⟨p2, srt⟩ := sortQ_perm (kvs.map (·.1))
    obtain ⟨cs, ho, p1⟩ : ∃ cs : List Addr, out = cs.map Value.ref ∧ Paired (moQ.at H) (cs.map V.ref) ((kvs.map (·.1)).mergeSort (PySem.W.dataLe false encQ)) := by
      have : ∀ {out : List Value} {l : List Nat}, PySem.W.EachIs (fun v b => ∃ p, v = Value.ref p ∧ moQ.at H (.ref p) b) out l → ∃ cs : List Addr, out = cs.map Value.ref ∧ Paired (moQ.at H) (cs.map V.ref) l := by
        intro out l e
        induction e with
        | nil => exact ⟨[], rfl, .nil⟩
        | cons x t ih =>
          obtain ⟨p, rfl, z⟩ := x
          obtain ⟨cs, rfl, pp⟩ := ih
          exact ⟨p :: cs, rfl, .cons z pp⟩
      exact this eo
    have len : (cs.map V.ref).length ≤ sizeLine := by
      have := plen p1
      rw [this, List.length_mergeSort, List.length_map, sizeLine_eq]
      omega
    refine wpAny_pure ⟨_, rfl, .ref h'.objs.size, upd H h'.objs.size (.lst (cs.map V.ref)), I1.laid (t' := tk) (fun b ob eb => ?_) (Nat.le_refl _) ⟨len, out, cap, by rw [ho]; exact vals_refs _, at_⟩, rfl, q _ _ _ p1 p2 srt (I1.hok.fresh (Nat.le_refl _))⟩
    have lt : b < h'.objs.size := Heap.lt_size eb
    rw [sortedHeap_old (Nat.ne_of_lt lt) (by rw [size_push']; exact Nat.lt_succ_of_lt lt)]
    exact Heap.get?_push_of_some _ eb
theorem moQ_dic {K : PySem.W.Frag} {X : Cx} {N : Nat} (hc : X.calm = true) (hu : X.A.units + 8 < cLine) : CallR X (.type "dict") (rDictM moQ N K) := by
  rintro pins s σ H vs us Q I r ⟨a, ps, kvs, rfl, ha, hp, hN, nd, q⟩
  obtain ⟨u, rfl, rx⟩ := r.one
  cases rx
  obtain ⟨its, rv, pl, hz⟩ := I.list (show SqL X.K H a (ps.map V.ref) from .inl (.inl ha))
  obtain rfl := refs_at rv
  rw [List.length_map] at hz
  -- the pairs, as they stand
  have go : ∀ {ps : List Addr} {kvs : List (Nat × V)}, Paired (fun p q => ∃ v, H p = some (.tup [v, q.2]) ∧ moQ.at H v q.1) ps kvs →
      ∃ ws : List (List L2.Key × Addr × Value), KT H (qKvs kvs) ws ∧ ws.length = ps.length ∧ ∀ (j : Nat) (y : List L2.Key × Addr × Value), ws[j]? = some y → ∃ b, ps[j]? = some b ∧ IsTup s.heap b #[.ref y.2.1, y.2.2] := by
    intro ps kvs h
    induction h with
    | nil => exact ⟨[], .nil, rfl, fun j y e => by simp at e⟩
    | @cons p kv ps kvs x t ih =>
      obtain ⟨ws, w1, w2, w3⟩ := ih
      obtain ⟨v, e1, b, rfl, e2⟩ := x
      obtain ⟨its, rv, ht, _⟩ := I.tuple (show SqT X.K H p [.ref b, kv.2] from .inl (.inl e1))
      obtain ⟨u, y, rfl, ru, ry⟩ := vals2 rv
      cases ru
      refine ⟨(moQ.key kv.1, b, y) :: ws, .cons ⟨rfl, ?_, ry⟩ w1, by rw [List.length_cons, List.length_cons, w2], fun j z e => ?_⟩
      · rw [e2]
        show _ = some (HO.tup (((moQ.dec kv.1).map Sum.inl).map kV))
        rw [List.map_map]
        rfl
      · cases j with
        | zero =>
          cases Option.some.inj e
          exact ⟨p, rfl, ht⟩
        | succ j =>
          obtain ⟨b', f1, f2⟩ := w3 j z (by simpa using e)
          exact ⟨b', by simpa using f1, f2⟩
  obtain ⟨ws, w1, w2, w3⟩ := go hp
  obtain ⟨o, n, ho, hcl, hd, hdat⟩ := pl
  have keys : ∀ x ∈ ws, (tupleKind (mixKind X.prog X.w)).is s.heap x.1 x.2.1 := fun x hx => by
    obtain ⟨j, hj⟩ := List.mem_iff_getElem?.mp hx
    obtain ⟨kv, _, e1, e2, _⟩ := pget w1 hj
    rw [← e1]
    exact key_of I.hok e2
  have nd' : ((qKvs kvs).map (·.1)).Nodup := by
    unfold qKvs
    rw [List.map_map, show ((fun x : List L2.Key × V => x.1) ∘ fun q : Nat × V => (moQ.key q.1, q.2)) = moQ.key ∘ fun q => q.1 from rfl, ← List.map_map]
    refine List.Pairwise.map _ (fun x y h z => h ?_) nd
    have := List.map_inj_right (f := (Sum.inl : Int → L2.Key)) (fun a b e => Sum.inl.inj e) |>.mp z
    injection this with h1 h2
    injection h2 with h2 h3
    injection h3 with h3 _
    omega
  have P := PairArg.list (prog := X.prog) (w := X.w) a (ps.map Value.ref).toArray (fun j => ps.getD j 0) (ws.map fun y => (Value.ref y.2.1, y.2.2))
  have hget : ∀ (j : Nat) (k v : Value), (ws.map fun y => (Value.ref y.2.1, y.2.2))[j]? = some (k, v) → ∃ y, ws[j]? = some y ∧ k = .ref y.2.1 ∧ v = y.2.2 := fun j k v e => by
    rw [List.getElem?_map] at e
    obtain ⟨y, e1, e2⟩ := Option.map_eq_some_iff.mp e
    injection e2 with e2 e3
    exact ⟨y, e1, e2.symm, e3.symm⟩
  have ok : PlainSeq "list" s.heap a (ps.map Value.ref).toArray ∧ PairItems s.heap (ps.map Value.ref).toArray (fun j => ps.getD j 0) (ws.map fun y => (Value.ref y.2.1, y.2.2)) := by
    refine ⟨⟨o, n, ho, hcl, hd, hdat⟩, by rw [List.size_toArray, List.length_map, List.length_map, w2], fun j k v e => ?_⟩
    obtain ⟨y, e1, rfl, rfl⟩ := hget j k v e
    obtain ⟨b, f1, f2⟩ := w3 j y e1
    have gd : ps.getD j 0 = b := by
      show ps[j]?.getD 0 = b
      rw [f1]
      rfl
    refine ⟨?_, .inl ?_⟩
    · show _ = some (Value.ref (ps.getD j 0))
      rw [gd, List.getElem?_toArray, List.getElem?_map, f1]
      rfl
    · show s.heap.IsTuple (ps.getD j 0) _
      rw [gd]
      exact f2
  refine call_dict_pairsH (knd := tupleKind (mixKind X.prog X.w)) (ps := ws) P (I.ok.hd hc) ?_ ok ⟨by rw [List.length_map], fun i k v e => ?_⟩ (fun h' hk x hx => ?_) (by rw [List.length_map, w2]; exact hz) fun h' tk dd hk => ?_
  · show X.A.in1.in1.units < cLine
    have e : X.A.in1.in1.units ≤ X.A.units + 8 := by
      simp [Around.in1, Around.units]
      try omega
    omega
  · obtain ⟨y, e1, e2, rfl⟩ := hget i k v e
    exact ⟨y.1, y.2.1, e1, e2⟩
  · obtain ⟨ob, i1, i2, i3, i4⟩ := keys x hx
    exact ⟨ob, i1, i2, hk _ _ (Nat.ne_of_lt (Heap.lt_size i3)) (by simp) i3, i4⟩
  · have lo : (s.heap.objs.size == sysModules) = false := beq_eq_false_iff_ne.mpr (Nat.ne_of_gt I.big)
    obtain ⟨ob, es, ep, at_, x2, x3, x4, _, x5⟩ := dd
    have kt := kt_merge (H := H) (kvs := []) (xs := []) .nil w1
    rw [mergeK_nodup _ [] (by rw [List.nil_append]; exact nd'), List.nil_append] at kt
    have fresh := I.hok.fresh (Nat.le_refl s.heap.objs.size)
    have len : (qKvs kvs).length ≤ sizeLine := by
      rw [plen w1, w2]
      exact hz
    refine ⟨.ref s.heap.objs.size, upd H s.heap.objs.size (.dT (qKvs kvs)), I.laid (t' := tk) (fun b ob e => hk b ob (by simp) e) (Nat.le_refl _) ⟨len, lo, _, kt.keeps fun c ys ec => ?_, ob, es, ep, at_, x2, x3, x4, x5⟩, rfl, q _ fresh⟩
    rw [upd_ne (fun z => by
      rw [z, fresh] at ec
      cases ec)]
    exact ec
theorem moQ_rules (N : Nat) (K : PySem.W.Frag) : MoR moQ N K := ⟨moQ_inj N, fun X h u => moQ_srt h u, fun X _ hc u => moQ_srtD hc u, fun X _ hc => moQ_lst hc, fun X _ hc hu => moQ_dic hc hu⟩
end Bk

/-! ### tuples of two numbers as keys: a thing n is (n // 4, n % 4); any number of them -/
namespace Bk
open PySem PySem.Spec PyProof.Rows L2
theorem moT_tup {K : PySem.W.Frag} {H : Hp} {v : V} {n : Nat} (h : moT.at H v n) : TupI K H v (moT.dec n) := by
  obtain ⟨p, e, h⟩ := h
  exact ⟨p, e, .inl (.inl h)⟩
def encT (n : Nat) : PyData := .tuple ((moT.dec n).map PyData.int)
theorem decT_le (n m : Nat) : moT.dec n ≤ moT.dec m ↔ n ≤ m := by
  have lt : moT.dec m < moT.dec n ↔ m < n := by
    show [((m / 4 : Nat) : Int), ((m % 4 : Nat) : Int)] < [((n / 4 : Nat) : Int), ((n % 4 : Nat) : Int)] ↔ m < n
    simp only [List.cons_lt_cons_iff, List.not_lt_nil, and_false, or_false]
    omega
  constructor
  · intro h
    by_cases c : n ≤ m
    · exact c
    · exact absurd (lt.mpr (by omega)) (List.not_lt.mpr h)
  · intro h
    exact List.not_lt.mp fun z => by
      have := lt.mp z
      omega
theorem leT : PySem.W.dataLe false encT = fun n m => decide (n ≤ m) := by
  have e : PySem.W.dataLe false encT = fun p q => decide (moT.dec p ≤ moT.dec q) := dataLe_tups moT.dec
  rw [e]
  funext n m
  by_cases h : n ≤ m
  · rw [decide_eq_true h, decide_eq_true ((decT_le n m).mpr h)]
  · rw [decide_eq_false h, decide_eq_false (fun z => h ((decT_le n m).mp z))]
theorem encT_alike : ∀ b b', PySem.W.alike (encT b) (encT b') = true := fun b b' => by
  unfold encT
  rw [PySem.W.alike]
  exact PySem.W.alike_ints _ _
theorem encT_key (bs : List Nat) : PySem.W.Sortable (bs.map encT) := PySem.W.Sortable.tuples fun b => ⟨_, _, rfl⟩
theorem encT_deep (b : Nat) : (encT b).depth ≤ 4 := by
  unfold encT
  rw [PyData.depth, PySem.W.depth_ints]
  decide
theorem moT_at {K : PySem.W.Frag} : ∀ H v b, moT.at H v b → ∃ p, v = .ref p ∧ Dp K H v (encT b) := fun H v b ⟨p, e, h⟩ => ⟨p, e, by
  subst e
  exact .tup (.inl (.inl h)) (dp_ints _)⟩
theorem sortT_perm (l : List Nat) : (l.mergeSort (PySem.W.dataLe false encT)).Perm l ∧ (l.mergeSort (PySem.W.dataLe false encT)).Pairwise (· ≤ ·) := by
  rw [leT]
  refine ⟨List.mergeSort_perm _ _, ?_⟩
  have := List.pairwise_mergeSort (le := fun n m : Nat => decide (n ≤ m)) (fun a b c h k => decide_eq_true (Nat.le_trans (of_decide_eq_true h) (of_decide_eq_true k))) (fun a b => by
    rcases Nat.le_total a b with h | h
    · rw [decide_eq_true h, Bool.true_or]
    · rw [decide_eq_true h, Bool.or_true]) l
  exact this.imp fun z => of_decide_eq_true z
theorem moT_srt {N : Nat} {K : PySem.W.Frag} {X : Cx} (hX : X.K = K) (hu : X.A.units + 8 < cLine) : CallR X (.builtin "sorted") (rSortE moT N K) := by
  have c : CallR X (.builtin "sorted") (rSortG K encT moT.at) := kSortG hX moT_at encT_alike encT_key encT_deep hu
  rintro pins s σ H vs us Q I r ⟨a, xs, l, rfl, ha, hp, hN, hl, q⟩
  obtain ⟨e1, e2⟩ := sortT_perm l
  exact c pins s σ H _ us Q I r ⟨a, xs, l, rfl, .inl (.inl ha), hp, fun p ys np py => q ys _ p py e1 e2 np⟩
def tKvs (kvs : List (Nat × V)) : List (List L2.Key × V) := kvs.map fun q => (moT.key q.1, q.2)
theorem moT_obj (kvs : List (Nat × V)) : moT.obj kvs = .dT (tKvs kvs) := rfl
theorem keysT_paired {H : Hp} : ∀ {kvs : List (Nat × V)} {bs : List Addr}, IsKeys H (tKvs kvs) bs → Paired (moT.at H) (bs.map V.ref) (kvs.map (·.1))
  | [], _, h => by
    cases h
    exact .nil
  | q :: r, _, h => by
    cases h with
    | cons a t =>
      refine .cons ⟨_, rfl, ?_⟩ (keysT_paired t)
      rw [a]
      show some (HO.tup (((moT.dec q.1).map Sum.inl).map kV)) = _
      rw [List.map_map]
      rfl
theorem moT_lst {X : Cx} (hc : X.calm = true) : CallR X (.type "list") (rListM moT) := by
  rintro pins s σ H vs us Q I r ⟨a, kvs, rfl, ha, q⟩
  exact call_list_dT hc pins s σ H _ us Q I r ⟨a, tKvs kvs, rfl, .inl ha, fun p bs hn hk => q _ p (keysT_paired hk) hn⟩
theorem moT_srtD {K : PySem.W.Frag} {X : Cx} {N : Nat} (hc : X.calm = true) (hu : X.A.units + 8 < cLine) : CallR X (.builtin "sorted") (rSortD moT N K) := by
  rintro pins s σ H vs us Q I r ⟨a, kvs, rfl, ha, hN, hl, q⟩
  have hl : kvs.length < 1000 := hl
  obtain ⟨u, rfl, rx⟩ := r.one
  cases rx
  obtain ⟨z, lo, ks, pr, dd⟩ := dt_of I.hok (show H a = some (.dT (tKvs kvs)) from ha)
  obtain ⟨es, ep, ⟨o, g1, g2, g3⟩, hes, hen⟩ := dd.raw
  have lk : kvs.length = ks.length := by
    have := plen pr
    unfold tKvs at this
    rw [List.length_map] at this
    exact this
  have isk := isKeys_of pr
  have kp := keysT_paired isk
  generalize hbs : (ks.map fun y => y.2.1) = bs at isk kp
  have lb : bs.length = kvs.length := by rw [← hbs, List.length_map, lk]
  refine Calls.call_function_entry kind_sorted plain_sorted entry_sorted (args_sorted1 _) ?_
  unfold Builtin.«sorted»
  refine wpAny_bind (m := checkCount "sorted" 1 1 _) (wpAny_pure ?_)
  have hes' : es.size ≤ sizeLine := by
    rw [sizeLine_eq]
    omega
  refine wpAny_bind (PySem.W.kdu_collect (A := X.A.in1) (kdl_raw lo g2 g3) (I.ok.hd hc) g1 hes' fun h' tk acc hk hacc => ?_)
  have eacc : acc.toList = bs.map Value.ref := by
    rw [← hbs]
    exact walk_keys hes (fun i hi => by obtain ⟨y, e1, e2, _⟩ := hen i hi; exact ⟨y, e1, e2⟩) hacc
  have I1 : Inv X pins σ H { s with heap := h', toks := tk } := I.kept hk
  generalize hacl : acc.toList = al at eacc
  have lal : al.length = kvs.length := by rw [eacc, List.length_map, lb]
  refine wpAny_bind (wpAny_newList ?_ (by rw [lal, sizeLine_eq]; omega))
  have new : (h'.push (seqObj "list" al.toArray 0)).get? h'.objs.size = some (seqObj "list" al.toArray 0) := Heap.get?_push_size _ rfl
  have each : PySem.W.EachIs (fun v b => ∃ p, v = Value.ref p ∧ moT.at H (.ref p) b) al (kvs.map (·.1)) ∧ PySem.W.EachIs (fun v b => ∃ as, Reads (h'.push (seqObj "list" al.toArray 0)) v (encT b) as ∧ h'.objs.size ∉ as) al (kvs.map (·.1)) := by
    have go : ∀ {bs : List Addr} {l : List Nat}, Paired (moT.at H) (bs.map V.ref) l → PySem.W.EachIs (fun v b => ∃ p, v = Value.ref p ∧ moT.at H (.ref p) b) (bs.map Value.ref) l ∧ PySem.W.EachIs (fun v b => ∃ as, Reads (h'.push (seqObj "list" al.toArray 0)) v (encT b) as ∧ h'.objs.size ∉ as) (bs.map Value.ref) l := by
      intro bs
      induction bs with
      | nil =>
        intro l p
        cases p
        exact ⟨.nil, .nil⟩
      | cons b bs ih =>
        intro l p
        cases p with
        | cons f t =>
          obtain ⟨e1, e2⟩ := ih t
          obtain ⟨p0, e0, dp⟩ := moT_at (K := X.K) _ _ _ f
          obtain ⟨as, rd⟩ := Dp.reads I1 _ _ _ dp (show RelV (V.ref b) (.ref b) from rfl)
          refine ⟨.cons ⟨b, rfl, f⟩ e1, .cons ⟨as, Reads.keeps (fun c ob ec => Heap.get?_push_of_some _ ec) rd, fun z => ?_⟩ e2⟩
          obtain ⟨ob, eo⟩ := PyProof.On.reads_mem_get rd _ z
          exact Nat.lt_irrefl _ (Heap.lt_size eo)
    have := go kp
    rw [← eacc] at this
    exact this
  show wpAny _ _ _ _ _ { s with heap := h'.push (seqObj "list" al.toArray 0), toks := tk }
  refine wpAny_bind (wpAny_holding (PySem.W.list_sort_data (enc := encT) (s := { s with heap := h'.push (seqObj "list" al.toArray 0), toks := tk }) new each.1 each.2 (PySem.W.AllAlike.of encT_alike) (encT_key _) (by rw [List.length_map, sizeLine_eq]; have : kvs.length < 1000 := hl; omega) (fun b _ => ?_) fun out lo eo => ?_))
  · have e1 := encT_deep b
    have e : X.A.in1.units + 1 ≤ X.A.units + 4 := by
      simp [Around.in1, Around.units]
      try omega
    omega
  · obtain ⟨cap, at_⟩ := sortedHeap_at (vs := al) (out := out.toArray) new
    obtain ⟨p2, srt⟩ := sortT_perm (kvs.map (·.1))
    obtain ⟨cs, ho, p1⟩ : ∃ cs : List Addr, out = cs.map Value.ref ∧ Paired (moT.at H) (cs.map V.ref) ((kvs.map (·.1)).mergeSort (PySem.W.dataLe false encT)) := by
      have : ∀ {out : List Value} {l : List Nat}, PySem.W.EachIs (fun v b => ∃ p, v = Value.ref p ∧ moT.at H (.ref p) b) out l → ∃ cs : List Addr, out = cs.map Value.ref ∧ Paired (moT.at H) (cs.map V.ref) l := by
        intro out l e
        induction e with
        | nil => exact ⟨[], rfl, .nil⟩
        | cons x t ih =>
          obtain ⟨p, rfl, z⟩ := x
          obtain ⟨cs, rfl, pp⟩ := ih
          exact ⟨p :: cs, rfl, .cons z pp⟩
      exact this eo
    have len : (cs.map V.ref).length ≤ sizeLine := by
      have := plen p1
      rw [this, List.length_mergeSort, List.length_map, sizeLine_eq]
      omega
    refine wpAny_pure ⟨_, rfl, .ref h'.objs.size, upd H h'.objs.size (.lst (cs.map V.ref)), I1.laid (t' := tk) (fun b ob eb => ?_) (Nat.le_refl _) ⟨len, out, cap, by rw [ho]; exact vals_refs _, at_⟩, rfl, q _ _ _ p1 p2 srt (I1.hok.fresh (Nat.le_refl _))⟩
    have lt : b < h'.objs.size := Heap.lt_size eb
    rw [sortedHeap_old (Nat.ne_of_lt lt) (by rw [size_push']; exact Nat.lt_succ_of_lt lt)]
    exact Heap.get?_push_of_some _ eb
theorem moT_dic {K : PySem.W.Frag} {X : Cx} {N : Nat} (hc : X.calm = true) (hu : X.A.units + 8 < cLine) : CallR X (.type "dict") (rDictM moT N K) := by
  rintro pins s σ H vs us Q I r ⟨a, ps, kvs, rfl, ha, hp, hN, nd, q⟩
  obtain ⟨u, rfl, rx⟩ := r.one
  cases rx
  obtain ⟨its, rv, pl, hz⟩ := I.list (show SqL X.K H a (ps.map V.ref) from .inl (.inl ha))
  obtain rfl := refs_at rv
  rw [List.length_map] at hz
  -- the pairs, as they stand
  have go : ∀ {ps : List Addr} {kvs : List (Nat × V)}, Paired (fun p q => ∃ v, H p = some (.tup [v, q.2]) ∧ moT.at H v q.1) ps kvs →
      ∃ ws : List (List L2.Key × Addr × Value), KT H (tKvs kvs) ws ∧ ws.length = ps.length ∧ ∀ (j : Nat) (y : List L2.Key × Addr × Value), ws[j]? = some y → ∃ b, ps[j]? = some b ∧ IsTup s.heap b #[.ref y.2.1, y.2.2] := by
    intro ps kvs h
    induction h with
    | nil => exact ⟨[], .nil, rfl, fun j y e => by simp at e⟩
    | @cons p kv ps kvs x t ih =>
      obtain ⟨ws, w1, w2, w3⟩ := ih
      obtain ⟨v, e1, b, rfl, e2⟩ := x
      obtain ⟨its, rv, ht, _⟩ := I.tuple (show SqT X.K H p [.ref b, kv.2] from .inl (.inl e1))
      obtain ⟨u, y, rfl, ru, ry⟩ := vals2 rv
      cases ru
      refine ⟨(moT.key kv.1, b, y) :: ws, .cons ⟨rfl, ?_, ry⟩ w1, by rw [List.length_cons, List.length_cons, w2], fun j z e => ?_⟩
      · rw [e2]
        show _ = some (HO.tup (((moT.dec kv.1).map Sum.inl).map kV))
        rw [List.map_map]
        rfl
      · cases j with
        | zero =>
          cases Option.some.inj e
          exact ⟨p, rfl, ht⟩
        | succ j =>
          obtain ⟨b', f1, f2⟩ := w3 j z (by simpa using e)
          exact ⟨b', by simpa using f1, f2⟩
  obtain ⟨ws, w1, w2, w3⟩ := go hp
  obtain ⟨o, n, ho, hcl, hd, hdat⟩ := pl
  have keys : ∀ x ∈ ws, (tupleKind (mixKind X.prog X.w)).is s.heap x.1 x.2.1 := fun x hx => by
    obtain ⟨j, hj⟩ := List.mem_iff_getElem?.mp hx
    obtain ⟨kv, _, e1, e2, _⟩ := pget w1 hj
    rw [← e1]
    exact key_of I.hok e2
  have nd' : ((tKvs kvs).map (·.1)).Nodup := by
    unfold tKvs
    rw [List.map_map, show ((fun x : List L2.Key × V => x.1) ∘ fun q : Nat × V => (moT.key q.1, q.2)) = moT.key ∘ fun q => q.1 from rfl, ← List.map_map]
    refine List.Pairwise.map _ (fun x y h z => h ?_) nd
    have := List.map_inj_right (f := (Sum.inl : Int → L2.Key)) (fun a b e => Sum.inl.inj e) |>.mp z
    injection this with h1 h2
    injection h2 with h2 _
    omega
  have P := PairArg.list (prog := X.prog) (w := X.w) a (ps.map Value.ref).toArray (fun j => ps.getD j 0) (ws.map fun y => (Value.ref y.2.1, y.2.2))
  have hget : ∀ (j : Nat) (k v : Value), (ws.map fun y => (Value.ref y.2.1, y.2.2))[j]? = some (k, v) → ∃ y, ws[j]? = some y ∧ k = .ref y.2.1 ∧ v = y.2.2 := fun j k v e => by
    rw [List.getElem?_map] at e
    obtain ⟨y, e1, e2⟩ := Option.map_eq_some_iff.mp e
    injection e2 with e2 e3
    exact ⟨y, e1, e2.symm, e3.symm⟩
  have ok : PlainSeq "list" s.heap a (ps.map Value.ref).toArray ∧ PairItems s.heap (ps.map Value.ref).toArray (fun j => ps.getD j 0) (ws.map fun y => (Value.ref y.2.1, y.2.2)) := by
    refine ⟨⟨o, n, ho, hcl, hd, hdat⟩, by rw [List.size_toArray, List.length_map, List.length_map, w2], fun j k v e => ?_⟩
    obtain ⟨y, e1, rfl, rfl⟩ := hget j k v e
    obtain ⟨b, f1, f2⟩ := w3 j y e1
    have gd : ps.getD j 0 = b := by
      show ps[j]?.getD 0 = b
      rw [f1]
      rfl
    refine ⟨?_, .inl ?_⟩
    · show _ = some (Value.ref (ps.getD j 0))
      rw [gd, List.getElem?_toArray, List.getElem?_map, f1]
      rfl
    · show s.heap.IsTuple (ps.getD j 0) _
      rw [gd]
      exact f2
  refine call_dict_pairsH (knd := tupleKind (mixKind X.prog X.w)) (ps := ws) P (I.ok.hd hc) ?_ ok ⟨by rw [List.length_map], fun i k v e => ?_⟩ (fun h' hk x hx => ?_) (by rw [List.length_map, w2]; exact hz) fun h' tk dd hk => ?_
  · show X.A.in1.in1.units < cLine
    have e : X.A.in1.in1.units ≤ X.A.units + 8 := by
      simp [Around.in1, Around.units]
      try omega
    omega
  · obtain ⟨y, e1, e2, rfl⟩ := hget i k v e
    exact ⟨y.1, y.2.1, e1, e2⟩
  · obtain ⟨ob, i1, i2, i3, i4⟩ := keys x hx
    exact ⟨ob, i1, i2, hk _ _ (Nat.ne_of_lt (Heap.lt_size i3)) (by simp) i3, i4⟩
  · have lo : (s.heap.objs.size == sysModules) = false := beq_eq_false_iff_ne.mpr (Nat.ne_of_gt I.big)
    obtain ⟨ob, es, ep, at_, x2, x3, x4, _, x5⟩ := dd
    have kt := kt_merge (H := H) (kvs := []) (xs := []) .nil w1
    rw [mergeK_nodup _ [] (by rw [List.nil_append]; exact nd'), List.nil_append] at kt
    have fresh := I.hok.fresh (Nat.le_refl s.heap.objs.size)
    have len : (tKvs kvs).length ≤ sizeLine := by
      rw [plen w1, w2]
      exact hz
    refine ⟨.ref s.heap.objs.size, upd H s.heap.objs.size (.dT (tKvs kvs)), I.laid (t' := tk) (fun b ob e => hk b ob (by simp) e) (Nat.le_refl _) ⟨len, lo, _, kt.keeps fun c ys ec => ?_, ob, es, ep, at_, x2, x3, x4, x5⟩, rfl, q _ fresh⟩
    rw [upd_ne (fun z => by
      rw [z, fresh] at ec
      cases ec)]
    exact ec
theorem moT_rules (N : Nat) (K : PySem.W.Frag) : MoR moT N K := ⟨moT_inj N, fun X h u => moT_srt h u, fun X _ hc u => moT_srtD hc u, fun X _ hc => moT_lst hc, fun X _ hc hu => moT_dic hc hu⟩
end Bk

/-! Triples as data: the least of a list of them, whether one is in a list, rows of them sorted. -/
namespace Bk
open PySem PySem.Spec PyProof.Rows L2
theorem ltQ (n m : Nat) : PySem.W.dataLt (encQ n) (encQ m) = decide (n < m) := by
  have h : (!PySem.W.dataLt (encQ n) (encQ m)) = decide (m ≤ n) := congrFun (congrFun leQ m) n
  by_cases c : n < m
  · rw [decide_eq_false (by omega)] at h
    rw [decide_eq_true c]
    cases e : PySem.W.dataLt (encQ n) (encQ m) with
    | true => rfl
    | false => rw [e] at h; cases h
  · rw [decide_eq_true (by omega)] at h
    rw [decide_eq_false c]
    cases e : PySem.W.dataLt (encQ n) (encQ m) with
    | true => rw [e] at h; cases h
    | false => rfl
theorem eqvQ (n m : Nat) : PyData.eqv (encQ n) (encQ m) = decide (n = m) := by
  by_cases c : n = m
  · subst c
    rw [decide_eq_true rfl]
    simp [encQ, moQ, PyData.eqv, PyData.eqvAll]
  · rw [decide_eq_false c, Bool.eq_false_iff]
    intro h
    refine c (moQ_inj 1000 n m ?_ ?_ ?_) <;> simp [encQ, moQ, PyData.eqv, PyData.eqvAll] at h ⊢
    all_goals omega
theorem encQ_inj {n m : Nat} (h : encQ n = encQ m) : n = m := by
  have e := eqvQ n m
  rw [h, eqvQ m m, decide_eq_true rfl] at e
  exact of_decide_eq_true e.symm
theorem encQ_lay (n : Nat) : (encQ n).canLay0 = true := by
  simp [encQ, moQ, PyData.canLay0, PyData.canLayAll0]
theorem encQ_one (n : Nat) : (encQ n).depth ≤ 1 := by
  unfold encQ
  rw [PyData.depth, PySem.W.depth_ints]
  exact Nat.le_refl _
theorem pgetR {α β : Type} {F : α → β → Prop} : ∀ {xs : List α} {ys : List β} {i : Nat} {y : β}, Paired F xs ys → ys[i]? = some y → ∃ x, xs[i]? = some x ∧ F x y
  | _, _, _, _, .nil, h => by simp at h
  | _, _, 0, _, .cons a _, h => by
    simp at h
    subst h
    exact ⟨_, rfl, a⟩
  | _, _, i + 1, _, .cons _ t, h => by
    obtain ⟨x, hx, f⟩ := pgetR t (by simpa using h)
    exact ⟨x, by simpa using hx, f⟩
theorem encQ_layAll : ∀ l : List Nat, PyData.canLayAll0 (l.map encQ) = true ∧ PyData.depthAll (l.map encQ) ≤ 1
  | [] => by simp [PyData.canLayAll0, PyData.depthAll]
  | n :: l => by
    have ih := encQ_layAll l
    rw [List.map_cons, PyData.canLayAll0, PyData.depthAll, ih.1, encQ_lay]
    exact ⟨rfl, Nat.max_le.mpr ⟨encQ_one n, ih.2⟩⟩
theorem dpQ {K : PySem.W.Frag} {H : Hp} {xs : List V} {l : List Nat} (h : Paired (moQ.at H) xs l) : DpAll K H xs (l.map encQ) := by
  induction h with
  | nil => exact .nil
  | cons x t ih =>
    obtain ⟨p, _, d⟩ := moQ_at (K := K) _ _ _ x
    exact .cons d ih
theorem minQ (x : Nat) : ∀ xs : List Nat, ∃ m, PySem.W.minD (encQ x) (xs.map encQ) = encQ m ∧ m ∈ x :: xs ∧ ∀ n ∈ x :: xs, m ≤ n := by
  intro xs
  unfold PySem.W.minD
  induction xs generalizing x with
  | nil => exact ⟨x, rfl, List.mem_cons_self, fun n hn => by rw [List.mem_singleton.mp hn]; exact Nat.le_refl _⟩
  | cons k r ih =>
    rw [List.map_cons, List.foldl_cons]
    by_cases c : k < x
    · rw [if_pos (by rw [ltQ]; exact decide_eq_true c)]
      obtain ⟨m, e, h1, h2⟩ := ih k
      refine ⟨m, e, List.mem_cons_of_mem _ h1, fun n hn => ?_⟩
      rcases List.mem_cons.mp hn with rfl | hn
      · have := h2 k List.mem_cons_self
        omega
      · exact h2 n hn
    · rw [if_neg (by rw [ltQ, decide_eq_false c]; exact Bool.false_ne_true)]
      obtain ⟨m, e, h1, h2⟩ := ih x
      refine ⟨m, e, ?_, fun n hn => ?_⟩
      · rcases List.mem_cons.mp h1 with rfl | h1
        · exact List.mem_cons_self
        · exact List.mem_cons_of_mem _ (List.mem_cons_of_mem _ h1)
      · rcases List.mem_cons.mp hn with rfl | hn
        · exact h2 _ List.mem_cons_self
        · rcases List.mem_cons.mp hn with rfl | hn
          · have := h2 x List.mem_cons_self
            omega
          · exact h2 n (List.mem_cons_of_mem _ hn)
def rMinQ (K : PySem.W.Frag) : List V → Hp → VK → Prop := fun vs H Q => ∃ (a : Addr) (xs : List V) (l : List Nat), vs = [.ref a] ∧ SqL K H a xs ∧ Paired (moQ.at H) xs l ∧ l ≠ [] ∧ ∀ v m, moQ.at H v m → m ∈ l → (∀ n ∈ l, m ≤ n) → Q v H
theorem kMinQ {X : Cx} {K : PySem.W.Frag} (h : X.K = K) (hc : X.calm = true) (hu : X.A.units + 8 < cLine) : CallR X (.builtin "min") (rMinQ K) := by
  subst h
  rintro pins s σ H vs us Q I r ⟨a, xs, l, rfl, hs, hp, hne, q⟩
  obtain ⟨its, rv, hl, hz⟩ := I.list hs
  rw [Vals.ref1 r]
  cases l with
  | nil => exact absurd rfl hne
  | cons x t =>
  obtain ⟨as, ra⟩ := Dp.readsAll I _ _ _ (dpQ (K := X.K) hp) rv
  obtain ⟨m, e, m1, m2⟩ := minQ x t
  refine PySem.W.min_list_data (I.ok.hd hc) hl.isList (x := encQ x) (xs := t.map encQ) (as := as) ra ⟨?_, ?_⟩ ?_ fun i v h' tk bs hv hr hk => ?_
  · intro d hd d' hd'
    rw [← List.map_cons] at hd hd'
    obtain ⟨b, _, rfl⟩ := List.mem_map.mp hd
    obtain ⟨b', _, rfl⟩ := List.mem_map.mp hd'
    exact encQ_alike b b'
  · intro d hd
    rw [← List.map_cons] at hd
    obtain ⟨b, _, rfl⟩ := List.mem_map.mp hd
    exact fun z => by cases z
  · have := (encQ_layAll (x :: t)).2
    rw [List.map_cons] at this
    omega
  · have hv' : its[i]? = some v := by simpa using hv
    obtain ⟨y, hy, ry⟩ := pgetR rv hv'
    obtain ⟨n, hn, fn⟩ := pget' hp hy
    obtain ⟨p, rfl, dp⟩ := moQ_at (K := X.K) _ _ _ fn
    obtain ⟨as', rd⟩ := Dp.reads I _ _ _ dp ry
    have e2 := (Reads.unique (Reads.keeps hk rd) _ _ hr).1
    rw [e] at e2
    obtain rfl := encQ_inj e2
    exact ⟨.ref p, H, I.kept hk, ry, q _ _ fn m1 m2⟩
/-- whether a triple is in a list of such -/
def rInQ (K : PySem.W.Frag) : R2 := fun x y H Q => ∃ (q : Addr) (xs : List V) (n : Nat) (l : List Nat), y = .ref q ∧ moQ.at H x n ∧ SqL K H q xs ∧ Paired (moQ.at H) xs l ∧ Q (.bl (decide (n ∈ l))) H
theorem kInQ {X : Cx} (K : PySem.W.Frag) (h : X.K = K) (hu : X.A.units + 8 < cLine) : OpR X (compareOp .In) (rInQ K) := by
  subst h
  rintro pins s σ H x y uv vv Q I rx ry ⟨q, xs, n, l, rfl, hx, hq, hp, k⟩
  obtain ⟨p, rfl, dp⟩ := moQ_at (K := X.K) _ _ _ hx
  obtain ⟨as, r1⟩ := Dp.reads I _ _ _ dp rx
  obtain ⟨bs, r2⟩ := Dp.reads I (.list (l.map encQ)) _ _ (.lst hq (dpQ hp)) ry
  have el := encQ_layAll l
  refine SeqAt.in_list_reads r2 r1 el.1 (encQ_lay n) ?_ ⟨.bl _, H, I, rfl, ?_⟩
  · have := Nat.min_le_left (PyData.depthAll (l.map encQ)) (encQ n).depth
    omega
  · have e : ((l.map encQ).any fun z => PyData.eqv z (encQ n)) = decide (n ∈ l) := by
      rw [List.any_map]
      have : ((fun z => PyData.eqv z (encQ n)) ∘ encQ) = fun z => decide (z = n) := funext fun z => eqvQ z n
      rw [this]
      by_cases c : n ∈ l
      · rw [decide_eq_true c, List.any_eq_true]
        exact ⟨n, c, decide_eq_true rfl⟩
      · rw [decide_eq_false c, Bool.eq_false_iff]
        intro h
        obtain ⟨z, hz, e⟩ := List.any_eq_true.mp h
        rw [of_decide_eq_true e] at hz
        exact c hz
    rw [e]
    exact k
/-! rows of triples, sorted -/
def encR (r : List Nat) : PyData := .list (r.map encQ)
def RowV (H : Hp) (v : V) (r : List Nat) : Prop := ∃ p vs, v = .ref p ∧ H p = some (.lst vs) ∧ Paired (moQ.at H) vs r
theorem rowv_at {K : PySem.W.Frag} : ∀ H v b, RowV H v b → ∃ p, v = .ref p ∧ Dp K H v (encR b) := fun H v b ⟨p, vs, e, h, hp⟩ => ⟨p, e, by
  subst e
  exact .lst (.inl (.inl h)) (dpQ hp)⟩
theorem alikeQ : ∀ xs ys : List Nat, PySem.W.alikeAll (xs.map encQ) (ys.map encQ) = true
  | [], _ => by simp [PySem.W.alikeAll]
  | _ :: _, [] => by simp [PySem.W.alikeAll]
  | x :: xs, y :: ys => by
    rw [List.map_cons, List.map_cons, PySem.W.alikeAll, alikeQ xs ys, encQ_alike]
    simp
theorem encR_alike : ∀ b b', PySem.W.alike (encR b) (encR b') = true := fun b b' => by
  unfold encR
  rw [PySem.W.alike]
  exact alikeQ b b'
theorem encR_key (bs : List (List Nat)) : PySem.W.Sortable (bs.map encR) := PySem.W.Sortable.others fun b => ⟨nofun, nofun⟩
theorem encR_deep (b : List Nat) : (encR b).depth ≤ 4 := by
  unfold encR
  rw [PyData.depth]
  have := (encQ_layAll b).2
  omega
theorem sortR_id {bs : List (List Nat)} (h : bs.Pairwise fun r r' => ∃ x t y u, r = x :: t ∧ r' = y :: u ∧ x < y) : bs.mergeSort (PySem.W.dataLe false encR) = bs := by
  refine List.mergeSort_of_pairwise (h.imp fun {r r'} z => ?_)
  obtain ⟨x, t, y, u, rfl, rfl, lt⟩ := z
  show (!PySem.W.dataLt (.list (encQ y :: u.map encQ)) (.list (encQ x :: t.map encQ))) = true
  rw [PySem.W.dataLt_list, PySem.W.dataLt_cons (encQ_alike y x), eqvQ, decide_eq_false (by omega), if_neg Bool.false_ne_true, ltQ, decide_eq_false (by omega)]
  rfl
end Bk

namespace Bk
open PySem PySem.Spec PyProof.Rows L2
local macro_rules | `(tactic| walk_at "g") => `(tactic| (repeat first | refine ⟨_, rfl, ?_⟩ | refine ⟨cpow, ?_⟩ | refine ⟨_, _, rfl, rfl, ?_⟩ | refine ⟨rfl, ?_⟩))
section
variable {P : Program} {w : World} {K : PySem.W.Frag} {mg : Str → Option Value} {base : Heap}
/-! ### _reached, rows_of -/
/-- links: for each thing those that it is linked to -/
def LinkAt (M : Mo) (H : Hp) (d : Addr) (ts : List Nat) (lk : Nat → List Nat) : Prop := ∃ kvs : List (Nat × V), H d = some (M.obj kvs) ∧ kvs.map (·.1) = ts ∧ ∀ q ∈ kvs, ∃ a vs, q.2 = .ref a ∧ H a = some (.lst vs) ∧ Paired (M.at H) vs (lk q.1)
theorem LinkAt.same {M : Mo} {H H' : Hp} {d : Addr} {ts : List Nat} {lk : Nat → List Nat} (h : LinkAt M H d ts lk) (s : Same H H') : LinkAt M H' d ts lk := by
  obtain ⟨kvs, h1, h2, h3⟩ := h
  refine ⟨kvs, s _ _ h1, h2, fun q hq => ?_⟩
  obtain ⟨a, vs, e, g1, g2⟩ := h3 q hq
  exact ⟨a, vs, e, s _ _ g1, pmono g2 fun _ _ z => z.mono s.tupK⟩
theorem valV_some {κ : Type} [DecidableEq κ] {kvs : List (κ × V)} {k : κ} (h : k ∈ kvs.map (·.1)) : ∃ v, valV kvs k = some v ∧ (k, v) ∈ kvs := by
  induction kvs with
  | nil => cases h
  | cons q r ih =>
    by_cases e : q.1 = k
    · refine ⟨q.2, valV_pos e, ?_⟩
      rw [← e]
      exact List.mem_cons_self
    · rw [valV_neg e]
      rw [List.map_cons, List.mem_cons] at h
      obtain ⟨v, h1, h2⟩ := ih (h.resolve_left fun z => e z.symm)
      exact ⟨v, h1, List.mem_cons_of_mem _ h2⟩
theorem LinkAt.get {M : Mo} {N : Nat} {H H' : Hp} {d : Addr} {ts : List Nat} {lk : Nat → List Nat} (h : LinkAt M H d ts lk) (s : Same H H') (hi : M.Inj N) (hN : ∀ n ∈ ts, n < N) {v : V} {n : Nat} (hv : M.at H' v n) (hn : n ∈ ts) :
    ∃ a vs, DGet H' d v (some (.ref a)) ∧ H a = some (.lst vs) ∧ H' a = some (.lst vs) ∧ Paired (M.at H') vs (lk n) := by
  obtain ⟨kvs, h1, h2, h3⟩ := h
  obtain ⟨x, e1, e2⟩ := valV_some (kvs := kvs) (k := n) (by rw [h2]; exact hn)
  obtain ⟨a, vs, e, g1, g2⟩ := h3 _ e2
  have e' : x = .ref a := e
  have g := Mo.get hi (s _ _ h1) hv (fun q hq => hN _ (by rw [← h2]; exact List.mem_map_of_mem hq)) (hN n hn)
  rw [e1, e'] at g
  exact ⟨a, vs, g, g1, s _ _ g1, pmono g2 fun _ _ z => z.mono s.tupK⟩
def trueKvs (l : List Nat) : List (Nat × V) := l.map fun n => (n, V.bl true)
theorem trueKvs_keys (l : List Nat) : (trueKvs l).map (·.1) = l := by
  unfold trueKvs
  rw [List.map_map]
  exact List.map_id _
theorem trueKvs_put {l : List Nat} {n : Nat} (h : n ∉ l) : putK (trueKvs l) n (.bl true) = trueKvs (l ++ [n]) := by
  rw [putK_new]
  · unfold trueKvs
    rw [List.map_append]
    rfl
  · cases e : valV (trueKvs l) n with
    | none => rfl
    | some v =>
      have := valV_in e
      rw [trueKvs_keys] at this
      exact absurd this h
theorem trueKvs_has (l : List Nat) (n : Nat) : (valV (trueKvs l) n).isSome = decide (n ∈ l) := by
  by_cases h : n ∈ l
  · obtain ⟨v, e, _⟩ := valV_some (kvs := trueKvs l) (k := n) (by rw [trueKvs_keys]; exact h)
    rw [e, decide_eq_true h]
    rfl
  · rw [decide_eq_false h]
    cases e : valV (trueKvs l) n with
    | none => rfl
    | some v =>
      have := valV_in e
      rw [trueKvs_keys] at this
      exact absurd this h
/-- how much stands there -/
def lenO : Option HO → Nat
  | some (.lst xs) => xs.length
  | some (.dK kvs) => kvs.length
  | some (.dT kvs) => kvs.length
  | _ => 0
def lenAt (H : Hp) : Option (Option V) → Nat
  | some (some (.ref a)) => lenO (H a)
  | _ => 0
theorem lenAt_lst {H : Hp} {a : Addr} {xs : List V} (h : H a = some (.lst xs)) : lenAt H (some (some (.ref a))) = xs.length := by
  show lenO (H a) = _
  rw [h]
  rfl
theorem lenAt_dic {M : Mo} {H : Hp} {a : Addr} {kvs : List (Nat × V)} (h : H a = some (M.obj kvs)) : lenAt H (some (some (.ref a))) = kvs.length := by
  show lenO (H a) = _
  rw [h]
  unfold Mo.obj
  split
  · exact List.length_map _
  · exact List.length_map _
theorem psnoc {α β : Type} {F : α → β → Prop} : ∀ {xs : List α} {ys : List β} {y : β}, Paired F xs (ys ++ [y]) → ∃ xs' x, xs = xs' ++ [x] ∧ Paired F xs' ys ∧ F x y
  | _, [], _, .cons r .nil => ⟨[], _, rfl, .nil, r⟩
  | _, _ :: ys, _, .cons r t => by
    obtain ⟨xs', x, e, h1, h2⟩ := psnoc (ys := ys) t
    exact ⟨_ :: xs', x, by rw [e]; rfl, .cons r h1, h2⟩
theorem rch_room {lk : Nat → List Nat} {ts : List Nat} {a x : Nat} {done row wait : List Nat} (h : RchIn lk ts a x done row wait) (hts : ts.Nodup) : row.length ≤ ts.length := nodup_len h.nd hts h.sub
abbrev s_reached : Stmt := topS 2
abbrev N_reached : List Str := ["first", "links", "row", "waiting", "thing", "other"]
theorem sc_reached : FnScope N_reached ["first", "links"] (defScope s_reached) := ⟨rfl, rfl, rfl, by decide +kernel, rfl, by decide +kernel, by decide +kernel⟩
def spReached (M : Mo) (N : Nat) : Sp := fun vs H Q _ => ∃ (v : V) (d : Addr) (ts : List Nat) (lk : Nat → List Nat) (a : Nat), vs = [v, .ref d] ∧ M.at H v a ∧ LinkAt M H d ts lk ∧ a ∈ ts ∧ ts.Nodup ∧ (∀ n ∈ ts, n < N) ∧ ts.length < 400 ∧ (∀ n ∈ ts, ∀ m ∈ lk n, m ∈ ts) ∧
  ∀ H' l ys row, Same H H' → H l = none → H' l = some (.lst ys) → Paired (M.at H') ys row → row.Perm (ts.filter (hangB (fun x y => y ∈ lk x) a)) → Q (.ref l) H'
theorem ok_reached {f : Addr} {fd : FuncData} {M : Mo} {N : Nat} (R : MoR M N K) (F : Fun K "_reached" "_reached" s_reached f fd) (m_list : mg "list" = none) : FnOk P w K mg base CX0 1 f fd ["first", "links"] (spReached M N) := by
  refine F.ok sc_reached (fun vs H Q E h => ?_) (fun cdv A outer s H vs Q E hr h => ?_)
  · obtain ⟨v, d, ts, lk, a, rfl, _⟩ := h
    rfl
  · obtain ⟨v, d, ts, lk, a, rfl, hv, hL, hat, hnd, hN, hlen, hcl, q⟩ := h
    have nd := sc_reached.nd
    refine ⟨_, (pss_cons (ps_set (i := 2) nd rfl (.inl rfl) (pe_one1 (Nat.lt_of_succ_lt (hu_of hr)) (pv 0) pe_bl))
      (pss_cons (ps_set (i := 3) nd rfl (.inl rfl) (pe_lst (pa_cons (pv 0) pa_nil)))
      (pss_cons (ps_while PassesOwn.never (pt_truth (pv 3) (by intro _; rfl)) (pss_cons (ps_set (i := 4) nd rfl (.inl rfl) (kBM0 K rfl (pe_bm0 PySem.F.plainAttrs_list PySem.F.slot_list_pop PySem.F.type_list_pop mt_pop (pv 3))))
      (pss_one (ps_for PassesOwn.never rfl (kPiL K rfl (pi_list (pe_dget (hu_of hr) (pv 1) (pv 4) (fun _ _ => rfl)))) (pg_name (i := 5) nd rfl (.inl rfl)) (pss_one (ps_if (pt_cmp (pc_dnotin (hu_of hr) (pv 5) (pv 2))) (pss_cons (ps_dput (hu_of hr) (pv 2) (pv 5) pe_bl rfl)
      (pss_one (ps_expr (kBM K rfl (pe_bm PySem.F.plainAttrs_list PySem.F.slot_list_append PySem.F.type_list_append mt_append (pv 3) (pa_cons (pv 5) pa_nil)))))) pss_nil))))))
      (pss_one (ps_ret (pe_callTy (lstM R rfl rfl) (by rfl) m_list (by decide +kernel) (pa_cons (pv 2) pa_nil))))))), ?_⟩
    refine ⟨M.obj [], M.obj_nil, fun r nr => ?_⟩
    refine ⟨v, rfl, ?_⟩
    have s1 : Same H (upd H r (M.obj [])) := same_new nr
    refine ⟨_, Mo.put R.inj (N := N) upd_same (hv.mono s1.tupK) (fun _ z => absurd z List.not_mem_nil) (hN a hat) (by decide), ?_⟩
    rw [upd_upd]
    have h2 : (upd H r (M.obj (putK [] a (.bl true)))) r = some (M.obj (trueKvs [a])) := upd_same
    have s2 : Same H (upd H r (M.obj (putK [] a (.bl true)))) := same_new nr
    generalize upd H r (M.obj (putK [] a (.bl true))) = H2 at h2 s2 ⊢
    refine ⟨v, rfl, Nat.le_of_lt (small1000 (by show 1 ≤ 1000; decide)), fun wt nwt => ?_⟩
    have rw' : r ≠ wt := ne_of_none h2 nwt
    have s3 : Same H (upd H2 wt (.lst [v])) := s2.trans (same_new nwt)
    have h3 : (upd H2 wt (.lst [v])) r = some (M.obj (trueKvs [a])) := by
      rw [upd_ne rw']
      exact h2
    have k3 : (upd H2 wt (.lst [v])) wt = some (.lst [v]) := upd_same
    have nwt0 : H wt = none := s2.free nwt
    generalize upd H2 wt (.lst [v]) = H3 at s3 h3 k3 ⊢
    dsimp only [gName, tSeq]
    refine while_by (fun σ H4 => ∃ y4 y5 ws row wait, σ = [some v, some (.ref d), some (.ref r), some (.ref wt), y4, y5] ∧ H4 r = some (M.obj (trueKvs row)) ∧ H4 wt = some (.lst ws) ∧ Paired (M.at H4) ws wait ∧ Rch lk ts a row wait ∧ Same H H4 ∧ 2 * (ts.length - row.length) + wait.length ≤ 2 * ts.length)
      (fun σ H4 => 2 * (ts.length - lenAt H4 σ[2]?) + lenAt H4 σ[3]?) ⟨none, none, [v], [a], [a], rfl, h3, k3, .cons (hv.mono s3.tupK) .nil, .start hat, s3, by have := List.length_pos_of_mem hat; simp only [List.length_cons, List.length_nil]; omega⟩ ?_ ?_
    · rintro σ H4 ⟨y4, y5, ws, row, wait, rfl, h4, k4, p4, C, s4, m0⟩
      refine ⟨.ref wt, rfl, !ws.isEmpty, .inl ⟨ws, .inl (.inl k4), rfl⟩, ?_⟩
      have lw := plen p4
      cases hw : wait with
      | nil =>
        rw [hw] at p4 C
        cases p4
        refine iteF ?_
        refine ⟨.ref r, rfl, r, _, rfl, h4, fun ys p hys np => ?_⟩
        rw [trueKvs_keys] at hys
        exact q _ p ys row (s4.trans (same_new np)) (s4.free np) upd_same (pmono hys fun _ _ z => z.mono (same_new np).tupK) (C.perm hnd)
      | cons w0 wr =>
        have hne : wait ≠ [] := by rw [hw]; exact List.cons_ne_nil _ _
        have hwe : wait = wait.dropLast ++ [wait.getLast hne] := (List.dropLast_concat_getLast hne).symm
        clear hw
        generalize wait.dropLast = w1 at hwe
        generalize wait.getLast hne = th at hwe
        subst hwe
        rw [List.length_append, show [th].length = 1 from rfl] at m0
        have hne' : (!ws.isEmpty) = true := by
          cases ws with
          | nil => simp at lw
          | cons x r => rfl
        rw [hne']
        refine iteT ?_
        obtain ⟨ws1, tv, rfl, p1, pt⟩ := psnoc p4
        have get1 : (ws1 ++ [tv])[(ws1 ++ [tv]).length - 1]? = some tv := by
          rw [List.length_append, show ws1.length + [tv].length - 1 = ws1.length from rfl, List.getElem?_append_right (Nat.le_refl _), Nat.sub_self]
          rfl
        refine ⟨.ref wt, rfl, .inl ⟨rfl, _, .inl (.inl k4)⟩, wt, _, tv, rfl, rfl, k4, get1, ?_⟩
        rw [List.dropLast_concat]
        have s5 : Same H (upd H4 wt (.lst ws1)) := same_fill s4 nwt0
        have t5 : TupK H4 (upd H4 wt (.lst ws1)) := tupK_lst k4
        have h5 : (upd H4 wt (.lst ws1)) r = some (M.obj (trueKvs row)) := by
          rw [upd_ne rw']
          exact h4
        have k5 : (upd H4 wt (.lst ws1)) wt = some (.lst ws1) := upd_same
        have m4 : lenAt H4 (some (some (.ref r))) = row.length := by
          rw [lenAt_dic h4]
          exact List.length_map _
        have m4' : lenAt H4 (some (some (.ref wt))) = w1.length + 1 := by
          rw [lenAt_lst k4, lw, List.length_append]
          rfl
        generalize upd H4 wt (.lst ws1) = H5 at s5 t5 h5 k5 ⊢
        have p5 := pmono p1 fun _ _ z => z.mono t5
        have pt5 := pt.mono t5
        have th_ts : th ∈ ts := C.sub th (C.wt th (List.mem_append_right _ (List.mem_singleton.mpr rfl)))
        obtain ⟨la, lvs, g, hla0, hla, pla⟩ := hL.get s5 R.inj hN pt5 th_ts
        refine ⟨.ref d, rfl, tv, rfl, d, .ref la, rfl, g, la, rfl, ⟨_, .inl (.inl hla)⟩, ?_⟩
        have lar : la ≠ r := ne_of hla h5 fun z => M.obj_lst _ _ z.symm
        have law : la ≠ wt := ne_of_none hla0 nwt0
        refine for_list (xs := lvs) (fun j σ H6 => ∃ y5 ws2 row2 wait2, σ = [some v, some (.ref d), some (.ref r), some (.ref wt), some tv, y5] ∧ H6 r = some (M.obj (trueKvs row2)) ∧ H6 wt = some (.lst ws2) ∧ Paired (M.at H6) ws2 wait2 ∧ RchIn lk ts a th ((lk th).take j) row2 wait2 ∧ Same H H6 ∧ H6 la = some (.lst lvs) ∧ Paired (M.at H6) lvs (lk th) ∧
          2 * (ts.length - row2.length) + wait2.length ≤ 2 * (ts.length - row.length) + w1.length)
          ⟨y5, ws1, row, w1, rfl, h5, k5, p5, C.look, s5, hla, pla, Nat.le_refl _⟩ ?_ ?_ ?_
        · rintro j σ H6 _ ⟨y5, ws2, row2, wait2, rfl, h6, k6, p6, C6, s6, l6, pl6, m6⟩
          exact .inl (.inl l6)
        · rintro j x σ H6 hx ⟨y5, ws2, row2, wait2, rfl, h6, k6, p6, C6, s6, l6, pl6, m6⟩
          obtain ⟨o, ho, hxo⟩ := pget' pl6 hx
          have om : o ∈ lk th := List.mem_of_getElem? ho
          have ot : o ∈ ts := hcl th th_ts o om
          have kN : ∀ q ∈ trueKvs row2, q.1 < N := fun q hq => hN _ (C6.sub _ (by rw [← trueKvs_keys row2]; exact List.mem_map_of_mem hq))
          refine ⟨x, rfl, .ref r, rfl, r, _, rfl, Mo.get R.inj h6 hxo kN (hN o ot), _, rfl, ?_⟩
          rw [trueKvs_has]
          have tk : (lk th).take (j + 1) = (lk th).take j ++ [o] := by
            rw [List.take_add_one, ho]
            rfl
          refine ite2 (fun e => ?_) (fun e => ?_)
          · have on : o ∉ row2 := by simpa using e
            have C7 := C6.new on om ot
            have rm := rch_room C7 hnd
            rw [List.length_append] at rm
            have rm : row2.length + 1 ≤ ts.length := rm
            refine ⟨.ref r, rfl, x, rfl, r, _, rfl, Mo.put R.inj h6 hxo kN (hN o ot) (small1000 (by unfold trueKvs; rw [List.length_map]; omega)), ?_⟩
            rw [trueKvs_put on]
            have t7 : TupK H6 (upd H6 r (M.obj (trueKvs (row2 ++ [o])))) := tupK_dic h6
            have s7 : Same H (upd H6 r (M.obj (trueKvs (row2 ++ [o])))) := same_fill s6 nr
            have h7 : (upd H6 r (M.obj (trueKvs (row2 ++ [o])))) r = some (M.obj (trueKvs (row2 ++ [o]))) := upd_same
            have k7 : (upd H6 r (M.obj (trueKvs (row2 ++ [o])))) wt = some (.lst ws2) := by
              rw [upd_ne rw'.symm]
              exact k6
            have l7 : (upd H6 r (M.obj (trueKvs (row2 ++ [o])))) la = some (.lst lvs) := by
              rw [upd_ne lar]
              exact l6
            generalize upd H6 r (M.obj (trueKvs (row2 ++ [o]))) = H7 at t7 s7 h7 k7 l7 ⊢
            refine ⟨.ref wt, rfl, .inl ⟨rfl, _, .inl (.inl k7)⟩, x, rfl, wt, ws2, x, rfl, rfl, k7, small1000 (by rw [plen p6]; omega), ?_⟩
            have t8 : TupK H7 (upd H7 wt (.lst (ws2 ++ [x]))) := tupK_lst k7
            refine ⟨_, ws2 ++ [x], row2 ++ [o], wait2 ++ [o], rfl, ?_, upd_same, ?_, ?_, same_fill s7 nwt0, ?_, ?_, ?_⟩
            · rw [upd_ne rw']
              exact h7
            · exact papp (pmono p6 fun _ _ z => z.mono (t7.trans t8)) (.cons (hxo.mono (t7.trans t8)) .nil)
            · rw [tk]
              exact C7
            · rw [upd_ne law]
              exact l7
            · exact pmono pl6 fun _ _ z => z.mono (t7.trans t8)
            · rw [List.length_append, List.length_append, show [o].length = 1 from rfl]
              omega
          · have on : o ∈ row2 := by simpa using e
            refine ⟨_, ws2, row2, wait2, rfl, h6, k6, p6, ?_, s6, l6, pl6, m6⟩
            rw [tk]
            exact C6.old on
        · rintro σ H6 ⟨y5, ws2, row2, wait2, rfl, h6, k6, p6, C6, s6, l6, pl6, m6⟩
          rw [plen pl6, List.take_length] at C6
          refine ⟨⟨_, _, ws2, row2, wait2, rfl, h6, k6, p6, C6.done, s6, by omega⟩, ?_⟩
          show 2 * (ts.length - lenAt H6 (some (some (.ref r)))) + lenAt H6 (some (some (.ref wt))) < 2 * (ts.length - lenAt H4 (some (some (.ref r)))) + lenAt H4 (some (some (.ref wt)))
          rw [m4, m4', lenAt_lst k6, lenAt_dic h6, plen p6, show (trueKvs row2).length = row2.length from List.length_map _]
          omega
    · rintro σ H4 Q1 Q2 m h
      obtain ⟨x, e, k, t, z⟩ := h
      exact ⟨x, e, k, t, m _ _ z⟩
end
end Bk

namespace Bk
open PySem PySem.Spec PyProof.Rows L2
local macro_rules | `(tactic| walk_at "g") => `(tactic| (repeat first | refine ⟨_, rfl, ?_⟩ | refine ⟨cpow, ?_⟩ | refine ⟨_, _, rfl, rfl, ?_⟩ | refine ⟨rfl, ?_⟩))
theorem nat_sorted {a b : List Nat} (hp : a.Perm b) (ha : a.Pairwise (· ≤ ·)) (hb : b.Pairwise (· ≤ ·)) : a = b := hp.eq_of_pairwise (fun x y _ _ h1 h2 => Nat.le_antisymm h1 h2) ha hb
theorem trueKvs_old {l : List Nat} {n : Nat} (h : n ∈ l) : putK (trueKvs l) n (.bl true) = trueKvs l := by
  unfold putK
  rw [valV_any, trueKvs_has, decide_eq_true h, if_pos rfl]
  unfold trueKvs
  rw [List.map_map]
  refine List.map_congr_left fun x _ => ?_
  show (if x = n then (x, V.bl true) else (x, V.bl true)) = _
  split <;> rfl
/-- lists of things, each list new and its own -/
def RowsAt (M : Mo) (H H' : Hp) (l : Addr) (rows : List (List Nat)) : Prop := ∃ ps : List Addr, H' l = some (.lst (ps.map V.ref)) ∧ H l = none ∧ l ∉ ps ∧ ps.Nodup ∧ Paired (fun p row => H p = none ∧ ∃ vs, H' p = some (.lst vs) ∧ Paired (M.at H') vs row) ps rows
/-- lists that a walk left behind stand where they were -/
theorem rows_mono {M : Mo} {H H1 H2 : Hp} {ps : List Addr} {rows : List (List Nat)} (h : Paired (fun p row => H p = none ∧ ∃ vs, H1 p = some (.lst vs) ∧ Paired (M.at H1) vs row) ps rows) (t : TupK H1 H2) (k : ∀ p ∈ ps, ∀ xs, H1 p = some (.lst xs) → H2 p = some (.lst xs)) :
    Paired (fun p row => H p = none ∧ ∃ vs, H2 p = some (.lst vs) ∧ Paired (M.at H2) vs row) ps rows := pmonoM h fun p hp row z => by
  obtain ⟨n, vs, e, g⟩ := z
  exact ⟨n, vs, k p hp vs e, pmono g fun _ _ y => y.mono t⟩
section
variable {P : Program} {w : World} {K : PySem.W.Frag} {mg : Str → Option Value} {base : Heap}
abbrev srows_of : Stmt := topS 1
abbrev Nrows_of : List Str := ["links", "met", "rows", "first", "row", "thing"]
theorem scrows_of : FnScope Nrows_of ["links"] (defScope srows_of) := ⟨rfl, rfl, rfl, by decide +kernel, rfl, by decide +kernel, by decide +kernel⟩
def spRowsOf2 (M : Mo) (N : Nat) : Sp := fun vs H Q _ => ∃ (d : Addr) (ts0 ts : List Nat) (lk : Nat → List Nat), vs = [.ref d] ∧ LinkAt M H d ts0 lk ∧ ts0.Perm ts ∧ ts.Nodup ∧ ts.Pairwise (· ≤ ·) ∧ (∀ n ∈ ts, n < N) ∧ ts.length < M.cap ∧ ts.length < 400 ∧ (∀ n ∈ ts, ∀ m ∈ lk n, m ∈ ts) ∧ (∀ n m, m ∈ lk n → n ∈ lk m) ∧
  ∀ H' l, Same H H' → RowsAt M H H' l (rowsE (hangB (fun x y => y ∈ lk x)) ts) → Q (.ref l) H'
theorem okrows_of2 {f fR : Addr} {fd fdR : FuncData} {M : Mo} {N : Nat} (R : MoR M N K) (F : Fun K "rows_of" "rows_of" srows_of f fd) (F_reached : Fun K "_reached" "_reached" s_reached fR fdR) (g_reached : mg "_reached" = some (.ref fR)) (b_reached : Binds K fdR ["first", "links"] [])
    (G_reached : FnOk P w K mg base CX0 1 fR fdR ["first", "links"] (spReached M N)) (m_sorted : mg "sorted" = none) : FnOk P w K mg base CX0 2 f fd ["links"] (spRowsOf2 M N) := by
  refine F.ok scrows_of (fun vs H Q E h => ?_) (fun cdv A outer s H vs Q E hr h => ?_)
  · obtain ⟨d, ts0, ts, lk, rfl, _⟩ := h
    rfl
  · obtain ⟨d, ts0, ts, lk, rfl, hL, hpm0, hnd, hup, hN, hlen, h200, hcl, hsy, q⟩ := h
    have hN0 : ∀ n ∈ ts0, n < N := fun n hn => hN n (hpm0.mem_iff.mp hn)
    have nd := scrows_of.nd
    refine ⟨_, (pss_cons (ps_set (i := 1) nd rfl (.inl rfl) pe_dnewE)
      (pss_cons (ps_set (i := 2) nd rfl (.inl rfl) (pe_lst pa_nil))
      (pss_cons (ps_for PassesOwn.never rfl (kPiL K rfl (pi_list (pe_callB (srtDM R rfl rfl (Nat.lt_of_le_of_lt (Nat.add_le_add_left (by decide) _) hr.units)) (by rfl) m_sorted (by decide +kernel) (pa_cons (pv 0) pa_nil)))) (pg_name (i := 3) nd rfl (.inl rfl)) (pss_one (ps_if (pt_cmp (pc_dnotin (hu_of hr) (pv 3) (pv 1))) (pss_cons (ps_set (i := 4) nd rfl (.inl rfl) (pe_call G_reached (hr.mono (by first | decide | omega)) (by rfl) g_reached F_reached.kp b_reached .nil pass0 (pa_cons (pv 3) (pa_cons (pv 0) pa_nil))))
      (pss_cons (ps_for PassesOwn.never rfl (kPiL K rfl (pi_list (pv 4))) (pg_name (i := 5) nd rfl (.inl rfl)) (pss_one (ps_dput (hu_of hr) (pv 1) (pv 5) pe_bl rfl)))
      (pss_one (ps_expr (kBM K rfl (pe_bm PySem.F.plainAttrs_list PySem.F.slot_list_append PySem.F.type_list_append mt_append (pv 2) (pa_cons (pe_callB (srtM R rfl (Nat.lt_of_le_of_lt (Nat.add_le_add_left (by decide) _) hr.units)) (by rfl) m_sorted (by decide +kernel) (pa_cons (pv 4) pa_nil)) pa_nil))))))) pss_nil)))
      (pss_one (ps_ret (pv 2)))))), ?_⟩
    refine ⟨M.obj [], M.obj_nil, fun m nm => ?_⟩
    have s1 : Same H (upd H m (M.obj [])) := same_new nm
    have h1 : (upd H m (M.obj [])) m = some (M.obj (trueKvs [])) := upd_same
    generalize upd H m (M.obj []) = H1 at s1 h1 ⊢
    refine ⟨Nat.zero_le _, fun rl nrl => ?_⟩
    have mrl : m ≠ rl := ne_of_none h1 nrl
    have s2 : Same H (upd H1 rl (.lst [])) := s1.trans (same_new nrl)
    have h2 : (upd H1 rl (.lst [])) m = some (M.obj (trueKvs [])) := by
      rw [upd_ne mrl]
      exact h1
    have k2 : (upd H1 rl (.lst [])) rl = some (.lst (([] : List Addr).map V.ref)) := upd_same
    have nrl0 : H rl = none := s1.free nrl
    generalize upd H1 rl (.lst []) = H2 at s2 h2 k2 ⊢
    obtain ⟨kvs, e1, e2, e3⟩ := id hL
    refine ⟨.ref d, rfl, d, kvs, rfl, s2 _ _ e1, fun q hq => hN0 _ (by rw [← e2]; exact List.mem_map_of_mem hq), by rw [← List.length_map (f := fun q : Nat × V => q.1), e2, hpm0.length_eq]; exact hlen, fun sv ts' sl hsv hpm hso nsl => ?_⟩
    rw [e2] at hpm
    obtain rfl := nat_sorted (hpm.trans hpm0) hso hup
    have s3 : Same H (upd H2 sl (.lst sv)) := s2.trans (same_new nsl)
    have t3 : Same H2 (upd H2 sl (.lst sv)) := same_new nsl
    have h3 := t3 _ _ h2
    have k3 := t3 _ _ k2
    have l3 : (upd H2 sl (.lst sv)) sl = some (.lst sv) := upd_same
    have p3 := pmono hsv fun _ _ z => z.mono t3.tupK
    have sm : sl ≠ m := (ne_of_none h2 nsl).symm
    have srl : sl ≠ rl := (ne_of_none k2 nsl).symm
    generalize upd H2 sl (.lst sv) = H3 at s3 h3 k3 l3 p3 ⊢
    clear e1 e2 e3 kvs hpm hso hsv t3
    have EQ := hangB_eqv (r := fun x y => y ∈ lk x) hsy
    generalize hE : hangB (fun x y => y ∈ lk x) = Eq at q EQ
    refine ⟨sl, rfl, ⟨_, .inl (.inl l3)⟩, ?_⟩
    refine for_list (xs := sv) (fun i σ H4 => ∃ y3 y4 y5 mk ps, σ = [some (.ref d), some (.ref m), some (.ref rl), y3, y4, y5] ∧ H4 m = some (M.obj (trueKvs mk)) ∧ mk.Nodup ∧ (∀ x ∈ mk, x ∈ ts') ∧ (∀ y ∈ ts', y ∈ mk ↔ (fstE Eq (ts'.take i)).any (fun x => Eq x y) = true) ∧
        H4 rl = some (.lst (ps.map V.ref)) ∧ rl ∉ ps ∧ ps.Nodup ∧ Paired (fun p row => H p = none ∧ ∃ vs, H4 p = some (.lst vs) ∧ Paired (M.at H4) vs row) ps ((fstE Eq (ts'.take i)).map fun x => ts'.filter (Eq x)) ∧ Same H H4 ∧ H4 sl = some (.lst sv) ∧ Paired (M.at H4) sv ts')
      ⟨none, none, none, [], [], rfl, h3, List.nodup_nil, fun x hx => absurd hx List.not_mem_nil, fun y _ => by simp [fstE], k3, List.not_mem_nil, List.nodup_nil, .nil, s3, l3, p3⟩ ?_ ?_ ?_
    · rintro i σ H4 _ ⟨y3, y4, y5, mk, ps, rfl, h4, n4, b4, c4, k4, o4, d4, w4, s4, l4, p4⟩
      exact .inl (.inl l4)
    · rintro i x σ H4 hx ⟨y3, y4, y5, mk, ps, rfl, h4, n4, b4, c4, k4, o4, d4, w4, s4, l4, p4⟩
      obtain ⟨a, ha, hxa⟩ := pget' p4 hx
      have at_ : a ∈ ts' := List.mem_of_getElem? ha
      have kN : ∀ q ∈ trueKvs mk, q.1 < N := fun q hq => hN _ (b4 _ (by rw [← trueKvs_keys mk]; exact List.mem_map_of_mem hq))
      refine ⟨x, rfl, .ref m, rfl, m, _, rfl, Mo.get R.inj h4 hxa kN (hN a at_), _, rfl, ?_⟩
      rw [trueKvs_has]
      have fs : fstE Eq (ts'.take (i + 1)) = if (fstE Eq (ts'.take i)).any (fun y => Eq y a) then fstE Eq (ts'.take i) else fstE Eq (ts'.take i) ++ [a] := fstE_take ha
      refine ite2 (fun e => ?_) (fun e => ?_)
      · have am : a ∉ mk := by simpa using e
        have an : ¬ (fstE Eq (ts'.take i)).any (fun y => Eq y a) = true := fun z => am ((c4 a at_).mpr z)
        rw [if_neg an] at fs
        refine ⟨x, rfl, .ref d, rfl, x, d, ts0, lk, a, rfl, hxa, hL.same s4, hpm0.mem_iff.mpr at_, hpm0.symm.nodup hnd, hN0, by rw [hpm0.length_eq]; omega, fun n hn m hm => hpm0.mem_iff.mpr (hcl n (hpm0.mem_iff.mp hn) m hm), fun H5 l ys row s5 nl hl py pm0 => ?_⟩
        have pm := pm0.trans (hpm0.filter _)
        rw [hE] at pm
        have lm : l ≠ m := (ne_of_none h4 nl).symm
        have lrl : l ≠ rl := (ne_of_none k4 nl).symm
        have lsl : l ≠ sl := (ne_of_none l4 nl).symm
        have rN : ∀ n ∈ row, n ∈ ts' := fun n hn => (List.mem_filter.mp (pm.mem_iff.mp hn)).1
        have rlen : row.length ≤ ts'.length := by
          rw [pm.length_eq]
          exact List.length_filter_le _ _
        refine ⟨.ref l, rfl, l, rfl, ⟨_, .inl (.inl hl)⟩, ?_⟩
        refine for_list (xs := ys) (fun j σ H6 => ∃ y5 mk2, σ = [some (.ref d), some (.ref m), some (.ref rl), some x, some (.ref l), y5] ∧ H6 m = some (M.obj (trueKvs mk2)) ∧ mk2.Nodup ∧ (∀ x ∈ mk2, x ∈ ts') ∧ (∀ y ∈ ts', y ∈ mk2 ↔ y ∈ mk ∨ y ∈ row.take j) ∧ ∀ b, b ≠ m → H6 b = H5 b)
          ⟨y5, mk, rfl, s5 _ _ h4, n4, b4, fun y _ => by simp, fun _ _ => rfl⟩ ?_ ?_ ?_
        · rintro j σ H6 _ ⟨y5, mk2, rfl, h6, n6, b6, c6, o6⟩
          exact .inl (.inl (by rw [o6 _ lm]; exact hl))
        · rintro j z σ H6 hz ⟨y5, mk2, rfl, h6, n6, b6, c6, o6⟩
          obtain ⟨n, hn, hzn⟩ := pget' py hz
          have nt : n ∈ ts' := rN n (List.mem_of_getElem? hn)
          have t6 : TupK H5 H6 := fun b xs e => by
            rw [o6 b (fun y => by
              rw [y, s5 _ _ h4] at e
              exact M.obj_tup _ xs (Option.some.inj e))]
            exact e
          have kN6 : ∀ q ∈ trueKvs mk2, q.1 < N := fun q hq => hN _ (b6 _ (by rw [← trueKvs_keys mk2]; exact List.mem_map_of_mem hq))
          have l6 : mk2.length ≤ ts'.length := nodup_len n6 hnd b6
          have tk : row.take (j + 1) = row.take j ++ [n] := by
            rw [List.take_add_one, hn]
            rfl
          refine ⟨.ref m, rfl, z, rfl, m, _, rfl, Mo.put R.inj h6 (hzn.mono t6) kN6 (hN n nt) (small1000 (by unfold trueKvs; rw [List.length_map]; omega)), ?_⟩
          by_cases hin : n ∈ mk2
          · refine ⟨_, mk2, rfl, by rw [upd_same, trueKvs_old hin], n6, b6, fun y hy => ?_, fun b hb => by rw [upd_ne hb]; exact o6 b hb⟩
            rw [c6 y hy, tk, List.mem_append, List.mem_singleton]
            refine ⟨fun k => k.elim .inl fun k => .inr (.inl k), fun k => ?_⟩
            rcases k with k | k | k
            · exact .inl k
            · exact .inr k
            · rw [k]
              exact (c6 n nt).mp hin
          · refine ⟨_, mk2 ++ [n], rfl, by rw [upd_same, trueKvs_put hin], ?_, fun y hy => ?_, fun y hy => ?_, fun b hb => by rw [upd_ne hb]; exact o6 b hb⟩
            · rw [List.nodup_append]
              refine ⟨n6, by simp, fun u hu v hv e => ?_⟩
              rw [List.mem_singleton.mp hv] at e
              exact hin (e ▸ hu)
            · rcases List.mem_append.mp hy with hy | hy
              · exact b6 y hy
              · rw [List.mem_singleton.mp hy]
                exact nt
            · rw [List.mem_append, c6 y hy, tk, List.mem_append]
              exact or_assoc
        · rintro σ H6 ⟨y5, mk2, rfl, h6, n6, b6, c6, o6⟩
          rw [plen py, List.take_length] at c6
          have t6 : TupK H5 H6 := fun b xs e => by
            rw [o6 b (fun y => by
              rw [y, s5 _ _ h4] at e
              exact M.obj_tup _ xs (Option.some.inj e))]
            exact e
          have hl6 : H6 l = some (.lst ys) := by
            rw [o6 _ lm]
            exact hl
          have k6 : H6 rl = some (.lst (ps.map V.ref)) := by
            rw [o6 _ mrl.symm]
            exact s5 _ _ k4
          have l6 : H6 sl = some (.lst sv) := by
            rw [o6 _ sm]
            exact s5 _ _ l4
          have s6 : Same H H6 := fun b o e => by
            rw [o6 b (fun y => by
              rw [y, nm] at e
              cases e)]
            exact s5 _ _ (s4 _ _ e)
          have pl := plen w4
          have fl : (fstE Eq (ts'.take i)).length ≤ 400 := by
            have g : ∀ l : List Nat, (fstE Eq l).length ≤ l.length := by
              refine snoc_ind (Nat.le_refl _) fun l x ih => ?_
              rw [fstE_snoc, List.length_append]
              split
              · omega
              · rw [List.length_append]
                simp only [List.length_cons, List.length_nil]
                omega
            have := g (ts'.take i)
            rw [List.length_take] at this
            omega
          rw [List.length_map] at pl
          refine ⟨.ref rl, rfl, .inl ⟨rfl, _, .inl (.inl k6)⟩, .ref l, rfl, l, ys, row, rfl, hl6, pmono py fun _ _ z => z.mono t6, fun n hn => hN n (rN n hn), by omega, fun zs l' p hz hpm hso np => ?_⟩
          obtain rfl := nat_sorted (hpm.trans pm) hso (hup.filter _)
          have t7 : Same H6 (upd H6 p (.lst zs)) := same_new np
          have h7 := t7 _ _ h6
          have k7 := t7 _ _ k6
          have l7 := t7 _ _ l6
          have z7 : (upd H6 p (.lst zs)) p = some (.lst zs) := upd_same
          have g7 := pmono hz fun _ _ z => z.mono t7.tupK
          have prl : p ≠ rl := (ne_of_none k6 np).symm
          have pps : p ∉ ps := fun hp => by
            obtain ⟨j, hj⟩ := List.mem_iff_getElem?.mp hp
            obtain ⟨row2, _, _, vs, e, _⟩ := pget' w4 hj
            have e5 := s5 _ _ e
            have pm' : p ≠ m := fun z => by
              rw [z, s5 _ _ h4] at e5
              exact M.obj_lst _ vs (Option.some.inj e5)
            rw [← o6 p pm', np] at e5
            cases e5
          generalize upd H6 p (.lst zs) = H7 at t7 h7 k7 l7 z7 g7 ⊢
          refine ⟨rl, _, _, rfl, rfl, k7, small1000 (by rw [List.length_map]; omega), ?_⟩
          have t8 : TupK H7 (upd H7 rl (.lst (ps.map V.ref ++ [.ref p]))) := tupK_lst k7
          refine ⟨_, _, _, mk2, ps ++ [p], rfl, ?_, n6, b6, fun y hy => ?_, ?_, ?_, ?_, ?_, same_fill (s6.trans t7) nrl0, ?_, ?_⟩
          · rw [upd_ne mrl]
            exact h7
          · rw [c6 y hy, fs, List.any_append, Bool.or_eq_true, ← c4 y hy]
            refine or_congr Iff.rfl ?_
            rw [pm.mem_iff, List.mem_filter]
            simp only [List.any_cons, List.any_nil, Bool.or_false]
            exact ⟨fun z => z.2, fun z => ⟨hy, z⟩⟩
          · rw [upd_same, List.map_append]
            rfl
          · intro z
            rcases List.mem_append.mp z with z | z
            · exact o4 z
            · exact prl (List.mem_singleton.mp z).symm
          · rw [List.nodup_append]
            refine ⟨d4, by simp, fun u hu v hv e => ?_⟩
            rw [List.mem_singleton.mp hv] at e
            exact pps (e ▸ hu)
          · rw [fs, List.map_append]
            refine papp (rows_mono w4 ((s5.tupK.trans t6).trans (t7.tupK.trans t8)) fun b hb xs e => ?_) (.cons ⟨s6.free np, zs, ?_, pmono g7 fun _ _ z => z.mono t8⟩ .nil)
            · have bm : b ≠ m := fun z => by
                rw [z, h4] at e
                exact M.obj_lst _ xs (Option.some.inj e)
              rw [upd_ne (fun z : b = rl => o4 (z ▸ hb))]
              refine t7 _ _ ?_
              rw [o6 b bm]
              exact s5 _ _ e
            · rw [upd_ne prl]
              exact z7
          · rw [upd_ne srl]
            exact l7
          · exact pmono p4 fun _ _ z => z.mono ((s5.tupK.trans t6).trans (t7.tupK.trans t8))
      · have am : a ∈ mk := by simpa using e
        have an := (c4 a at_).mp am
        rw [if_pos an] at fs
        refine ⟨_, y4, y5, mk, ps, rfl, h4, n4, b4, ?_, k4, o4, d4, ?_, s4, l4, p4⟩
        · rw [fs]
          exact c4
        · rw [fs]
          exact w4
    · rintro σ H4 ⟨y3, y4, y5, mk, ps, rfl, h4, n4, b4, c4, k4, o4, d4, w4, s4, l4, p4⟩
      rw [plen p4, List.take_length] at w4
      exact ⟨_, rfl, q H4 rl s4 ⟨ps, k4, nrl0, o4, d4, w4⟩⟩
def spRowsOf (M : Mo) (N : Nat) : Sp := fun vs H Q _ => ∃ (d : Addr) (ts : List Nat) (lk : Nat → List Nat), vs = [.ref d] ∧ LinkAt M H d ts lk ∧ ts.Nodup ∧ ts.Pairwise (· ≤ ·) ∧ (∀ n ∈ ts, n < N) ∧ ts.length < M.cap ∧ ts.length < 400 ∧ (∀ n ∈ ts, ∀ m ∈ lk n, m ∈ ts) ∧ (∀ n m, m ∈ lk n → n ∈ lk m) ∧
  ∀ H' l, Same H H' → RowsAt M H H' l (rowsE (hangB (fun x y => y ∈ lk x)) ts) → Q (.ref l) H'
theorem okrows_of {f fR : Addr} {fd fdR : FuncData} {M : Mo} {N : Nat} (R : MoR M N K) (F : Fun K "rows_of" "rows_of" srows_of f fd) (F_reached : Fun K "_reached" "_reached" s_reached fR fdR) (g_reached : mg "_reached" = some (.ref fR)) (b_reached : Binds K fdR ["first", "links"] [])
    (G_reached : FnOk P w K mg base CX0 1 fR fdR ["first", "links"] (spReached M N)) (m_sorted : mg "sorted" = none) : FnOk P w K mg base CX0 2 f fd ["links"] (spRowsOf M N) :=
  (okrows_of2 R F F_reached g_reached b_reached G_reached m_sorted).imp fun vs H Q E h => by
    obtain ⟨d, ts, lk, e, hL, h⟩ := h
    exact ⟨d, ts, ts, lk, e, hL, .refl _, h⟩
end
end Bk

namespace Bk
open PySem PySem.Spec PyProof.Rows L2
local macro_rules | `(tactic| walk_at "g") => `(tactic| (repeat first | refine ⟨_, rfl, ?_⟩ | refine ⟨cpow, ?_⟩ | refine ⟨_, _, rfl, rfl, ?_⟩ | refine ⟨rfl, ?_⟩))
theorem units8 {k : Nat} {A : Around} (hr : Room k A) : A.units + 8 < cLine := by
  have := hr.units
  omega
theorem kPiE {X : Cx} (K : PySem.W.Frag) {tg l : Expr} {ta : TA} (h : X.K = K) (x : PI X tg l (iEnum X.K ta)) : PI X tg l (iEnum K ta) := h ▸ x
section
variable {P : Program} {w : World} {K : PySem.W.Frag} {mg : Str → Option Value} {base : Heap}
theorem valV_mem {κ : Type} [DecidableEq κ] {kvs : List (κ × V)} {k : κ} {v : V} (hn : (kvs.map (·.1)).Nodup) (h : (k, v) ∈ kvs) : valV kvs k = some v := by
  induction kvs with
  | nil => cases h
  | cons q r ih =>
    rw [List.map_cons, List.nodup_cons] at hn
    rcases List.mem_cons.mp h with e | h
    · subst e
      exact valV_pos rfl
    · rw [valV_neg (fun e => hn.1 (by rw [e]; exact List.mem_map_of_mem h))]
      exact ih hn.2 h
/-- each thing with its place -/
def placeKvs (ts : List Nat) (i : Nat) : List (Nat × V) := (List.range i).map fun k => (ts.getD k 0, intV k)
theorem placeKvs_succ (ts : List Nat) (i : Nat) : placeKvs ts (i + 1) = placeKvs ts i ++ [(ts.getD i 0, intV i)] := by
  unfold placeKvs
  rw [List.range_succ, List.map_append]
  rfl
theorem placeKvs_keys (ts : List Nat) : (placeKvs ts ts.length).map (·.1) = ts := by
  unfold placeKvs
  rw [List.map_map]
  refine List.ext_getElem? fun j => ?_
  rw [List.getElem?_map]
  by_cases h : j < ts.length
  · rw [List.getElem?_range h, List.getElem?_eq_getElem h]
    show some (ts[j]?.getD 0) = _
    rw [List.getElem?_eq_getElem h]
    rfl
  · rw [List.getElem?_eq_none (by rw [List.length_range]; omega), List.getElem?_eq_none (by omega)]
    rfl
theorem placeKvs_get {ts : List Nat} (hn : ts.Nodup) {n : Nat} (h : n ∈ ts) : valV (placeKvs ts ts.length) n = some (intV (ts.idxOf n)) := by
  refine valV_mem (by rw [placeKvs_keys]; exact hn) ?_
  unfold placeKvs
  have hl := List.idxOf_lt_length_of_mem h
  refine List.mem_map.mpr ⟨ts.idxOf n, List.mem_range.mpr hl, ?_⟩
  rw [show ts.getD (ts.idxOf n) 0 = n from ?_]
  show ts[ts.idxOf n]?.getD 0 = n
  rw [List.getElem?_eq_getElem hl]
  exact List.getElem_idxOf hl
def ixPairs (ts : List Nat) (ps : List (Nat × Nat)) : List (Nat × Nat) := ps.map fun q => (ts.idxOf q.1, ts.idxOf q.2)
theorem Hang.map {α β : Type} {r : α → α → Prop} {r' : β → β → Prop} {f : α → β} (h : ∀ x y, r x y → r' (f x) (f y)) {x y : α} (a : Hang r x y) : Hang r' (f x) (f y) := by
  induction a with
  | rfl => exact .rfl _
  | step _ s ih => exact .step ih (h _ _ s)
theorem hang_ix {ts : List Nat} {ps : List (Nat × Nat)} (hps : ∀ q ∈ ps, q.1 ∈ ts ∧ q.2 ∈ ts) {x y : Nat} (hx : x ∈ ts) (hy : y ∈ ts) : Hang (pairR (ixPairs ts ps)) (ts.idxOf x) (ts.idxOf y) ↔ Hang (pairR ps) x y := by
  have g : ∀ n, n ∈ ts → ts.getD (ts.idxOf n) 0 = n := fun n h => by
    have hl := List.idxOf_lt_length_of_mem h
    show ts[ts.idxOf n]?.getD 0 = n
    rw [List.getElem?_eq_getElem hl]
    exact List.getElem_idxOf hl
  constructor
  · intro h
    have := h.map (f := fun i => ts.getD i 0) (r' := pairR ps) fun i j s => by
      unfold pairR ixPairs at *
      rcases s with s | s
      · obtain ⟨q, hq, e⟩ := List.mem_map.mp s
        injection e with e1 e2
        subst e1 e2
        rw [g _ (hps q hq).1, g _ (hps q hq).2]
        exact .inl hq
      · obtain ⟨q, hq, e⟩ := List.mem_map.mp s
        injection e with e1 e2
        subst e1 e2
        rw [g _ (hps q hq).1, g _ (hps q hq).2]
        exact .inr hq
    rw [g x hx, g y hy] at this
    exact this
  · intro h
    refine h.map (f := fun n => ts.idxOf n) fun a b s => ?_
    unfold pairR ixPairs at *
    rcases s with s | s
    · exact .inl (List.mem_map.mpr ⟨_, s, rfl⟩)
    · exact .inr (List.mem_map.mpr ⟨_, s, rfl⟩)
theorem ixPairs_take {ts : List Nat} {ps : List (Nat × Nat)} {j : Nat} {q : Nat × Nat} (h : ps[j]? = some q) : ixPairs ts (ps.take (j + 1)) = ixPairs ts (ps.take j) ++ [(ts.idxOf q.1, ts.idxOf q.2)] := by
  unfold ixPairs
  rw [List.take_add_one, h, List.map_append]
  rfl
theorem refs_of {κ β : Type} {F : Addr → β → Prop} : ∀ {kvs : List (κ × V)} {fs : List β}, Paired (fun kv x => ∃ q, kv.2 = .ref q ∧ F q x) kvs fs → ∃ ps : List Addr, kvs.map (·.2) = ps.map V.ref ∧ Paired F ps fs
  | _, _, .nil => ⟨[], rfl, .nil⟩
  | _, _, .cons r t => by
    obtain ⟨q, e, h⟩ := r
    obtain ⟨ps, e2, h2⟩ := refs_of t
    exact ⟨q :: ps, by rw [List.map_cons, List.map_cons, e, e2], .cons h h2⟩
theorem rows_map {M : Mo} {H H1 H2 : Hp} {g : Nat → List Nat} (s : Same H1 H2) : ∀ {ps : List Addr} {fs : List Nat}, Paired (fun q x => H q = none ∧ ∃ vs, H1 q = some (.lst vs) ∧ Paired (M.at H1) vs (g x)) ps fs → Paired (fun p row => H p = none ∧ ∃ vs, H2 p = some (.lst vs) ∧ Paired (M.at H2) vs row) ps (fs.map g)
  | _, _, .nil => .nil
  | _, _, .cons r t => by
    obtain ⟨h1, vs, h2, h3⟩ := r
    exact .cons ⟨h1, vs, s _ _ h2, pmono h3 fun _ _ z => z.mono s.tupK⟩ (rows_map s t)
theorem pmapL {α β γ : Type} {F : α → β → Prop} {G : γ → β → Prop} {g : α → γ} : ∀ {xs : List α} {ys : List β}, Paired F xs ys → (∀ a ∈ xs, ∀ b, F a b → G (g a) b) → Paired G (xs.map g) ys
  | _, _, .nil, _ => .nil
  | _, _, .cons r t, m => .cons (m _ List.mem_cons_self _ r) (pmapL t fun a ha => m a (List.mem_cons_of_mem _ ha))
/-- a pair of things, as a tuple of two -/
def Mo.two (M : Mo) (K : PySem.W.Frag) (H : Hp) (v : V) (q : Nat × Nat) : Prop := ∃ a x y, v = .ref a ∧ SqT K H a [x, y] ∧ M.at H x q.1 ∧ M.at H y q.2
def spClasses (M : Mo) (N : Nat) (K : PySem.W.Frag) : Sp := fun vs H Q _ => ∃ (t p : Addr) (tvs pvs : List V) (ts us : List Nat) (ps : List (Nat × Nat)), vs = [.ref t, .ref p] ∧ H t = some (.lst tvs) ∧ Paired (M.at H) tvs ts ∧ H p = some (.lst pvs) ∧ Paired (M.two K H) pvs ps ∧
  ts.Nodup ∧ (∀ n ∈ ts, n < N) ∧ ts.length < M.cap ∧ ts.length < 400 ∧ us.Perm ts ∧ us.Pairwise (· ≤ ·) ∧ (∀ q ∈ ps, q.1 ∈ ts ∧ q.2 ∈ ts) ∧ ∀ H' l, Same H H' → RowsAt M H H' l (rowsE (hangB (pairR ps)) us) → Q (.ref l) H'
end
end Bk

namespace Bk
open PySem PySem.Spec PyProof.Rows L2
/-! ### dicts made by more than one clause -/
/-- slots that know no less -/
def More (a b : L2.St) : Prop := b.length = a.length ∧ ∀ (j : Nat) v, a[j]? = some (some v) → b[j]? = some (some v)
theorem More.trans {a b c : L2.St} (h : More a b) (g : More b c) : More a c := ⟨g.1.trans h.1, fun j v e => g.2 j v (h.2 j v e)⟩
theorem More.of_wipe {a b : L2.St} {vs : List Nat} (h : wipe b vs = a) : More a b :=
  ⟨by rw [← h, wipe_length], fun j v e => by
    rw [← h] at e
    exact (wipe_some e).1⟩
theorem More.part {a b : L2.St} {vs ws : List Nat} (h : wipe b vs = a) (s : ∀ i ∈ ws, i ∈ vs) : More a (wipe b ws) :=
  ⟨by rw [← h, wipe_length, wipe_length], fun j v e => by
    rw [← h] at e
    obtain ⟨e1, e2⟩ := wipe_some e
    rw [wipe_out fun z => e2 (s j z)]
    exact e1⟩
def NoE : Value → Shared → Prop := fun _ _ => False
/-- one clause's loop: what its body does is told by B -/
theorem clause {Y : Cx} {c : Code} {R : Result → Shared → Prop} {tg : Expr} {ifs : List Expr} {g : TG} {tt : TT} {J : It} {fp : List Addr} {it : Addr} {tn : Nat → Heap → Prop} {pins : List (Addr × Obj)} {σ : L2.St} {V : List Nat} {B : (Shared → Prop) → Shared → Prop} {Bd : L2.St → Hp → (Hp → Prop) → Prop} {W : Nat → Nat → Hp → Prop} {Done : Hp → Prop}
    (calm : Y.calm = true) (quiet : c.quiet = true) (T : Turn Y.prog Y.w Y.K tg J fp it tn) (pg : PG Y tg g) (pt : PTs Y ifs tt) (noE : Y.xe = NoE) (f0 : ∀ (H : Hp) (s : Shared), Inv Y pins (wipe σ V) H s → (∀ b ∈ fp, H b = none) → ∀ b ∈ fp, FpOk Y pins H b)
    (turn : ∀ (s : Shared) (Q : PySem.Fin → Shared → Prop), wpAny (model Y.prog Y.w) Y.A (pyNext (.ref it)) (fun r s1 => match r with
      | none => Q (.done .next) s1
      | some v => wpAny (model Y.prog Y.w) Y.A (letOwnedTupleGo tg (.ref it) v) (fun _ s2 => wpAny (model Y.prog Y.w) Y.A (assign tg Y.env v) (fun _ s3 =>
          wpAny (model Y.prog Y.w) Y.A (forIn ifs true fun c r => if r = true then do let ok ← isTrue c Y.env (eval c Y.env); pure (ForInStep.yield ok) else pure (ForInStep.yield r))
            (fun ok s4 => if ok = true then B (Q (.again c)) s4 else Q (.again c) s4) NoE s3) NoE s2) NoE s1) NoE s →
      wpAny (model Y.prog Y.w) (Y.A.under c) ((model Y.prog Y.w).den c) Q (fun e s' => R (.error e) s') s)
    (hW : ∀ i m H, W i m H → (J.stop i H ∧ Done H) ∨ (J.go i H ∧ ∃ Nx : Hp → Prop, (∀ H', Nx H' → ∃ m', m' < m ∧ W (i + 1) m' H') ∧ ∀ x H', J.yld i H x H' → g x (wipe σ V) H' fun σ2 H2 => wipe σ2 V = wipe σ V ∧ tt σ2 H2 fun b H3 => if b = true then Bd σ2 H3 Nx else Nx H3))
    (body : ∀ (pl : List (Addr × Obj)) (σ2 : L2.St) (H : Hp) (s : Shared) (Nx : Hp → Prop) (k : Shared → Prop), Inv Y (pins ++ pl) σ2 H s → wipe σ2 V = wipe σ V → Bd σ2 H Nx → (∀ σ' H' s', Inv Y (pins ++ pl) σ' H' s' → More (wipe σ V) σ' → Nx H' → k s') → B k s)
    (last : ∀ H s, Inv Y pins (wipe σ V) H s → Done H → R (.ok .next) s) {m : Nat} {H : Hp} {s : Shared} (I : Inv Y pins (wipe σ V) H s) (st : tn 0 s.heap) (fr : ∀ b ∈ fp, H b = none) (w0 : W 0 m H) :
    codeAny (model Y.prog Y.w) Y.A c R s := by
  refine codeAny_loop quiet (fun n s => ∃ i H, Inv Y pins (wipe σ V) H s ∧ tn i s.heap ∧ (∀ b ∈ fp, H b = none) ∧ W i n H) ?_ m ⟨0, H, I, st, fr, w0⟩
  rintro n s1 ⟨i, H1, I1, st1, fr1, w1⟩
  refine turn s1 _ ?_
  rcases hW i n H1 w1 with ⟨stop, dn⟩ | ⟨go, Nx, hN, step⟩
  · refine thnF (T.done Y rfl rfl rfl calm i pins s1 (wipe σ V) H1 NoE I1 (f0 H1 s1 I1 fr1) st1 stop) ?_
    rintro r s2 ⟨rfl, I2⟩
    exact last H1 s2 I2 dn
  · refine thnF (T.item Y rfl rfl rfl calm i pins s1 (wipe σ V) H1 NoE I1 (f0 H1 s1 I1 fr1) st1 go) ?_
    rintro r s2 ⟨u, rfl, h2⟩
    refine thnF h2 ?_
    rintro _ s3 ⟨x, H3, I3, rx, yx, st3, fr3⟩
    have P3 := I3.pinned (f0 H3 s3 I3 fr3) (T.obj _ _ st3)
    have back : ∀ {σ' : L2.St} {H' : Hp} {s' : Shared}, Inv Y (pins ++ pinsAt fp s3.heap) σ' H' s' → More (wipe σ V) σ' → Nx H' → ∃ m', m' < n ∧ ∃ i H, Inv Y pins (wipe σ V) H s' ∧ tn i s'.heap ∧ (∀ b ∈ fp, H b = none) ∧ W i m' H := fun {σ' H' s'} I' k' nx => by
      obtain ⟨m', lt, w'⟩ := hN H' nx
      have same : ∀ b ∈ fp, ∀ o, s3.heap.get? b = some o → s'.heap.get? b = some o ∧ H' b = none := fun b hb o e => by
        obtain ⟨e1, e2, _⟩ := I'.pin (b, o) (List.mem_append_right _ (List.mem_append_right _ (mem_pinsAt hb e)))
        exact ⟨e1, e2⟩
      refine ⟨m', lt, i + 1, H', I'.unpinned.weak k'.1.symm k'.2, T.keep _ _ _ st3 (fun b hb o e => (same b hb o e).1), fun b hb => ?_, w'⟩
      obtain ⟨o, e, _⟩ := T.obj _ _ st3 b hb
      exact (same b hb o e).2
    have r1 := pg.run _ s3 (wipe σ V) H3 x u _ P3 rx (step x H3 yx)
    rw [noE] at r1
    refine thnF r1 ?_
    rintro _ s4 ⟨σ4, H4, I4, k4, q4⟩
    have r2 := pt.run _ s4 σ4 H4 _ I4 q4
    rw [noE] at r2
    refine thnF r2 ?_
    rintro b s5 ⟨H5, I5, q5⟩
    cases b with
    | false => exact ⟨rfl, back I5 (More.of_wipe k4) q5⟩
    | true => exact body _ σ4 H5 s5 Nx _ I5 k4 q5 fun σ' H' s' I' k' nx => ⟨rfl, back I' k' nx⟩
end Bk

namespace Bk
open PySem PySem.Spec PyProof.Rows L2
section
variable {prog : Program} {w : World} {A : Around} {kx vx tg src : Expr} {ifs : List Expr} {cs : List Comprehension} {i : Nat} {scope : Scope} {pos : Pos} {it : Value} {D : Addr} {env : Env}
/-- what clause i does with each: the next clause's loop, or the key and the value -/
def restW (prog : Program) (w : World) (A : Around) (kx vx : Expr) (cs : List Comprehension) (i : Nat) (scope : Scope) (pos : Pos) (D : Addr) (env : Env) (k : Shared → Prop) (s : Shared) : Prop :=
  match cs[i + 1]? with
  | some g => g.is_async = 0 ∧ (∀ x, foldedSetIterable g.iter env x = pure x) ∧ wpAny (model prog w) A (eval g.iter env) (fun x s5 => wpAny (model prog w) A (pyIter x) (fun it1 s6 =>
      codeAny (model prog w) A (.compStart (.DictComp kx vx cs scope pos) (i + 1) it1 (.ref D) env) (fun r s' => (∃ f, r = .ok f) ∧ k s') s6) NoE s5) NoE s
  | none => wpAny (model prog w) A (eval kx env) (fun kv s5 => wpAny (model prog w) A (eval vx env) (fun vv s6 => wpAny (model prog w) A (dictSet D kv vv) (fun _ s7 => k s7) NoE s6) NoE s5) NoE s
/-- a turn of clause i -/
theorem wp_turn {R : Result → Shared → Prop} {s : Shared} {Q : PySem.Fin → Shared → Prop} {c : Code} (hc : c = .compLoop (.DictComp kx vx cs scope pos) i it (.ref D) env) (h0 : cs[i]? = some ⟨tg, src, ifs, 0⟩)
    (h : wpAny (model prog w) A (pyNext it) (fun r s1 => match r with
      | none => Q (.done .next) s1
      | some v => wpAny (model prog w) A (letOwnedTupleGo tg it v) (fun _ s2 => wpAny (model prog w) A (assign tg env v) (fun _ s3 =>
          wpAny (model prog w) A (forIn ifs true fun c' ok => if ok = true then do let y ← isTrue c' env (eval c' env); pure (ForInStep.yield y) else pure (ForInStep.yield ok)) (fun ok s4 => if ok = true then restW prog w A kx vx cs i scope pos D env (Q (.again c)) s4 else Q (.again c) s4) NoE s3) NoE s2) NoE s1) NoE s) :
    wpAny (model prog w) (A.under c) ((model prog w).den c) Q (fun e s' => R (.error e) s') s := by
  subst hc
  show wpAny _ A ((compTurn (.DictComp kx vx cs scope pos) i it (.ref D) env).onRaise (fun x => do noteFrame x env; theTreesLotGoes x)) _ _ s
  refine wpAny_noted ?_
  unfold compTurn
  dsimp only
  rw [h0]
  dsimp only
  refine wpAny_bind (wpAny_standAt ?_)
  refine wpAny_bind (thnF h fun r s1 h1 => ?_)
  cases r with
  | none => exact wpAny_pure h1
  | some v =>
    refine wpAny_bind (thnF h1 fun _ s2 h2 => ?_)
    refine wpAny_bind (thnF h2 fun _ s3 h3 => ?_)
    refine wpAny_bind (thnF h3 fun ok s4 h4 => ?_)
    cases ok with
    | false => exact wpAny_pure h4
    | true =>
      rw [if_pos rfl]
      replace h4 : restW prog w A kx vx cs i scope pos D env (Q (.again (.compLoop (.DictComp kx vx cs scope pos) i it (.ref D) env))) s4 := h4
      unfold restW at h4
      split at h4
      · rename_i g hg
        rw [hg]
        obtain ⟨h5, h6, h7⟩ := h4
        dsimp only
        refine wpAny_bind (thnF h7 fun x s5 h8 => ?_)
        refine wpAny_bind (wpAny_standAt ?_)
        rw [h5]
        refine wpAny_bind (wpAny_of_eq (h6 x) (wpAny_bind (wpAny_holding (thnF h8 fun it1 s6 h9 => ?_))))
        refine wpAny_bind (wpAny_runOwn ?_)
        rw [Around.mark_none]
        refine codeAny_mono h9 fun r s' hr => ?_
        obtain ⟨⟨f, rfl⟩, hk⟩ := hr
        exact wpAny_pure hk
      · rename_i hg
        rw [hg]
        refine wpAny_bind (wpAny_bind (thnF h4 fun kv s5 h5 => ?_))
        refine wpAny_bind (wpAny_holding (thnF h5 fun vv s6 h6 => ?_))
        refine wpAny_bind (wpAny_standAt ?_)
        exact wpAny_holding (thnF h6 fun _ s7 h7 => wpAny_pure h7)
/-- how a clause starts -/
theorem wp_start {R : Result → Shared → Prop} {s : Shared} (h0 : cs[i]? = some ⟨tg, src, ifs, 0⟩) 
    (h : codeAny (model prog w) A (.compLoop (.DictComp kx vx cs scope pos) i it (.ref D) env) R s)
    (g : wpAny (model prog w) A (pyIter it) (fun it' s' => codeAny (model prog w) A (.compLoop (.DictComp kx vx cs scope pos) i it' (.ref D) env) R s') NoE s) :
    codeAny (model prog w) A (.compStart (.DictComp kx vx cs scope pos) i it (.ref D) env) R s := by
  refine codeAny_of_tree ?_
  show wpAny _ A ((compStart (.DictComp kx vx cs scope pos) i it (.ref D) env).onRaise (fun x => do noteFrame x env; standAt theWindowsPlace)) _ _ s
  refine wpAny_notedAt ?_
  unfold compStart
  rw [show clausesOf (.DictComp kx vx cs scope pos) = cs from rfl, h0]
  rw [if_neg (show ¬ ((some (⟨tg, src, ifs, 0⟩ : Comprehension)).elim false fun x => x.is_async != 0) = true by simp)]
  refine wpAny_bind (wpAny_askSetting ?_)
  dsimp only
  split
  · exact wpAny_pure ⟨rfl, h⟩
  · refine wpAny_bind (wpAny_rule ?_)
    refine wpAny_bind (wpAny_standAt ?_)
    exact wpAny_bind (thnF g fun it' s' h' => wpAny_pure ⟨rfl, h'⟩)
end
end Bk

namespace Bk
open PySem PySem.Spec PyProof.Rows L2
/-- a clause, and how it is walked; vs: its names and those of the clauses behind it -/
structure Cl where
  vs : List Nat
  tg : Expr
  src : Expr
  ifs : List Expr
  wi : TI
  g : TG
  tt : TT
def Cl.py (c : Cl) : Comprehension := ⟨c.tg, c.src, c.ifs, 0⟩
structure Cl.Ok (c : Cl) (Y : Cx) : Prop where
  i : PI Y c.tg c.src c.wi
  g : PG Y c.tg c.g
  t : PTs Y c.ifs c.tt
/-- a walk over a clause's things, of which each is handed to u -/
def tWalk (c : Cl) (vs : List Nat) (u : L2.St → Hp → (Hp → Prop) → Prop) (J : It) (σ : L2.St) (H0 : Hp) (Done : Hp → Prop) : Prop := ∃ W : Nat → Nat → Hp → Prop, (∃ m, W 0 m H0) ∧ ∀ i m H, W i m H →
  (J.stop i H ∧ Done H) ∨ (J.go i H ∧ ∃ Nx : Hp → Prop, (∀ H', Nx H' → ∃ m', m' < m ∧ W (i + 1) m' H') ∧ ∀ x H', J.yld i H x H' → c.g x (wipe σ vs) H' fun σ2 H2 => wipe σ2 vs = wipe σ vs ∧ c.tt σ2 H2 fun b H3 => if b = true then u σ2 H3 Nx else Nx H3)
/-- behind the first clause: those left, then the key and the value -/
def tCls (tk tv : TE) (D : Addr) : List Cl → L2.St → Hp → (Hp → Prop) → Prop
  | [] => fun σ H Nx => tk σ H fun y H1 => tv σ H1 fun z H2 => ∃ H3, DPut H2 D y z H3 ∧ Nx H3
  | c :: cs => fun σ H Nx => c.wi σ H fun J H1 => tWalk c c.vs (tCls tk tv D cs) J σ H1 Nx
def headVs : List Cl → List Nat
  | [] => []
  | c :: _ => c.vs
def Nested : List Cl → Prop
  | [] => True
  | c :: cs => (∀ i ∈ headVs cs, i ∈ c.vs) ∧ Nested cs
theorem More.refl (a : L2.St) : More a a := ⟨rfl, fun _ _ e => e⟩
section
variable {Y : Cx} {kx vx : Expr} {tk tv : TE} {D : Addr} {scope : Scope} {pos : Pos} {all : List Cl}
/-- the loop of a clause, when what is behind it is known -/
theorem cl_loop {c : Cl} {cs : List Cl} {i : Nat} {R : Result → Shared → Prop} {J : It} {fp : List Addr} {it : Addr} {tn : Nat → Heap → Prop} {pins : List (Addr × Obj)} {σ : L2.St} {V : List Nat} {Done : Hp → Prop}
    (calm : Y.calm = true) (noE : Y.xe = NoE) (hc : (all.map Cl.py)[i]? = some c.py) (T : Turn Y.prog Y.w Y.K c.tg J fp it tn) (og : PG Y c.tg c.g) (ot : PTs Y c.ifs c.tt) (f0 : ∀ (H : Hp) (s : Shared), Inv Y pins (wipe σ V) H s → (∀ b ∈ fp, H b = none) → ∀ b ∈ fp, FpOk Y pins H b)
    (hV : ∀ i ∈ headVs cs, i ∈ V)
    (rest : ∀ (pl : List (Addr × Obj)) (σ2 : L2.St) (H : Hp) (s : Shared) (Nx : Hp → Prop) (k : Shared → Prop), Inv Y (pins ++ pl) σ2 H s → tCls tk tv D cs σ2 H Nx → (∀ σ' H' s', Inv Y (pins ++ pl) σ' H' s' → More (wipe σ2 (headVs cs)) σ' → Nx H' → k s') →
      restW Y.prog Y.w Y.A kx vx (all.map Cl.py) i scope pos D Y.env k s)
    (last : ∀ H s, Inv Y pins (wipe σ V) H s → Done H → R (.ok .next) s) {H : Hp} {s : Shared} (I : Inv Y pins (wipe σ V) H s) (st : tn 0 s.heap) (fr : ∀ b ∈ fp, H b = none) (hw : tWalk c V (tCls tk tv D cs) J σ H Done) :
    codeAny (model Y.prog Y.w) Y.A (.compLoop (.DictComp kx vx (all.map Cl.py) scope pos) i (.ref it) (.ref D) Y.env) R s := by
  obtain ⟨W, ⟨m, w0⟩, hW⟩ := hw
  refine clause (Bd := tCls tk tv D cs) (W := W) calm rfl T og ot noE f0 (fun s Q h => wp_turn (scope := scope) (pos := pos) (kx := kx) (vx := vx) (D := D) (cs := all.map Cl.py) rfl hc h) hW (fun pl σ2 H s Nx k I2 e b more => ?_) last I st fr w0
  exact rest pl σ2 H s Nx k I2 b fun σ' H' s' I' m' nx => more σ' H' s' I' ((More.part e hV).trans m') nx
/-- what is behind clause i -/
theorem cl_rest (calm : Y.calm = true) (noE : Y.xe = NoE) (hk : PE Y kx tk) (hv : PE Y vx tv) (room : Y.A.units < cLine) : ∀ (cs : List Cl) (i : Nat), all.drop (i + 1) = cs → Nested cs → (∀ c ∈ cs, c.Ok Y ∧ ∀ x, foldedSetIterable c.src Y.env x = pure x) →
    ∀ (pins : List (Addr × Obj)) (σ : L2.St) (H : Hp) (s : Shared) (Nx : Hp → Prop) (k : Shared → Prop), Inv Y pins σ H s → tCls tk tv D cs σ H Nx → (∀ σ' H' s', Inv Y pins σ' H' s' → More (wipe σ (headVs cs)) σ' → Nx H' → k s') →
      restW Y.prog Y.w Y.A kx vx (all.map Cl.py) i scope pos D Y.env k s := by
  intro cs
  induction cs with
  | nil =>
    intro i hd _ _ pins σ H s Nx k I h more
    have e : (all.map Cl.py)[i + 1]? = none := by
      rw [List.getElem?_map, List.getElem?_eq_none (List.drop_eq_nil_iff.mp hd)]
      rfl
    unfold restW
    rw [e]
    have r1 := hk.run pins s σ H _ I h
    rw [noE] at r1
    refine thnF r1 fun kv s1 ⟨y, H1, I1, ry, h1⟩ => ?_
    have r2 := hv.run pins s1 σ H1 _ I1 h1
    rw [noE] at r2
    refine thnF r2 fun vv s2 ⟨z, H2, I2, rz, H3, put, nx⟩ => ?_
    exact d_dset room I2 put ry rz fun s3 I3 => more σ H3 s3 I3 (.refl σ) nx
  | cons c cs ih =>
    intro i hd hn hok pins σ H s Nx k I h more
    have hc : (all.map Cl.py)[i + 1]? = some c.py := by
      rw [List.getElem?_map]
      have : all[i + 1]? = some c := by
        have z := List.getElem?_drop (xs := all) (i := i + 1) (j := 0)
        rw [hd] at z
        exact z.symm
      rw [this]
      rfl
    have hd' : all.drop (i + 1 + 1) = cs := by
      rw [← List.drop_drop, hd]
      rfl
    obtain ⟨okc, fold⟩ := hok c List.mem_cons_self
    have hoks : ∀ c ∈ cs, c.Ok Y ∧ ∀ x, foldedSetIterable c.src Y.env x = pure x := fun x hx => hok x (List.mem_cons_of_mem _ hx)
    unfold restW
    rw [hc]
    refine ⟨rfl, fold, ?_⟩
    have r1 := okc.i.run pins s σ H _ I h
    rw [noE] at r1
    refine thnF r1 fun v s1 h1 => thnF h1 fun itv s2 h2 => ?_
    obtain ⟨it, fp, tn, J, H2, rfl, I2, T, st2, f2, hw⟩ := h2
    have loop : codeAny (model Y.prog Y.w) Y.A (.compLoop (.DictComp kx vx (all.map Cl.py) scope pos) (i + 1) (.ref it) (.ref D) Y.env) (fun r s' => (∃ f, r = .ok f) ∧ k s') s2 := by
      refine cl_loop (V := c.vs) calm noE hc T okc.g okc.t (fun H' s' _ hn b hb => ⟨hn b hb, (f2 b hb).2⟩) hn.1 (fun pl σ2 H s Nx k I2 b more => ih (i + 1) hd' hn.2 hoks (pins ++ pl) σ2 H s Nx k I2 b more) (fun H' s' I' dn => ⟨⟨_, rfl⟩, more _ H' s' I' (.refl _) dn⟩)
        (I2.weak (wipe_length _ _) fun j v e => (wipe_some e).1) st2 (fun b hb => (f2 b hb).1) hw
    exact wp_start hc loop (T.self Y.A 0 _ _ _ st2 loop)
end
section
variable {X : Cx} {pos : Pos}
/-- {k: v for .. in .. if .. for .. in .. ..}, keys numbers, texts or tuples of such -/
def tDcN (c : Cl) (cs : List Cl) (tk tv : TE) (vs : List Nat) : TE := fun σ H Q => c.wi σ H fun J H1 => ∃ o, (o = .dK [] ∨ o = .dT []) ∧ ∀ D, H1 D = none → tWalk c vs (tCls tk tv D cs) J σ (upd H1 D o) fun H' => Q (.ref D) H'
theorem pe_dcN {c : Cl} {cs : List Cl} {kx vx : Expr} {scope : Scope} {own : List (Str × Nat)} {tk tv : TE} (calm : X.calm = true) (room : X.A.units < cLine) (hN : X.N.Nodup) (hi : PI X c.tg c.src c.wi) (ok : BlkOk X.N X.env.scope scope own) (hV : ∀ i ∈ headVs cs, i ∈ own.map (·.2)) (nest : Nested cs)
    (hc : ∀ (s : Shared) (H : Hp) (C : Addr) (cl : List (Str × Addr)) (fp : List Addr), PG (X.blk s H scope (compEnvC scope cl C X.env) fp) c.tg c.g ∧ PTs (X.blk s H scope (compEnvC scope cl C X.env) fp) c.ifs c.tt ∧
      (∀ d ∈ cs, d.Ok (X.blk s H scope (compEnvC scope cl C X.env) fp)) ∧ PE (X.blk s H scope (compEnvC scope cl C X.env) fp) kx tk ∧ PE (X.blk s H scope (compEnvC scope cl C X.env) fp) vx tv)
    (fold : ∀ x, foldedSetIterable c.src X.env x = pure x) (folds : ∀ d ∈ cs, ∀ env x, foldedSetIterable d.src env x = pure x) :
    PE X (.DictComp kx vx ((c :: cs).map Cl.py) scope pos) (tDcN c cs tk tv (own.map (·.2))) := by
  refine ⟨fun pins s σ H Q I h => ?_⟩
  rw [arm_eval_DictComp]
  have hcells : ∀ y ∈ scope.names, y.2 = .free → ∃ c, X.env.cells.lookup y.1 = some c := fun y hy e => (ok.free y hy e).elim (fun k => I.ok.has _ (.inl k)) fun k => I.ok.has _ (.inr k)
  refine wpAny_comprehension_free (use := none) (g := c.py) (gs := cs.map Cl.py) rfl fold (closure_ok hcells) ok.kind (fun y hy e => by rw [ok.uniq y hy, e]) ?_
  refine thn (hi.run pins s σ H _ I h) fun v s1 h1 => thn h1 fun itv s2 h2 => ?_
  obtain ⟨it, fp, tn, J, H2, rfl, I2, T, st2, f2, o, ho, hq⟩ := h2
  refine wpAny_newObj_type (newEnv_comp ?_)
  have fresh : H2 s2.heap.objs.size = none := I2.hok.fresh (Nat.le_refl _)
  have hw := hq _ fresh
  have lt : ∀ b ∈ fp, b < s2.heap.objs.size := fun b hb => by
    obtain ⟨ob, e, _⟩ := T.obj _ _ st2 b hb
    exact Heap.lt_size e
  have I3 : Inv X pins σ (upd H2 s2.heap.objs.size o) { s2 with heap := s2.heap.push { cls := .type "dict", data := .dict #[] } } := by
    rcases ho with rfl | rfl
    · exact I2.laid (t' := s2.toks) (fun _ _ e => Heap.get?_push_of_some _ e) (Nat.le_refl _) (dk_empty s2.heap I2.big)
    · exact I2.laid (t' := s2.toks) (fun _ _ e => Heap.get?_push_of_some _ e) (Nat.le_refl _) (dt_empty s2.heap I2.big)
  generalize hD : s2.heap.objs.size = D at fresh hw lt I3 ⊢
  have st3 : tn 0 (s2.heap.push { cls := .type "dict", data := .dict #[] }) := T.keep _ _ _ st2 fun b _ ob e => Heap.get?_push_of_some _ e
  have sz3 : (s2.heap.push { cls := .type "dict", data := .dict #[] }).objs.size = D + 1 := by rw [Heap.size_push, hD]
  generalize s2.heap.push { cls := .type "dict", data := .dict #[] } = h3 at I3 st3 sz3 ⊢
  have f3 : ∀ b ∈ fp, FpOk X pins (upd H2 D o) b ∧ b < h3.objs.size := fun b hb => by
    have := lt b hb
    refine ⟨⟨?_, (f2 b hb).2⟩, by rw [sz3]; exact Nat.lt_succ_of_lt this⟩
    rw [upd_ne (Nat.ne_of_lt this)]
    exact (f2 b hb).1
  generalize hH3 : upd H2 D o = H3 at I3 f3 hw
  generalize hs3 : ({ s2 with heap := h3 } : Shared) = s3 at I3 ⊢
  have hh3 : s3.heap = h3 := by rw [← hs3]
  have f4 : ∀ b ∈ fp, FpOk X pins H3 b ∧ b < s3.heap.objs.size := fun b hb => by
    rw [hh3]
    exact f3 b hb
  have start := block_start I3 ok hN f4
  obtain ⟨pg, pt, oks, pk, pv⟩ := hc s3 H3 s3.heap.objs.size (cellsFrom (s3.heap.objs.size + 1) scope.names (cloFrom X.env.cells scope.names [])) fp
  show codeAny _ _ (.compStart _ 0 (.ref it) (.ref D) (compEnvC scope (cellsFrom (s3.heap.objs.size + 1) scope.names (cloFrom X.env.cells scope.names [])) s3.heap.objs.size X.env)) (compPost _ X.A X.xe none (EP X pins σ Q) (.ref D) s3.heap.objs.size) _
  generalize hce : compEnvC scope (cellsFrom (s3.heap.objs.size + 1) scope.names (cloFrom X.env.cells scope.names [])) s3.heap.objs.size X.env = ce at start pg pt oks pk pv ⊢
  have loc : ce.locals = s3.heap.objs.size := by rw [← hce]; rfl
  have st4 : tn 0 (pushCells (s3.heap.push { cls := .type "dict", data := .dict #[] }) scope.names) := T.keep _ _ _ st3 fun b _ ob e => pushCells_keeps _ _ _ _ (Heap.get?_push_of_some _ (by rw [hh3]; exact e))
  have room' : (X.blk s3 H3 scope ce fp).A.units < cLine := room
  have loop := cl_loop (Y := X.blk s3 H3 scope ce fp) (all := c :: cs) (kx := kx) (vx := vx) (tk := tk) (tv := tv) (D := D) (scope := scope) (pos := pos) (i := 0) (c := c) (cs := cs) (pins := []) (V := own.map (·.2)) (Done := fun H' => Q (.ref D) H') (R := compPost (model X.prog X.w) X.A X.xe none (EP X pins σ Q) (.ref D) s3.heap.objs.size)
    calm rfl rfl T pg pt (fun H' s' I' hn b hb => ⟨hn b hb, (I'.ok.exf b hb).1, I'.ok.exfs b hb, .inl hb, fun x k e => (I'.ok.exf b hb).2 x k e, fun p hp => absurd (show p ∈ ([] : List (Addr × Obj)) from hp) List.not_mem_nil⟩) hV
    (fun pl σ2 H s Nx k I2 b more => cl_rest (Y := X.blk s3 H3 scope ce fp) calm rfl pk pv room' cs 0 rfl nest (fun d hd => ⟨oks d hd, folds d hd _⟩) ([] ++ pl) σ2 H s Nx k I2 b more)
    (fun H' s' I' qq => ?_) start st4 (fun b hb => (f4 b hb).1.1) hw
  · exact wp_start (env := ce) rfl loop (T.self X.A 0 _ _ _ st4 loop)
  · obtain ⟨m, ns, _⟩ := I'.loc
    have ns : s'.heap.Ns ce.locals m := ns
    have nC : H' ce.locals = none := I'.free
    rw [loc] at ns nC
    have back : Inv X pins σ H' s' := I3.call' (ch := fp) I'.os I'.base I'.hok I'.bare fun b hb => by
      obtain ⟨⟨_, a1, _, a3, a4, a5⟩, _⟩ := f4 b hb
      exact ⟨a3, a1, a4, a5⟩
    obtain ⟨b0, b1, _, b3, b4, b5⟩ := I3.fpOk (Nat.le_refl _) nC
    exact ⟨m, ns, fun h' sb => ⟨.ref D, H', back.turned (t' := s'.toks) (fun b ob hb e => (sb.2 b hb).trans e) b0 b1 b3 b4 b5, rfl, qq⟩⟩
theorem oks_nil {Y : Cx} : ∀ d ∈ ([] : List Cl), d.Ok Y := fun _ h => absurd h List.not_mem_nil
theorem oks_cons {Y : Cx} {vs : List Nat} {tg src : Expr} {ifs : List Expr} {wi : TI} {g : TG} {tt : TT} {ds : List Cl} (i : PI Y tg src wi) (pg : PG Y tg g) (pt : PTs Y ifs tt) (r : ∀ d ∈ ds, d.Ok Y) : ∀ e ∈ (⟨vs, tg, src, ifs, wi, g, tt⟩ : Cl) :: ds, e.Ok Y := fun e he => by
  rcases List.mem_cons.mp he with z | he
  · subst z
    exact ⟨i, pg, pt⟩
  · exact r e he
theorem fold_nil : ∀ d ∈ ([] : List Cl), ∀ env x, foldedSetIterable d.src env x = pure x := fun _ h => absurd h List.not_mem_nil
theorem fold_cons {vs : List Nat} {tg src : Expr} {ifs : List Expr} {wi : TI} {g : TG} {tt : TT} {ds : List Cl} (f : ∀ env x, foldedSetIterable src env x = pure x) (r : ∀ d ∈ ds, ∀ env x, foldedSetIterable d.src env x = pure x) :
    ∀ e ∈ (⟨vs, tg, src, ifs, wi, g, tt⟩ : Cl) :: ds, ∀ env x, foldedSetIterable e.src env x = pure x := fun e he => by
  rcases List.mem_cons.mp he with z | he
  · subst z
    exact f
  · exact r e he
end
end Bk

namespace Bk
open PySem PySem.Spec PyProof.Rows L2 RZ
local macro_rules | `(tactic| walk_at "g") => `(tactic| (repeat first | refine ⟨_, rfl, ?_⟩ | refine ⟨cpow, ?_⟩ | refine ⟨wideM, ?_⟩ | refine ⟨_, _, rfl, rfl, ?_⟩ | refine ⟨rfl, ?_⟩))
theorem kCatT {X : Cx} (K : PySem.W.Frag) (h : X.K = K) : OpR X (binaryOp .Add) (rCatT K) := h ▸ op_catT
section
variable {P : Program} {w : World} {K : PySem.W.Frag} {mg : Str → Option Value} {base : Heap}
/-! ### corners -/
abbrev smet_at : Stmt := topS 25
abbrev Nmet_at : List Str := ["space", "block", "spots", "told", "face", "joining", "other", "turn", "spot"]
theorem scmet_at : FnScope Nmet_at ["space", "block", "spots"] (defScope smet_at) := ⟨rfl, rfl, rfl, by decide +kernel, rfl, by decide +kernel, by decide +kernel⟩
/-- the corner that face f lays corner c of block b on -/
def metJ (c f : Nat) : Jn → List Nat
  | none => []
  | some (n, t) => if f = c then [] else [4 * n + tf t c]
def metL (S : Spc) (b c : Nat) (m : Nat) : List Nat := (List.range m).flatMap fun f => metJ c f ((getJ S b f).getD none)
def spMetAt : Sp := fun vs H Q _ => ∃ (v : V) (sp : Addr) (S : Spc) (b c : Nat), vs = [v, intV b, .ref sp] ∧ ST H v S ∧ FT H sp [intV c] ∧ Good S ∧ b < S.length ∧ c < 4 ∧ ∀ H' l xs, Same H H' → H l = none → H' l = some (.lst xs) → Paired (moT.at H') xs (metL S b c 4) → Q (.ref l) H'
theorem okmet_at {f : Addr} {fd : FuncData} (F : Fun K "met_at" "met_at" smet_at f fd) (m_range : mg "range" = none) (m_tuple : mg "tuple" = none) : FnOk P w K mg base CX0 1 f fd ["space", "block", "spots"] spMetAt := by
  refine F.ok scmet_at (fun vs H Q E h => ?_) (fun cdv A outer s H vs Q E hr h => ?_)
  · obtain ⟨v, sp, S, b, c, rfl, _⟩ := h
    rfl
  · obtain ⟨v, sp, S, b, c, rfl, hst, fsp, hG, hb, hc, q⟩ := h
    have nd := scmet_at.nd
    refine ⟨_, (pss_cons (ps_set (i := 3) nd rfl (.inl rfl) (pe_lst pa_nil))
      (pss_cons (ps_for PassesOwn.never rfl (pi_range1 (by rfl) m_range (pa_cons pe_int pa_nil)) (pg_name (i := 4) nd rfl (.inl rfl)) (pss_cons (ps_set (i := 5) nd rfl (.inl rfl) (pe_ix (kIxT K rfl) (pe_ix (kIxT K rfl) (pv 0) (pv 1) (fun _ _ => rfl)) (pv 4) (fun _ _ => rfl)))
      (pss_one (ps_if (pw_and (pt_cmpR op_notN (pv 5) pe_non (nomark _)) (pw_and1 (pt_cmpR (kNotIn K rfl) (pv 4) (pv 2) (by rfl)))).pt (pss_cons (ps_asg (pv 5) (kPgT K rfl (pg_tup (n := 2) rfl (pgs_cons (pg_name (i := 6) nd rfl (.inl rfl)) (pgs_cons (pg_name (i := 7) nd rfl (.inr rfl)) pgs_nil)))))
      (pss_one (ps_expr (kBM K rfl (pe_bm PySem.F.plainAttrs_list PySem.F.slot_list_append PySem.F.type_list_append mt_append (pv 3) (pa_cons (pe_op (kCatT K rfl) (pe_tupF (pa_cons (pv 6) pa_nil)) (pe_callTy (kTupleF K rfl) (by rfl) m_tuple (by decide +kernel) (pa_cons (pe_lc (own := [("spot", 8)]) (g := gName 8) (tt := tYes) rfl nd (kPiT K rfl (pi_tup (pv 2))) (blkOk_by (own := [("spot", 8)]) (N := Nmet_at) (sc := defScope smet_at) (by decide +kernel)) (fun _ _ _ _ _ => (pg_name (i := 8) nd rfl (Or.inl rfl))) (fun _ _ _ _ _ => pts_nil) (fun _ _ _ _ _ => (pe_ix (kIxT K rfl) (pv 7) (pv 8) (fun _ _ => rfl)))) pa_nil))) pa_nil)))))) pss_nil))))
      (pss_one (ps_ret (pv 3))))), ?_⟩
    obtain ⟨p, rs, rfl, fp, hbs⟩ := id hst
    refine ⟨Nat.zero_le _, fun D nD => ?_⟩
    refine ⟨4, rfl, by decide, by decide, ?_⟩
    refine for_range (lo := 0) (n := 4) (fun i σ H1 => ∃ y4 y5 y6 y7 xs, σ = [some (.ref p), some (intV b), some (.ref sp), some (.ref D), y4, y5, y6, y7, none] ∧ H1 D = some (.lst xs) ∧ Paired (moT.at H1) xs (metL S b c i) ∧ Same H H1) ⟨_, _, _, _, [], rfl, upd_same, .nil, same_new nD⟩ ?_ ?_
    · rintro i σ H1 hi ⟨y4, y5, y6, y7, xs, rfl, h1, p1, s1⟩
      rw [Int.zero_add]
      obtain ⟨j, hj⟩ := hG.l4.get hb hi
      obtain ⟨p', rs', q', vs', x, ep, g1, g2, g3, g4, g5⟩ := (hst.mono s1.tups).face hj
      cases ep
      have ml : metL S b c (i + 1) = metL S b c i ++ metJ c i j := by
        unfold metL
        rw [List.range_succ, List.flatMap_append, List.flatMap_singleton, hj]
        rfl
      have lx : xs.length ≤ 100 := by
        rw [plen p1]
        have : ∀ m, (metL S b c m).length ≤ m := by
          intro m
          induction m with
          | zero => exact Nat.le_refl _
          | succ m ih =>
            unfold metL at ih ⊢
            rw [List.range_succ, List.flatMap_append, List.flatMap_singleton, List.length_append]
            have : ∀ z, (metJ c m z).length ≤ 1 := by
              intro z
              cases z with
              | none => exact Nat.zero_le _
              | some k =>
                show (if m = c then [] else [4 * k.1 + tf k.2 c]).length ≤ 1
                by_cases e : m = c
                · rw [if_pos e]
                  exact Nat.zero_le _
                · rw [if_neg e]
                  exact Nat.le_refl 1
            have := this ((getJ S b m).getD none)
            omega
        have := this i
        omega
      refine ⟨.ref p, rfl, intV b, rfl, p, rs', b, .ref q', rfl, rfl, g1.sqt, atI_nat g2, intV i, rfl, q', vs', i, x, rfl, rfl, g3.sqt, atI_nat g4, ?_⟩
      walk_at "g"
      rw [g5.isN]
      cases j with
      | none =>
        refine iteF (iteF ⟨_, _, _, _, xs, rfl, h1, ?_, s1⟩)
        rw [ml]
        show Paired _ xs (metL S b c i ++ [])
        rw [List.append_nil]
        exact p1
      | some k =>
        obtain ⟨n, t⟩ := k
        obtain ⟨pj, pq, rfl, f1, f2⟩ := g5
        refine iteT ?_
        refine ⟨.int (i : Int), rfl, .ref sp, rfl, sp, [intV c], rfl, .inr (fsp.mono s1.tups).sqt, rfl, rfl, _, rfl, ?_⟩
        have en : (if true = true then !inV (.int (i : Int)) [intV c] else inV (.int (i : Int)) [intV c]) = !decide (i = c) := by
          show (!((eqV (intV c) (.int (i : Int))) || false)) = _
          show (!((decide ((c : Int) = (i : Int))) || false)) = _
          rw [Bool.or_false]
          exact congrArg not (decide_eq_decide.mpr ⟨fun z => by omega, fun z => by omega⟩)
        rw [en]
        by_cases hic : i = c
        · rw [decide_eq_true hic]
          refine iteF ⟨_, _, _, _, xs, rfl, h1, ?_, s1⟩
          rw [ml]
          show Paired _ xs (metL S b c i ++ (if i = c then [] else [4 * n + tf t c]))
          rw [if_pos hic, List.append_nil]
          exact p1
        · rw [decide_eq_false hic]
          refine iteT ?_
          refine ⟨.ref pj, rfl, pj, _, rfl, f1.sqt, rfl, _, _, rfl, _, _, rfl, rfl, ?_⟩
          obtain ⟨ht1, _, _⟩ := hG.both _ _ _ _ hj
          have htf := tf_lt t ht1 c hc
          refine ⟨_, rfl, .inl ⟨rfl, _, .inl (.inl h1)⟩, ?_⟩
          refine ⟨intV n, rfl, Nat.le_of_lt (small1000 (by show 1 ≤ 1000; decide)), fun a1 o1 na1 da1 => ?_⟩
          have s2 : Same H1 (upd H1 a1 (.frz o1 (.tup [intV n]))) := same_new na1
          have fa : FT (upd H1 a1 (.frz o1 (.tup [intV n]))) a1 [intV n] := FT.new da1
          generalize upd H1 a1 (.frz o1 (.tup [intV n])) = H2 at s2 fa ⊢
          refine ⟨.ref sp, rfl, sp, rfl, ⟨_, (fsp.mono (s1.trans s2).tups).sqt⟩, fun L nL => ?_⟩
          refine lc_tup (xs := [intV c]) (fun m H3 => H3 L = some (.lst (((if m = 0 then [] else [tf t c]) : List Nat).map intV)) ∧ Same H2 H3) ⟨upd_same, same_new nL⟩ ?_ ?_ ?_
          · rintro m H3 _ ⟨_, s3⟩
            exact (fsp.mono ((s1.trans s2).trans s3).tups).sqt
          · rintro m x H3 hx ⟨h3, s3⟩
            cases m with
            | succ m => simp at hx
            | zero =>
              cases Option.some.inj hx
              refine ⟨rfl, .ref pq, rfl, intV c, rfl, pq, trnV t, c, intV (tf t c), rfl, rfl, (f2.mono (s2.trans s3).tups).sqt, atI_nat (by unfold trnV; rw [List.getElem?_map, htf.2]; rfl), ?_⟩
              refine ⟨_, h3, small1000 (by rw [if_pos rfl]; exact Nat.zero_le _), ?_, same_fill s3 nL⟩
              rw [upd_same]
              rfl
          · rintro H3 ⟨h3, s3⟩
            have h3 : H3 L = some (.lst [intV (tf t c)]) := h3
            refine ⟨L, [intV (tf t c)], rfl, .inl ⟨.inl (.inl h3), fun a2 o2 na2 da2 => ?_⟩⟩
            have s4 : Same H3 (upd H3 a2 (.frz o2 (.tup [intV (tf t c)]))) := same_new na2
            have fb : FT (upd H3 a2 (.frz o2 (.tup [intV (tf t c)]))) a2 [intV (tf t c)] := FT.new da2
            generalize upd H3 a2 (.frz o2 (.tup [intV (tf t c)])) = H4 at s4 fb ⊢
            refine ⟨a1, a2, [intV n], [intV (tf t c)], rfl, rfl, (fa.mono (s3.trans s4).tups).sqt, fb.sqt, List.cons_ne_nil _ _, Nat.le_of_lt (small1000 (by show 2 ≤ 1000; decide)), fun e => absurd e (List.cons_ne_nil _ _), fun _ p2 np2 => ?_⟩
            have s5 : Same H4 (upd H4 p2 (.tup ([intV n] ++ [intV (tf t c)]))) := same_new np2
            have h5 : (upd H4 p2 (.tup ([intV n] ++ [intV (tf t c)]))) p2 = some (.tup [intV n, intV (tf t c)]) := upd_same
            have s15 := ((s2.trans s3).trans s4).trans s5
            generalize upd H4 p2 (.tup ([intV n] ++ [intV (tf t c)])) = H5 at s5 h5 s15 ⊢
            have hD5 := s15 _ _ h1
            have pD : p2 ≠ D := ne_of h5 hD5 fun z => by cases z
            refine ⟨D, xs, _, rfl, rfl, hD5, small1000 (by omega), ?_⟩
            refine ⟨_, _, _, _, xs ++ [.ref p2], rfl, upd_same, ?_, same_fill (s1.trans s15) nD⟩
            rw [ml]
            show Paired _ _ (metL S b c i ++ (if i = c then [] else [4 * n + tf t c]))
            rw [if_neg hic]
            refine papp (pmono p1 fun _ _ z => z.mono (s15.tupK.trans (tupK_lst hD5))) (.cons ⟨p2, rfl, ?_⟩ .nil)
            rw [upd_ne pD, h5]
            have k4 := htf.1
            show some (HO.tup [intV n, intV (tf t c)]) = some (HO.tup [.int (((4 * n + tf t c) / 4 : Nat) : Int), .int (((4 * n + tf t c) % 4 : Nat) : Int)])
            rw [show (4 * n + tf t c) / 4 = n by omega, show (4 * n + tf t c) % 4 = tf t c by omega]
            rfl
    · rintro σ H1 ⟨y4, y5, y6, y7, xs, rfl, h1, p1, s1⟩
      exact ⟨.ref D, rfl, q H1 D xs s1 nD h1 p1⟩
abbrev scorners_of : Stmt := topS 27
abbrev Ncorners_of : List Str := ["space", "whole", "block", "corner"]
theorem sccorners_of : FnScope Ncorners_of ["space"] (defScope scorners_of) := ⟨rfl, rfl, rfl, by decide +kernel, rfl, by decide +kernel, by decide +kernel⟩
theorem walk_range {c : Cl} {vs : List Nat} {u : L2.St → Hp → (Hp → Prop) → Prop} {lo : Int} {n : Nat} {σ : L2.St} {H0 : Hp} {Done : Hp → Prop} (Pv : Nat → Hp → Prop) (h0 : Pv 0 H0)
    (hs : ∀ i H, i < n → Pv i H → c.g (.int (lo + i)) (wipe σ vs) H fun σ2 H2 => wipe σ2 vs = wipe σ vs ∧ c.tt σ2 H2 fun b H3 => if b = true then u σ2 H3 (Pv (i + 1)) else Pv (i + 1) H3) (hd : ∀ H, Pv n H → Done H) : tWalk c vs u (Itr lo n) σ H0 Done := by
  refine ⟨fun i m H => m = n - i ∧ i ≤ n ∧ Pv i H, ⟨n, rfl, Nat.zero_le _, h0⟩, ?_⟩
  rintro i m H ⟨rfl, hi, p⟩
  by_cases lt : i < n
  · refine .inr ⟨lt, Pv (i + 1), fun H' p' => ⟨n - (i + 1), by omega, rfl, lt, p'⟩, ?_⟩
    rintro x H' ⟨e, y⟩
    subst e y
    exact hs i _ lt p
  · obtain rfl : i = n := by omega
    exact .inl ⟨Nat.le_refl _, hd H p⟩
def lkC (S : Spc) (x : Nat) : List Nat := metL S (x / 4) (x % 4) 4
noncomputable def crnE (S : Spc) : List (List Nat) := rowsE (hangB (fun x y => y ∈ lkC S x)) (List.range (4 * S.length))
theorem metL_mem {S : Spc} {b c m y : Nat} : y ∈ metL S b c m ↔ ∃ f n t, f < m ∧ getJ S b f = some (some (n, t)) ∧ f ≠ c ∧ y = 4 * n + tf t c := by
  unfold metL
  rw [List.mem_flatMap]
  constructor
  · rintro ⟨f, hf, h⟩
    rw [List.mem_range] at hf
    cases e : getJ S b f with
    | none =>
      rw [e] at h
      cases h
    | some j =>
      rw [e] at h
      cases j with
      | none => cases h
      | some k =>
        have h : y ∈ (if f = c then [] else [4 * k.1 + tf k.2 c]) := h
        by_cases z : f = c
        · rw [if_pos z] at h
          cases h
        · rw [if_neg z, List.mem_singleton] at h
          exact ⟨f, k.1, k.2, hf, e, z, h⟩
  · rintro ⟨f, n, t, hf, e, z, rfl⟩
    refine ⟨f, List.mem_range.mpr hf, ?_⟩
    rw [e]
    show _ ∈ (if f = c then [] else [4 * n + tf t c])
    rw [if_neg z]
    exact List.mem_singleton.mpr rfl
theorem tf_inj : ∀ t ∈ allTurns, ∀ f < 4, ∀ c < 4, tf t f = tf t c → f = c := by decide +kernel
theorem lkC_symm {S : Spc} (h : Good S) {x y : Nat} (hy : y ∈ lkC S x) : x ∈ lkC S y := by
  obtain ⟨f, n, t, hf, e, z, rfl⟩ := metL_mem.mp hy
  obtain ⟨q1, q2, q3⟩ := h.both _ _ _ _ e
  have hx : x % 4 < 4 := Nat.mod_lt _ (by decide)
  obtain ⟨k1, k2⟩ := tf_lt t q1 (x % 4) hx
  obtain ⟨f1, f2⟩ := tf_lt t q1 f hf
  refine metL_mem.mpr ⟨tf t f, x / 4, back t, f1, ?_, fun w => ?_, ?_⟩
  · rw [show (4 * n + tf t (x % 4)) / 4 = n by omega]
    exact q3
  · rw [show (4 * n + tf t (x % 4)) % 4 = tf t (x % 4) by omega] at w
    exact z (tf_inj t q1 f hf (x % 4) hx w)
  · rw [show (4 * n + tf t (x % 4)) % 4 = tf t (x % 4) by omega, tf_back t q1 (x % 4) hx]
    omega
theorem lkC_lt {S : Spc} (h : Good S) {x y : Nat} (hy : y ∈ lkC S x) : y < 4 * S.length := by
  obtain ⟨f, n, t, hf, e, z, rfl⟩ := metL_mem.mp hy
  have := h.lt e
  obtain ⟨q1, _, _⟩ := h.both _ _ _ _ e
  have := (tf_lt t q1 (x % 4) (Nat.mod_lt _ (by decide))).1
  omega
theorem RowsAt.early {M : Mo} {H H2 H' : Hp} {l : Addr} {rows : List (List Nat)} (h : RowsAt M H2 H' l rows) (s : Same H H2) : RowsAt M H H' l rows := by
  obtain ⟨ps, h1, h2, h3, h4, h5⟩ := h
  exact ⟨ps, h1, s.free h2, h3, h4, pmono h5 fun _ _ z => ⟨s.free z.1, z.2⟩⟩
def spCornersOf : Sp := fun vs H Q _ => ∃ (N : Addr → Prop) (v : V) (d : PyData) (S : Spc), vs = [v] ∧ Dq N H v d ∧ norm d = nS S ∧ Good S ∧ 1 ≤ S.length ∧ S.length ≤ 24 ∧ ∀ H' l, Same H H' → RowsAt moT H H' l (crnE S) → Q (.ref l) H'
theorem okcorners_of {f fS fR fM : Addr} {fd fdS fdR fdM : FuncData} (F : Fun K "corners_of" "corners_of" scorners_of f fd) (Fspace_of : Fun K "space_of" "space_of" sspace_of fS fdS) (gspace_of : mg "space_of" = some (.ref fS)) (bspace_of : Binds K fdS ["blocks"] []) (Gspace_of : FnOk P w K mg base CX0 6 fS fdS ["blocks"] spSpace)
    (Frows_of : Fun K "rows_of" "rows_of" srows_of fR fdR) (grows_of : mg "rows_of" = some (.ref fR)) (brows_of : Binds K fdR ["links"] []) (Grows_of : FnOk P w K mg base CX0 2 fR fdR ["links"] (spRowsOf moT 1000))
    (Fmet_at : Fun K "met_at" "met_at" smet_at fM fdM) (gmet_at : mg "met_at" = some (.ref fM)) (bmet_at : Binds K fdM ["space", "block", "spots"] []) (Gmet_at : FnOk P w K mg base CX0 1 fM fdM ["space", "block", "spots"] spMetAt) (m_range : mg "range" = none) (m_len : mg "len" = none) : FnOk P w K mg base CX0 7 f fd ["space"] spCornersOf := by
  refine F.ok sccorners_of (fun vs H Q E h => ?_) (fun cdv A outer s H vs Q E hr h => ?_)
  · obtain ⟨N, v, d, S, rfl, _⟩ := h
    rfl
  · obtain ⟨N, v, d, S, rfl, hd, hn, hG, h1, h2, q⟩ := h
    have nd := sccorners_of.nd
    refine ⟨_, (pss_cons (ps_set (i := 1) nd rfl (.inr rfl) (pe_call Gspace_of (hr.mono (by first | decide | omega)) (by rfl) gspace_of Fspace_of.kp bspace_of .nil pass0 (pa_cons (pv 0) pa_nil)))
      (pss_one (ps_ret (pe_call Grows_of (hr.mono (by first | decide | omega)) (by rfl) grows_of Frows_of.kp brows_of .nil pass0 (pa_cons (pe_dcN (own := [("block", 2), ("corner", 3)]) (c := ⟨[], _, _, _, _, _, _⟩) (cs := [⟨[3], _, _, _, _, _, _⟩]) rfl (Nat.lt_of_succ_lt (hu_of hr)) nd (pi_range1 (by rfl) m_range (pa_cons (pe_callB (kLen K rfl) (by rfl) m_len (by decide +kernel) (pa_cons (pv 1) pa_nil)) pa_nil)) (blkOk_by (own := [("block", 2), ("corner", 3)]) (N := Ncorners_of) (sc := defScope scorners_of) (by decide +kernel)) (by simp [headVs]) (by simp [Nested, headVs]) (fun _ _ _ _ _ => ⟨(pg_name (i := 2) nd rfl (Or.inl rfl)), pts_nil, (oks_cons (pi_range1 (by rfl) m_range (pa_cons pe_int pa_nil)) (pg_name (i := 3) nd rfl (Or.inl rfl)) pts_nil oks_nil), (pe_tup (pa_cons (pv 2) (pa_cons (pv 3) pa_nil))), (pe_call Gmet_at (hr.mono (by first | decide | omega)) (by rfl) gmet_at Fmet_at.kp bmet_at .nil pass0 (pa_cons (pv 1) (pa_cons (pv 2) (pa_cons (pe_tupF (pa_cons (pv 3) pa_nil)) pa_nil))))⟩) (by intro _; rfl) (fold_cons (by intro _ _; rfl) fold_nil)) pa_nil))))), ?_⟩
    refine ⟨v, rfl, N, v, d, S, rfl, hd, hn, hG, h1, by omega, fun H1 u s1 st1 => ?_⟩
    obtain ⟨p, rs, rfl, fp, hb⟩ := id st1
    have lrs := plen hb
    refine ⟨.ref p, rfl, p, rs, rfl, .inr fp.sqt, (rs.length : Int), rfl, by omega, by omega, _, .inr rfl, fun D nD => ?_⟩
    let Inv' : Nat → Hp → Prop := fun m H2 => ∃ kvs : List (Nat × V), H2 D = some (moT.obj kvs) ∧ kvs.map (·.1) = List.range m ∧ (∀ q ∈ kvs, ∃ a vs, q.2 = .ref a ∧ H2 a = some (.lst vs) ∧ Paired (moT.at H2) vs (lkC S q.1)) ∧ Same H1 H2
    refine walk_range (lo := 0) (n := ((rs.length : Int)).toNat) (fun i H2 => Inv' (4 * i) H2) ⟨[], upd_same, rfl, fun _ hq => absurd hq List.not_mem_nil, same_new nD⟩ ?_ ?_
    · rintro b H2 hb2 hI
      rw [Int.zero_add]
      have hbr : b < S.length := by omega
      refine ⟨rfl, 4, rfl, by decide, by decide, ?_⟩
      refine walk_range (lo := 0) (n := 4) (fun i H3 => Inv' (4 * b + i) H3) hI ?_ ?_
      · rintro c H3 hc ⟨kvs, h3, k3, l3, s3⟩
        rw [Int.zero_add]
        refine ⟨rfl, intV b, rfl, intV c, rfl, Nat.le_of_lt (small1000 (by show 2 ≤ 1000; decide)), fun kp nkp => ?_⟩
        have s4 : Same H3 (upd H3 kp (.tup [intV b, intV c])) := same_new nkp
        have h4 : (upd H3 kp (.tup [intV b, intV c])) kp = some (.tup [intV b, intV c]) := upd_same
        generalize upd H3 kp (.tup [intV b, intV c]) = H4 at s4 h4 ⊢
        refine ⟨.ref p, rfl, intV b, rfl, intV c, rfl, Nat.le_of_lt (small1000 (by show 1 ≤ 1000; decide)), fun sp o nsp dsp => ?_⟩
        have s5 : Same H4 (upd H4 sp (.frz o (.tup [intV c]))) := same_new nsp
        have f5 : FT (upd H4 sp (.frz o (.tup [intV c]))) sp [intV c] := FT.new dsp
        generalize upd H4 sp (.frz o (.tup [intV c])) = H5 at s5 f5 ⊢
        refine ⟨.ref p, sp, S, b, c, rfl, st1.mono ((s3.trans s4).trans s5).tups, f5, hG, hbr, hc, fun H6 l xs s6 nl hl pl => ?_⟩
        have s36 := (s4.trans s5).trans s6
        have h6 := s36 _ _ h3
        have hv : moT.at H6 (.ref kp) (4 * b + c) := ⟨kp, rfl, by
          rw [s6 _ _ (s5 _ _ h4)]
          show some (HO.tup [intV b, intV c]) = some (HO.tup [.int (((4 * b + c) / 4 : Nat) : Int), .int (((4 * b + c) % 4 : Nat) : Int)])
          rw [show (4 * b + c) / 4 = b by omega, show (4 * b + c) % 4 = c by omega]
          rfl⟩
        have kN : ∀ q ∈ kvs, q.1 < 1000 := fun q hq => by
          have : q.1 ∈ List.range (4 * b + c) := by
            rw [← k3]
            exact List.mem_map_of_mem hq
          rw [List.mem_range] at this
          omega
        have lk : kvs.length = 4 * b + c := by
          have := congrArg List.length k3
          rw [List.length_map, List.length_range] at this
          exact this
        have nb : valV kvs (4 * b + c) = none := by
          cases e : valV kvs (4 * b + c) with
          | none => rfl
          | some v =>
            have := valV_in e
            rw [k3, List.mem_range] at this
            omega
        have put := Mo.put (M := moT) (N := 1000) (x := .ref l) (moT_inj 1000) h6 hv kN (by omega) (small1000 (by omega))
        rw [putK_new _ nb] at put
        have kt := tupK_dic (M := moT) (o := moT.obj (kvs ++ [(4 * b + c, .ref l)])) h6
        have keep : ∀ (a : Addr) ys, H6 a = some (.lst ys) → (upd H6 D (moT.obj (kvs ++ [(4 * b + c, .ref l)]))) a = some (.lst ys) := fun a ys z => by
          rw [upd_ne (ne_of z h6 fun y => moT.obj_lst _ _ y.symm)]
          exact z
        refine ⟨_, put, kvs ++ [(4 * b + c, .ref l)], upd_same, ?_, ?_, same_fill (s3.trans s36) nD⟩
        · rw [List.map_append, k3]
          show _ = List.range ((4 * b + c) + 1)
          rw [List.range_succ]
          rfl
        · intro q hq
          rcases List.mem_append.mp hq with hq | hq
          · obtain ⟨a, vs, e1, e2, e3⟩ := l3 q hq
            exact ⟨a, vs, e1, keep a vs (s36 _ _ e2), pmono e3 fun _ _ z => z.mono (s36.tupK.trans kt)⟩
          · obtain rfl := List.mem_singleton.mp hq
            refine ⟨l, xs, rfl, keep l xs hl, ?_⟩
            show Paired _ xs (metL S ((4 * b + c) / 4) ((4 * b + c) % 4) 4)
            rw [show (4 * b + c) / 4 = b by omega, show (4 * b + c) % 4 = c by omega]
            exact pmono pl fun _ _ z => z.mono kt
      · rintro H3 hI
        exact hI
    · rintro H2 ⟨kvs, h2', k2, l2, s2⟩
      rw [Int.toNat_natCast, lrs] at k2
      refine ⟨D, List.range (4 * S.length), lkC S, rfl, ⟨kvs, h2', k2, l2⟩, List.nodup_range, List.pairwise_le_range, fun n hn => by rw [List.mem_range] at hn; omega, (show _ < 1000 by rw [List.length_range]; omega), by rw [List.length_range]; omega, fun n _ m hm => List.mem_range.mpr (lkC_lt hG hm), fun n m hm => lkC_symm hG hm, fun H' l s' hr => ?_⟩
      exact q H' l ((s1.trans s2).trans s') (hr.early (s1.trans s2))
end
end Bk

/-! What meets at two corners of a block: the ends of an edge. -/
namespace Bk
open PySem PySem.Spec PyProof.Rows L2 RZ
local macro_rules | `(tactic| walk_at "g") => `(tactic| (repeat first | refine ⟨_, rfl, ?_⟩ | refine ⟨cpow, ?_⟩ | refine ⟨_, _, rfl, rfl, ?_⟩ | refine ⟨rfl, ?_⟩))
section
variable {P : Program} {w : World} {K : PySem.W.Frag} {mg : Str → Option Value} {base : Heap}
/-- the corner and the edge's other end that face f lays these of block b on -/
def mtQJ (c e f : Nat) : Jn → List Nat
  | none => []
  | some (n, t) => if f = c ∨ f = e then [] else [16 * n + 4 * tf t c + tf t e]
def mtQ (S : Spc) (b c e : Nat) (m : Nat) : List Nat := (List.range m).flatMap fun f => mtQJ c e f ((getJ S b f).getD none)
def spMetAt2 : Sp := fun vs H Q _ => ∃ (v : V) (sp : Addr) (S : Spc) (b c e : Nat), vs = [v, intV b, .ref sp] ∧ ST H v S ∧ FT H sp [intV c, intV e] ∧ Good S ∧ b < S.length ∧ c < 4 ∧ e < 4 ∧ ∀ H' l xs, Same H H' → H l = none → H' l = some (.lst xs) → Paired (moQ.at H') xs (mtQ S b c e 4) → Q (.ref l) H'
theorem okmet_at2 {f : Addr} {fd : FuncData} (F : Fun K "met_at" "met_at" smet_at f fd) (m_range : mg "range" = none) (m_tuple : mg "tuple" = none) : FnOk P w K mg base CX0 1 f fd ["space", "block", "spots"] spMetAt2 := by
  refine F.ok scmet_at (fun vs H Q E h => ?_) (fun cdv A outer s H vs Q E hr h => ?_)
  · obtain ⟨v, sp, S, b, c, e, rfl, _⟩ := h
    rfl
  · obtain ⟨v, sp, S, b, c, e, rfl, hst, fsp, hG, hb, hc, he, q⟩ := h
    have nd := scmet_at.nd
    refine ⟨_, (pss_cons (ps_set (i := 3) nd rfl (.inl rfl) (pe_lst pa_nil))
      (pss_cons (ps_for PassesOwn.never rfl (pi_range1 (by rfl) m_range (pa_cons pe_int pa_nil)) (pg_name (i := 4) nd rfl (.inl rfl)) (pss_cons (ps_set (i := 5) nd rfl (.inl rfl) (pe_ix (kIxT K rfl) (pe_ix (kIxT K rfl) (pv 0) (pv 1) (fun _ _ => rfl)) (pv 4) (fun _ _ => rfl)))
      (pss_one (ps_if (pw_and (pt_cmpR op_notN (pv 5) pe_non (nomark _)) (pw_and1 (pt_cmpR (kNotIn K rfl) (pv 4) (pv 2) (by rfl)))).pt (pss_cons (ps_asg (pv 5) (kPgT K rfl (pg_tup (n := 2) rfl (pgs_cons (pg_name (i := 6) nd rfl (.inl rfl)) (pgs_cons (pg_name (i := 7) nd rfl (.inr rfl)) pgs_nil)))))
      (pss_one (ps_expr (kBM K rfl (pe_bm PySem.F.plainAttrs_list PySem.F.slot_list_append PySem.F.type_list_append mt_append (pv 3) (pa_cons (pe_op (kCatT K rfl) (pe_tupF (pa_cons (pv 6) pa_nil)) (pe_callTy (kTupleF K rfl) (by rfl) m_tuple (by decide +kernel) (pa_cons (pe_lc (own := [("spot", 8)]) (g := gName 8) (tt := tYes) rfl nd (kPiT K rfl (pi_tup (pv 2))) (blkOk_by (own := [("spot", 8)]) (N := Nmet_at) (sc := defScope smet_at) (by decide +kernel)) (fun _ _ _ _ _ => (pg_name (i := 8) nd rfl (Or.inl rfl))) (fun _ _ _ _ _ => pts_nil) (fun _ _ _ _ _ => (pe_ix (kIxT K rfl) (pv 7) (pv 8) (fun _ _ => rfl)))) pa_nil))) pa_nil)))))) pss_nil))))
      (pss_one (ps_ret (pv 3))))), ?_⟩
    obtain ⟨p, rs, rfl, fp, hbs⟩ := id hst
    refine ⟨Nat.zero_le _, fun D nD => ?_⟩
    refine ⟨4, rfl, by decide, by decide, ?_⟩
    refine for_range (lo := 0) (n := 4) (fun i σ H1 => ∃ y4 y5 y6 y7 xs, σ = [some (.ref p), some (intV b), some (.ref sp), some (.ref D), y4, y5, y6, y7, none] ∧ H1 D = some (.lst xs) ∧ Paired (moQ.at H1) xs (mtQ S b c e i) ∧ Same H H1) ⟨_, _, _, _, [], rfl, upd_same, .nil, same_new nD⟩ ?_ ?_
    · rintro i σ H1 hi ⟨y4, y5, y6, y7, xs, rfl, h1, p1, s1⟩
      rw [Int.zero_add]
      obtain ⟨j, hj⟩ := hG.l4.get hb hi
      obtain ⟨p', rs', q', vs', x, ep, g1, g2, g3, g4, g5⟩ := (hst.mono s1.tups).face hj
      cases ep
      have ml : mtQ S b c e (i + 1) = mtQ S b c e i ++ mtQJ c e i j := by
        unfold mtQ
        rw [List.range_succ, List.flatMap_append, List.flatMap_singleton, hj]
        rfl
      have lx : xs.length ≤ 100 := by
        rw [plen p1]
        have : ∀ m, (mtQ S b c e m).length ≤ m := by
          intro m
          induction m with
          | zero => exact Nat.le_refl _
          | succ m ih =>
            unfold mtQ at ih ⊢
            rw [List.range_succ, List.flatMap_append, List.flatMap_singleton, List.length_append]
            have : ∀ z, (mtQJ c e m z).length ≤ 1 := by
              intro z
              cases z with
              | none => exact Nat.zero_le _
              | some k =>
                show (if m = c ∨ m = e then [] else [16 * k.1 + 4 * tf k.2 c + tf k.2 e]).length ≤ 1
                by_cases z : m = c ∨ m = e
                · rw [if_pos z]
                  exact Nat.zero_le _
                · rw [if_neg z]
                  exact Nat.le_refl 1
            have := this ((getJ S b m).getD none)
            omega
        have := this i
        omega
      refine ⟨.ref p, rfl, intV b, rfl, p, rs', b, .ref q', rfl, rfl, g1.sqt, atI_nat g2, intV i, rfl, q', vs', i, x, rfl, rfl, g3.sqt, atI_nat g4, ?_⟩
      walk_at "g"
      rw [g5.isN]
      cases j with
      | none =>
        refine iteF (iteF ⟨_, _, _, _, xs, rfl, h1, ?_, s1⟩)
        rw [ml]
        show Paired _ xs (mtQ S b c e i ++ [])
        rw [List.append_nil]
        exact p1
      | some k =>
        obtain ⟨n, t⟩ := k
        obtain ⟨pj, pq, rfl, f1, f2⟩ := g5
        refine iteT ?_
        refine ⟨.int (i : Int), rfl, .ref sp, rfl, sp, [intV c, intV e], rfl, .inr (fsp.mono s1.tups).sqt, rfl, rfl, _, rfl, ?_⟩
        have en : (if true = true then !inV (.int (i : Int)) [intV c, intV e] else inV (.int (i : Int)) [intV c, intV e]) = !decide (i = c ∨ i = e) := by
          show (!((decide ((c : Int) = (i : Int))) || ((decide ((e : Int) = (i : Int))) || false))) = _
          rw [Bool.or_false, ← Bool.decide_or]
          exact congrArg not (decide_eq_decide.mpr ⟨fun z => by omega, fun z => by omega⟩)
        rw [en]
        by_cases hic : i = c ∨ i = e
        · rw [decide_eq_true hic]
          refine iteF ⟨_, _, _, _, xs, rfl, h1, ?_, s1⟩
          rw [ml]
          show Paired _ xs (mtQ S b c e i ++ (if i = c ∨ i = e then [] else [16 * n + 4 * tf t c + tf t e]))
          rw [if_pos hic, List.append_nil]
          exact p1
        · rw [decide_eq_false hic]
          refine iteT ?_
          refine ⟨.ref pj, rfl, pj, _, rfl, f1.sqt, rfl, _, _, rfl, _, _, rfl, rfl, ?_⟩
          obtain ⟨ht1, _, _⟩ := hG.both _ _ _ _ hj
          have htf := tf_lt t ht1 c hc
          have hte := tf_lt t ht1 e he
          refine ⟨_, rfl, .inl ⟨rfl, _, .inl (.inl h1)⟩, ?_⟩
          refine ⟨intV n, rfl, Nat.le_of_lt (small1000 (by show 1 ≤ 1000; decide)), fun a1 o1 na1 da1 => ?_⟩
          have s2 : Same H1 (upd H1 a1 (.frz o1 (.tup [intV n]))) := same_new na1
          have fa : FT (upd H1 a1 (.frz o1 (.tup [intV n]))) a1 [intV n] := FT.new da1
          generalize upd H1 a1 (.frz o1 (.tup [intV n])) = H2 at s2 fa ⊢
          refine ⟨.ref sp, rfl, sp, rfl, ⟨_, (fsp.mono (s1.trans s2).tups).sqt⟩, fun L nL => ?_⟩
          refine lc_tup (xs := [intV c, intV e]) (fun m H3 => H3 L = some (.lst ((([tf t c, tf t e].take m) : List Nat).map intV)) ∧ Same H2 H3) ⟨upd_same, same_new nL⟩ ?_ ?_ ?_
          · rintro m H3 _ ⟨_, s3⟩
            exact (fsp.mono ((s1.trans s2).trans s3).tups).sqt
          · rintro m x H3 hx ⟨h3, s3⟩
            have step : ∀ c', c' < 4 → x = intV c' → [tf t c, tf t e][m]? = some (tf t c') → rIxT K (.ref pq) (intV c') H3 fun y H4 => ∃ acc, H4 L = some (.lst acc) ∧ acc.length < sizeLine ∧ (upd H4 L (.lst (acc ++ [y]))) L = some (.lst ((([tf t c, tf t e].take (m + 1)) : List Nat).map intV)) ∧ Same H2 (upd H4 L (.lst (acc ++ [y]))) := fun c' hc' _ em => by
              refine ⟨pq, trnV t, c', intV (tf t c'), rfl, rfl, (f2.mono (s2.trans s3).tups).sqt, atI_nat (by unfold trnV; rw [List.getElem?_map, (tf_lt t ht1 c' hc').2]; rfl), ?_⟩
              refine ⟨_, h3, small1000 (by rw [List.length_map, List.length_take]; exact Nat.le_trans (Nat.min_le_right _ _) (show 2 ≤ 1000 by decide)), ?_, same_fill s3 nL⟩
              rw [upd_same, List.take_add_one, em, List.map_append]
              rfl
            match m, hx with
            | 0, hx =>
              cases Option.some.inj hx
              exact ⟨rfl, .ref pq, rfl, intV c, rfl, step c hc rfl rfl⟩
            | 1, hx =>
              cases Option.some.inj hx
              exact ⟨rfl, .ref pq, rfl, intV e, rfl, step e he rfl rfl⟩
            | m + 2, hx => simp at hx
          · rintro H3 ⟨h3, s3⟩
            have h3 : H3 L = some (.lst [intV (tf t c), intV (tf t e)]) := h3
            refine ⟨L, [intV (tf t c), intV (tf t e)], rfl, .inl ⟨.inl (.inl h3), fun a2 o2 na2 da2 => ?_⟩⟩
            have s4 : Same H3 (upd H3 a2 (.frz o2 (.tup [intV (tf t c), intV (tf t e)]))) := same_new na2
            have fb : FT (upd H3 a2 (.frz o2 (.tup [intV (tf t c), intV (tf t e)]))) a2 [intV (tf t c), intV (tf t e)] := FT.new da2
            generalize upd H3 a2 (.frz o2 (.tup [intV (tf t c), intV (tf t e)])) = H4 at s4 fb ⊢
            refine ⟨a1, a2, [intV n], [intV (tf t c), intV (tf t e)], rfl, rfl, (fa.mono (s3.trans s4).tups).sqt, fb.sqt, List.cons_ne_nil _ _, Nat.le_of_lt (small1000 (by show 3 ≤ 1000; decide)), fun z => absurd z (List.cons_ne_nil _ _), fun _ p2 np2 => ?_⟩
            have s5 : Same H4 (upd H4 p2 (.tup ([intV n] ++ [intV (tf t c), intV (tf t e)]))) := same_new np2
            have h5 : (upd H4 p2 (.tup ([intV n] ++ [intV (tf t c), intV (tf t e)]))) p2 = some (.tup [intV n, intV (tf t c), intV (tf t e)]) := upd_same
            have s15 := ((s2.trans s3).trans s4).trans s5
            generalize upd H4 p2 (.tup ([intV n] ++ [intV (tf t c), intV (tf t e)])) = H5 at s5 h5 s15 ⊢
            have hD5 := s15 _ _ h1
            have pD : p2 ≠ D := ne_of h5 hD5 fun z => by cases z
            refine ⟨D, xs, _, rfl, rfl, hD5, small1000 (by omega), ?_⟩
            refine ⟨_, _, _, _, xs ++ [.ref p2], rfl, upd_same, ?_, same_fill (s1.trans s15) nD⟩
            rw [ml]
            show Paired _ _ (mtQ S b c e i ++ (if i = c ∨ i = e then [] else [16 * n + 4 * tf t c + tf t e]))
            rw [if_neg hic]
            refine papp (pmono p1 fun _ _ z => z.mono (s15.tupK.trans (tupK_lst hD5))) (.cons ⟨p2, rfl, ?_⟩ .nil)
            rw [upd_ne pD, h5]
            have k4 := htf.1
            have k5 := hte.1
            show some (HO.tup [intV n, intV (tf t c), intV (tf t e)]) = some (HO.tup [.int (((16 * n + 4 * tf t c + tf t e) / 16 : Nat) : Int), .int (((16 * n + 4 * tf t c + tf t e) / 4 % 4 : Nat) : Int), .int (((16 * n + 4 * tf t c + tf t e) % 4 : Nat) : Int)])
            rw [show (16 * n + 4 * tf t c + tf t e) / 16 = n by omega, show (16 * n + 4 * tf t c + tf t e) / 4 % 4 = tf t c by omega, show (16 * n + 4 * tf t c + tf t e) % 4 = tf t e by omega]
            rfl
    · rintro σ H1 ⟨y4, y5, y6, y7, xs, rfl, h1, p1, s1⟩
      exact ⟨.ref D, rfl, q H1 D xs s1 nD h1 p1⟩
end
end Bk

/-! The points and the sides of a corner's triangles. -/
namespace Bk
open PySem PySem.Spec PyProof.Rows L2 RZ
theorem walk_its {c : Cl} {vs : List Nat} {u : L2.St → Hp → (Hp → Prop) → Prop} {J : It} {n : Nat} {G : Hp → Prop} {Y : Nat → Hp → V → Hp → Prop} {σ : L2.St} {H0 : Hp} {Done : Hp → Prop} (W : Walk J n G Y) (Pv : Nat → Hp → Prop) (h0 : Pv 0 H0) (hG : ∀ i H, i ≤ n → Pv i H → G H)
    (hs : ∀ i x H H', i < n → Pv i H → Y i H x H' → c.g x (wipe σ vs) H' fun σ2 H2 => wipe σ2 vs = wipe σ vs ∧ c.tt σ2 H2 fun b H3 => if b = true then u σ2 H3 (Pv (i + 1)) else Pv (i + 1) H3) (hd : ∀ H, Pv n H → Done H) : tWalk c vs u J σ H0 Done := by
  refine ⟨fun i m H => m = n - i ∧ i ≤ n ∧ Pv i H, ⟨n, rfl, Nat.zero_le _, h0⟩, ?_⟩
  rintro i m H ⟨rfl, hi, p⟩
  have q := hG i H hi p
  by_cases lt : i < n
  · refine .inr ⟨W.goes i H lt q, Pv (i + 1), fun H' p' => ⟨n - (i + 1), by omega, rfl, lt, p'⟩, fun x H' y => hs i x H H' lt p (W.yields i H x H' lt q y)⟩
  · obtain rfl : i = n := by omega
    exact .inl ⟨W.stops H q, hd H p⟩
section
variable {P : Program} {w : World} {K : PySem.W.Frag} {mg : Str → Option Value} {base : Heap}
/-- the points of these triangles -/
def ptsL (row : List Nat) : List Nat := row.flatMap fun n => ((List.range 4).filter fun e => decide (e ≠ n % 4)).map fun e => 4 * n + e
def ptsN (n m : Nat) : List Nat := ((List.range m).filter fun e => decide (e ≠ n % 4)).map fun e => 4 * n + e
theorem ptsN_succ (n m : Nat) : ptsN n (m + 1) = ptsN n m ++ (if m ≠ n % 4 then [4 * n + m] else []) := by
  unfold ptsN
  rw [List.range_succ, List.filter_append, List.map_append]
  by_cases c : m = n % 4
  · rw [if_neg (fun z => z c), List.filter_cons_of_neg (by simp [c])]
    rfl
  · rw [if_pos c, List.filter_cons_of_pos (by simp [c])]
    rfl
theorem ptsL_mem {row : List Nat} {x : Nat} : x ∈ ptsL row ↔ ∃ n ∈ row, ∃ e, e < 4 ∧ e ≠ n % 4 ∧ x = 4 * n + e := by
  unfold ptsL
  rw [List.mem_flatMap]
  constructor
  · rintro ⟨n, hn, h⟩
    obtain ⟨e, he, rfl⟩ := List.mem_map.mp h
    obtain ⟨h1, h2⟩ := List.mem_filter.mp he
    exact ⟨n, hn, e, List.mem_range.mp h1, of_decide_eq_true h2, rfl⟩
  · rintro ⟨n, hn, e, h1, h2, rfl⟩
    exact ⟨n, hn, List.mem_map.mpr ⟨e, List.mem_filter.mpr ⟨List.mem_range.mpr h1, decide_eq_true h2⟩, rfl⟩⟩
theorem ptsN_mem {n m x : Nat} (h : x ∈ ptsN n m) : ∃ e, e < m ∧ x = 4 * n + e := by
  obtain ⟨e, he, rfl⟩ := List.mem_map.mp h
  exact ⟨e, List.mem_range.mp (List.mem_filter.mp he).1, rfl⟩
theorem ptsL_len (row : List Nat) : (ptsL row).length ≤ 4 * row.length := by
  induction row with
  | nil => exact Nat.le_refl _
  | cons n row ih =>
    show (ptsN n 4 ++ ptsL row).length ≤ _
    have : (ptsN n 4).length ≤ 4 := by
      unfold ptsN
      rw [List.length_map]
      exact Nat.le_trans (List.length_filter_le _ _) (by rw [List.length_range]; exact Nat.le_refl _)
    rw [List.length_append, List.length_cons]
    omega
def lkQ (S : Spc) (x : Nat) : List Nat := mtQ S (x / 16) (x / 4 % 4) (x % 4) 4
theorem mtQ_mem {S : Spc} {b c e m y : Nat} : y ∈ mtQ S b c e m ↔ ∃ f n t, f < m ∧ getJ S b f = some (some (n, t)) ∧ f ≠ c ∧ f ≠ e ∧ y = 16 * n + 4 * tf t c + tf t e := by
  unfold mtQ
  rw [List.mem_flatMap]
  constructor
  · rintro ⟨f, hf, h⟩
    cases e1 : getJ S b f with
    | none =>
      rw [e1] at h
      cases h
    | some j =>
      rw [e1] at h
      cases j with
      | none => cases h
      | some k =>
        obtain ⟨n, t⟩ := k
        have h : y ∈ (if f = c ∨ f = e then [] else [16 * n + 4 * tf t c + tf t e]) := h
        by_cases z : f = c ∨ f = e
        · rw [if_pos z] at h
          cases h
        · rw [if_neg z, List.mem_singleton] at h
          exact ⟨f, n, t, List.mem_range.mp hf, e1, fun w => z (.inl w), fun w => z (.inr w), h⟩
  · rintro ⟨f, n, t, hf, e1, z1, z2, rfl⟩
    refine ⟨f, List.mem_range.mpr hf, ?_⟩
    rw [e1]
    show _ ∈ (if f = c ∨ f = e then [] else [16 * n + 4 * tf t c + tf t e])
    rw [if_neg (fun w => w.elim z1 z2)]
    exact List.mem_singleton.mpr rfl
theorem lkQ_symm {S : Spc} (h : Good S) {x y : Nat} (hy : y ∈ lkQ S x) : x ∈ lkQ S y := by
  obtain ⟨f, n, t, hf, e, z1, z2, rfl⟩ := mtQ_mem.mp hy
  obtain ⟨q1, q2, q3⟩ := h.both _ _ _ _ e
  have hc : x / 4 % 4 < 4 := Nat.mod_lt _ (by decide)
  have he : x % 4 < 4 := Nat.mod_lt _ (by decide)
  have k1 := (tf_lt t q1 _ hc).1
  have k2 := (tf_lt t q1 _ he).1
  have k3 := (tf_lt t q1 f hf).1
  unfold lkQ
  rw [show (16 * n + 4 * tf t (x / 4 % 4) + tf t (x % 4)) / 16 = n by omega, show (16 * n + 4 * tf t (x / 4 % 4) + tf t (x % 4)) / 4 % 4 = tf t (x / 4 % 4) by omega, show (16 * n + 4 * tf t (x / 4 % 4) + tf t (x % 4)) % 4 = tf t (x % 4) by omega]
  refine mtQ_mem.mpr ⟨tf t f, x / 16, back t, k3, q3, fun z => z1 (tf_inj t q1 f hf _ hc z), fun z => z2 (tf_inj t q1 f hf _ he z), ?_⟩
  rw [tf_back t q1 _ hc, tf_back t q1 _ he]
  omega
theorem lkQ_in {S : Spc} (h : Good S) {row : List Nat} (hcl : ∀ n ∈ row, ∀ m ∈ lkC S n, m ∈ row) {x y : Nat} (hx : x ∈ ptsL row) (hy : y ∈ lkQ S x) : y ∈ ptsL row := by
  obtain ⟨n, hn, e, he, ne, rfl⟩ := ptsL_mem.mp hx
  obtain ⟨f, n', t, hf, gj, z1, z2, rfl⟩ := mtQ_mem.mp hy
  rw [show (4 * n + e) / 16 = n / 4 by omega] at gj
  rw [show (4 * n + e) / 4 % 4 = n % 4 by omega] at z1 ⊢
  rw [show (4 * n + e) % 4 = e by omega]
  have q1 := (h.both _ _ _ _ gj).1
  have hc : n % 4 < 4 := Nat.mod_lt _ (by decide)
  have k1 := (tf_lt t q1 _ hc).1
  have k2 := (tf_lt t q1 _ he).1
  refine ptsL_mem.mpr ⟨4 * n' + tf t (n % 4), hcl n hn _ (metL_mem.mpr ⟨f, n', t, hf, gj, z1, rfl⟩), tf t e, k2, ?_, by omega⟩
  rw [show (4 * n' + tf t (n % 4)) % 4 = tf t (n % 4) by omega]
  exact fun z => ne (tf_inj t q1 e he _ hc z)
theorem ptsL_up {row : List Nat} (up : row.Pairwise (· < ·)) : (ptsL row).Pairwise (· < ·) := by
  unfold ptsL
  rw [List.pairwise_flatMap]
  refine ⟨fun n _ => ?_, up.imp fun {a b} h x hx y hy => ?_⟩
  · rw [List.pairwise_map]
    exact (List.pairwise_lt_range.filter _).imp fun z => by omega
  · obtain ⟨e, he, rfl⟩ := List.mem_map.mp hx
    obtain ⟨e', he', rfl⟩ := List.mem_map.mp hy
    have := List.mem_range.mp (List.mem_filter.mp he).1
    omega
end
end Bk

/-! Sets of more than 63 tuples: the table of 512 slots, too. -/
namespace Bk
open PySem PySem.Spec PyProof.Rows L2
/-- the masks that come up to 306 members -/
def MaskB (m : Nat) : Prop := MaskOk m ∨ m = 511
theorem MaskB.odd {m : Nat} (h : MaskB m) : m % 2 = 1 := h.elim mask_odd fun e => by rw [e]
theorem MaskB.le {m : Nat} (h : MaskB m) : m ≤ 511 := by
  rcases h with (e | e | e) | e <;> omega
theorem lcg_low : ((List.range 512).all fun k => k == 0 || lcgN 511 k != 0) = true := by decide +kernel
theorem lcg_512 : lcgN 511 512 = 0 := by decide +kernel
theorem lcg_lt : ∀ k, lcgN 511 k < 512
  | 0 => by decide
  | k + 1 => Nat.mod_lt _ (by decide)
theorem lcg_cancel {a b : Nat} (h : lcgN 511 (a + 1) = lcgN 511 (b + 1)) : lcgN 511 a = lcgN 511 b := by
  have h : (lcgN 511 a * 5 + 1) % 512 = (lcgN 511 b * 5 + 1) % 512 := h
  have ha := lcg_lt a
  have hb := lcg_lt b
  omega
theorem lcg_apart : ∀ a b, a ≤ b → b < 512 → lcgN 511 a = lcgN 511 b → a = b
  | 0, b, _, hb, h => by
    have z := List.all_eq_true.mp lcg_low b (List.mem_range.mpr hb)
    rw [← h] at z
    have z : (b == 0 || (0 : Nat) != 0) = true := z
    have z : b = 0 := by simpa using z
    exact z.symm
  | a + 1, b + 1, hab, hb, h => congrArg (· + 1) (lcg_apart a b (by omega) (by omega) (lcg_cancel h))
  | a + 1, 0, hab, _, _ => by omega
theorem lcg_onto {j : Nat} (hj : j < 512) : ∃ k, k < 512 ∧ lcgN 511 k = j := by
  refine Classical.byContradiction fun n => ?_
  have nd : ((List.range 512).map (lcgN 511)).Nodup := by
    unfold List.Nodup
    rw [List.pairwise_map]
    refine (List.pairwise_lt_range (n := 512)).imp_of_mem fun {a b} _ hb lt e => ?_
    exact absurd (lcg_apart a b (Nat.le_of_lt lt) (List.mem_range.mp hb) e) (Nat.ne_of_lt lt)
  have := nat_nodup_len _ ((List.range 512).erase j) nd fun x hx => by
    obtain ⟨k, hk, rfl⟩ := List.mem_map.mp hx
    refine (List.mem_erase_of_ne fun e => n ⟨k, List.mem_range.mp hk, e⟩).mpr (List.mem_range.mpr (lcg_lt k))
  rw [List.length_map, List.length_range, List.length_erase_of_mem (List.mem_range.mpr hj), List.length_range] at this
  omega
theorem lcg_again : ∀ k, lcgN 511 (512 + k) = lcgN 511 k
  | 0 => lcg_512
  | k + 1 => by
    show (lcgN 511 (512 + k) * 5 + 1) % 512 = (lcgN 511 k * 5 + 1) % 512
    rw [lcg_again k]
/-- each slot begins a run, from anywhere -/
theorem runs_all {m : Nat} (hm : MaskB m) (h : Int) {j : Nat} (hj : j ≤ m) : ∃ n, n ≤ m + 12 ∧ runI m (SetTable.bits h) n = j := by
  rcases hm with hm | rfl
  · exact run_meets hm h hj
  obtain ⟨a, ha, ea⟩ := lcg_onto (Nat.lt_succ_of_le (runI_le 511 (SetTable.bits h) 12))
  obtain ⟨b, hb, eb⟩ := lcg_onto (Nat.lt_succ_of_le hj)
  obtain ⟨k, hk, e⟩ : ∃ k, k ≤ 511 ∧ lcgN 511 (a + k) = j := by
    by_cases c : a ≤ b
    · exact ⟨b - a, by omega, by rw [show a + (b - a) = b by omega]; exact eb⟩
    · exact ⟨512 + b - a, by omega, by rw [show a + (512 + b - a) = 512 + b by omega, lcg_again]; exact eb⟩
  refine ⟨12 + k, by omega, ?_⟩
  rw [runI_tail (bits_lt h), ← ea, lcgN_add]
  exact e
theorem way_low {m : Nat} (h : Int) (k : Nat) : way m h k ≤ m := by
  have hi : SetTable.bits h % (m + 1) ≤ m := Nat.le_of_lt_succ (Nat.mod_lt _ (Nat.succ_pos _))
  have c := runEnd_bd hi
  have q := nth_in (m := m) k (runAt m (SetTable.bits h % (m + 1)) (SetTable.bits h)) (show SetTable.bits h % (m + 1) + (SetTable.runEnd m (SetTable.bits h % (m + 1)) - SetTable.bits h % (m + 1)) ≤ m by omega)
  exact Nat.le_trans (Nat.le_add_right _ _) q
/-- a way's first place of a kind that some slot is of, early enough for a search and for a laying -/
theorem way_first {m : Nat} (hm : MaskB m) (h : Int) (p : Nat → Prop) {j : Nat} (hj : j ≤ m) (pj : p j) : ∃ n K, n ≤ m + 12 ∧ K ≤ off m (SetTable.bits h % (m + 1)) (SetTable.bits h) n ∧ K ≤ 10 * n ∧ p (way m h K) ∧ ∀ k, k < K → ¬ p (way m h k) := by
  obtain ⟨n, hn, e⟩ := runs_all hm h hj
  have hw : way m h (off m (SetTable.bits h % (m + 1)) (SetTable.bits h) n) = j := by
    show (nth m (runAt m (SetTable.bits h % (m + 1)) (SetTable.bits h)) (off m (SetTable.bits h % (m + 1)) (SetTable.bits h) n)).j = j
    rw [nth_off, itL_run]
    exact e
  have ho : ∀ n i b, i ≤ m → off m i b n ≤ 10 * n := fun n => by
    induction n with
    | zero => exact fun _ _ _ => Nat.le_refl _
    | succ n ih =>
      intro i b hi
      have := ih (SetTable.leap m i b).1 (SetTable.leap m i b).2 (leap_le m i b)
      have r := runEnd_bd hi
      show (SetTable.runEnd m i - i + 1) + off m (SetTable.leap m i b).1 (SetTable.leap m i b).2 n ≤ _
      omega
  obtain ⟨K, k1, k2, k3⟩ := st_least (p := fun k => p (way m h k)) _ (by rw [hw]; exact pj)
  exact ⟨n, K, hn, k1, Nat.le_trans k1 (ho n _ _ (Nat.le_of_lt_succ (Nat.mod_lt _ (Nat.succ_pos _)))), k2, k3⟩
end Bk

namespace Bk
open PySem PySem.Spec PyProof.Rows L2
/-! ### laying a table anew -/
structure Ow (m : Nat) (done : List Int) (w : Array (Option Nat)) : Prop where
  sz : w.size = m + 1
  rc : ∀ j k, j ≤ m → oAt w j = some k → ∃ h K, done[k]? = some h ∧ way m h K = j ∧ ∀ i, i < K → oAt w (way m h i) ≠ none
  one : ∀ i j k, i ≤ m → j ≤ m → oAt w i = some k → oAt w j = some k → i = j
  all : ∀ k, k < done.length → ∃ j, j ≤ m ∧ oAt w j = some k
theorem Ow.nil (m : Nat) : Ow m [] (Array.replicate (m + 1) none) :=
  ⟨by simp, fun j k hj e => by (rw [oAt_init hj] at e; cases e), fun i j k hi _ e _ => by (rw [oAt_init hi] at e; cases e), fun k hk => absurd hk (Nat.not_lt_zero _)⟩
/-- a slot is left -/
theorem Ow.left {m : Nat} {done : List Int} {w : Array (Option Nat)} (W : Ow m done w) (hl : done.length ≤ m) : ∃ j, j ≤ m ∧ oAt w j = none := by
  refine Classical.byContradiction fun n => ?_
  have full : ∀ j, j ≤ m → ∃ k, oAt w j = some k := fun j hj => by
    cases e : oAt w j with
    | none => exact absurd ⟨j, hj, e⟩ n
    | some k => exact ⟨k, rfl⟩
  have nd : ((List.range (m + 1)).map fun j => (oAt w j).getD 0).Nodup := by
    unfold List.Nodup
    rw [List.pairwise_map]
    refine (List.pairwise_lt_range (n := m + 1)).imp_of_mem fun {a b} ha hb lt e => ?_
    obtain ⟨x, hx⟩ := full a (Nat.le_of_lt_succ (List.mem_range.mp ha))
    obtain ⟨y, hy⟩ := full b (Nat.le_of_lt_succ (List.mem_range.mp hb))
    rw [hx, hy] at e
    have e : x = y := e
    subst e
    exact absurd (W.one a b x (Nat.le_of_lt_succ (List.mem_range.mp ha)) (Nat.le_of_lt_succ (List.mem_range.mp hb)) hx hy) (Nat.ne_of_lt lt)
  have := nat_nodup_len _ (List.range done.length) nd fun x hx => by
    obtain ⟨j, hj, rfl⟩ := List.mem_map.mp hx
    have hj := Nat.le_of_lt_succ (List.mem_range.mp hj)
    obtain ⟨k, hk⟩ := full j hj
    obtain ⟨_, _, h1, _⟩ := W.rc j k hj hk
    rw [hk]
    exact List.mem_range.mpr (List.getElem?_eq_some_iff.mp h1).1
  rw [List.length_map, List.length_range, List.length_range] at this
  omega
theorem Ow.more {m : Nat} (hm : MaskB m) {done : List Int} {w : Array (Option Nat)} (W : Ow m done w) (hl : done.length ≤ m) (h : Int) :
    ∃ j, SetTable.layClean.free m w (SetTable.turns m) (SetTable.bits h % (m + 1)) (SetTable.bits h) = some j ∧ Ow m (done ++ [h]) (w.setIfInBounds j (some done.length)) := by
  obtain ⟨j0, h0, f0⟩ := W.left hl
  obtain ⟨n, K, hn, hK, _, hf, hb⟩ := way_first hm h (fun j => oAt w j = none) h0 f0
  have hjm : way m h K ≤ m := way_low h K
  have found := free_spec m w (SetTable.turns m) n (SetTable.bits h % (m + 1)) (SetTable.bits h) K (by unfold SetTable.turns; omega) hK (fun k hk => by
    have q := hb k hk
    cases z : oAt w (way m h k) with
    | none => exact absurd z q
    | some _ => rfl) (by
    show (oAt w (way m h K)).isNone = true
    rw [hf]
    rfl)
  refine ⟨way m h K, found, ?_⟩
  obtain ⟨j, hj⟩ : ∃ j, j = way m h K := ⟨_, rfl⟩
  rw [← hj] at hf hjm ⊢
  have own := oAt_set_self (owner := w) (some done.length) (j := j) (by rw [W.sz]; omega)
  have get : ∀ {i k}, oAt (w.setIfInBounds j (some done.length)) i = some k → (i = j ∧ k = done.length) ∨ (i ≠ j ∧ oAt w i = some k) := fun {i k} e => by
    by_cases c : i = j
    · rw [c, own] at e
      exact .inl ⟨c, (Option.some.inj e).symm⟩
    · rw [oAt_set_ne _ c] at e
      exact .inr ⟨c, e⟩
  have stay : ∀ {i}, oAt w i ≠ none → oAt (w.setIfInBounds j (some done.length)) i ≠ none := fun {i} e => by
    by_cases c : i = j
    · rw [c, own]
      exact nofun
    · rw [oAt_set_ne _ c]
      exact e
  have old : ∀ {i k}, i ≤ m → oAt w i = some k → k < done.length := fun {i k} hi e => by
    obtain ⟨_, _, h1, _⟩ := W.rc i k hi e
    exact (List.getElem?_eq_some_iff.mp h1).1
  refine ⟨by rw [Array.size_setIfInBounds]; exact W.sz, fun i k hi e => ?_, fun i i' k hi hi' e e' => ?_, fun k hk => ?_⟩
  · rcases get e with ⟨rfl, rfl⟩ | ⟨_, e⟩
    · exact ⟨h, K, by rw [List.getElem?_append_right (Nat.le_refl _), Nat.sub_self]; rfl, hj.symm, fun c hc => stay (hb c hc)⟩
    · obtain ⟨h', K', a1, a2, a3⟩ := W.rc i k hi e
      exact ⟨h', K', by rw [List.getElem?_append_left (old hi e)]; exact a1, a2, fun c hc => stay (a3 c hc)⟩
  · rcases get e with ⟨rfl, rfl⟩ | ⟨_, e⟩ <;> rcases get e' with ⟨q, q'⟩ | ⟨_, e'⟩
    · exact q.symm
    · exact absurd (old hi' e') (Nat.lt_irrefl _)
    · subst q'
      exact absurd (old hi e) (Nat.lt_irrefl _)
    · exact W.one i i' k hi hi' e e'
  · rw [List.length_append] at hk
    by_cases c : k = done.length
    · rw [c]
      exact ⟨j, hjm, own⟩
    · obtain ⟨i, hi, e⟩ := W.all k (by have : [h].length = 1 := rfl; omega)
      exact ⟨i, hi, by rw [oAt_set_ne _ (fun z => by rw [z, hf] at e; cases e)]; exact e⟩
theorem Ow.fold {m : Nat} (hm : MaskB m) (rest : List Int) : ∀ (done : List Int) (w : Array (Option Nat)), Ow m done w → (done ++ rest).length ≤ m → ∃ w', rest.foldl (stepF m) (some (w, done.length)) = some (w', (done ++ rest).length) ∧ Ow m (done ++ rest) w' := by
  induction rest with
  | nil => exact fun done w W _ => ⟨w, by rw [List.append_nil]; rfl, by rw [List.append_nil]; exact W⟩
  | cons h rest ih =>
    intro done w W hl
    rw [List.append_cons] at hl ⊢
    have l1 : (done ++ [h]).length = done.length + 1 := by rw [List.length_append]; rfl
    have l2 : (done ++ [h] ++ rest).length = (done ++ [h]).length + rest.length := List.length_append
    obtain ⟨j, e, W1⟩ := W.more hm (by omega) h
    obtain ⟨w', f, W2⟩ := ih _ _ W1 hl
    refine ⟨w', ?_, W2⟩
    rw [List.foldl_cons, stepF_some e, ← l1]
    exact f
/-! ### tables -/
/-- a table with hs, in the order of its slots -/
structure Tab (t : SetTable) (hs : List Int) : Prop where
  ris : Ris t.place.toList
  dm : t.dummies = #[]
  sz : t.place.size = hs.length
  mok : MaskB t.mask
  bd : ∀ x ∈ t.place.toList, x ≤ t.mask
  rc : ∀ (i : Nat) (h : Int) (j : Nat), hs[i]? = some h → t.place.toList[i]? = some j → ∃ k, way t.mask h k = j ∧ ∀ c, c < k → way t.mask h c ∈ t.place.toList
theorem Tab.laid (t : SetTable) {hs : Array Int} {wanted M : Nat} (hw : SetTable.sizeAbove wanted - 1 = M) (hM : MaskB M) (hn : hs.size ≤ M) :
    ∃ t' order, t.relaid hs wanted = some (t', order) ∧ order.toList.Perm (List.range hs.size) ∧ Tab t' (order.toList.map fun i => hs.getD i 0) ∧ t'.mask = M ∧ t'.led = t.led ∧ t'.plain = t.plain := by
  obtain ⟨w, f, W⟩ := Ow.fold hM hs.toList [] _ (Ow.nil M) (by rw [List.nil_append, Array.length_toList]; exact hn)
  rw [List.nil_append] at f W
  have lay : SetTable.layClean M hs = some w := by
    rw [layClean_eq]
    show (hs.toList.foldl (stepF M) (some (_, 0))).map (·.1) = _
    rw [show hs.toList.foldl (stepF M) (some (Array.replicate (M + 1) none, 0)) = some (w, hs.toList.length) from f]
    rfl
  have ris := ris_live (fun j => w.getD j none) (List.range (M + 1)) List.pairwise_lt_range
  have r1 : Ris ((liveOf M w).map (·.1)) := ris.1
  have r2 : ∀ x ∈ (liveOf M w).map (·.1), x ∈ List.range (M + 1) := ris.2
  have mem : ∀ {j k}, (j, k) ∈ liveOf M w ↔ j ≤ M ∧ oAt w j = some k := mem_live W.sz
  have len : ((liveOf M w).map (·.2)).length = hs.size := by
    have nd : ((liveOf M w).map (·.2)).Nodup := by
      unfold List.Nodup Ris at *
      rw [List.pairwise_map] at r1 ⊢
      refine r1.imp_of_mem fun {a b} ha hb lt e => ?_
      obtain ⟨a1, a2⟩ := a
      obtain ⟨b1, b2⟩ := b
      have e : a2 = b2 := e
      subst e
      exact absurd (W.one a1 b1 a2 (mem.mp ha).1 (mem.mp hb).1 (mem.mp ha).2 (mem.mp hb).2) (Nat.ne_of_lt lt)
    have p := nat_nodup_len _ (List.range hs.size) nd fun x hx => by
      obtain ⟨⟨j, k⟩, hq, rfl⟩ := List.mem_map.mp hx
      obtain ⟨_, _, h1, _⟩ := W.rc j k (mem.mp hq).1 (mem.mp hq).2
      exact List.mem_range.mpr (List.getElem?_eq_some_iff.mp h1).1
    have q := nat_nodup_len (List.range hs.size) ((liveOf M w).map (·.2)) List.nodup_range fun k hk => by
      obtain ⟨j, h1, h2⟩ := W.all k (List.mem_range.mp hk)
      exact List.mem_map.mpr ⟨(j, k), mem.mpr ⟨h1, h2⟩, rfl⟩
    rw [List.length_range] at p q
    omega
  refine ⟨tabOf t M w, ((liveOf M w).map (·.2)).toArray, by rw [relaid_eq, hw, lay]; rfl, perm_range _ _ len fun k hk => ?_, ⟨r1, rfl, ?_, hM, fun x hx => Nat.le_of_lt_succ (List.mem_range.mp (r2 x hx)), fun i h j h1 h2 => ?_⟩, rfl, rfl, rfl⟩
  · obtain ⟨j, h1, h2⟩ := W.all k hk
    exact List.mem_map.mpr ⟨(j, k), mem.mpr ⟨h1, h2⟩, rfl⟩
  · show ((liveOf M w).map (·.1)).toArray.size = _
    rw [List.size_toArray, List.length_map, List.length_map, List.length_map]
  · have h1 : (((liveOf M w).map (·.2)).map fun i => hs.getD i 0)[i]? = some h := h1
    have h2 : ((liveOf M w).map (·.1))[i]? = some j := h2
    rw [List.map_map, List.getElem?_map] at h1
    rw [List.getElem?_map] at h2
    obtain ⟨⟨y, k⟩, hq, ej⟩ := Option.map_eq_some_iff.mp h2
    rw [hq] at h1
    have ej : y = j := ej
    have eh : hs.getD k 0 = h := Option.some.inj h1
    subst ej
    obtain ⟨b1, b2⟩ := mem.mp (List.mem_of_getElem? hq)
    obtain ⟨h0, K, a1, a2, a3⟩ := W.rc y k b1 b2
    obtain rfl : h0 = h := by
      rw [← eh, Array.getD_eq_getD_getElem?, ← Array.getElem?_toList, a1]
      rfl
    refine ⟨K, a2, fun c hc => ?_⟩
    show way M h0 c ∈ (liveOf M w).map (·.1)
    cases z : oAt w (way M h0 c) with
    | none => exact absurd z (a3 c hc)
    | some x => exact List.mem_map.mpr ⟨(way M h0 c, x), mem.mpr ⟨way_low h0 c, z⟩, rfl⟩
end Bk

namespace Bk
open PySem PySem.Spec PyProof.Rows L2
/-! ### a member more -/
theorem Tab.first {t : SetTable} {hs : List Int} (T : Tab t hs) (hl : hs.length ≤ t.mask) (h : Int) : ∃ K, K < 10 * SetTable.turns t.mask ∧ way t.mask h K ∉ t.place.toList ∧ ∀ c, c < K → way t.mask h c ∈ t.place.toList := by
  obtain ⟨j, hj, hn⟩ := st_missing t.place.toList (t.mask + 1) (by rw [Array.length_toList, T.sz]; omega)
  obtain ⟨n, K, hn', _, hK, h1, h2⟩ := way_first T.mok h (fun j => j ∉ t.place.toList) (Nat.le_of_lt_succ hj) hn
  exact ⟨K, by unfold SetTable.turns; omega, h1, fun c hc => Classical.byContradiction (h2 c hc)⟩
theorem Tab.passed {t : SetTable} {hs : List Int} (T : Tab t hs) {h : Int} {K i j : Nat} (hK : way t.mask h K ∉ t.place.toList) (hi : hs[i]? = some h) (hj : t.place.toList[i]? = some j) : ∃ c, c < K ∧ way t.mask h c = j := by
  obtain ⟨c, e, hb⟩ := T.rc i h j hi hj
  refine ⟨c, ?_, e⟩
  rcases Nat.lt_trichotomy c K with z | rfl | z
  · exact z
  · exact absurd (by rw [e]; exact List.mem_of_getElem? hj) hK
  · exact absurd (hb K z) hK
/-- the table with one put in at the first free slot of its way; p is its place among the others -/
theorem Tab.put {t : SetTable} {hs : List Int} (T : Tab t hs) {h : Int} {K : Nat} (hK : way t.mask h K ∉ t.place.toList) (hb : ∀ c, c < K → way t.mask h c ∈ t.place.toList) :
    ∃ t' p, t.put (way t.mask h K) = (t', p) ∧ p ≤ hs.length ∧ Tab t' (hs.take p ++ h :: hs.drop p) ∧ t'.mask = t.mask ∧ t'.led = t.led ∧ t'.plain = t.plain ∧ t'.fill = hs.length + 1 := by
  obtain ⟨j, hj⟩ : ∃ j, j = way t.mask h K := ⟨_, rfl⟩
  rw [← hj] at hK ⊢
  have hjm : j ≤ t.mask := hj ▸ way_low h K
  obtain ⟨c1, _, _⟩ := below_cut T.ris j
  have lp : t.place.toList.length = hs.length := by rw [Array.length_toList]; exact T.sz
  have hp : SetTable.below t.place j ≤ hs.length := by rw [← T.sz]; exact c1
  have out : t.place[SetTable.below t.place j]? ≠ some j := fun e => hK (List.mem_of_getElem? (by rw [Array.getElem?_toList]; exact e))
  have pl := put_place t j
  have dm := put_dm T.dm j
  have up : ∀ {x}, x ∈ t.place.toList → x ∈ (t.put j).1.place.toList := fun hx => by rw [pl]; exact mem_ins.mpr (.inr hx)
  have size : (t.put j).1.place.size = hs.length + 1 := by rw [← Array.length_toList, pl, len_ins _ (by rw [lp]; exact hp), lp]
  refine ⟨(t.put j).1, SetTable.below t.place j, rfl, hp, ⟨ris_insert T.ris out, dm, by rw [size, len_ins _ hp], T.mok, fun x hx => ?_, fun i h' j' h1 h2 => ?_⟩, rfl, rfl, rfl, ?_⟩
  · rw [pl] at hx
    exact (mem_ins.mp hx).elim (fun z => by rw [z]; exact hjm) (T.bd x)
  · rw [tins_get _ hp] at h1
    rw [pl, tins_get _ (by rw [lp]; exact hp)] at h2
    show ∃ k, way t.mask h' k = j' ∧ ∀ c, c < k → way t.mask h' c ∈ (t.put j).1.place.toList
    by_cases e1 : i < SetTable.below t.place j
    · rw [if_pos e1] at h1 h2
      obtain ⟨k, a, b⟩ := T.rc i h' j' h1 h2
      exact ⟨k, a, fun c hc => up (b c hc)⟩
    by_cases e2 : i = SetTable.below t.place j
    · rw [if_neg e1, if_pos e2] at h1 h2
      cases h1
      cases h2
      exact ⟨K, hj.symm, fun c hc => up (hb c hc)⟩
    · rw [if_neg e1, if_neg e2] at h1 h2
      obtain ⟨k, a, b⟩ := T.rc (i - 1) h' j' h1 h2
      exact ⟨k, a, fun c hc => up (b c hc)⟩
  · show (t.put j).1.place.size + (t.put j).1.dummies.size = _
    rw [size, dm]
    rfl
/-! ### the set -/
structure Bs (P : Program) (w : World) (h : Heap) (a : Addr) (L : List (Addr × List Int)) (es : Array (Int × Value)) (ep : Nat) (t : SetTable) : Prop where
  ob : ∃ o, h.get? a = some o ∧ o.ExactSet ∧ o.data = .set es ep t
  rows : es.toList = rowsOf P w L
  tab : Tab t (L.map fun p => thash P w p.2)
  nd : (L.map (·.2)).Nodup
  plain : t.plain = true
  led : w.params.followText "set-order" = true ∨ t.led = true
  room : L.length * 5 < t.mask * 3
section
variable {P : Program} {w : World} {A : Around} {E : Value → Shared → Prop} {s : Shared} {h : Heap} {a : Addr} {L : List (Addr × List Int)} {es : Array (Int × Value)} {ep : Nat} {t : SetTable}
theorem Bs.size (R : Bs P w h a L es ep t) : es.size = L.length := by
  have := congrArg List.length R.rows
  rwa [Array.length_toList, rowsOf, List.length_map] at this
theorem Bs.fits (R : Bs P w h a L es ep t) : t.fits es.size = true := by
  have h1 := R.tab.sz
  rw [List.length_map] at h1
  have h2 := R.size
  have h3 := R.room
  unfold SetTable.fits SetTable.fill
  rw [R.tab.dm, Bool.and_eq_true, beq_iff_eq, decide_eq_true_eq]
  exact ⟨by omega, (show t.place.size + 0 ≤ t.mask by omega)⟩
theorem Bs.entry (R : Bs P w h a L es ep t) {i : Nat} {p : Addr × List Int} (hp : L[i]? = some p) : es[i]? = some (thash P w p.2, Value.ref p.1) := by
  rw [← Array.getElem?_toList, R.rows, rowsOf, List.getElem?_map, hp]
  rfl
theorem Bs.same {h' : Heap} (R : Bs P w h a L es ep t) (k : ∀ o, h.get? a = some o → h'.get? a = some o) : Bs P w h' a L es ep t := by
  obtain ⟨o, ho, r⟩ := R.ob
  exact ⟨⟨o, k o ho, r⟩, R.rows, R.tab, R.nd, R.plain, R.led, R.room⟩
theorem nth_dm (m : Nat) : ∀ (n : Nat) (p : SetTable.Probe), p.dummy = none → (nth m p n).dummy = none
  | 0, _, h => h
  | n + 1, p, h => nth_dm m n _ (by unfold adv; split <;> exact h)
/-- a search from the c-th step of the way on; r: nothing where one is put in, else the member's index -/
theorem bs_walk (R : Bs P w s.heap a L es ep t) (tup : ∀ p ∈ L, IsT P w s.heap p.2 p.1) {x : Addr} {k : List Int} (hx : IsT P w s.heap k x) (hu : A.units < cLine) {adding : Bool} {K : Nat} (hKf : K < 10 * SetTable.turns t.mask)
    (hK : way t.mask (thash P w k) K ∉ t.place.toList) (hb : ∀ c, c < K → way t.mask (thash P w k) c ∈ t.place.toList) {Q : SetFound → Shared → Prop}
    (hin : k ∈ L.map (·.2) → ∀ r : Option Nat, (adding = false → r.isSome = true) → Q (.there r) s) (hout : k ∉ L.map (·.2) → Q (.free (way t.mask (thash P w k) K) false) s) :
    ∀ (f c : Nat) (stand : Option SetTable.Probe), stand.getD (t.probeStart (thash P w k)) = nth t.mask (runAt t.mask (SetTable.bits (thash P w k) % (t.mask + 1)) (SetTable.bits (thash P w k))) c → c ≤ K → K - c < f →
      (∀ (i : Nat) (p : Addr × List Int), L[i]? = some p → p.2 = k → ∃ d, c ≤ d ∧ d < K ∧ t.place.toList[i]? = some (way t.mask (thash P w k) d)) →
      wpAny (model P w) A (setSearchFrom a (.ref x) (thash P w k) adding f stand) Q E s := by
  obtain ⟨o, ho, hex, hd⟩ := R.ob
  intro f
  induction f with
  | zero => exact fun c _ _ _ hf => absurd hf (Nat.not_lt_zero _)
  | succ f ih =>
  intro c stand hst hc hf ahead
  have e1 : ∀ q, (nth t.mask (nth t.mask (runAt t.mask (SetTable.bits (thash P w k) % (t.mask + 1)) (SetTable.bits (thash P w k))) c) q).j = way t.mask (thash P w k) (c + q) := fun q => congrArg SetTable.Probe.j (nth_add t.mask c _ q).symm
  have spec := go_spec t R.tab.ris R.tab.dm (fun i => (es[i]?.map (·.1)).getD 0) (thash P w k) (10 * SetTable.turns t.mask) (K - c) _ (nth_dm t.mask c (runAt t.mask (SetTable.bits (thash P w k) % (t.mask + 1)) (SetTable.bits (thash P w k))) rfl) (by omega)
    (fun q hq => by rw [e1]; exact hb (c + q) (by omega)) (by rw [e1, show c + (K - c) = K by omega]; exact hK)
  have keyAt : ∀ {i : Nat} {p : Addr × List Int}, L[i]? = some p → p.2 = k → ((es[i]?.map (·.1)).getD 0) = thash P w k := fun hp e => by
    rw [R.entry hp, ← e]
    rfl
  have start : t.probe (fun i => (es[i]?.map (·.1)).getD 0) (thash P w k) (stand.getD (t.probeStart (thash P w k))) = SetTable.probe.go t (fun i => (es[i]?.map (·.1)).getD 0) (thash P w k) (10 * SetTable.turns t.mask) (nth t.mask (runAt t.mask (SetTable.bits (thash P w k) % (t.mask + 1)) (SetTable.bits (thash P w k))) c) := by
    rw [hst]
    rfl
  rw [setSearchFrom_succ]
  refine wpAny_bind (wpAny_setState_of ho hd R.fits ?_)
  dsimp only
  refine wp_if_neg (by unfold SetTable.gaveWay; rw [R.tab.mok.odd]; decide) ?_
  rw [start]
  rcases spec with ⟨q, i, hq, hi, hh, hno, hpr⟩ | ⟨hno, hpr⟩
  · rw [hpr]
    dsimp only
    rw [e1] at hi
    have il : i < L.length := by
      have h1 := (List.getElem?_eq_some_iff.mp hi).1
      have h2 := R.tab.sz
      rw [List.length_map] at h2
      rw [Array.length_toList] at h1
      omega
    obtain ⟨p, hp⟩ : ∃ p, L[i]? = some p := ⟨_, List.getElem?_eq_getElem il⟩
    have pm := List.mem_of_getElem? hp
    have slot : t.slot (way t.mask (thash P w k) (c + q)) = .live i := slot_live R.tab.ris hi
    have rest : wpAny (model P w) A (searchRest a (.ref x) (thash P w k) adding f es t (nth t.mask (nth t.mask (runAt t.mask (SetTable.bits (thash P w k) % (t.mask + 1)) (SetTable.bits (thash P w k))) c) q).j i (nth t.mask (nth t.mask (runAt t.mask (SetTable.bits (thash P w k) % (t.mask + 1)) (SetTable.bits (thash P w k))) c) (q + 1))) Q E s := by
      rw [e1]
      unfold searchRest
      rw [R.entry hp]
      dsimp only
      refine wpAny_bind (wpAny_holding (wpAny_eqBool_tuple hu (tup p pm) hx ?_))
      refine wpAny_bind (wpAny_setState_of ho hd R.fits ?_)
      dsimp only
      by_cases hk : p.2 = k
      · have there := hin (List.mem_map.mpr ⟨p, pm, hk⟩)
        cases adding with
        | true => exact wp_if_pos (by simp [hk]) (wpAny_pure (there none nofun))
        | false =>
          refine wp_if_neg (by simp) ?_
          rw [sameMem]
          dsimp only
          simp only [if_true, slot, R.entry hp]
          refine wpAny_bind (wpAny_isSame_ref_self (wpAny_bind (wpAny_pure ?_)))
          simp only [if_true]
          exact wp_if_pos (by simp [hk]) (wpAny_pure (there (some i) fun _ => rfl))
      · refine wp_if_neg (by simp [hk]) ?_
        rw [sameMem]
        dsimp only
        simp only [if_true, slot, R.entry hp]
        refine wpAny_bind (wpAny_isSame_ref_self (wpAny_bind (wpAny_pure ?_)))
        simp only [if_true]
        refine wp_if_neg (by simp [hk]) ?_
        refine ih (c + (q + 1)) _ (nth_add t.mask c _ (q + 1)).symm (by omega) (by omega) fun i0 p0 h0 k0 => ?_
        obtain ⟨d, a1, a2, a3⟩ := ahead i0 p0 h0 k0
        refine ⟨d, ?_, a2, a3⟩
        rcases Nat.lt_trichotomy d (c + q) with z | rfl | z
        · exact absurd (keyAt h0 k0) (hno (d - c) i0 (by omega) (by rw [e1, show c + (d - c) = d by omega]; exact a3))
        · have s0 := slot_live R.tab.ris a3
          rw [slot] at s0
          injection s0 with s0
          subst s0
          rw [hp] at h0
          cases h0
          exact absurd k0 hk
        · exact z
    by_cases hl : t.led = true
    · exact wp_if_neg (by simp [hl]) rest
    · refine wp_if_pos (by simp [hl]) (wpAny_bind (seen_tup hx (fun y hy => ?_) ?_))
      · obtain ⟨e, he, rfl⟩ := List.mem_map.mp hy
        have he : e ∈ es.toList := by simpa using (show e ∈ es ∧ e.1 = thash P w k by simpa using he).1
        rw [R.rows] at he
        obtain ⟨p2, hp2, rfl⟩ := List.mem_map.mp he
        exact ⟨p2.2, p2.1, rfl, tup p2 hp2⟩
      · exact wp_if_neg (by decide) rest
  · rw [hpr, e1, show c + (K - c) = K by omega]
    dsimp only
    refine wpAny_pure (hout fun hm => ?_)
    obtain ⟨p0, m0, k0⟩ := List.mem_map.mp hm
    obtain ⟨i0, h0⟩ := List.mem_iff_getElem?.mp m0
    obtain ⟨d, a1, a2, a3⟩ := ahead i0 p0 h0 k0
    exact hno (d - c) i0 (by omega) (by rw [e1, show c + (d - c) = d by omega]; exact a3) (keyAt h0 k0)
end
end Bk

namespace Bk
open PySem PySem.Spec PyProof.Rows L2
section
variable {P : Program} {w : World} {A : Around} {E : Value → Shared → Prop} {s : Shared} {h : Heap} {a : Addr} {L : List (Addr × List Int)} {es : Array (Int × Value)} {ep : Nat} {t : SetTable}
theorem bs_search (R : Bs P w s.heap a L es ep t) (tup : ∀ p ∈ L, IsT P w s.heap p.2 p.1) {x : Addr} {k : List Int} (hx : IsT P w s.heap k x) (hu : A.units < cLine) {adding : Bool} {Q : SetFound → Shared → Prop}
    (hin : k ∈ L.map (·.2) → ∀ r : Option Nat, (adding = false → r.isSome = true) → Q (.there r) s)
    (hout : ∀ K, k ∉ L.map (·.2) → way t.mask (thash P w k) K ∉ t.place.toList → (∀ c, c < K → way t.mask (thash P w k) c ∈ t.place.toList) → Q (.free (way t.mask (thash P w k) K) false) s) :
    wpAny (model P w) A (setSearch a (.ref x) (thash P w k) adding) Q E s := by
  have room := R.room
  obtain ⟨K, hKf, hK, hb⟩ := R.tab.first (by rw [List.length_map]; omega) (thash P w k)
  have low := R.tab.mok.le
  have far : K < 100000 := by
    unfold SetTable.turns at hKf
    omega
  unfold setSearch
  refine bs_walk R tup hx hu hKf hK hb hin (fun n => hout K n hK hb) 100000 0 none rfl (Nat.zero_le _) (by omega) fun i p hp hk => ?_
  have hi : (L.map fun p => thash P w p.2)[i]? = some (thash P w k) := by
    rw [List.getElem?_map, hp, ← hk]
    rfl
  have il : i < t.place.toList.length := by
    have h1 := (List.getElem?_eq_some_iff.mp hi).1
    rw [Array.length_toList, R.tab.sz]
    exact h1
  obtain ⟨c, hc, e⟩ := R.tab.passed hK hi (List.getElem?_eq_getElem il)
  exact ⟨c, Nat.zero_le _, hc, by rw [List.getElem?_eq_getElem il, e]⟩
theorem setFindIn_more (a : Addr) (x : Value) (h : Int) (f : Nat) : setFindIn a x h (f + 1) = (do
    let (es, _, _) ← setState a
    if byScan x es then
      rule "set.find.by-scan"
      match ← setScan a x h false es with
      | .found i => return some i
      | .absent => return none
      | .anew => return ← setFindIn a x h f
    match ← setSearch a x h with
    | .there i => return i
    | .free .. => return none) := by rfl
theorem bs_find (R : Bs P w s.heap a L es ep t) (tup : ∀ p ∈ L, IsT P w s.heap p.2 p.1) {x : Addr} {k : List Int} (hx : IsT P w s.heap k x) (hu : A.units < cLine) {Q : Option Nat → Shared → Prop}
    (q : ∀ r : Option Nat, r.isSome = decide (k ∈ L.map (·.2)) → Q r s) : wpAny (model P w) A (setFind a (.ref x) (thash P w k)) Q E s := by
  obtain ⟨o, ho, hex, hd⟩ := R.ob
  unfold setFind
  rw [show (100000 : Nat) = 99999 + 1 from rfl, setFindIn_more]
  refine wpAny_bind (wpAny_setState_of ho hd R.fits ?_)
  dsimp only
  refine wp_if_neg (by simp [byScan, Value.scannable]) ?_
  refine wpAny_bind (bs_search R tup hx hu (fun m r hr => ?_) fun K m _ _ => ?_)
  · exact wpAny_pure (q r (by rw [hr rfl, decide_eq_true m]))
  · exact wpAny_pure (q none (by rw [decide_eq_false m]; rfl))
theorem size_308 : SetTable.sizeAbove (SetTable.grown 77) = 512 := by decide +kernel
theorem bs_relay {o : Obj} (ho : s.heap.get? a = some o) (hex : o.ExactSet) (hd : o.data = .set es ep t) (rows : es.toList = rowsOf P w L) (tab : Tab t (L.map fun p => thash P w p.2)) (nd : (L.map (·.2)).Nodup) (pl : t.plain = true)
    (ld : w.params.followText "set-order" = true ∨ t.led = true) (hfl : L.length ≤ t.mask) {wanted M : Nat} (hw : SetTable.sizeAbove wanted = M + 1) (hM : MaskB M) (hn : L.length * 5 < M * 3) {Q : Unit → Shared → Prop}
    (q : ∀ h' L' es' ep' t', Heap.SameBut a s.heap h' → Bs P w h' a L' es' ep' t' → L'.Perm L → Q () { s with heap := h' }) : wpAny (model P w) A (setRelay a wanted) Q E s := by
  have sz : es.size = L.length := by
    have := congrArg List.length rows
    rwa [Array.length_toList, rowsOf, List.length_map] at this
  have low := hM.le
  have psz := tab.sz
  rw [List.length_map] at psz
  have fits : t.fits es.size = true := by
    unfold SetTable.fits SetTable.fill
    rw [tab.dm, Bool.and_eq_true, beq_iff_eq, decide_eq_true_eq]
    exact ⟨by omega, (show t.place.size + 0 ≤ t.mask by omega)⟩
  obtain ⟨t', order, e, perm, T, em, el, epl⟩ := Tab.laid t (hs := es.map (·.1)) (wanted := wanted) (M := M) (by rw [hw]; rfl) hM (by rw [Array.size_map, sz]; omega)
  rw [Array.size_map, sz] at perm
  obtain ⟨L2, r1, r2, r3⟩ := order_rows L es order rows perm
  rw [← r3] at T
  have sz2 : (order.filterMap (es[·]?)).size = L.length := by
    have := congrArg List.length r1
    rwa [Array.length_toList, rowsOf, List.length_map, r2.length_eq] at this
  rw [setRelay_eq]
  refine wpAny_bind (wpAny_setState_of ho hd fits ?_)
  dsimp only
  refine wp_if_neg (by rw [hw, sizeLine_eq]; omega) ?_
  rw [e]
  dsimp only
  refine wpAny_bind ?_
  refine wp_if_neg (by rw [sz2, sz]; simp) ?_
  refine wpAny_pure ?_
  dsimp only
  refine wpAny_storeSet_of ho hd ?_ (by rw [sz2, sizeLine_eq]; omega)
  refine q _ L2 _ (ep + 1) t' (Heap.SameBut.update ..) ⟨⟨_, store_at ho hd, hex, rfl⟩, r1, T, (r2.map (·.2)).nodup_iff.mpr nd, by rw [epl]; exact pl, by rw [el]; exact ld, by rw [r2.length_eq, em]; exact hn⟩ r2
theorem bs_add (R : Bs P w s.heap a L es ep t) (tup : ∀ p ∈ L, IsT P w s.heap p.2 p.1) {x : Addr} {k : List Int} (hx : IsT P w s.heap k x) (hu : A.units < cLine) (few : L.length + 1 ≤ 300) {Q : Bool → Shared → Prop}
    (q : ∀ b h' L' es' ep' t', Heap.SameBut a s.heap h' → Bs P w h' a L' es' ep' t' → (k ∈ L.map (·.2) → L' = L) → (k ∉ L.map (·.2) → L'.Perm ((x, k) :: L)) → Q b { s with heap := h' }) :
    wpAny (model P w) A (setAddHashed a (.ref x) (thash P w k)) Q E s := by
  obtain ⟨o, ho, hex, hd⟩ := R.ob
  have sz := R.size
  have room := R.room
  unfold setAddHashed
  refine wpAny_holding ?_
  rw [show (100000 : Nat) = 99999 + 1 from rfl, setAddHashedIn_succ]
  refine wpAny_bind (wpAny_setState_of ho hd R.fits ?_)
  dsimp only
  refine wp_if_neg (by simp [byScan, Value.scannable]) ?_
  refine wpAny_bind (bs_search R tup hx hu (fun m r _ => ?_) fun K m hK hb => ?_)
  · exact wpAny_pure (q false s.heap L es ep t (Heap.SameBut.refl a s.heap) R (fun _ => rfl) fun n => absurd m n)
  dsimp only
  refine wpAny_bind (wpAny_setState_of ho hd R.fits ?_)
  dsimp only
  obtain ⟨t1, p, ept, hp, T, em, el, epl, efl⟩ := R.tab.put hK hb
  rw [ept]
  dsimp only
  have pl1 : t1.plain = true := by rw [epl]; exact R.plain
  refine wp_if_pos pl1 (wpAny_bind (hashBy_tup hx ?_))
  simp only [if_true]
  have ins : (SetTable.insertAt es p (thash P w k, Value.ref x)).toList = rowsOf P w (L.take p ++ (x, k) :: L.drop p) := by
    rw [SetTable.toList_insertAt, rows_put, R.rows]
  have pm := put_perm L p (x, k)
  have T : Tab t1 ((L.take p ++ (x, k) :: L.drop p).map fun p => thash P w p.2) := by
    rw [List.map_append, List.map_cons, List.map_take, List.map_drop]
    exact T
  have nd1 : ((L.take p ++ (x, k) :: L.drop p).map (·.2)).Nodup := (pm.map (·.2)).nodup_iff.mpr (List.nodup_cons.mpr ⟨m, R.nd⟩)
  generalize L.take p ++ (x, k) :: L.drop p = L1 at ins pm T nd1
  have len : L1.length = L.length + 1 := pm.length_eq
  have sz1 : (SetTable.insertAt es p (thash P w k, Value.ref x)).size = L.length + 1 := by
    have := congrArg List.length ins
    rwa [Array.length_toList, rowsOf, List.length_map, len] at this
  generalize SetTable.insertAt es p (thash P w k, Value.ref x) = es1 at ins sz1 ⊢
  refine wpAny_bind (wpAny_storeSet_of ho hd ?_ (by rw [sz1, sizeLine_eq]; omega))
  have sb : Heap.SameBut a s.heap (s.heap.update a (Obj.putSet es1 t1)) := Heap.SameBut.update ..
  have ho1 := store_at (es' := es1) (t' := t1) ho hd
  generalize s.heap.update a (Obj.putSet es1 t1) = h1 at sb ho1 ⊢
  have ld1 : w.params.followText "set-order" = true ∨ t1.led = true := by rw [el]; exact R.led
  rw [List.length_map] at efl
  by_cases full : t1.tooFull = true
  · have hf : (L.length + 1) * 5 ≥ t.mask * 3 := by
      have := full
      unfold SetTable.tooFull at this
      rwa [decide_eq_true_eq, efl, em] at this
    have go : ∀ M, SetTable.sizeAbove (SetTable.grown (L.length + 1)) = M + 1 → MaskB M → (L.length + 1) * 5 < M * 3 → L.length + 1 ≤ t.mask →
        wpAny (model P w) A (setRelay a (SetTable.grown (es.size + 1))) (fun _ s' => wpAny (model P w) A (pure true) Q E s') E { s with heap := h1 } := fun M e hM hn hl => by
      rw [sz]
      refine bs_relay (s := { s with heap := h1 }) ho1 ⟨hex.1, hex.2.1, hex.2.2⟩ rfl ins T nd1 pl1 ld1 (by rw [len, em]; exact hl) e hM (by rw [len]; exact hn) fun h2 L2 es2 ep2 t2 sb2 R2 pm2 => ?_
      exact wpAny_pure (q true h2 L2 es2 ep2 t2 (sb.trans sb2) R2 (fun z => absurd z m) fun _ => pm2.trans pm)
    refine wp_if_pos (by simp [full]) (wpAny_bind ?_)
    rcases R.tab.mok with (e | e | e) | e
    · rw [e] at hf room
      have l4 : L.length = 4 := by omega
      exact go 31 (by rw [l4, size_20]) (.inl (.inr (.inl rfl))) (by omega) (by omega)
    · rw [e] at hf room
      have l4 : L.length = 18 := by omega
      exact go 127 (by rw [l4, size_76]) (.inl (.inr (.inr rfl))) (by omega) (by omega)
    · rw [e] at hf room
      have l4 : L.length = 76 := by omega
      exact go 511 (by rw [l4, size_308]) (.inr rfl) (by omega) (by omega)
    · rw [e] at hf
      omega
  · refine wp_if_neg (by simp [full]) (wpAny_pure (q true h1 L1 es1 (ep + 1) t1 sb ⟨⟨_, ho1, ⟨hex.1, hex.2.1, hex.2.2⟩, rfl⟩, ins, T, nd1, pl1, ld1, ?_⟩ (fun z => absurd z m) fun _ => pm))
    have := full
    unfold SetTable.tooFull at this
    rw [decide_eq_true_eq, efl] at this
    rw [len]
    omega
end
end Bk

namespace Bk
open PySem PySem.Spec PyProof.Rows L2
/-! ### big sets of tuples in the heap that is spoken of -/
def SetBo (P : Program) (w : World) (a : Addr) (L : List (Addr × List Int)) : HO := .ext fun h => ∃ es ep t, Bs P w h a L es ep t
theorem setBo_new {P : Program} {w : World} {H : Hp} {h : Heap} {a : Addr} {L : List (Addr × List Int)} {es : Array (Int × Value)} {ep : Nat} {t : SetTable} (R : Bs P w h a L es ep t) : ObjOk P w H h a (SetBo P w a L) := by
  obtain ⟨o, ho, _⟩ := R.ob
  exact ⟨⟨es, ep, t, R⟩, ⟨o, ho⟩, fun h1 h2 ⟨es, ep, t, r⟩ k => ⟨es, ep, t, r.same k⟩⟩
theorem Bs.type {P : Program} {w : World} {s : Shared} {a : Addr} {L : List (Addr × List Int)} {es : Array (Int × Value)} {ep : Nat} {t : SetTable} (R : Bs P w s.heap a L es ep t) : s.TypeIs (.ref a) "set" := by
  obtain ⟨o, ho, hex, _⟩ := R.ob
  exact ⟨o, ho, hex.1⟩
theorem Bs.plainD {P : Program} {w : World} {s : Shared} {a : Addr} {L : List (Addr × List Int)} {es : Array (Int × Value)} {ep : Nat} {t : SetTable} (R : Bs P w s.heap a L es ep t) : ∀ b, Value.ref a = .ref b → ∃ ob, s.heap.get? b = some ob ∧ ob.dict = none := fun b e => by
  injection e with e
  subst e
  obtain ⟨o, ho, hex, _⟩ := R.ob
  exact ⟨o, ho, hex.2.1⟩
section
variable {X : Cx} {pins : List (Addr × Obj)} {σ : L2.St} {H : Hp} {s : Shared} {K : PySem.W.Frag}
/-- set() -/
def rSet0B (P : Program) (w : World) : List V → Hp → VK → Prop := fun xs H Q => xs = [] ∧ ∀ p, H p = none → Q (.ref p) (upd H p (SetBo P w p []))
theorem cr_set0B : CallR X (.type "set") (rSet0B X.prog X.w) := by
  intro pins s σ H xs us Q I r h
  obtain ⟨rfl, q⟩ := h
  cases r
  refine setR_new fun _ => ?_
  have led : X.w.params.followText "set-order" = true ∨ (SetTable.fresh 0 0 (!X.w.params.followText "set-order")).led = true := by
    show _ ∨ (!X.w.params.followText "set-order") = true
    cases X.w.params.followText "set-order"
    · exact .inr rfl
    · exact .inl rfl
  have new : Bs X.prog X.w (s.heap.push { cls := .type "set", dict := none, data := .set #[] 0 (.fresh 0 0 (!X.w.params.followText "set-order")) }) s.heap.objs.size [] #[] 0 (.fresh 0 0 (!X.w.params.followText "set-order")) :=
    ⟨⟨_, Heap.get?_push_size _ rfl, ⟨rfl, rfl, rfl⟩, rfl⟩, rfl, ⟨List.Pairwise.nil, rfl, rfl, .inl (.inl rfl), fun _ h => (by cases h), fun i h j e => (by simp at e)⟩, List.nodup_nil, rfl, led, (show 0 * 5 < 7 * 3 by decide)⟩
  exact ⟨.ref _, upd H s.heap.objs.size (SetBo X.prog X.w s.heap.objs.size []), I.laid (t' := s.toks) (fun b u e => Heap.get?_push_of_some _ e) (Nat.le_refl _) (setBo_new new), rfl, q _ (I.hok.fresh (Nat.le_refl _))⟩
theorem bs_get {a : Addr} {L : List (Addr × List Int)} (I : Inv X pins σ H s) (ha : H a = some (SetBo X.prog X.w a L)) (tup : ∀ p ∈ L, SqT X.K H p.1 (p.2.map V.int)) : ∃ es ep t, Bs X.prog X.w s.heap a L es ep t ∧ ∀ p ∈ L, IsT X.prog X.w s.heap p.2 p.1 := by
  obtain ⟨es, ep, t, R⟩ := (I.hok a _ ha).1
  exact ⟨es, ep, t, R, fun p hp => I.isT (tup p hp)⟩
/-- found.add(x) -/
def rSAddB (K : PySem.W.Frag) (P : Program) (w : World) : V → List V → Hp → VK → Prop := fun x xs H Q => ∃ (a b : Addr) (k : List Int) (L : List (Addr × List Int)), x = V.ref a ∧ xs = [V.ref b] ∧ H a = some (SetBo P w a L) ∧ SqT K H b (k.map V.int) ∧ (∀ p ∈ L, SqT K H p.1 (p.2.map V.int)) ∧ L.length + 1 ≤ 300 ∧
  ∀ L', (k ∈ L.map (·.2) → L' = L) → (k ∉ L.map (·.2) → L'.Perm ((b, k) :: L)) → Q .non (upd H a (SetBo P w a L'))
theorem mt_saddB (hK : X.K = K) (hu : X.A.units + 64 < cLine) : MtR X "set.add" (rSAddB K X.prog X.w) := by
  subst hK
  intro pins s σ H x xs v us Q I rx rxs h
  obtain ⟨a, b, k, L, rfl, rfl, ha, hb, tup, few, q⟩ := h
  cases rx
  cases rxs with
  | cons ry rt =>
    cases rt
    cases ry
    obtain ⟨es, ep, t, R, tt⟩ := bs_get I ha tup
    have hx := I.isT hb
    have hu1 : X.A.in1.units < cLine := (show X.A.units + 1 < cLine by omega)
    refine wpAny_call_entry F.slot_set_add R.type F.entry_set_add ?_ (F.args_set_add_2 _ _)
    unfold Builtin.«set.add» Builtin.Frozenset.oneOther
    simp only [List.isEmpty_nil, bind_assoc]
    unfold Builtin.Frozenset.addrOf setAdd
    refine wpAny_bind (wpAny_pure ?_)
    try dsimp only
    refine wpAny_bind (wpAny_pure ?_)
    try dsimp only
    refine wpAny_bind ?_
    refine wpAny_holding ?_
    refine wpAny_bind (wpAny_pyHash_tuple hu1 hx ?_)
    refine bs_add (s := { s with toks := s.toks + (k.length + 1) }) R tt hx hu1 few fun b' h' L' es' ep' t' sb R' e1 e2 => ?_
    show wpAny _ _ (ret Value.none) _ _ _
    refine wpAny_pure ⟨_, rfl, ?_⟩
    have he : ∃ u, h'.get? a = some u := by
      obtain ⟨o, ho, _⟩ := R'.ob
      exact ⟨o, ho⟩
    exact ⟨.non, upd H a (SetBo X.prog X.w a L'), I.write (e := a) (t' := s.toks + (k.length + 1)) (by rw [ha]; trivial) (.inl rfl) (fun b u hb hu => (sb.2 b hb).trans hu) he (setBo_new R'), rfl, q L' e1 e2⟩
def tSAddB (K : PySem.W.Frag) (P : Program) (w : World) (to : TE) (t : TA) : TE := fun σ H Q => to σ H fun x H1 => (∃ a L, x = V.ref a ∧ H1 a = some (SetBo P w a L)) ∧ t σ H1 fun xs H2 => rSAddB K P w x xs H2 Q
theorem pe_saddB {o e : Expr} {es : List Expr} {to : TE} {t : TA} {apos cpos : Pos} (hK : X.K = K) (hu : X.A.units + 64 < cLine) (ho : PE X o to) (ha : PA X (e :: es) t)
    (hbase : attributeBase o "add" X.env (eval o X.env) = eval o X.env := by rfl)
    (hfew : ((backTo cpos (starEach (e :: es) X.env)).all (fun x => !x.1) && (backToKw cpos (keywordEach [] X.env)).all (fun x => x.1.isSome)
      && decide ((e :: es).length + ([] : List Keyword).length + (if ([] : List Keyword).isEmpty then 0 else 1) < 30)) = true := by rfl)
    (hline : (apos.endLine == cpos.line) = true := by rfl) (hs : starEach (e :: es) X.env = (false, eval e X.env) :: starEach es X.env := by rfl) (hplain : (backTo cpos (starEach es X.env)).any (·.1) = false := by rfl) :
    PE X (.Call (.Attribute o "add" apos) (e :: es) [] cpos) (tSAddB K X.prog X.w to t) := by
  refine ⟨fun pins s σ H Q I h => ?_⟩
  refine wpAny_Call_method_late hbase hfew hline rfl (thn (ho.run pins s σ H _ I h) fun v s1 ⟨x, H1, I1, r1, ⟨a, L, ex, hka⟩, q1⟩ => ?_)
  subst ex
  cases r1
  obtain ⟨es', ep, t', R⟩ := (I1.hok a _ hka).1
  refine ⟨"set", "set.add", F.plainAttrs_set, F.slot_set_add, F.type_set_add, R.type, R.plainD, ?_⟩
  have hA := ha.run cpos pins s1 σ H1 _ I1 q1
  rw [hs] at hA ⊢
  refine Calls.callWith_builtin (by show (false || (backTo cpos (starEach es X.env)).any (·.1)) = false; rw [hplain] <;> rfl) (Calls.evalArgs_plain ?_)
  exact thn hA fun us s2 ⟨vs, H2, I2, r2, q2⟩ => mt_saddB hK hu pins s2 σ H2 (.ref a) vs (.ref a) us Q I2 rfl r2 q2
/-- x not in found -/
def rSNotInB (K : PySem.W.Frag) (P : Program) (w : World) : V → V → Hp → VK → Prop := fun x y H Q => ∃ (a b : Addr) (k : List Int) (L : List (Addr × List Int)), x = V.ref b ∧ y = V.ref a ∧ H a = some (SetBo P w a L) ∧ SqT K H b (k.map V.int) ∧ (∀ p ∈ L, SqT K H p.1 (p.2.map V.int)) ∧ Q (.bl (!decide (k ∈ L.map (·.2)))) H
theorem op_snotinB (hK : X.K = K) (hu : X.A.units + 64 < cLine) : OpR X (compareOp .NotIn) (rSNotInB K X.prog X.w) := by
  subst hK
  intro pins s σ H x y v u Q I rx ry h
  obtain ⟨a, b, k, L, rfl, rfl, ha, hb, tup, q⟩ := h
  cases rx
  cases ry
  obtain ⟨es, ep, t, R, tt⟩ := bs_get I ha tup
  have hx := I.isT hb
  have hu1 : X.A.in1.units < cLine := (show X.A.units + 1 < cLine by omega)
  show wpAny _ _ (do return Value.bool (!(← contains (.ref a) (.ref b)))) _ _ s
  refine wpAny_bind ?_
  unfold contains
  try with_reducible refine wpAny_holding ?_
  refine wpAny_bind (wpAny_specialOf R.type F.slot_set_contains.lookup ?_)
  show wpAny _ _ (if (some (Value.builtin "set.__contains__") == some Value.none) = true then _ else _) _ _ s
  rw [if_neg (by rw [beq_builtin_none]; exact Bool.false_ne_true)]
  refine wpAny_bind (wpAny_callSpecialUnlessNone?_slot (name := Str.ofString "__contains__") R.type F.slot_set_contains
    (wpAny_call_entry F.slot_set_contains R.type entry_set_contains ?_ (F.args_set_contains_2 _ _)))
  unfold Builtin.«frozenset.__contains__» Builtin.Frozenset.oneOther
  simp only [List.isEmpty_nil, bind_assoc]
  unfold Builtin.Frozenset.addrOf Builtin.Frozenset.withSetAsKey setContains
  refine wpAny_bind (wpAny_pure ?_)
  try dsimp only
  refine wpAny_bind (wpAny_pure ?_)
  try dsimp only
  refine wpAny_bind (wpAny_tryCatch ?_)
  refine wpAny_holding ?_
  refine wpAny_bind (wpAny_pyHash_tuple hu1 hx ?_)
  refine wpAny_bind (bs_find (s := { s with toks := s.toks + (k.length + 1) }) R tt hx hu1 fun r hr => ?_)
  refine wpAny_pure ?_
  show wpAny _ _ (ret (Value.bool r.isSome)) _ _ _
  rw [hr]
  exact wpAny_pure ⟨_, rfl, wpAny_truthy_bool (wpAny_pure ⟨.bl _, H, I.tok _, rfl, q⟩)⟩
theorem kSet0B {X : Cx} {P : Program} {w : World} (h1 : X.prog = P) (h2 : X.w = w) : CallR X (.type "set") (rSet0B P w) := h1 ▸ h2 ▸ cr_set0B
theorem kSNotInB {X : Cx} (K : PySem.W.Frag) {P : Program} {w : World} (hK : X.K = K) (h1 : X.prog = P) (h2 : X.w = w) (hu : X.A.units + 64 < cLine) : OpR X (compareOp .NotIn) (rSNotInB K P w) := h1 ▸ h2 ▸ op_snotinB hK hu
theorem pe_saddKB {X : Cx} {o e : Expr} {es : List Expr} {to : TE} {t : TA} {apos cpos : Pos} (K : PySem.W.Frag) {P : Program} {w : World} (hK : X.K = K) (h1 : X.prog = P) (h2 : X.w = w) (hu : X.A.units + 64 < cLine) (ho : PE X o to) (ha : PA X (e :: es) t)
    (hbase : attributeBase o "add" X.env (eval o X.env) = eval o X.env := by rfl)
    (hfew : ((backTo cpos (starEach (e :: es) X.env)).all (fun x => !x.1) && (backToKw cpos (keywordEach [] X.env)).all (fun x => x.1.isSome)
      && decide ((e :: es).length + ([] : List Keyword).length + (if ([] : List Keyword).isEmpty then 0 else 1) < 30)) = true := by rfl)
    (hline : (apos.endLine == cpos.line) = true := by rfl) (hs : starEach (e :: es) X.env = (false, eval e X.env) :: starEach es X.env := by rfl) (hplain : (backTo cpos (starEach es X.env)).any (·.1) = false := by rfl) :
    PE X (.Call (.Attribute o "add" apos) (e :: es) [] cpos) (tSAddB K P w to t) := by
  subst h1 h2
  exact pe_saddB hK hu ho ha hbase hfew hline hs hplain
end
end Bk

namespace Bk
open PySem PySem.Spec PyProof.Rows L2
theorem fstE_all {α : Type} {E : α → α → Bool} (h : EqvB E) (l : List α) : (fstE E l).Pairwise (fun x y => E x y = false) ∧ (∀ x ∈ fstE E l, x ∈ l) ∧ (∀ y ∈ l, ∃ x ∈ fstE E l, E x y = true) ∧ (fstE E l).length ≤ l.length := by
  refine snoc_ind (P := fun l => (fstE E l).Pairwise (fun x y => E x y = false) ∧ (∀ x ∈ fstE E l, x ∈ l) ∧ (∀ y ∈ l, ∃ x ∈ fstE E l, E x y = true) ∧ (fstE E l).length ≤ l.length) ⟨.nil, fun x hx => absurd hx List.not_mem_nil, fun x hx => absurd hx List.not_mem_nil, Nat.le_refl _⟩ (fun l x ih => ?_) l
  obtain ⟨h1, h2, h3, h4⟩ := ih
  rw [fstE_snoc]
  by_cases c : (fstE E l).any (fun y => E y x) = true
  · rw [if_pos c]
    refine ⟨h1, fun y hy => List.mem_append_left _ (h2 y hy), fun y hy => ?_, by rw [List.length_append]; omega⟩
    rcases List.mem_append.mp hy with hy | hy
    · exact h3 y hy
    · rw [List.mem_singleton.mp hy]
      obtain ⟨z, hz, e⟩ := List.any_eq_true.mp c
      exact ⟨z, hz, e⟩
  · rw [if_neg c]
    refine ⟨List.pairwise_append.mpr ⟨h1, List.pairwise_singleton _ _, fun a ha b hb => ?_⟩, fun y hy => ?_, fun y hy => ?_, by rw [List.length_append, List.length_append]; show _ + 1 ≤ _ + 1; omega⟩
    · rw [List.mem_singleton.mp hb]
      exact Bool.eq_false_iff.mpr fun z => c (List.any_eq_true.mpr ⟨a, ha, z⟩)
    · rcases List.mem_append.mp hy with hy | hy
      · exact List.mem_append_left _ (h2 y hy)
      · exact List.mem_append_right _ hy
    · rcases List.mem_append.mp hy with hy | hy
      · obtain ⟨z, hz, e⟩ := h3 y hy
        exact ⟨z, List.mem_append_left _ hz, e⟩
      · rw [List.mem_singleton.mp hy]
        exact ⟨x, List.mem_append_right _ List.mem_cons_self, h.rfl x⟩
theorem rowsE_flat {α : Type} {E : α → α → Bool} (h : EqvB E) {l : List α} (hn : l.Nodup) : (rowsE E l).flatten.Nodup ∧ (∀ y, y ∈ (rowsE E l).flatten ↔ y ∈ l) ∧ (rowsE E l).length ≤ l.length := by
  obtain ⟨h1, h2, h3, h4⟩ := fstE_all h l
  unfold rowsE
  refine ⟨?_, fun y => ?_, by rw [List.length_map]; exact h4⟩
  · unfold List.Nodup
    rw [List.pairwise_flatten]
    refine ⟨fun r hr => ?_, ?_⟩
    · obtain ⟨x, _, rfl⟩ := List.mem_map.mp hr
      exact hn.filter _
    · rw [List.pairwise_map]
      refine h1.imp fun {x y} e a ha b hb z => ?_
      subst z
      have e1 := (List.mem_filter.mp ha).2
      have e2 := (List.mem_filter.mp hb).2
      have := h.trans x a y e1 (h.symm _ _ e2)
      rw [e] at this
      cases this
  · rw [List.mem_flatten]
    constructor
    · rintro ⟨r, hr, hy⟩
      obtain ⟨x, _, rfl⟩ := List.mem_map.mp hr
      exact (List.mem_filter.mp hy).1
    · intro hy
      obtain ⟨x, hx, e⟩ := h3 y hy
      exact ⟨_, List.mem_map_of_mem hx, List.mem_filter.mpr ⟨hy, e⟩⟩
end Bk

/-! Edges: rows of directed ones, and which of two contrary rows stands. -/
namespace Bk
open PySem PySem.Spec PyProof.Rows L2 RZ
/-! rows of a rising list -/
theorem fstE_subl {α : Type} (E : α → α → Bool) (l : List α) : (fstE E l).Sublist l := by
  refine snoc_ind (P := fun l => (fstE E l).Sublist l) (List.Sublist.refl _) (fun l x ih => ?_) l
  rw [fstE_snoc]
  split
  · exact ih.trans (List.sublist_append_left _ _)
  · exact ih.append (List.Sublist.refl _)
theorem fstE_low {E : Nat → Nat → Bool} (h : EqvB E) (l : List Nat) : l.Pairwise (· < ·) → ∀ y ∈ l, ∃ z ∈ fstE E l, z ≤ y ∧ E z y = true := by
  refine snoc_ind (P := fun l => l.Pairwise (· < ·) → ∀ y ∈ l, ∃ z ∈ fstE E l, z ≤ y ∧ E z y = true) (fun _ y hy => absurd hy List.not_mem_nil) (fun l x ih up y hy => ?_) l
  rw [List.pairwise_append] at up
  obtain ⟨u1, _, u3⟩ := up
  rw [fstE_snoc]
  have old : y ∈ l → ∃ z ∈ (if (fstE E l).any (fun y => E y x) = true then fstE E l else fstE E l ++ [x]), z ≤ y ∧ E z y = true := fun hy => by
    obtain ⟨z, hz, r⟩ := ih u1 y hy
    refine ⟨z, ?_, r⟩
    split
    · exact hz
    · exact List.mem_append_left _ hz
  rcases List.mem_append.mp hy with hy | hy
  · exact old hy
  · obtain rfl := List.mem_singleton.mp hy
    by_cases c : (fstE E l).any (fun z => E z y) = true
    · rw [if_pos c]
      obtain ⟨z, hz, e⟩ := List.any_eq_true.mp c
      exact ⟨z, hz, Nat.le_of_lt (u3 z ((fstE_subl E l).subset hz) y List.mem_cons_self), e⟩
    · rw [if_neg c]
      exact ⟨y, List.mem_append_right _ List.mem_cons_self, Nat.le_refl _, h.rfl y⟩
theorem fstE_apart {E : Nat → Nat → Bool} (h : EqvB E) (l : List Nat) : (fstE E l).Pairwise (fun x y => E x y = false) := by
  refine snoc_ind (P := fun l => (fstE E l).Pairwise (fun x y => E x y = false)) List.Pairwise.nil (fun l x ih => ?_) l
  rw [fstE_snoc]
  by_cases c : (fstE E l).any (fun z => E z x) = true
  · rw [if_pos c]
    exact ih
  · rw [if_neg c]
    refine List.pairwise_append.mpr ⟨ih, List.pairwise_singleton _ _, fun a ha b hb => ?_⟩
    rw [List.mem_singleton.mp hb]
    exact Bool.eq_false_iff.mpr fun z => c (List.any_eq_true.mpr ⟨a, ha, z⟩)
theorem fstE_one {E : Nat → Nat → Bool} (h : EqvB E) {l : List Nat} {x y : Nat} (hx : x ∈ fstE E l) (hy : y ∈ fstE E l) (e : E x y = true) : x = y := by
  obtain ⟨i, hi⟩ := List.mem_iff_getElem?.mp hx
  obtain ⟨j, hj⟩ := List.mem_iff_getElem?.mp hy
  obtain ⟨li, ei⟩ := List.getElem?_eq_some_iff.mp hi
  obtain ⟨lj, ej⟩ := List.getElem?_eq_some_iff.mp hj
  have p := List.pairwise_iff_getElem.mp (fstE_apart h l)
  rcases Nat.lt_trichotomy i j with c | rfl | c
  · have := p i j li lj c
    rw [ei, ej, e] at this
    cases this
  · rw [← ei, ← ej]
  · have := p j i lj li c
    rw [ei, ej, h.symm _ _ e] at this
    cases this
theorem fstE_least {E : Nat → Nat → Bool} (h : EqvB E) {l : List Nat} (up : l.Pairwise (· < ·)) {x y : Nat} (hx : x ∈ fstE E l) (hy : y ∈ l) (e : E x y = true) : x ≤ y := by
  obtain ⟨z, hz, le, e2⟩ := fstE_low h l up y hy
  obtain rfl := fstE_one h hz hx (h.trans _ _ _ e2 (h.symm _ _ e))
  exact le
theorem head_least {r : List Nat} (up : r.Pairwise (· < ·)) {x : Nat} (hx : x ∈ r) (lo : ∀ y ∈ r, x ≤ y) : ∃ t, r = x :: t := by
  cases r with
  | nil => cases hx
  | cons a t =>
    rcases List.mem_cons.mp hx with rfl | hx
    · exact ⟨t, rfl⟩
    · have h1 := (List.pairwise_cons.mp up).1 x hx
      have h2 := lo a List.mem_cons_self
      omega
/-- the i-th row: its least is the i-th of the firsts -/
theorem row_at {E : Nat → Nat → Bool} (h : EqvB E) {l : List Nat} (up : l.Pairwise (· < ·)) {i : Nat} {r : List Nat} (hr : (rowsE E l)[i]? = some r) : ∃ x t, (fstE E l)[i]? = some x ∧ r = x :: t ∧ r = l.filter (E x) := by
  unfold rowsE at hr
  rw [List.getElem?_map] at hr
  obtain ⟨x, hx, rfl⟩ := Option.map_eq_some_iff.mp hr
  have hm := List.mem_of_getElem? hx
  obtain ⟨t, e⟩ := head_least (up.filter (E x)) (List.mem_filter.mpr ⟨(fstE_subl E l).subset hm, h.rfl x⟩) (fun y hy => fstE_least h up hm (List.mem_filter.mp hy).1 (List.mem_filter.mp hy).2)
  exact ⟨x, t, hx, e, rfl⟩
/-! turned about -/
def flp (x : Nat) : Nat := 16 * (x / 16) + 4 * (x % 4) + x / 4 % 4
theorem flp_at (b c e : Nat) (hc : c < 4) (he : e < 4) : flp (16 * b + 4 * c + e) = 16 * b + 4 * e + c := by
  unfold flp
  rw [show (16 * b + 4 * c + e) / 16 = b by omega, show (16 * b + 4 * c + e) / 4 % 4 = c by omega, show (16 * b + 4 * c + e) % 4 = e by omega]
theorem split16 (x : Nat) : ∃ b c e, c < 4 ∧ e < 4 ∧ x = 16 * b + 4 * c + e := ⟨x / 4 / 4, x / 4 % 4, x % 4, Nat.mod_lt _ (by decide), Nat.mod_lt _ (by decide), by omega⟩
theorem flp_flp (x : Nat) : flp (flp x) = x := by
  obtain ⟨b, c, e, hc, he, rfl⟩ := split16 x
  rw [flp_at b c e hc he, flp_at b e c he hc]
theorem lkQ_flp {S : Spc} (h : Good S) {x y : Nat} (hy : y ∈ lkQ S x) : flp y ∈ lkQ S (flp x) := by
  obtain ⟨b, c, e, hc, he, rfl⟩ := split16 x
  unfold lkQ at *
  rw [show (16 * b + 4 * c + e) / 16 = b by omega, show (16 * b + 4 * c + e) / 4 % 4 = c by omega, show (16 * b + 4 * c + e) % 4 = e by omega] at hy
  obtain ⟨f, n, t, hf, g, z1, z2, rfl⟩ := mtQ_mem.mp hy
  have q1 := (h.both _ _ _ _ g).1
  have k1 := (tf_lt t q1 _ hc).1
  have k2 := (tf_lt t q1 _ he).1
  rw [flp_at n _ _ k1 k2, flp_at b c e hc he, show (16 * b + 4 * e + c) / 16 = b by omega, show (16 * b + 4 * e + c) / 4 % 4 = e by omega, show (16 * b + 4 * e + c) % 4 = c by omega]
  exact mtQ_mem.mpr ⟨f, n, t, hf, g, z2, z1, rfl⟩
theorem hangQ_flp {S : Spc} (h : Good S) {x y : Nat} (e : hangB (fun x y => y ∈ lkQ S x) x y = true) : hangB (fun x y => y ∈ lkQ S x) (flp x) (flp y) = true :=
  hangB_iff.mpr ((hangB_iff.mp e).map fun _ _ z => lkQ_flp h z)
/-! which rows stand -/
def keepE (r : List Nat) : Bool := r.all fun z => decide (r.headD 0 ≤ flp z)
theorem keepE_iff {x : Nat} {t : List Nat} : keepE (x :: t) = true ↔ ∀ z ∈ x :: t, x ≤ flp z := by
  unfold keepE
  rw [List.all_eq_true]
  exact ⟨fun h z hz => of_decide_eq_true (h z hz), fun h z hz => decide_eq_true (h z hz)⟩
theorem gone_iff {E : Nat → Nat → Bool} (h : EqvB E) {l : List Nat} (up : l.Pairwise (· < ·)) (fl : ∀ x ∈ l, flp x ∈ l) (fe : ∀ x y, E x y = true → E (flp x) (flp y) = true) {i x : Nat} {t : List Nat} (hi : (rowsE E l)[i]? = some (x :: t)) :
    (∃ r ∈ ((rowsE E l).take i).filter keepE, ∃ z ∈ r, x = flp z) ↔ keepE (x :: t) = false := by
  obtain ⟨x', t', hx, e1, er⟩ := row_at h up hi
  cases e1
  have xm := List.mem_of_getElem? hx
  have xl := (fstE_subl E l).subset xm
  have ups : (fstE E l).Pairwise (· < ·) := up.sublist (fstE_subl E l)
  have rm : ∀ z, z ∈ x :: t ↔ z ∈ l ∧ E x z = true := fun z => by rw [er, List.mem_filter]
  rw [Bool.eq_false_iff, Ne, keepE_iff]
  constructor
  · rintro ⟨r, hr, z, hz, ex⟩ hk
    obtain ⟨hr1, hr2⟩ := List.mem_filter.mp hr
    obtain ⟨j, hj⟩ := List.mem_iff_getElem?.mp hr1
    rw [List.getElem?_take] at hj
    split at hj
    · rename_i lt
      obtain ⟨y, t2, hy, e2, er2⟩ := row_at h up hj
      subst e2
      obtain ⟨zl, ze⟩ := List.mem_filter.mp (by rw [← er2]; exact hz : z ∈ l.filter (E y))
      have ylt : y < x := by
        obtain ⟨l1, q1⟩ := List.getElem?_eq_some_iff.mp hy
        obtain ⟨l2, q2⟩ := List.getElem?_eq_some_iff.mp hx
        rw [← q1, ← q2]
        exact List.pairwise_iff_getElem.mp ups j i l1 l2 lt
      have yl := (fstE_subl E l).subset (List.mem_of_getElem? hy)
      have := hk (flp y) ((rm _).mpr ⟨fl y yl, by rw [ex]; exact h.symm _ _ (fe _ _ ze)⟩)
      rw [flp_flp] at this
      omega
    · cases hj
  · intro hk
    obtain ⟨z, hz, lt⟩ : ∃ z ∈ x :: t, flp z < x := by
      refine Classical.byContradiction fun n => hk fun z hz => ?_
      exact Nat.le_of_not_lt fun lt => n ⟨z, hz, lt⟩
    obtain ⟨zl, ze⟩ := (rm z).mp hz
    obtain ⟨y, hy, yle, ye⟩ := fstE_low h l up (flp z) (fl z zl)
    obtain ⟨j, hj⟩ := List.mem_iff_getElem?.mp hy
    have jlt : j < i := by
      obtain ⟨l1, q1⟩ := List.getElem?_eq_some_iff.mp hj
      obtain ⟨l2, q2⟩ := List.getElem?_eq_some_iff.mp hx
      refine Nat.lt_of_not_le fun c => ?_
      rcases Nat.lt_or_eq_of_le c with c | c
      · have := List.pairwise_iff_getElem.mp ups i j l2 l1 c
        rw [q1, q2] at this
        omega
      · subst c
        rw [q1] at q2
        omega
    have hrow : (rowsE E l)[j]? = some (l.filter (E y)) := by
      unfold rowsE
      rw [List.getElem?_map, hj]
      rfl
    obtain ⟨y', t2, hy', e2, _⟩ := row_at h up hrow
    rw [hj] at hy'
    cases hy'
    have ke : keepE (l.filter (E y)) = true := by
      rw [e2]
      refine keepE_iff.mpr fun w hw => Nat.le_of_not_lt fun c => ?_
      rw [← e2] at hw
      obtain ⟨wl, we⟩ := List.mem_filter.mp hw
      -- w hangs with the contrary of z
      have e3 : E (flp w) (flp (flp z)) = true := fe _ _ (h.trans _ _ _ (h.symm _ _ we) ye)
      rw [flp_flp] at e3
      have := fstE_least h up xm (fl w wl) (h.trans _ _ _ ze (h.symm _ _ e3))
      omega
    refine ⟨_, List.mem_filter.mpr ⟨List.mem_iff_getElem?.mpr ⟨j, by rw [List.getElem?_take, if_pos jlt]; exact hrow⟩, ke⟩, flp x, List.mem_filter.mpr ⟨fl x xl, ?_⟩, (flp_flp x).symm⟩
    exact h.trans _ _ _ ye (fe _ _ (h.symm _ _ ze))
/-- the directed edges of blocks -/
def dirs (S : Spc) : List Nat := ptsL (List.range (4 * S.length))
noncomputable def wayE (S : Spc) : List (List Nat) := rowsE (hangB (fun x y => y ∈ lkQ S x)) (dirs S)
noncomputable def edgE (S : Spc) : List (List Nat) := (wayE S).filter keepE
theorem dirs_up (S : Spc) : (dirs S).Pairwise (· < ·) := ptsL_up List.pairwise_lt_range
theorem dirs_mem {S : Spc} {x : Nat} : x ∈ dirs S ↔ x < 16 * S.length ∧ x / 4 % 4 ≠ x % 4 := by
  unfold dirs
  rw [ptsL_mem]
  constructor
  · rintro ⟨n, hn, e, he, ne, rfl⟩
    have := List.mem_range.mp hn
    rw [show (4 * n + e) / 4 = n by omega, show (4 * n + e) % 4 = e by omega]
    exact ⟨by omega, fun z => ne z.symm⟩
  · rintro ⟨h1, h2⟩
    exact ⟨x / 4, List.mem_range.mpr (by omega), x % 4, Nat.mod_lt _ (by decide), by omega, by omega⟩
theorem dirs_flp {S : Spc} : ∀ x ∈ dirs S, flp x ∈ dirs S := fun x hx => by
  obtain ⟨h1, h2⟩ := dirs_mem.mp hx
  obtain ⟨b, c, e, hc, he, rfl⟩ := split16 x
  rw [show (16 * b + 4 * c + e) / 4 % 4 = c by omega, show (16 * b + 4 * c + e) % 4 = e by omega] at h2
  refine dirs_mem.mpr ?_
  rw [flp_at b c e hc he, show (16 * b + 4 * e + c) / 4 % 4 = e by omega, show (16 * b + 4 * e + c) % 4 = c by omega]
  exact ⟨by omega, fun z => h2 z.symm⟩
theorem wayE_gone {S : Spc} (hG : Good S) {i x : Nat} {t : List Nat} (hi : (wayE S)[i]? = some (x :: t)) : (∃ r ∈ ((wayE S).take i).filter keepE, ∃ z ∈ r, x = flp z) ↔ keepE (x :: t) = false :=
  gone_iff (hangB_eqv (r := fun x y => y ∈ lkQ S x) (fun _ _ z => lkQ_symm hG z)) (dirs_up S) dirs_flp (fun _ _ z => hangQ_flp hG z) hi
end Bk

/-! The edges of a space. -/
namespace Bk
open PySem PySem.Spec PyProof.Rows L2 RZ
theorem ptsL_len3 : ∀ l : List Nat, (ptsL l).length ≤ 3 * l.length
  | [] => Nat.le_refl _
  | n :: l => by
    have ih := ptsL_len3 l
    have h : (ptsN n 4).length ≤ 3 := by
      unfold ptsN
      rw [List.length_map]
      have : ∀ r < 4, ((List.range 4).filter fun e => decide (e ≠ r)).length ≤ 3 := by decide +kernel
      exact this (n % 4) (Nat.mod_lt _ (by decide))
    show ((ptsN n 4) ++ ptsL l).length ≤ 3 * (l.length + 1)
    rw [List.length_append]
    omega
theorem dirs_len (S : Spc) : (dirs S).length ≤ 12 * S.length := by
  have := ptsL_len3 (List.range (4 * S.length))
  rw [List.length_range] at this
  unfold dirs
  omega
theorem dec_flp (z : Nat) : moQ.dec (flp z) = [((z / 16 : Nat) : Int), ((z % 4 : Nat) : Int), ((z / 4 % 4 : Nat) : Int)] := by
  obtain ⟨b, c, e, hc, he, rfl⟩ := split16 z
  rw [flp_at b c e hc he]
  show [(((16 * b + 4 * e + c) / 16 : Nat) : Int), (((16 * b + 4 * e + c) / 4 % 4 : Nat) : Int), (((16 * b + 4 * e + c) % 4 : Nat) : Int)] = _
  rw [show (16 * b + 4 * e + c) / 16 = b by omega, show (16 * b + 4 * e + c) / 4 % 4 = e by omega, show (16 * b + 4 * e + c) % 4 = c by omega, show (16 * b + 4 * c + e) / 16 = b by omega, show (16 * b + 4 * c + e) % 4 = e by omega, show (16 * b + 4 * c + e) / 4 % 4 = c by omega]
theorem pmem {α β : Type} {F : α → β → Prop} {xs : List α} {ys : List β} {x : α} (h : Paired F xs ys) (hx : x ∈ xs) : ∃ y, y ∈ ys ∧ F x y := by
  obtain ⟨i, hi⟩ := List.mem_iff_getElem?.mp hx
  obtain ⟨y, hy, f⟩ := pget' h hi
  exact ⟨y, List.mem_of_getElem? hy, f⟩
section
variable {P : Program} {w : World} {K : PySem.W.Frag} {mg : Str → Option Value} {base : Heap}
abbrev sedges_of : Stmt := topS 28
abbrev Nedges_of : List Str := ["space", "whole", "rows", "told", "gone", "row", "block", "start", "end"]
theorem scedges_of : FnScope Nedges_of ["space"] (defScope sedges_of) := ⟨rfl, rfl, rfl, by decide +kernel, rfl, by decide +kernel, by decide +kernel⟩
def spEdgesOf : Sp := fun vs H Q _ => ∃ (N : Addr → Prop) (v : V) (d : PyData) (S : Spc), vs = [v] ∧ Dq N H v d ∧ norm d = nS S ∧ Good S ∧ 1 ≤ S.length ∧ S.length ≤ 24 ∧ ∀ H' l, Same H H' → RowsAt moQ H H' l (edgE S) → Q (.ref l) H'
theorem okedges_of {f fS fR fM : Addr} {fd fdS fdR fdM : FuncData} (F : Fun K "edges_of" "edges_of" sedges_of f fd) (Fspace_of : Fun K "space_of" "space_of" sspace_of fS fdS) (gspace_of : mg "space_of" = some (.ref fS)) (bspace_of : Binds K fdS ["blocks"] []) (Gspace_of : FnOk P w K mg base CX0 6 fS fdS ["blocks"] spSpace)
    (Frows_of : Fun K "rows_of" "rows_of" srows_of fR fdR) (grows_of : mg "rows_of" = some (.ref fR)) (brows_of : Binds K fdR ["links"] []) (Grows_of : FnOk P w K mg base CX0 2 fR fdR ["links"] (spRowsOf moQ 1000))
    (Fmet_at : Fun K "met_at" "met_at" smet_at fM fdM) (gmet_at : mg "met_at" = some (.ref fM)) (bmet_at : Binds K fdM ["space", "block", "spots"] []) (Gmet_at : FnOk P w K mg base CX0 1 fM fdM ["space", "block", "spots"] spMetAt2) (m_range : mg "range" = none) (m_len : mg "len" = none) (m_set : mg "set" = none) : FnOk P w K mg base CX0 7 f fd ["space"] spEdgesOf := by
  refine F.ok scedges_of (fun vs H Q E h => ?_) (fun cdv A outer s H vs Q E hr h => ?_)
  · obtain ⟨N, v, d, S, rfl, _⟩ := h
    rfl
  · obtain ⟨N, v, d, S, rfl, hd, hn, hG, h1, h2, q⟩ := h
    have nd := scedges_of.nd
    refine ⟨_, (pss_cons (ps_set (i := 1) nd rfl (.inr rfl) (pe_call Gspace_of (hr.mono (by first | decide | omega)) (by rfl) gspace_of Fspace_of.kp bspace_of .nil pass0 (pa_cons (pv 0) pa_nil)))
      (pss_cons (ps_set (i := 2) nd rfl (.inl rfl) (pe_call Grows_of (hr.mono (by first | decide | omega)) (by rfl) grows_of Frows_of.kp brows_of .nil pass0 (pa_cons (pe_dcN (own := [("block", 6), ("start", 7), ("end", 8)]) (c := ⟨[], _, _, _, _, _, _⟩) (cs := [⟨[7, 8], _, _, _, _, _, _⟩, ⟨[8], _, _, _, _, _, _⟩]) rfl (Nat.lt_of_succ_lt (hu_of hr)) nd (pi_range1 (by rfl) m_range (pa_cons (pe_callB (kLen K rfl) (by rfl) m_len (by decide +kernel) (pa_cons (pv 1) pa_nil)) pa_nil)) (blkOk_by (own := [("block", 6), ("start", 7), ("end", 8)]) (N := Nedges_of) (sc := defScope sedges_of) (by decide +kernel)) (by simp [headVs]) (by simp [Nested, headVs]) (fun _ _ _ _ _ => ⟨(pg_name (i := 6) nd rfl (Or.inl rfl)), pts_nil, (oks_cons (pi_range1 (by rfl) m_range (pa_cons pe_int pa_nil)) (pg_name (i := 7) nd rfl (Or.inl rfl)) pts_nil (oks_cons (pi_range1 (by rfl) m_range (pa_cons pe_int pa_nil)) (pg_name (i := 8) nd rfl (Or.inl rfl)) (pts_one (pt_cmpR op_ne (pv 7) (pv 8) (nomark _))) oks_nil)), (pe_tup (pa_cons (pv 6) (pa_cons (pv 7) (pa_cons (pv 8) pa_nil)))), (pe_call Gmet_at (hr.mono (by first | decide | omega)) (by rfl) gmet_at Fmet_at.kp bmet_at .nil pass0 (pa_cons (pv 1) (pa_cons (pv 6) (pa_cons (pe_tupF (pa_cons (pv 7) (pa_cons (pv 8) pa_nil))) pa_nil))))⟩) (by intro _; rfl) (fold_cons (by intro _ _; rfl) (fold_cons (by intro _ _; rfl) fold_nil))) pa_nil)))
      (pss_cons (ps_set (i := 3) nd rfl (.inl rfl) (pe_lst pa_nil))
      (pss_cons (ps_set (i := 4) nd rfl (.inl rfl) (pe_callTy0 (kSet0B (P := P) (w := w) rfl rfl) (by rfl) m_set (by decide +kernel)))
      (pss_cons (ps_for PassesOwn.never rfl (kPiL K rfl (pi_list (pv 2))) (pg_name (i := 5) nd rfl (.inl rfl)) (pss_one (ps_if (pt_cmpR (kSNotInB K (P := P) (w := w) rfl rfl rfl hr.units) (pe_ix (kIxL K rfl) (pv 5) pe_int (fun _ _ => rfl)) (pv 4) (by rfl)) (pss_cons (ps_expr (kBM K rfl (pe_bm PySem.F.plainAttrs_list PySem.F.slot_list_append PySem.F.type_list_append mt_append (pv 3) (pa_cons (pv 5) pa_nil))))
      (pss_one (ps_for PassesOwn.never rfl (kPiL K rfl (pi_list (pv 5))) (kPgT K rfl (pg_tup (n := 3) rfl (pgs_cons (pg_name (i := 6) nd rfl (.inl rfl)) (pgs_cons (pg_name (i := 7) nd rfl (.inl rfl)) (pgs_cons (pg_name (i := 8) nd rfl (.inl rfl)) pgs_nil))))) (pss_one (ps_expr (pe_saddKB K (P := P) (w := w) rfl rfl rfl hr.units (pv 4) (pa_cons (pe_tupF (pa_cons (pv 6) (pa_cons (pv 8) (pa_cons (pv 7) pa_nil)))) pa_nil))))))) pss_nil)))
      (pss_one (ps_ret (pv 3)))))))), ?_⟩
    refine ⟨v, rfl, N, v, d, S, rfl, hd, hn, hG, h1, by omega, fun H1 u s1 st1 => ?_⟩
    obtain ⟨p, rs, rfl, fp, hb⟩ := id st1
    have lrs := plen hb
    refine ⟨.ref p, rfl, p, rs, rfl, .inr fp.sqt, (rs.length : Int), rfl, by omega, by omega, _, .inr rfl, fun D nD => ?_⟩
    let Inv' : List Nat → Hp → Prop := fun ks H2 => ∃ kvs : List (Nat × V), H2 D = some (moQ.obj kvs) ∧ kvs.map (·.1) = ks ∧ (∀ q ∈ kvs, ∃ a vs, q.2 = .ref a ∧ H2 a = some (.lst vs) ∧ Paired (moQ.at H2) vs (lkQ S q.1)) ∧ Same H1 H2
    have e4 : ∀ n, ptsL (List.range (n + 1)) = ptsL (List.range n) ++ ptsN n 4 := fun n => by
      rw [List.range_succ]
      unfold ptsL
      rw [List.flatMap_append, List.flatMap_singleton]
      rfl
    refine walk_range (lo := 0) (n := ((rs.length : Int)).toNat) (fun i H2 => Inv' (ptsL (List.range (4 * i))) H2) ⟨[], upd_same, rfl, fun _ hq => absurd hq List.not_mem_nil, same_new nD⟩ ?_ ?_
    · rintro b H2 hb2 hI
      rw [Int.zero_add]
      have hbr : b < S.length := by omega
      refine ⟨rfl, 4, rfl, by decide, by decide, ?_⟩
      refine walk_range (lo := 0) (n := 4) (fun i H3 => Inv' (ptsL (List.range (4 * b + i))) H3) hI ?_ ?_
      · rintro c H3 hc hI3
        rw [Int.zero_add]
        refine ⟨rfl, 4, rfl, by decide, by decide, ?_⟩
        obtain ⟨n, hn4⟩ : ∃ n, n = 4 * b + c := ⟨_, rfl⟩
        rw [← hn4] at hI3
        have nb4 : n / 4 = b := by omega
        have nc4 : n % 4 = c := by omega
        refine walk_range (lo := 0) (n := 4) (fun e H4 => Inv' (ptsL (List.range n) ++ ptsN n e) H4) (by show Inv' (ptsL (List.range n) ++ []) _; rw [List.append_nil]; exact hI3) ?_ ?_
        · rintro e H4 he hI4
          rw [Int.zero_add]
          obtain ⟨kvs, h3, k3, l3, s3⟩ := id hI4
          refine ⟨rfl, intV c, rfl, intV e, rfl, rfl, _, rfl, ite2 (fun z => ?_) (fun z => ?_)⟩
          · have ne : e ≠ n % 4 := fun y => by
              have w : intV c = intV e := by rw [y, nc4]
              rw [decide_eq_true w] at z
              cases z
            refine ⟨intV b, rfl, intV c, rfl, intV e, rfl, Nat.le_of_lt (small1000 (by show 3 ≤ 1000; decide)), fun kp nkp => ?_⟩
            have s4 : Same H4 (upd H4 kp (.tup [intV b, intV c, intV e])) := same_new nkp
            have h4 : (upd H4 kp (.tup [intV b, intV c, intV e])) kp = some (.tup [intV b, intV c, intV e]) := upd_same
            generalize upd H4 kp (.tup [intV b, intV c, intV e]) = H5 at s4 h4 ⊢
            refine ⟨.ref p, rfl, intV b, rfl, intV c, rfl, intV e, rfl, Nat.le_of_lt (small1000 (by show 2 ≤ 1000; decide)), fun sp o nsp dsp => ?_⟩
            have s5 : Same H5 (upd H5 sp (.frz o (.tup [intV c, intV e]))) := same_new nsp
            have f5 : FT (upd H5 sp (.frz o (.tup [intV c, intV e]))) sp [intV c, intV e] := FT.new dsp
            generalize upd H5 sp (.frz o (.tup [intV c, intV e])) = H6 at s5 f5 ⊢
            refine ⟨.ref p, sp, S, b, c, e, rfl, st1.mono ((s3.trans s4).trans s5).tups, f5, hG, hbr, hc, he, fun H7 l vs s6 nl hl pl => ?_⟩
            have s36 := (s4.trans s5).trans s6
            have h6 := s36 _ _ h3
            have hv : moQ.at H7 (.ref kp) (4 * n + e) := ⟨kp, rfl, by
              rw [s6 _ _ (s5 _ _ h4)]
              show some (HO.tup [intV b, intV c, intV e]) = some (HO.tup [.int (((4 * n + e) / 16 : Nat) : Int), .int (((4 * n + e) / 4 % 4 : Nat) : Int), .int (((4 * n + e) % 4 : Nat) : Int)])
              rw [show (4 * n + e) / 16 = b by omega, show (4 * n + e) / 4 % 4 = c by omega, show (4 * n + e) % 4 = e by omega]
              rfl⟩
            have kM : ∀ x ∈ kvs.map (·.1), x < 4 * n + e := fun x hx => by
              rw [k3] at hx
              rcases List.mem_append.mp hx with y | y
              · obtain ⟨m, hm, e', h1, _, rfl⟩ := ptsL_mem.mp y
                have := List.mem_range.mp hm
                omega
              · obtain ⟨e', h1, rfl⟩ := ptsN_mem y
                omega
            have kN : ∀ q ∈ kvs, q.1 < 1000 := fun q hq => by
              have := kM _ (List.mem_map_of_mem hq)
              omega
            have lk : kvs.length ≤ 400 := by
              have h := congrArg List.length k3
              rw [List.length_map, List.length_append] at h
              have h1 := ptsL_len (List.range n)
              rw [List.length_range] at h1
              have h2 : (ptsN n e).length ≤ 4 := by
                unfold ptsN
                rw [List.length_map]
                exact Nat.le_trans (List.length_filter_le _ _) (by rw [List.length_range]; exact Nat.le_of_lt he)
              omega
            have nb : valV kvs (4 * n + e) = none := by
              cases y : valV kvs (4 * n + e) with
              | none => rfl
              | some w => exact absurd (kM _ (valV_in y)) (Nat.lt_irrefl _)
            have put := Mo.put (M := moQ) (N := 1000) (x := .ref l) (moQ_inj 1000) h6 hv kN (by omega) (small1000 (by omega))
            rw [putK_new _ nb] at put
            have kt := tupK_dic (M := moQ) (o := moQ.obj (kvs ++ [(4 * n + e, .ref l)])) h6
            have keep : ∀ (a : Addr) ys, H7 a = some (.lst ys) → (upd H7 D (moQ.obj (kvs ++ [(4 * n + e, .ref l)]))) a = some (.lst ys) := fun a ys z => by
              rw [upd_ne (ne_of z h6 fun y => moQ.obj_lst _ _ y.symm)]
              exact z
            refine ⟨_, put, kvs ++ [(4 * n + e, .ref l)], upd_same, ?_, ?_, same_fill (s3.trans s36) nD⟩
            · rw [List.map_append, k3, ptsN_succ, if_pos ne, List.append_assoc]
              rfl
            · intro q hq
              rcases List.mem_append.mp hq with hq | hq
              · obtain ⟨a, vs, e1, e2, e3⟩ := l3 q hq
                exact ⟨a, vs, e1, keep a vs (s36 _ _ e2), pmono e3 fun _ _ z => z.mono (s36.tupK.trans kt)⟩
              · obtain rfl := List.mem_singleton.mp hq
                refine ⟨l, vs, rfl, keep l vs hl, ?_⟩
                show Paired _ vs (mtQ S ((4 * n + e) / 16) ((4 * n + e) / 4 % 4) ((4 * n + e) % 4) 4)
                rw [show (4 * n + e) / 16 = b by omega, show (4 * n + e) / 4 % 4 = c by omega, show (4 * n + e) % 4 = e by omega]
                exact pmono pl fun _ _ z => z.mono kt
          · have ee : e = n % 4 := by
              by_cases y : e = n % 4
              · exact y
              · have w : ¬ intV c = intV e := fun w => y (by unfold intV at w; injection w with w; omega)
                rw [decide_eq_false w] at z
                exact absurd rfl z
            show Inv' (ptsL (List.range n) ++ ptsN n (e + 1)) H4
            rw [ptsN_succ, if_neg (fun y => y ee), List.append_nil]
            exact hI4
        · rintro H4 hI4
          show Inv' (ptsL (List.range (4 * b + c + 1))) H4
          rw [← hn4, e4]
          exact hI4
      · rintro H3 hI3
        exact hI3
    · rintro H2 ⟨kvs, h2', k2, l2, s2⟩
      rw [Int.toNat_natCast, lrs] at k2
      have pu := ptsL_up (List.pairwise_lt_range (n := 4 * S.length))
      have pl := ptsL_len (List.range (4 * S.length))
      rw [List.length_range] at pl
      have hcl : ∀ n ∈ List.range (4 * S.length), ∀ m ∈ lkC S n, m ∈ List.range (4 * S.length) := fun n _ m hm => List.mem_range.mpr (lkC_lt hG hm)
      refine ⟨D, ptsL (List.range (4 * S.length)), lkQ S, rfl, ⟨kvs, h2', k2, l2⟩, pu.imp fun z => Nat.ne_of_lt z, pu.imp fun z => Nat.le_of_lt z, fun x hx => ?_, (show _ < 1000 by omega), by omega, fun x hx m hm => lkQ_in hG hcl hx hm, fun x m hm => lkQ_symm hG hm, fun H3 l3 s3 hr => ?_⟩
      · obtain ⟨n, hn, e, he, _, rfl⟩ := ptsL_mem.mp hx
        have := List.mem_range.mp hn
        omega
      obtain ⟨ps, hps, nl3, lps, pnd, pp⟩ := hr
      have lpp : ps.length = (wayE S).length := plen pp
      have s13 := s2.trans s3
      refine ⟨Nat.zero_le _, fun T nT => ?_⟩
      have s4 : Same H3 (upd H3 T (.lst [])) := same_new nT
      have hT4 : (upd H3 T (.lst [])) T = some (.lst (([] : List Addr).map V.ref)) := upd_same
      show tSeq _ _ _ _ (upd H3 T (.lst []))
      generalize upd H3 T (.lst []) = H4 at s4 hT4 ⊢
      refine ⟨rfl, fun G nG => ?_⟩
      have s5 : Same H4 (upd H4 G (SetBo P w G [])) := same_new nG
      have hG5 : (upd H4 G (SetBo P w G [])) G = some (SetBo P w G []) := upd_same
      have hT5 := s5 _ _ hT4
      show tSeq _ _ _ _ (upd H4 G (SetBo P w G []))
      generalize upd H4 G (SetBo P w G []) = H5 at s5 hG5 hT5 ⊢
      refine ⟨.ref l3, rfl, l3, rfl, ⟨_, .inl (.inl ((s4.trans s5) _ _ hps))⟩, ?_⟩
      have s35 := s4.trans s5
      have nG3 : H3 G = none := s4.free nG
      have TG : T ≠ G := ne_of_none hT4 nG
      have tot : (wayE S).flatten.length ≤ 288 := by
        obtain ⟨a1, a2, _⟩ := rowsE_flat (hangB_eqv (r := fun x y => y ∈ lkQ S x) (fun _ _ z => lkQ_symm hG z)) ((dirs_up S).imp fun z => Nat.ne_of_lt z)
        have := nodup_len a1 ((dirs_up S).imp fun z => Nat.ne_of_lt z) (fun x hx => (a2 x).mp hx)
        have : (dirs S).length ≤ 288 := Nat.le_trans (dirs_len S) (by omega)
        show (rowsE _ _).flatten.length ≤ 288
        omega
      let Row : Addr → List Nat → Prop := fun p row => H2 p = none ∧ ∃ vs, H3 p = some (.lst vs) ∧ Paired (moQ.at H3) vs row
      let Got : List (List Nat) → Nat → Prop := fun rows n => ∃ r ∈ rows, ∃ z ∈ r, n = flp z
      refine for_list (xs := ps.map V.ref) (fun j σ H6 => ∃ y5 y6 y7 y8 ts L, σ = [some v, some (.ref p), some (.ref l3), some (.ref T), some (.ref G), y5, y6, y7, y8] ∧ H6 T = some (.lst (ts.map V.ref)) ∧ H6 G = some (SetBo P w G L) ∧ Same H3 H6 ∧
          ts.Sublist (ps.take j) ∧ Paired Row ts (((wayE S).take j).filter keepE) ∧ (∀ q ∈ L, FT H6 q.1 (q.2.map V.int)) ∧ L.length ≤ ((wayE S).take j).flatten.length ∧ ∀ n, n < 1000 → (moQ.dec n ∈ L.map (·.2) ↔ Got (((wayE S).take j).filter keepE) n))
        ⟨_, _, _, _, [], [], rfl, hT5, hG5, s35, List.Sublist.refl _, .nil, fun _ z => absurd z List.not_mem_nil, Nat.le_refl _, fun n _ => ⟨fun z => absurd z List.not_mem_nil, fun ⟨_, z, _⟩ => absurd z List.not_mem_nil⟩⟩ ?_ ?_ ?_
      · rintro j σ H6 _ ⟨_, _, _, _, _, _, _, _, _, s36, _⟩
        exact .inl (.inl (s36 _ _ hps))
      · rintro j x σ H6 hx ⟨y5, y6, y7, y8, ts, L, rfl, hT, hL, s36, sub, pt, tup, len, iff⟩
        rw [List.getElem?_map] at hx
        obtain ⟨a, ha, rfl⟩ := Option.map_eq_some_iff.mp hx
        obtain ⟨row, hrow, na, vs, hv3, pv3⟩ := pget' pp ha
        obtain ⟨x0, t0, _, e0, _⟩ := row_at (hangB_eqv (r := fun x y => y ∈ lkQ S x) (fun _ _ z => lkQ_symm hG z)) (dirs_up S) hrow
        subst e0
        have hv := s36 _ _ hv3
        have pv := pmono pv3 fun _ _ z => z.mono s36.tupK
        have dl : ∀ z ∈ dirs S, z < 1000 := fun z hz => by
          have := (dirs_mem.mp hz).1
          omega
        have rd : ∀ z ∈ x0 :: t0, z ∈ dirs S := fun z hz => ((rowsE_flat (hangB_eqv (r := fun x y => y ∈ lkQ S x) (fun _ _ z => lkQ_symm hG z)) ((dirs_up S).imp fun z => Nat.ne_of_lt z)).2.1 z).mp (List.mem_flatten.mpr ⟨_, List.mem_of_getElem? hrow, hz⟩)
        have lt : ∀ z ∈ x0 :: t0, z < 1000 := fun z hz => dl z (rd z hz)
        have tk : (wayE S).take (j + 1) = (wayE S).take j ++ [x0 :: t0] := by
          rw [List.take_add_one, show (wayE S)[j]? = some (x0 :: t0) from hrow]
          rfl
        cases pv with
        | cons p0 pr0 =>
        rename_i v0 vs0
        obtain ⟨b0, rfl, hb0⟩ := id p0
        have gi := wayE_gone hG hrow
        have fi := (iff x0 (lt _ List.mem_cons_self)).trans gi
        refine ⟨.ref a, rfl, a, _, 0, .ref b0, rfl, rfl, .inl (.inl hv), atI_nat (j := 0) rfl, .ref G, rfl, G, b0, moQ.dec x0, L, rfl, rfl, hL, .inl (.inl hb0), fun q hq => (tup q hq).sqt, ?_⟩
        refine ⟨_, rfl, ?_⟩
        cases hk : keepE (x0 :: t0) with
        | false =>
          rw [decide_eq_true (fi.mpr hk)]
          refine iteF ?_
          have fl : ((wayE S).take (j + 1)).filter keepE = ((wayE S).take j).filter keepE := by
            rw [tk, List.filter_append, List.filter_cons_of_neg (by simp [hk])]
            simp
          refine ⟨_, _, _, _, ts, L, rfl, hT, hL, s36, ?_, by rw [fl]; exact pt, tup, ?_, by rw [fl]; exact iff⟩
          · exact sub.trans (List.take_sublist_take_left (Nat.le_succ j))
          · rw [tk, List.flatten_append, List.length_append]
            omega
        | true =>
          rw [decide_eq_false (fun z => by have := fi.mp z; rw [hk] at this; cases this)]
          refine iteT ?_
          refine ⟨.ref T, rfl, .inl ⟨rfl, _, .inl (.inl hT)⟩, .ref a, rfl, T, _, .ref a, rfl, rfl, hT, small1000 ?_, ?_⟩
          · have := sub.length_le
            rw [List.length_take] at this
            have l1 : (wayE S).length ≤ 300 := by
              have := (rowsE_flat (hangB_eqv (r := fun x y => y ∈ lkQ S x) (fun _ _ z => lkQ_symm hG z)) ((dirs_up S).imp fun z => Nat.ne_of_lt z)).2.2
              have l2 : (dirs S).length ≤ 288 := Nat.le_trans (dirs_len S) (by omega)
              show (rowsE _ _).length ≤ 300
              omega
            rw [List.length_map]
            omega
          have aT : a ≠ T := ne_of_none hv3 nT
          have hT7 : (upd H6 T (.lst (ts.map V.ref ++ [.ref a]))) T = some (.lst ((ts ++ [a]).map V.ref)) := by
            rw [upd_same, List.map_append]
            rfl
          have hL7 : (upd H6 T (.lst (ts.map V.ref ++ [.ref a]))) G = some (SetBo P w G L) := by
            rw [upd_ne TG.symm]
            exact hL
          have s37 : Same H3 (upd H6 T (.lst (ts.map V.ref ++ [.ref a]))) := same_fill s36 nT
          have tup7 : ∀ q ∈ L, FT (upd H6 T (.lst (ts.map V.ref ++ [.ref a]))) q.1 (q.2.map V.int) := fun q hq => by
            obtain ⟨o, d, z⟩ := tup q hq
            exact ⟨o, d, by rw [upd_ne (ne_of z hT fun y => by cases y)]; exact z⟩
          generalize upd H6 T (.lst (ts.map V.ref ++ [.ref a])) = H7 at hT7 hL7 s37 tup7 ⊢
          have hv7 := s37 _ _ hv3
          refine ⟨.ref a, rfl, a, rfl, ⟨_, .inl (.inl hv7)⟩, ?_⟩
          have fl : ((wayE S).take (j + 1)).filter keepE = ((wayE S).take j).filter keepE ++ [x0 :: t0] := by
            rw [tk, List.filter_append, List.filter_cons_of_pos hk]
            rfl
          refine for_list (xs := .ref b0 :: vs0) (fun m σ H8 => ∃ y6 y7 y8 L8, σ = [some v, some (.ref p), some (.ref l3), some (.ref T), some (.ref G), some (.ref a), y6, y7, y8] ∧ H8 T = some (.lst ((ts ++ [a]).map V.ref)) ∧ H8 G = some (SetBo P w G L8) ∧ Same H3 H8 ∧
              (∀ q ∈ L8, FT H8 q.1 (q.2.map V.int)) ∧ L8.length ≤ L.length + m ∧ ∀ n, n < 1000 → (moQ.dec n ∈ L8.map (·.2) ↔ Got (((wayE S).take j).filter keepE) n ∨ ∃ z ∈ (x0 :: t0).take m, n = flp z))
            ⟨_, _, _, L, rfl, hT7, hL7, s37, tup7, Nat.le_refl _, fun n hn => (iff n hn).trans ⟨.inl, fun z => z.elim id fun ⟨_, z, _⟩ => absurd z List.not_mem_nil⟩⟩ ?_ ?_ ?_
          · rintro m σ H8 _ ⟨_, _, _, _, _, _, _, s38, _⟩
            exact .inl (.inl (s38 _ _ hv3))
          · rintro m x σ H8 hx ⟨y6, y7, y8, L8, rfl, hT8, hL8, s38, tup8, len8, iff8⟩
            obtain ⟨z, hz, kp, rfl, hkp⟩ := pget' pv3 hx
            have hk8 := s38 _ _ hkp
            have zlt := lt z (List.mem_of_getElem? hz)
            refine ⟨kp, _, rfl, .inl (.inl hk8), rfl, _, _, rfl, _, _, rfl, _, [], rfl, rfl, ?_⟩
            refine ⟨.ref G, rfl, ⟨G, L8, rfl, hL8⟩, _, rfl, _, rfl, _, rfl, Nat.le_of_lt (small1000 (by show 3 ≤ 1000; decide)), fun t o nt dt => ?_⟩
            have hf := dl _ (dirs_flp z (rd z (List.mem_of_getElem? hz)))
            have ft : FT (upd H8 t (.frz o (.tup ((moQ.dec (flp z)).map V.int)))) t ((moQ.dec (flp z)).map V.int) := FT.new dt
            have s9 : Same H8 (upd H8 t (.frz o (.tup ((moQ.dec (flp z)).map V.int)))) := same_new nt
            rw [show (HO.tup [V.int ((z / 16 : Nat) : Int), V.int ((z % 4 : Nat) : Int), V.int ((z / 4 % 4 : Nat) : Int)]) = HO.tup ((moQ.dec (flp z)).map V.int) by rw [dec_flp]; rfl]
            generalize upd H8 t (.frz o (.tup ((moQ.dec (flp z)).map V.int))) = H9 at s9 ft ⊢
            have hL9 := s9 _ _ hL8
            have hT9 := s9 _ _ hT8
            have lm : m < (x0 :: t0).length := by
              have := (List.getElem?_eq_some_iff.mp hz).1
              exact this
            have lrow : (x0 :: t0).length + ((wayE S).take j).flatten.length ≤ 288 := by
              have e := congrArg (fun l => (List.flatten l).length) (List.take_append_drop (j + 1) (wayE S))
              rw [tk] at e
              simp only [List.flatten_append, List.length_append, List.flatten_cons, List.flatten_nil, List.append_nil] at e
              omega
            refine ⟨G, t, moQ.dec (flp z), L8, rfl, rfl, hL9, ft.sqt, fun q hq => ((tup8 q hq).mono s9.tups).sqt, by omega, fun L' e1 e2 => ?_⟩
            have hT10 : (upd H9 G (SetBo P w G L')) T = some (.lst ((ts ++ [a]).map V.ref)) := by
              rw [upd_ne TG]
              exact hT9
            have kp10 : ∀ {p xs}, FT H9 p xs → FT (upd H9 G (SetBo P w G L')) p xs := fun {p xs} ⟨o, d, y⟩ => ⟨o, d, by rw [upd_ne (ne_of y hL9 fun y => by unfold SetBo at y; cases y)]; exact y⟩
            have mem : ∀ n, n < 1000 → (moQ.dec n ∈ L'.map (·.2) ↔ moQ.dec n ∈ L8.map (·.2) ∨ n = flp z) := fun n hn => by
              by_cases c : moQ.dec (flp z) ∈ L8.map (·.2)
              · rw [e1 c]
                exact ⟨.inl, fun y => y.elim id fun y => by rw [y]; exact c⟩
              · rw [((e2 c).map (·.2)).mem_iff, List.map_cons, List.mem_cons]
                exact ⟨fun y => y.elim (fun y => .inr (moQ_inj 1000 n (flp z) hn hf y)) .inl, fun y => y.elim .inr fun y => .inl (by rw [y])⟩
            refine ⟨_, _, _, L', rfl, hT10, upd_same, same_fill (s38.trans s9) nG3, fun q hq => ?_, ?_, fun n hn => ?_⟩
            · by_cases c : moQ.dec (flp z) ∈ L8.map (·.2)
              · rw [e1 c] at hq
                exact kp10 ((tup8 q hq).mono s9.tups)
              · rcases List.mem_cons.mp ((e2 c).mem_iff.mp hq) with rfl | hq
                · exact kp10 ft
                · exact kp10 ((tup8 q hq).mono s9.tups)
            · by_cases c : moQ.dec (flp z) ∈ L8.map (·.2)
              · rw [e1 c]
                omega
              · have := (e2 c).length_eq
                rw [List.length_cons] at this
                omega
            · rw [mem n hn, iff8 n hn, List.take_add_one, hz]
              simp only [Option.toList_some, List.mem_append, List.mem_singleton]
              constructor
              · rintro ((y | ⟨z', h, e⟩) | rfl)
                · exact .inl y
                · exact .inr ⟨z', .inl h, e⟩
                · exact .inr ⟨z, .inr rfl, rfl⟩
              · rintro (y | ⟨z', h | rfl, e⟩)
                · exact .inl (.inl y)
                · exact .inl (.inr ⟨z', h, e⟩)
                · exact .inr e
          · rintro σ H8 ⟨y6, y7, y8, L8, rfl, hT8, hL8, s38, tup8, len8, iff8⟩
            have lv : (V.ref b0 :: vs0).length = (x0 :: t0).length := plen pv3
            rw [lv] at len8
            rw [lv, List.take_length] at iff8
            refine ⟨_, _, _, _, ts ++ [a], L8, rfl, hT8, hL8, s38, ?_, ?_, tup8, ?_, fun n hn => ?_⟩
            · rw [List.take_add_one, ha]
              exact sub.append (List.Sublist.refl _)
            · rw [fl]
              exact papp pt (.cons ⟨na, _, hv3, pv3⟩ .nil)
            · rw [tk, List.flatten_append, List.length_append]
              show _ ≤ _ + ((x0 :: t0) ++ []).length
              rw [List.append_nil]
              omega
            · rw [fl, iff8 n hn]
              constructor
              · rintro (⟨r, h, y⟩ | y)
                · exact ⟨r, List.mem_append_left _ h, y⟩
                · exact ⟨_, List.mem_append_right _ List.mem_cons_self, y⟩
              · rintro ⟨r, h, y⟩
                rcases List.mem_append.mp h with h | h
                · exact .inl ⟨r, h, y⟩
                · rw [List.mem_singleton.mp h] at y
                  exact .inr y
      · rintro σ H6 ⟨y5, y6, y7, y8, ts, L, rfl, hT, hL, s36, sub, pt, _⟩
        rw [List.length_map] at sub pt
        rw [List.take_length] at sub
        rw [lpp, List.take_length] at pt
        have s06 := (s1.trans s13).trans s36
        have ns := s1.trans s2
        refine ⟨.ref T, rfl, q H6 T s06 ⟨ts, hT, (s1.trans s13).free nT, fun z => ?_, sub.nodup pnd, pmonoM pt fun p hp row z => ?_⟩⟩
        · obtain ⟨row, _, _, vs, e, _⟩ := pmem pt z
          rw [nT] at e
          cases e
        · obtain ⟨n, vs, e, pv⟩ := z
          exact ⟨ns.free n, vs, s36 _ _ e, pmono pv fun _ _ y => y.mono s36.tupK⟩
end
end Bk

/-! The rows of edges: how many, and that they rise. -/
namespace Bk
open PySem PySem.Spec PyProof.Rows L2 RZ
theorem flat_filter (p : List Nat → Bool) : ∀ rows : List (List Nat), (rows.filter p).flatten.length ≤ rows.flatten.length
  | [] => Nat.le_refl _
  | r :: rows => by
    have := flat_filter p rows
    rw [List.filter_cons]
    split <;> simp only [List.flatten_cons, List.length_append] <;> omega
theorem way_flat {S : Spc} (hG : Good S) (h2 : S.length ≤ 24) : (wayE S).flatten.length ≤ 288 ∧ (wayE S).length ≤ 288 := by
  obtain ⟨a1, a2, a3⟩ := rowsE_flat (hangB_eqv (r := fun x y => y ∈ lkQ S x) (fun _ _ z => lkQ_symm hG z)) ((dirs_up S).imp fun z => Nat.ne_of_lt z)
  have := nodup_len a1 ((dirs_up S).imp fun z => Nat.ne_of_lt z) (fun x hx => (a2 x).mp hx)
  have l : (dirs S).length ≤ 288 := Nat.le_trans (dirs_len S) (by omega)
  refine ⟨?_, ?_⟩
  · show (rowsE _ _).flatten.length ≤ 288
    omega
  · show (rowsE _ _).length ≤ 288
    omega
theorem edg_flat {S : Spc} (hG : Good S) (h2 : S.length ≤ 24) : (edgE S).flatten.length ≤ 288 ∧ (edgE S).length ≤ 288 := by
  have h := way_flat hG h2
  exact ⟨Nat.le_trans (flat_filter _ _) h.1, Nat.le_trans (List.length_filter_le _ _) h.2⟩
theorem edg_row {S : Spc} (hG : Good S) (h2 : S.length ≤ 24) : ∀ r ∈ edgE S, r.length ≤ 288 := fun r hr => by
  have h := (edg_flat hG h2).1
  obtain ⟨a, b, e⟩ := List.append_of_mem hr
  rw [e] at h
  simp only [List.flatten_append, List.flatten_cons, List.length_append] at h
  omega
theorem way_row {S : Spc} (hG : Good S) (h2 : S.length ≤ 24) : ∀ r ∈ wayE S, r.length ≤ 288 := fun r hr => by
  have h := (way_flat hG h2).1
  obtain ⟨a, b, e⟩ := List.append_of_mem hr
  rw [e] at h
  simp only [List.flatten_append, List.flatten_cons, List.length_append] at h
  omega
theorem wayE_up {S : Spc} (hG : Good S) : (wayE S).Pairwise fun r r' => ∃ x t y u, r = x :: t ∧ r' = y :: u ∧ x < y := by
  refine List.pairwise_iff_getElem.mpr fun i j hi hj lt => ?_
  have E := hangB_eqv (r := fun x y => y ∈ lkQ S x) (fun _ _ z => lkQ_symm hG z)
  obtain ⟨x, t, hx, e1, _⟩ := row_at E (dirs_up S) (List.getElem?_eq_getElem hi)
  obtain ⟨y, u, hy, e2, _⟩ := row_at E (dirs_up S) (List.getElem?_eq_getElem hj)
  refine ⟨x, t, y, u, e1, e2, ?_⟩
  obtain ⟨l1, q1⟩ := List.getElem?_eq_some_iff.mp hx
  obtain ⟨l2, q2⟩ := List.getElem?_eq_some_iff.mp hy
  rw [← q1, ← q2]
  exact List.pairwise_iff_getElem.mp ((dirs_up S).sublist (fstE_subl _ _)) i j l1 l2 lt
theorem edgE_up {S : Spc} (hG : Good S) : (edgE S).Pairwise fun r r' => ∃ x t y u, r = x :: t ∧ r' = y :: u ∧ x < y := (wayE_up hG).sublist List.filter_sublist
end Bk

/-! The faces of a space. -/
namespace Bk
open PySem PySem.Spec PyProof.Rows L2 RZ
def metF (f : Nat) : Jn → List Nat
  | none => []
  | some (n, t) => [4 * n + tf t f]
def lkF (S : Spc) (x : Nat) : List Nat := metF (x % 4) ((getJ S (x / 4) (x % 4)).getD none)
noncomputable def facE (S : Spc) : List (List Nat) := rowsE (hangB (fun x y => y ∈ lkF S x)) (List.range (4 * S.length))
theorem lkF_mem {S : Spc} {x y : Nat} : y ∈ lkF S x ↔ ∃ n t, getJ S (x / 4) (x % 4) = some (some (n, t)) ∧ y = 4 * n + tf t (x % 4) := by
  unfold lkF
  cases e : getJ S (x / 4) (x % 4) with
  | none => exact ⟨fun h => (by cases h), fun ⟨n, t, h, _⟩ => (by cases h)⟩
  | some j =>
    cases j with
    | none => exact ⟨fun h => (by cases h), fun ⟨n, t, h, _⟩ => (by cases h)⟩
    | some k =>
      obtain ⟨n, t⟩ := k
      constructor
      · intro h
        exact ⟨n, t, rfl, List.mem_singleton.mp h⟩
      · rintro ⟨n', t', h, rfl⟩
        cases h
        exact List.mem_singleton.mpr rfl
theorem lkF_lt {S : Spc} (h : Good S) {x y : Nat} (hy : y ∈ lkF S x) : y < 4 * S.length := by
  obtain ⟨n, t, e, rfl⟩ := lkF_mem.mp hy
  have := h.lt e
  obtain ⟨q1, _, _⟩ := h.both _ _ _ _ e
  have := (tf_lt t q1 (x % 4) (Nat.mod_lt _ (by decide))).1
  omega
theorem lkF_symm {S : Spc} (h : Good S) {x y : Nat} (hy : y ∈ lkF S x) : x ∈ lkF S y := by
  obtain ⟨n, t, e, rfl⟩ := lkF_mem.mp hy
  obtain ⟨q1, _, q3⟩ := h.both _ _ _ _ e
  have l4 := (tf_lt t q1 (x % 4) (Nat.mod_lt _ (by decide))).1
  refine lkF_mem.mpr ⟨x / 4, back t, ?_, ?_⟩
  · rw [show (4 * n + tf t (x % 4)) / 4 = n by omega, show (4 * n + tf t (x % 4)) % 4 = tf t (x % 4) by omega]
    exact q3
  · rw [show (4 * n + tf t (x % 4)) % 4 = tf t (x % 4) by omega, tf_back t q1 (x % 4) (Nat.mod_lt _ (by decide))]
    omega
section
variable {P : Program} {w : World} {K : PySem.W.Frag} {mg : Str → Option Value} {base : Heap}
abbrev s_faces_met : Stmt := topS 30
abbrev N_faces_met : List Str := ["joining", "face", "other", "turn"]
theorem sc_faces_met : FnScope N_faces_met ["joining", "face"] (defScope s_faces_met) := ⟨rfl, rfl, rfl, by decide +kernel, rfl, by decide +kernel, by decide +kernel⟩
def spFacesMet : Sp := fun vs H Q _ => ∃ (x : V) (j : Jn) (f : Nat), vs = [x, intV f] ∧ JAt H x j ∧ (∀ n t, j = some (n, t) → t ∈ allTurns) ∧ f < 4 ∧ ∀ H' l xs, Same H H' → H l = none → H' l = some (.lst xs) → Paired (moT.at H') xs (metF f j) → Q (.ref l) H'
theorem ok_faces_met {f : Addr} {fd : FuncData} (F : Fun K "_faces_met" "_faces_met" s_faces_met f fd) : FnOk P w K mg base CX0 1 f fd ["joining", "face"] spFacesMet := by
  refine F.ok sc_faces_met (fun vs H Q E h => ?_) (fun cdv A outer s H vs Q E hr h => ?_)
  · obtain ⟨x, j, f, rfl, _⟩ := h
    rfl
  · obtain ⟨x, j, f, rfl, hj, ht, hf, q⟩ := h
    have nd := sc_faces_met.nd
    refine ⟨_, (pss_cons (ps_if (pt_cmpR op_isN (pv 0) pe_non (nomark _)) (pss_one (ps_ret (pe_lst pa_nil))) pss_nil)
      (pss_cons (ps_asg (pv 0) (kPgT K rfl (pg_tup (n := 2) rfl (pgs_cons (pg_name (i := 2) nd rfl (.inl rfl)) (pgs_cons (pg_name (i := 3) nd rfl (.inl rfl)) pgs_nil)))))
      (pss_one (ps_ret (pe_lst (pa_cons (pe_tup (pa_cons (pv 2) (pa_cons (pe_ix (kIxT K rfl) (pv 3) (pv 1) (fun _ _ => rfl)) pa_nil))) pa_nil)))))), ?_⟩
    refine ⟨x, rfl, rfl, ?_⟩
    rw [hj.isN]
    refine ⟨_, rfl, ?_⟩
    cases j with
    | none => exact iteT ⟨Nat.zero_le _, fun l nl => q _ l [] (same_new nl) nl upd_same .nil⟩
    | some k =>
      obtain ⟨n, t⟩ := k
      obtain ⟨pj, pq, rfl, f1, f2⟩ := hj
      have htm := ht n t rfl
      have lf := tf_lt t htm f hf
      refine iteF ⟨.ref pj, rfl, pj, _, rfl, f1.sqt, rfl, _, _, rfl, _, _, rfl, rfl, ?_⟩
      refine ⟨intV n, rfl, .ref pq, rfl, intV f, rfl, pq, trnV t, f, intV (tf t f), rfl, rfl, f2.sqt, atI_nat (by unfold trnV; rw [List.getElem?_map, lf.2]; rfl), Nat.le_of_lt (small1000 (by show 2 ≤ 1000; decide)), fun p np => ?_⟩
      have s1 : Same H (upd H p (.tup [intV n, intV (tf t f)])) := same_new np
      have g1 : (upd H p (.tup [intV n, intV (tf t f)])) p = some (.tup [intV n, intV (tf t f)]) := upd_same
      generalize upd H p (.tup [intV n, intV (tf t f)]) = H1 at s1 g1 ⊢
      refine ⟨Nat.le_of_lt (small1000 (by show 1 ≤ 1000; decide)), fun l nl => ?_⟩
      have s2 : Same H1 (upd H1 l (.lst [.ref p])) := same_new nl
      refine q _ l [.ref p] (s1.trans s2) (s1.free nl) upd_same (.cons ⟨p, rfl, ?_⟩ .nil)
      have k5 := lf.1
      rw [s2 _ _ g1]
      show some (HO.tup [intV n, intV (tf t f)]) = some (HO.tup [.int (((4 * n + tf t f) / 4 : Nat) : Int), .int (((4 * n + tf t f) % 4 : Nat) : Int)])
      rw [show (4 * n + tf t f) / 4 = n by omega, show (4 * n + tf t f) % 4 = tf t f by omega]
      rfl
abbrev sfaces_of : Stmt := topS 29
abbrev Nfaces_of : List Str := ["space", "whole", "block", "face"]
theorem scfaces_of : FnScope Nfaces_of ["space"] (defScope sfaces_of) := ⟨rfl, rfl, rfl, by decide +kernel, rfl, by decide +kernel, by decide +kernel⟩
def spFacesOf : Sp := fun vs H Q _ => ∃ (N : Addr → Prop) (v : V) (d : PyData) (S : Spc), vs = [v] ∧ Dq N H v d ∧ norm d = nS S ∧ Good S ∧ 1 ≤ S.length ∧ S.length ≤ 24 ∧ ∀ H' l, Same H H' → RowsAt moT H H' l (facE S) → Q (.ref l) H'
theorem okfaces_of {f fS fR fM : Addr} {fd fdS fdR fdM : FuncData} (F : Fun K "faces_of" "faces_of" sfaces_of f fd) (Fspace_of : Fun K "space_of" "space_of" sspace_of fS fdS) (gspace_of : mg "space_of" = some (.ref fS)) (bspace_of : Binds K fdS ["blocks"] []) (Gspace_of : FnOk P w K mg base CX0 6 fS fdS ["blocks"] spSpace)
    (Frows_of : Fun K "rows_of" "rows_of" srows_of fR fdR) (grows_of : mg "rows_of" = some (.ref fR)) (brows_of : Binds K fdR ["links"] []) (Grows_of : FnOk P w K mg base CX0 2 fR fdR ["links"] (spRowsOf moT 1000))
    (F_faces_met : Fun K "_faces_met" "_faces_met" s_faces_met fM fdM) (g_faces_met : mg "_faces_met" = some (.ref fM)) (b_faces_met : Binds K fdM ["joining", "face"] []) (G_faces_met : FnOk P w K mg base CX0 1 fM fdM ["joining", "face"] spFacesMet) (m_range : mg "range" = none) (m_len : mg "len" = none) : FnOk P w K mg base CX0 7 f fd ["space"] spFacesOf := by
  refine F.ok scfaces_of (fun vs H Q E h => ?_) (fun cdv A outer s H vs Q E hr h => ?_)
  · obtain ⟨N, v, d, S, rfl, _⟩ := h
    rfl
  · obtain ⟨N, v, d, S, rfl, hd, hn, hG, h1, h2, q⟩ := h
    have nd := scfaces_of.nd
    refine ⟨_, (pss_cons (ps_set (i := 1) nd rfl (.inr rfl) (pe_call Gspace_of (hr.mono (by first | decide | omega)) (by rfl) gspace_of Fspace_of.kp bspace_of .nil pass0 (pa_cons (pv 0) pa_nil)))
      (pss_one (ps_ret (pe_call Grows_of (hr.mono (by first | decide | omega)) (by rfl) grows_of Frows_of.kp brows_of .nil pass0 (pa_cons (pe_dcN (own := [("block", 2), ("face", 3)]) (c := ⟨[], _, _, _, _, _, _⟩) (cs := [⟨[3], _, _, _, _, _, _⟩]) rfl (Nat.lt_of_succ_lt (hu_of hr)) nd (pi_range1 (by rfl) m_range (pa_cons (pe_callB (kLen K rfl) (by rfl) m_len (by decide +kernel) (pa_cons (pv 1) pa_nil)) pa_nil)) (blkOk_by (own := [("block", 2), ("face", 3)]) (N := Nfaces_of) (sc := defScope sfaces_of) (by decide +kernel)) (by simp [headVs]) (by simp [Nested, headVs]) (fun _ _ _ _ _ => ⟨(pg_name (i := 2) nd rfl (Or.inl rfl)), pts_nil, (oks_cons (pi_range1 (by rfl) m_range (pa_cons pe_int pa_nil)) (pg_name (i := 3) nd rfl (Or.inl rfl)) pts_nil oks_nil), (pe_tup (pa_cons (pv 2) (pa_cons (pv 3) pa_nil))), (pe_call G_faces_met (hr.mono (by first | decide | omega)) (by rfl) g_faces_met F_faces_met.kp b_faces_met .nil pass0 (pa_cons (pe_ix (kIxT K rfl) (pe_ix (kIxT K rfl) (pv 1) (pv 2) (fun _ _ => rfl)) (pv 3) (fun _ _ => rfl)) (pa_cons (pv 3) pa_nil)))⟩) (by intro _; rfl) (fold_cons (by intro _ _; rfl) fold_nil)) pa_nil))))), ?_⟩
    refine ⟨v, rfl, N, v, d, S, rfl, hd, hn, hG, h1, by omega, fun H1 u s1 st1 => ?_⟩
    obtain ⟨p, rs, rfl, fp, hb⟩ := id st1
    have lrs := plen hb
    refine ⟨.ref p, rfl, p, rs, rfl, .inr fp.sqt, (rs.length : Int), rfl, by omega, by omega, _, .inr rfl, fun D nD => ?_⟩
    let Inv' : Nat → Hp → Prop := fun m H2 => ∃ kvs : List (Nat × V), H2 D = some (moT.obj kvs) ∧ kvs.map (·.1) = List.range m ∧ (∀ q ∈ kvs, ∃ a vs, q.2 = .ref a ∧ H2 a = some (.lst vs) ∧ Paired (moT.at H2) vs (lkF S q.1)) ∧ Same H1 H2
    refine walk_range (lo := 0) (n := ((rs.length : Int)).toNat) (fun i H2 => Inv' (4 * i) H2) ⟨[], upd_same, rfl, fun _ hq => absurd hq List.not_mem_nil, same_new nD⟩ ?_ ?_
    · rintro b H2 hb2 hI
      rw [Int.zero_add]
      have hbr : b < S.length := by omega
      refine ⟨rfl, 4, rfl, by decide, by decide, ?_⟩
      refine walk_range (lo := 0) (n := 4) (fun i H3 => Inv' (4 * b + i) H3) hI ?_ ?_
      · rintro c H3 hc ⟨kvs, h3, k3, l3, s3⟩
        rw [Int.zero_add]
        refine ⟨rfl, intV b, rfl, intV c, rfl, Nat.le_of_lt (small1000 (by show 2 ≤ 1000; decide)), fun kp nkp => ?_⟩
        have s4 : Same H3 (upd H3 kp (.tup [intV b, intV c])) := same_new nkp
        have h4 : (upd H3 kp (.tup [intV b, intV c])) kp = some (.tup [intV b, intV c]) := upd_same
        generalize upd H3 kp (.tup [intV b, intV c]) = H4 at s4 h4 ⊢
        obtain ⟨j, hj⟩ := hG.l4.get (b := b) (f := c) hbr hc
        obtain ⟨p', rs', q', vs', x, ep, g1, g2, g3, g4, g5⟩ := (st1.mono (s3.trans s4).tups).face hj
        cases ep
        refine ⟨.ref p, rfl, intV b, rfl, p, rs', b, .ref q', rfl, rfl, g1.sqt, atI_nat g2, intV c, rfl, q', vs', c, x, rfl, rfl, g3.sqt, atI_nat g4, intV c, rfl, x, j, c, rfl, g5, fun n t e => ?_, hc, fun H6 l xs s6 nl hl pl => ?_⟩
        · subst e
          exact (hG.both _ _ _ _ hj).1
        have s36 := s4.trans s6
        have h6 := s36 _ _ h3
        have hv : moT.at H6 (.ref kp) (4 * b + c) := ⟨kp, rfl, by
          rw [s6 _ _ h4]
          show some (HO.tup [intV b, intV c]) = some (HO.tup [.int (((4 * b + c) / 4 : Nat) : Int), .int (((4 * b + c) % 4 : Nat) : Int)])
          rw [show (4 * b + c) / 4 = b by omega, show (4 * b + c) % 4 = c by omega]
          rfl⟩
        have kN : ∀ q ∈ kvs, q.1 < 1000 := fun q hq => by
          have : q.1 ∈ List.range (4 * b + c) := by
            rw [← k3]
            exact List.mem_map_of_mem hq
          rw [List.mem_range] at this
          omega
        have lk : kvs.length = 4 * b + c := by
          have := congrArg List.length k3
          rw [List.length_map, List.length_range] at this
          exact this
        have nb : valV kvs (4 * b + c) = none := by
          cases e : valV kvs (4 * b + c) with
          | none => rfl
          | some v =>
            have := valV_in e
            rw [k3, List.mem_range] at this
            omega
        have put := Mo.put (M := moT) (N := 1000) (x := .ref l) (moT_inj 1000) h6 hv kN (by omega) (small1000 (by omega))
        rw [putK_new _ nb] at put
        have kt := tupK_dic (M := moT) (o := moT.obj (kvs ++ [(4 * b + c, .ref l)])) h6
        have keep : ∀ (a : Addr) ys, H6 a = some (.lst ys) → (upd H6 D (moT.obj (kvs ++ [(4 * b + c, .ref l)]))) a = some (.lst ys) := fun a ys z => by
          rw [upd_ne (ne_of z h6 fun y => moT.obj_lst _ _ y.symm)]
          exact z
        refine ⟨_, put, kvs ++ [(4 * b + c, .ref l)], upd_same, ?_, ?_, same_fill (s3.trans s36) nD⟩
        · rw [List.map_append, k3]
          show _ = List.range ((4 * b + c) + 1)
          rw [List.range_succ]
          rfl
        · intro q hq
          rcases List.mem_append.mp hq with hq | hq
          · obtain ⟨a, vs, e1, e2, e3⟩ := l3 q hq
            exact ⟨a, vs, e1, keep a vs (s36 _ _ e2), pmono e3 fun _ _ z => z.mono (s36.tupK.trans kt)⟩
          · obtain rfl := List.mem_singleton.mp hq
            refine ⟨l, xs, rfl, keep l xs hl, ?_⟩
            show Paired _ xs (metF ((4 * b + c) % 4) ((getJ S ((4 * b + c) / 4) ((4 * b + c) % 4)).getD none))
            rw [show (4 * b + c) / 4 = b by omega, show (4 * b + c) % 4 = c by omega, hj]
            exact pmono pl fun _ _ z => z.mono kt
      · rintro H3 hI
        exact hI
    · rintro H2 ⟨kvs, h2', k2, l2, s2⟩
      rw [Int.toNat_natCast, lrs] at k2
      refine ⟨D, List.range (4 * S.length), lkF S, rfl, ⟨kvs, h2', k2, l2⟩, List.nodup_range, List.pairwise_le_range, fun n hn => by rw [List.mem_range] at hn; omega, (show _ < 1000 by rw [List.length_range]; omega), by rw [List.length_range]; omega, fun n _ m hm => List.mem_range.mpr (lkF_lt hG hm), fun n m hm => lkF_symm hG hm, fun H' l s' hr => ?_⟩
      exact q H' l ((s1.trans s2).trans s') (hr.early (s1.trans s2))
end
end Bk

/-! How many there are of each. -/
namespace Bk
open PySem PySem.Spec PyProof.Rows L2 RZ
noncomputable def cntI (S : Spc) : List Int := [((crnE S).length : Int), ((edgE S).length : Int), ((facE S).length : Int), (S.length : Int)]
section
variable {P : Program} {w : World} {K : PySem.W.Frag} {mg : Str → Option Value} {base : Heap}
abbrev scounted : Stmt := topS 31
abbrev Ncounted : List Str := ["space", "whole"]
theorem sccounted : FnScope Ncounted ["space"] (defScope scounted) := ⟨rfl, rfl, rfl, by decide +kernel, rfl, by decide +kernel, by decide +kernel⟩
def spCounted : Sp := fun vs H Q _ => ∃ (N : Addr → Prop) (v : V) (d : PyData) (S : Spc), vs = [v] ∧ Dq N H v d ∧ norm d = nS S ∧ Good S ∧ 1 ≤ S.length ∧ S.length ≤ 24 ∧ ∀ H' t, Same H H' → FT H' t ((cntI S).map V.int) → Q (.ref t) H'
theorem okcounted {f fS fC fE fF : Addr} {fd fdS fdC fdE fdF : FuncData} (F : Fun K "counted" "counted" scounted f fd) (Fspace_of : Fun K "space_of" "space_of" sspace_of fS fdS) (gspace_of : mg "space_of" = some (.ref fS)) (bspace_of : Binds K fdS ["blocks"] []) (Gspace_of : FnOk P w K mg base CX0 6 fS fdS ["blocks"] spSpace)
    (Fcorners_of : Fun K "corners_of" "corners_of" scorners_of fC fdC) (gcorners_of : mg "corners_of" = some (.ref fC)) (bcorners_of : Binds K fdC ["space"] []) (Gcorners_of : FnOk P w K mg base CX0 7 fC fdC ["space"] spCornersOf)
    (Fedges_of : Fun K "edges_of" "edges_of" sedges_of fE fdE) (gedges_of : mg "edges_of" = some (.ref fE)) (bedges_of : Binds K fdE ["space"] []) (Gedges_of : FnOk P w K mg base CX0 7 fE fdE ["space"] spEdgesOf)
    (Ffaces_of : Fun K "faces_of" "faces_of" sfaces_of fF fdF) (gfaces_of : mg "faces_of" = some (.ref fF)) (bfaces_of : Binds K fdF ["space"] []) (Gfaces_of : FnOk P w K mg base CX0 7 fF fdF ["space"] spFacesOf) (m_len : mg "len" = none) : FnOk P w K mg base CX0 8 f fd ["space"] spCounted := by
  refine F.ok sccounted (fun vs H Q E h => ?_) (fun cdv A outer s H vs Q E hr h => ?_)
  · obtain ⟨N, v, d, S, rfl, _⟩ := h
    rfl
  · obtain ⟨N, v, d, S, rfl, hd, hn, hG, h1, h2, q⟩ := h
    have nd := sccounted.nd
    refine ⟨_, (pss_cons (ps_set (i := 1) nd rfl (.inl rfl) (pe_call Gspace_of (hr.mono (by first | decide | omega)) (by rfl) gspace_of Fspace_of.kp bspace_of .nil pass0 (pa_cons (pv 0) pa_nil)))
      (pss_one (ps_ret (pe_tupF (pa_cons (pe_callB (kLen K rfl) (by rfl) m_len (by decide +kernel) (pa_cons (pe_call Gcorners_of (hr.mono (by first | decide | omega)) (by rfl) gcorners_of Fcorners_of.kp bcorners_of .nil pass0 (pa_cons (pv 1) pa_nil)) pa_nil)) (pa_cons (pe_callB (kLen K rfl) (by rfl) m_len (by decide +kernel) (pa_cons (pe_call Gedges_of (hr.mono (by first | decide | omega)) (by rfl) gedges_of Fedges_of.kp bedges_of .nil pass0 (pa_cons (pv 1) pa_nil)) pa_nil)) (pa_cons (pe_callB (kLen K rfl) (by rfl) m_len (by decide +kernel) (pa_cons (pe_call Gfaces_of (hr.mono (by first | decide | omega)) (by rfl) gfaces_of Ffaces_of.kp bfaces_of .nil pass0 (pa_cons (pv 1) pa_nil)) pa_nil)) (pa_cons (pe_callB (kLen K rfl) (by rfl) m_len (by decide +kernel) (pa_cons (pv 1) pa_nil)) pa_nil)))))))), ?_⟩
    refine ⟨v, rfl, N, v, d, S, rfl, hd, hn, hG, h1, by omega, fun H1 u s1 st1 => ?_⟩
    obtain ⟨p, rs, eu, fp, hb⟩ := id st1
    have lrs := plen hb
    have len : ∀ {M : Mo} {H H' : Hp} {l : Addr} {rows : List (List Nat)}, RowsAt M H H' l rows → ∃ xs : List V, H' l = some (.lst xs) ∧ xs.length = rows.length := fun ⟨ps, h, _, _, _, pp⟩ => ⟨_, h, by rw [List.length_map, plen pp]⟩
    refine ⟨u, rfl, fun _ => False, u, shutD S, S, rfl, st1.dq, norm_shut S, hG, h1, by omega, fun H2 l2 s2 r2 => ?_⟩
    obtain ⟨x2, h2', e2⟩ := len r2
    refine ⟨l2, x2, rfl, .inl (.inl (.inl h2')), ?_⟩
    have st2 := st1.mono s2.tups
    refine ⟨u, rfl, fun _ => False, u, shutD S, S, rfl, st2.dq, norm_shut S, hG, h1, by omega, fun H3 l3 s3 r3 => ?_⟩
    obtain ⟨x3, h3', e3⟩ := len r3
    refine ⟨l3, x3, rfl, .inl (.inl (.inl h3')), ?_⟩
    have st3 := st2.mono s3.tups
    refine ⟨u, rfl, fun _ => False, u, shutD S, S, rfl, st3.dq, norm_shut S, hG, h1, by omega, fun H4 l4 s4 r4 => ?_⟩
    obtain ⟨x4, h4', e4⟩ := len r4
    refine ⟨l4, x4, rfl, .inl (.inl (.inl h4')), ?_⟩
    refine ⟨u, rfl, p, rs, by rw [eu], .inr (fp.mono ((s2.trans s3).trans s4).tups).sqt, ?_⟩
    refine ⟨Nat.le_of_lt (small1000 (by show 4 ≤ 1000; decide)), fun t o nt dt => ?_⟩
    rw [e2, e3, e4, lrs]
    exact q _ t ((((s1.trans s2).trans s3).trans s4).trans (same_new nt)) (FT.new dt)
end
end Bk

namespace Bk
open PySem PySem.Spec PyProof.Rows L2 RZ
local macro_rules | `(tactic| walk_at "g") => `(tactic| (repeat first | refine ⟨_, rfl, ?_⟩ | refine ⟨cpow, ?_⟩ | refine ⟨wideM, ?_⟩ | refine ⟨_, _, rfl, rfl, ?_⟩ | refine ⟨rfl, ?_⟩))
def dcScope (s : Stmt) : Scope := match s with
  | .Return (some (.Call _ [.DictComp _ _ _ sc _] _ _)) _ => sc
  | _ => { kind := .function, names := [], isGenerator := false, isCoroutine := false }
theorem dc_range {lo : Int} {n : Nat} {g : TG} {tt : TT} {tk tv : TE} {vs : List Nat} {σ : L2.St} {H1 : Hp} {D : Addr} {Qd : Hp → Prop} (Pv : Nat → Hp → Prop) (h0 : Pv 0 (upd H1 D (.dK [])))
    (hs : ∀ i H, i < n → Pv i H → g (.int (lo + i)) (wipe σ vs) H fun σ2 H2 => wipe σ2 vs = wipe σ vs ∧ tt σ2 H2 fun b H3 =>
      if b = true then tk σ2 H3 fun y H4 => tv σ2 H4 fun z H5 => ∃ kvs k, y = kV k ∧ H5 D = some (.dK kvs) ∧ kvs.length < sizeLine ∧ Pv (i + 1) (upd H5 D (.dK (putK kvs k z))) else Pv (i + 1) H3) (hd : ∀ H, Pv n H → Qd H) :
    ∃ W : Nat → Nat → Hp → Prop, (∃ m, W 0 m (upd H1 D (.dK []))) ∧ ∀ i m H, W i m H →
      ((Itr lo n).stop i H ∧ Qd H) ∨ ((Itr lo n).go i H ∧ ∃ Nx : Hp → Prop, (∀ H', Nx H' → ∃ m', m' < m ∧ W (i + 1) m' H') ∧ ∀ x H', (Itr lo n).yld i H x H' → g x (wipe σ vs) H' fun σ2 H2 => wipe σ2 vs = wipe σ vs ∧ tt σ2 H2 fun b H3 =>
        if b = true then tk σ2 H3 fun y H4 => tv σ2 H4 fun z H5 => ∃ kvs k, y = kV k ∧ H5 D = some (.dK kvs) ∧ kvs.length < sizeLine ∧ Nx (upd H5 D (.dK (putK kvs k z))) else Nx H3) := by
  refine ⟨fun i m H => m = n - i ∧ i ≤ n ∧ Pv i H, ⟨n, by simp, Nat.zero_le _, h0⟩, ?_⟩
  rintro i m H ⟨rfl, hi, p⟩
  by_cases hlt : i < n
  · refine .inr ⟨hlt, Pv (i + 1), fun H' p' => ⟨n - (i + 1), by omega, rfl, hlt, p'⟩, fun x H' y => ?_⟩
    obtain ⟨e, y⟩ := y
    subst e y
    exact hs i _ hlt p
  · have e : i = n := by omega
    subst e
    exact .inl ⟨Nat.le_refl _, hd H p⟩
section
variable {P : Program} {w : World} {K : PySem.W.Frag} {mg : Str → Option Value} {base : Heap}
abbrev sparts_of : Stmt := topS 33
abbrev Nparts_of : List Str := ["space", "whole", "block", "joining"]
theorem scparts_of : FnScope Nparts_of ["space"] (defScope sparts_of) := ⟨rfl, rfl, rfl, by decide +kernel, rfl, by decide +kernel, by decide +kernel⟩
def othersOf (b : Blk) : List Nat := b.filterMap fun j => j.map (·.1)
def lkP (S : Spc) (b : Nat) : List Nat := othersOf (S.getD b [])
theorem lkP_of {S : Spc} {b n : Nat} : n ∈ lkP S b ↔ ∃ f t, getJ S b f = some (some (n, t)) := by
  unfold lkP othersOf getJ
  show n ∈ ((S[b]?).getD []).filterMap _ ↔ _
  cases e : S[b]? with
  | none => simp
  | some y =>
    show n ∈ y.filterMap _ ↔ _
    rw [List.mem_filterMap]
    constructor
    · rintro ⟨j, hj, ej⟩
      obtain ⟨f, hf⟩ := List.mem_iff_getElem?.mp hj
      cases j with
      | none => cases ej
      | some k =>
        obtain ⟨m, t⟩ := k
        have : m = n := Option.some.inj ej
        subst this
        exact ⟨f, t, hf⟩
    · rintro ⟨f, t, hf⟩
      exact ⟨_, List.mem_of_getElem? (show y[f]? = some (some (n, t)) from hf), rfl⟩
theorem lkP_symm {S : Spc} (h : Good S) (x y : Nat) (hy : y ∈ lkP S x) : x ∈ lkP S y := by
  obtain ⟨f, t, e⟩ := lkP_of.mp hy
  exact lkP_of.mpr ⟨_, _, (h.both _ _ _ _ e).2.2⟩
def spPartsOf : Sp := fun vs H Q _ => ∃ (N : Addr → Prop) (v : V) (d : PyData) (S : Spc), vs = [v] ∧ Dq N H v d ∧ norm d = nS S ∧ Good S ∧ 1 ≤ S.length ∧ S.length < 40 ∧
  ∀ H' l, Same H H' → RowsAt moI H H' l (rowsE (hangB (fun x y => y ∈ lkP S x)) (List.range S.length)) → Q (.ref l) H'
theorem okparts_of {f fS fR : Addr} {fd fdS fdR : FuncData} (F : Fun K "parts_of" "parts_of" sparts_of f fd) (Fspace_of : Fun K "space_of" "space_of" sspace_of fS fdS) (gspace_of : mg "space_of" = some (.ref fS)) (bspace_of : Binds K fdS ["blocks"] []) (Gspace_of : FnOk P w K mg base CX0 6 fS fdS ["blocks"] spSpace)
    (Frows_of : Fun K "rows_of" "rows_of" srows_of fR fdR) (grows_of : mg "rows_of" = some (.ref fR)) (brows_of : Binds K fdR ["links"] []) (Grows_of : FnOk P w K mg base CX0 2 fR fdR ["links"] (spRowsOf moI 64)) (m_range : mg "range" = none) (m_len : mg "len" = none) : FnOk P w K mg base CX0 7 f fd ["space"] spPartsOf := by
  refine F.ok scparts_of (fun vs H Q E h => ?_) (fun cdv A outer s H vs Q E hr h => ?_)
  · obtain ⟨N, v, d, S, rfl, _⟩ := h
    rfl
  · obtain ⟨N, v, d, S, rfl, hd, hn, hG, h1, h2, q⟩ := h
    have nd := scparts_of.nd
    refine ⟨_, (pss_cons (ps_set (i := 1) nd rfl (.inr rfl) (pe_call Gspace_of (hr.mono (by first | decide | omega)) (by rfl) gspace_of Fspace_of.kp bspace_of .nil pass0 (pa_cons (pv 0) pa_nil)))
      (pss_one (ps_ret (pe_call Grows_of (hr.mono (by first | decide | omega)) (by rfl) grows_of Frows_of.kp brows_of .nil pass0 (pa_cons (pe_dc (own := [("block", 2)]) (g := gName 2) (tt := tYes) rfl nd (pi_range1 (by rfl) m_range (pa_cons (pe_callB (kLen K rfl) (by rfl) m_len (by decide +kernel) (pa_cons (pv 1) pa_nil)) pa_nil)) (blkOk_by (own := [("block", 2)]) (N := Nparts_of) (sc := defScope sparts_of) (by decide +kernel)) (fun _ _ _ _ _ => (pg_name (i := 2) nd rfl (Or.inl rfl))) (fun _ _ _ _ _ => pts_nil) (fun _ _ _ _ _ => (pv 2)) (fun _ _ _ _ _ => (pe_lc (own := [("joining", 3)]) (g := gName 3) rfl nd (kPiT K rfl (pi_tup (pe_ix (kIxT K rfl) (pv 1) (pv 2) (fun _ _ => rfl)))) (blkOk_by (own := [("joining", 3)]) (N := Nparts_of) (sc := _) (by rfl)) (fun _ _ _ _ _ => (pg_name (i := 3) nd rfl (Or.inl rfl))) (fun _ _ _ _ _ => (pts_one (pt_cmpR op_notN (pv 3) pe_non (nomark _)))) (fun _ _ _ _ _ => (pe_ix (kIxT K rfl) (pv 3) pe_int (fun _ _ => rfl)))))) pa_nil))))), ?_⟩
    refine ⟨v, rfl, N, v, d, S, rfl, hd, hn, hG, h1, by omega, fun H1 u s1 st1 => ?_⟩
    obtain ⟨p, rs, rfl, fp, hb⟩ := st1
    have lrs := plen hb
    refine ⟨.ref p, rfl, p, rs, rfl, .inr fp.sqt, (rs.length : Int), rfl, by omega, by omega, fun D nD => ?_⟩
    refine dc_range (lo := 0) (n := ((rs.length : Int)).toNat) (fun i H2 => ∃ kvs : List (Nat × V), H2 D = some (moI.obj kvs) ∧ kvs.map (·.1) = List.range i ∧ (∀ q ∈ kvs, ∃ a vs, q.2 = .ref a ∧ H2 a = some (.lst vs) ∧ Paired (moI.at H2) vs (lkP S q.1)) ∧ Same H1 H2) ⟨[], upd_same, rfl, fun _ hq => absurd hq List.not_mem_nil, same_new nD⟩ ?_ ?_
    · rintro b H2 hb2 ⟨kvs, h2, k2, l2, s2⟩
      rw [Int.zero_add]
      have hbr : b < rs.length := by omega
      obtain ⟨y, hy, pb, vb, hpb, fb, jb⟩ := pget' hb (List.getElem?_eq_getElem hbr)
      have hx : rs[b]? = some (.ref pb) := by rw [List.getElem?_eq_getElem hbr, hpb]
      have eS : S.getD b [] = y := by
        show S[b]?.getD [] = y
        rw [hy]
        rfl
      refine ⟨rfl, intV b, rfl, .ref p, rfl, intV b, rfl, p, rs, b, .ref pb, rfl, rfl, (fp.mono s2.tups).sqt, atI_nat hx, pb, rfl, ⟨_, (fb.mono s2.tups).sqt⟩, fun D2 nD2 => ?_⟩
      refine lc_tup (xs := vb) (fun i H3 => H3 D2 = some (.lst ((othersOf (y.take i)).map intV)) ∧ Same H2 H3) ⟨upd_same, same_new nD2⟩ ?_ ?_ ?_
      · rintro i H3 _ ⟨h3, s3⟩
        exact (fb.mono (s2.trans s3).tups).sqt
      · rintro i x H3 hx3 ⟨h3, s3⟩
        obtain ⟨j, hj, jx⟩ := pget' jb hx3
        have jx3 := jx.mono (s2.trans s3).tups
        have li : i < vb.length := (List.getElem?_eq_some_iff.mp hx3).1
        have ot : othersOf (y.take (i + 1)) = othersOf (y.take i) ++ othersOf [j] := by
          unfold othersOf
          rw [List.take_add_one, hj, List.filterMap_append]
          rfl
        have o4 : (othersOf (y.take i)).length ≤ 400 := by
          have g : (othersOf (y.take i)).length ≤ (y.take i).length := List.length_filterMap_le _ _
          rw [List.length_take] at g
          have := hG.l4 y (List.mem_of_getElem? hy)
          omega
        refine ⟨rfl, x, rfl, rfl, _, rfl, ?_⟩
        rw [jx3.isN]
        cases j with
        | none =>
          refine iteF ⟨?_, s3⟩
          rw [ot]
          show _ = some (HO.lst (List.map intV (othersOf (y.take i) ++ [])))
          rw [List.append_nil]
          exact h3
        | some k =>
          obtain ⟨n, tt⟩ := k
          obtain ⟨pj, pq, rfl, f5, f6⟩ := jx3
          refine iteT ⟨.ref pj, rfl, pj, _, 0, intV n, rfl, rfl, f5.sqt, rfl, _, h3, small1000 (by rw [List.length_map]; omega), ?_, same_fill s3 nD2⟩
          rw [upd_same, ot, List.map_append]
          rfl
      · rintro H3 ⟨h3, s3⟩
        rw [plen jb, List.take_length] at h3
        have h23 := s3 _ _ h2
        have nb : valV kvs b = none := by
          cases e : valV kvs b with
          | none => rfl
          | some v =>
            have := valV_in e
            rw [k2, List.mem_range] at this
            omega
        have pk := putK_map_key (f := fun m : Nat => (Sum.inl (m : Int) : L2.Key)) (k := b) (v := .ref D2) (kvs := kvs) fun q hq z => by injection z with z; omega
        rw [putK_new _ nb] at pk
        have lk := congrArg List.length k2
        rw [List.length_map, List.length_range] at lk
        refine ⟨_, Sum.inl (b : Int), rfl, h23, small1000 (by rw [List.length_map, lk]; omega), kvs ++ [(b, .ref D2)], ?_, ?_, ?_, same_fill (s2.trans s3) nD⟩
        · rw [upd_same, pk]
          rfl
        · rw [List.map_append, k2, List.range_succ]
          rfl
        · have keep : ∀ (a : Addr) xs, H3 a = some (.lst xs) → (upd H3 D (.dK (putK (kvs.map fun q => (Sum.inl (q.1 : Int), q.2)) (Sum.inl (b : Int)) (.ref D2)))) a = some (.lst xs) := fun a xs z => by
            rw [upd_ne (ne_of z h23 fun y => moI.obj_lst _ _ y.symm)]
            exact z
          intro q hq
          rcases List.mem_append.mp hq with hq | hq
          · obtain ⟨a, vs, e1, e2, e3⟩ := l2 q hq
            exact ⟨a, vs, e1, keep a vs (s3 _ _ e2), moI_list e3 ▸ moI_paired _ _⟩
          · obtain rfl := List.mem_singleton.mp hq
            refine ⟨D2, _, rfl, keep _ _ h3, ?_⟩
            show Paired _ (List.map intV (othersOf y)) (othersOf (S.getD b []))
            rw [eS]
            exact moI_paired _ _
    · rintro H2 ⟨kvs, h2, k2, l2, s2⟩
      rw [Int.toNat_natCast, lrs] at k2
      refine ⟨D, List.range S.length, lkP S, rfl, ⟨kvs, h2, k2, l2⟩, List.nodup_range, List.pairwise_le_range, fun n hn => by rw [List.mem_range] at hn; omega, (show _ < 64 by rw [List.length_range]; omega), by rw [List.length_range]; omega, fun n hn m hm => ?_, lkP_symm hG, fun H' l s' hr => ?_⟩
      · obtain ⟨f, t, e⟩ := lkP_of.mp hm
        exact List.mem_range.mpr (hG.lt e)
      · exact q H' l ((s1.trans s2).trans s') (hr.early (s1.trans s2))
end
end Bk

namespace Bk
open PySem PySem.Spec PyProof.Rows L2 RZ
local macro_rules | `(tactic| walk_at "g") => `(tactic| (repeat first | refine ⟨_, rfl, ?_⟩ | refine ⟨cpow, ?_⟩ | refine ⟨wideM, ?_⟩ | refine ⟨_, _, rfl, rfl, ?_⟩ | refine ⟨rfl, ?_⟩))
/-- a clause over a range, whatever follows its store -/
theorem out_range {lo : Int} {n : Nat} {B : (Hp → Prop) → V → Hp → Prop} {H0 : Hp} {Qd : Hp → Prop} (Pv : Nat → Hp → Prop) (h0 : Pv 0 H0) (hs : ∀ i H, i < n → Pv i H → B (Pv (i + 1)) (.int (lo + i)) H) (hd : ∀ H, Pv n H → Qd H) :
    ∃ W : Nat → Nat → Hp → Prop, (∃ m, W 0 m H0) ∧ ∀ i m H, W i m H → ((Itr lo n).stop i H ∧ Qd H) ∨ ((Itr lo n).go i H ∧ ∃ Nx : Hp → Prop, (∀ H', Nx H' → ∃ m', m' < m ∧ W (i + 1) m' H') ∧ ∀ x H', (Itr lo n).yld i H x H' → B Nx x H') := by
  refine ⟨fun i m H => m = n - i ∧ i ≤ n ∧ Pv i H, ⟨n, by simp, Nat.zero_le _, h0⟩, ?_⟩
  rintro i m H ⟨rfl, hi, pv⟩
  rcases Nat.lt_or_ge i n with lt | ge
  · refine .inr ⟨lt, Pv (i + 1), fun H' p' => ⟨n - (i + 1), by omega, rfl, lt, p'⟩, ?_⟩
    rintro x H' ⟨rfl, rfl⟩
    exact hs i _ lt pv
  · obtain rfl : i = n := by omega
    exact .inl ⟨Nat.le_refl _, hd H pv⟩
section
variable {P : Program} {w : World} {K : PySem.W.Frag} {mg : Str → Option Value} {base : Heap}
def freeL (S : Spc) (k : Nat) : List (Nat × Nat) := ((List.range k).filter (isFr S)).map fun k => (k / 4, k % 4)
theorem freeL_succ (S : Spc) (k : Nat) : freeL S (k + 1) = freeL S k ++ (if isFr S k then [(k / 4, k % 4)] else []) := by
  unfold freeL
  rw [range_filter_succ, List.map_append]
  split <;> rfl
theorem freeL_len (S : Spc) (k : Nat) : (freeL S k).length ≤ k := by
  unfold freeL
  rw [List.length_map]
  have := List.length_filter_le (isFr S) (List.range k)
  rw [List.length_range] at this
  exact this
def fcD (x : Nat × Nat) : PyData := .tuple [intD x.1, intD x.2]
abbrev sborder : Stmt := topS 32
abbrev Nborder : List Str := ["space", "whole", "block", "face"]
theorem scborder : FnScope Nborder ["space"] (defScope sborder) := ⟨rfl, rfl, rfl, by decide +kernel, rfl, by decide +kernel, by decide +kernel⟩
def spBorder : Sp := fun vs H Q _ => ∃ (N : Addr → Prop) (v : V) (d : PyData) (S : Spc), vs = [v] ∧ Dq N H v d ∧ norm d = nS S ∧ Good S ∧ 1 ≤ S.length ∧ S.length < 40 ∧
  ∀ H' l xs, Same H H' → H l = none → H' l = some (.lst xs) → Paired (FcAt H') xs (freeL S (4 * S.length)) → Q (.ref l) H'
theorem okborder {f fS : Addr} {fd fdS : FuncData} (F : Fun K "border" "border" sborder f fd) (Fspace_of : Fun K "space_of" "space_of" sspace_of fS fdS) (gspace_of : mg "space_of" = some (.ref fS)) (bspace_of : Binds K fdS ["blocks"] []) (Gspace_of : FnOk P w K mg base CX0 6 fS fdS ["blocks"] spSpace)
    (m_range : mg "range" = none) (m_len : mg "len" = none) : FnOk P w K mg base CX0 7 f fd ["space"] spBorder := by
  refine F.ok scborder (fun vs H Q E h => ?_) (fun cdv A outer s H vs Q E hr h => ?_)
  · obtain ⟨N, v, d, S, rfl, _⟩ := h
    rfl
  · obtain ⟨N, v, d, S, rfl, hd, hn, hG, h1, h2, q⟩ := h
    have nd := scborder.nd
    refine ⟨_, (pss_cons (ps_set (i := 1) nd rfl (.inr rfl) (pe_call Gspace_of (hr.mono (by first | decide | omega)) (by rfl) gspace_of Fspace_of.kp bspace_of .nil pass0 (pa_cons (pv 0) pa_nil)))
      (pss_one (ps_ret (pe_lc2 (own := [("block", 2), ("face", 3)]) (vs1 := [3]) rfl nd (pi_range1 (by rfl) m_range (pa_cons (pe_callB (kLen K rfl) (by rfl) m_len (by decide +kernel) (pa_cons (pv 1) pa_nil)) pa_nil)) (blkOk_by (own := [("block", 2), ("face", 3)]) (N := Nborder) (sc := defScope sborder) (by decide +kernel)) (by decide) (fun _ _ _ _ _ => (pg_name (i := 2) nd rfl (Or.inl rfl))) (fun _ _ _ _ _ => pts_nil) (fun _ _ _ _ _ => (pi_range1 (by rfl) m_range (pa_cons pe_int pa_nil))) (fun _ _ _ _ _ => (pg_name (i := 3) nd rfl (Or.inl rfl))) (fun _ _ _ _ _ => (pts_one (pt_cmpR op_isN (pe_ix (kIxT K rfl) (pe_ix (kIxT K rfl) (pv 1) (pv 2) (fun _ _ => rfl)) (pv 3) (fun _ _ => rfl)) pe_non (nomark _)))) (fun _ _ _ _ _ => (pe_tupF (pa_cons (pv 2) (pa_cons (pv 3) pa_nil)))))))), ?_⟩
    refine ⟨v, rfl, N, v, d, S, rfl, hd, hn, hG, h1, by omega, fun H1 u s1 st1 => ?_⟩
    obtain ⟨p, rs, rfl, fp, hb⟩ := id st1
    have lrs := plen hb
    refine ⟨.ref p, rfl, p, rs, rfl, .inr fp.sqt, (rs.length : Int), rfl, by omega, by omega, fun D nD => ?_⟩
    refine out_range (lo := 0) (n := ((rs.length : Int)).toNat) (fun i H2 => ∃ xs, H2 D = some (.lst xs) ∧ Paired (FcAt H2) xs (freeL S (4 * i)) ∧ Same H1 H2) ⟨[], upd_same, .nil, same_new nD⟩ ?_ ?_
    · rintro b H2 hb2 ⟨xs, h2', p2, s2⟩
      rw [Int.zero_add]
      have hbr : b < S.length := by omega
      refine ⟨rfl, 4, rfl, by decide, by decide, ?_⟩
      refine out_range (lo := 0) (n := 4) (fun j H3 => ∃ xs, H3 D = some (.lst xs) ∧ Paired (FcAt H3) xs (freeL S (4 * b + j)) ∧ Same H1 H3) ⟨xs, h2', p2, s2⟩ ?_ ?_
      · rintro f H3 hf ⟨xs, h3, p3, s3⟩
        rw [Int.zero_add]
        obtain ⟨j, hj⟩ := hG.l4.get hbr hf
        obtain ⟨p', rs', q', vs', x, ep, g1, g2, g3, g4, g5⟩ := (st1.mono s3.tups).face hj
        cases ep
        refine ⟨rfl, .ref p, rfl, intV b, rfl, p, rs', b, .ref q', rfl, rfl, g1.sqt, atI_nat g2, intV f, rfl, q', vs', f, x, rfl, rfl, g3.sqt, atI_nat g4, rfl, ?_⟩
        rw [g5.isN]
        have eF : isFr S (4 * b + f) = j.isNone := by
          unfold isFr
          rw [show (4 * b + f) / 4 = b by omega, show (4 * b + f) % 4 = f by omega, hj]
          cases j <;> rfl
        have fl := freeL_succ S (4 * b + f)
        rw [eF, show (4 * b + f) / 4 = b by omega, show (4 * b + f) % 4 = f by omega] at fl
        have lx := plen p3
        have l3 := freeL_len S (4 * b + f)
        refine ⟨_, rfl, ite2 (fun e => ?_) (fun e => ?_)⟩
        · rw [if_pos e] at fl
          refine ⟨intV b, rfl, intV f, rfl, Nat.le_of_lt (small1000 (by show 2 ≤ 1000; decide)), fun t o nt dt => ?_⟩
          have s4 : Same H3 (upd H3 t (.frz o (.tup [intV b, intV f]))) := same_new nt
          have f4 : FT (upd H3 t (.frz o (.tup [intV b, intV f]))) t [intV b, intV f] := FT.new dt
          generalize upd H3 t (.frz o (.tup [intV b, intV f])) = H4 at s4 f4 ⊢
          have h4 := s4 _ _ h3
          refine ⟨xs, h4, small1000 (by omega), xs ++ [.ref t], upd_same, ?_, same_fill (s3.trans s4) nD⟩
          rw [← Nat.add_assoc, fl]
          exact papp (pmono p3 fun _ _ z => z.mono (s4.tups.trans (tups_set h4))) (.cons ⟨t, rfl, f4.mono (tups_set h4)⟩ .nil)
        · rw [if_neg e, List.append_nil] at fl
          exact ⟨xs, h3, by rw [← Nat.add_assoc, fl]; exact p3, s3⟩
      · rintro H3 ⟨xs, h3, p3, s3⟩
        exact ⟨xs, h3, p3, s3⟩
    · rintro H2 ⟨xs, h2', p2, s2⟩
      rw [Int.toNat_natCast, lrs] at p2
      exact q H2 D xs (s1.trans s2) (s1.free nD) h2' p2
end
end Bk

namespace Bk
open PySem PySem.Spec PyProof.Rows L2 RZ
local macro_rules | `(tactic| walk_at "g") => `(tactic| (repeat first | refine ⟨_, rfl, ?_⟩ | refine ⟨cpow, ?_⟩ | refine ⟨wideM, ?_⟩ | refine ⟨_, _, rfl, rfl, ?_⟩ | refine ⟨rfl, ?_⟩))
/-- how many earlier corners, below e, go beyond the late one -/
def invL (t : Trn) (l : Nat) (e : Nat) : Nat := ((List.range e).filter fun k => decide (tf t l < tf t k)).length
def invT (t : Trn) : Nat → Nat
  | 0 => 0
  | l + 1 => invT t l + invL t l l
def oddT (t : Trn) : Bool := decide (invT t 4 % 2 = 1)
theorem invL_le (t : Trn) (l e : Nat) : invL t l e ≤ e := by
  unfold invL
  refine Nat.le_trans (List.length_filter_le _ _) ?_
  rw [List.length_range]
  exact Nat.le_refl _
theorem invL_succ (t : Trn) (l e : Nat) : invL t l (e + 1) = invL t l e + if tf t l < tf t e then 1 else 0 := by
  unfold invL
  rw [List.range_succ, List.filter_append, List.length_append]
  by_cases h : tf t l < tf t e
  · rw [if_pos h, List.filter_cons_of_pos (by simpa using h)]
    rfl
  · rw [if_neg h, List.filter_cons_of_neg (by simpa using h)]
    rfl
theorem lc_range2 {lo : Int} {n : Nat} {B : (Hp → Prop) → V → Hp → Prop} {H0 : Hp} {Qd : Hp → Prop} (Pv : Nat → Hp → Prop) (h0 : Pv 0 H0) (hs : ∀ i H, i < n → Pv i H → B (Pv (i + 1)) (.int (lo + i)) H) (hd : ∀ H, Pv n H → Qd H) :
    ∃ W : Nat → Nat → Hp → Prop, (∃ m, W 0 m H0) ∧ ∀ i m H, W i m H → ((Itr lo n).stop i H ∧ Qd H) ∨ ((Itr lo n).go i H ∧ ∃ Nx : Hp → Prop, (∀ H', Nx H' → ∃ m', m' < m ∧ W (i + 1) m' H') ∧ ∀ x H', (Itr lo n).yld i H x H' → B Nx x H') := by
  refine ⟨fun i m H => m = n - i ∧ i ≤ n ∧ Pv i H, ⟨n, rfl, Nat.zero_le _, h0⟩, ?_⟩
  rintro i m H ⟨rfl, hi, p⟩
  by_cases lt : i < n
  · refine .inr ⟨lt, Pv (i + 1), fun H' p' => ⟨n - (i + 1), by omega, rfl, lt, p'⟩, ?_⟩
    rintro x H' ⟨e, y⟩
    subst e y
    exact hs i _ lt p
  · obtain rfl : i = n := by omega
    exact .inl ⟨Nat.le_refl _, hd H p⟩
section
variable {P : Program} {w : World} {K : PySem.W.Frag} {mg : Str → Option Value} {base : Heap}
abbrev sis_odd : Stmt := topS 16
abbrev Nis_odd : List Str := ["turn", "late", "early"]
theorem scis_odd : FnScope Nis_odd ["turn"] (defScope sis_odd) := ⟨rfl, rfl, rfl, by decide +kernel, rfl, by decide +kernel, by decide +kernel⟩
abbrev sturn_sign : Stmt := topS 26
abbrev Nturn_sign : List Str := ["turn"]
theorem scturn_sign : FnScope Nturn_sign ["turn"] (defScope sturn_sign) := ⟨rfl, rfl, rfl, by decide +kernel, rfl, by decide +kernel, by decide +kernel⟩
def spIsOdd : Sp := fun vs H Q _ => ∃ (q : Addr) (t : Trn), vs = [.ref q] ∧ FT H q (trnV t) ∧ t ∈ allTurns ∧ ∀ H', Same H H' → Q (.bl (oddT t)) H'
theorem okis_odd {f : Addr} {fd : FuncData} (F : Fun K "is_odd" "is_odd" sis_odd f fd) (m_range : mg "range" = none) (m_len : mg "len" = none) : FnOk P w K mg base CX0 1 f fd ["turn"] spIsOdd := by
  refine F.ok scis_odd (fun vs H Q E h => ?_) (fun cdv A outer s H vs Q E hr h => ?_)
  · obtain ⟨q, t, rfl, _⟩ := h
    rfl
  · obtain ⟨tq, t, rfl, ft, ht, q⟩ := h
    have nd := scis_odd.nd
    refine ⟨_, (pss_one (ps_ret (pe_cmpR op_eq (pe_op op_modN (pe_callB (kLen K rfl) (by rfl) m_len (by decide +kernel) (pa_cons (pe_lc2 (own := [("late", 1), ("early", 2)]) (vs1 := [2]) rfl nd (pi_range1 (by rfl) m_range (pa_cons pe_int pa_nil)) (blkOk_by (own := [("late", 1), ("early", 2)]) (N := Nis_odd) (sc := defScope sis_odd) (by decide +kernel)) (by decide) (fun _ _ _ _ _ => (pg_name (i := 1) nd rfl (Or.inl rfl))) (fun _ _ _ _ _ => pts_nil) (fun _ _ _ _ _ => (pi_range1 (by rfl) m_range (pa_cons (pv 1) pa_nil))) (fun _ _ _ _ _ => (pg_name (i := 2) nd rfl (Or.inl rfl))) (fun _ _ _ _ _ => (pts_one (pt_cmpR op_gt (pe_ix (kIxT K rfl) (pv 0) (pv 2) (fun _ _ => rfl)) (pe_ix (kIxT K rfl) (pv 0) (pv 1) (fun _ _ => rfl)) (nomark _)))) (fun _ _ _ _ _ => pe_int)) pa_nil)) pe_int) pe_int (nomark _)))), ?_⟩
    have tl : ∀ k, k < 4 → (trnV t)[k]? = some (intV (tf t k)) := fun k hk => by
      unfold trnV
      rw [List.getElem?_map, (tf_lt t ht k hk).2]
      rfl
    have bd : ∀ l, invT t l ≤ l * l := by
      intro l
      induction l with
      | zero => exact Nat.le_refl _
      | succ l ih =>
        show invT t l + invL t l l ≤ _
        have := invL_le t l l
        rw [Nat.add_mul, Nat.mul_add]
        omega
    refine ⟨4, rfl, by decide, by decide, fun D nD => ?_⟩
    refine lc_range2 (lo := 0) (n := 4) (fun l H1 => H1 = upd H D (.lst (List.replicate (invT t l) (.int 1)))) rfl ?_ ?_
    · rintro l H1 hl rfl
      rw [Int.zero_add]
      refine ⟨rfl, .int (l : Int), rfl, (l : Int), rfl, by omega, by omega, ?_⟩
      rw [Int.toNat_natCast]
      refine lc_range2 (lo := 0) (n := l) (fun e H2 => H2 = upd H D (.lst (List.replicate (invT t l + invL t l e) (.int 1)))) rfl ?_ ?_
      · rintro e H2 he rfl
        rw [Int.zero_add]
        have s2 : Same H (upd H D (.lst (List.replicate (invT t l + invL t l e) (.int 1)))) := same_new nD
        have b1 := bd l
        have b2 := invL_le t l e
        have b3 : l * l ≤ 3 * 3 := Nat.mul_le_mul (by omega) (by omega)
        have sc := invL_succ t l e
        refine ⟨rfl, .ref tq, rfl, .int (e : Int), rfl, tq, trnV t, e, intV (tf t e), rfl, rfl, (ft.mono s2.tups).sqt, atI_nat (tl e (by omega)), .ref tq, rfl, .int (l : Int), rfl, tq, trnV t, l, intV (tf t l), rfl, rfl, (ft.mono s2.tups).sqt, atI_nat (tl l hl), _, _, rfl, rfl, _, rfl, ?_⟩
        refine ite2 (fun z => ?_) (fun z => ?_)
        · have z : tf t l < tf t e := by
            have := of_decide_eq_true (p := ((tf t l : Nat) : Int) < ((tf t e : Nat) : Int)) z
            omega
          rw [if_pos z] at sc
          refine ⟨_, upd_same, small1000 (by rw [List.length_replicate]; omega), ?_⟩
          rw [upd_upd, sc, ← Nat.add_assoc, List.replicate_succ']
        · have z : ¬ tf t l < tf t e := fun y => z (decide_eq_true (p := ((tf t l : Nat) : Int) < ((tf t e : Nat) : Int)) (by omega))
          rw [if_neg z] at sc
          show upd H D _ = upd H D (.lst (List.replicate (invT t l + invL t l (e + 1)) (.int 1)))
          rw [sc, Nat.add_zero]
      · rintro H2 rfl
        rfl
    · rintro H1 rfl
      refine ⟨D, _, rfl, .inl (.inl (.inl upd_same)), ?_⟩
      rw [List.length_replicate]
      walk_at "g"
      refine ⟨(show (2 : Int) ≠ 0 by decide), rfl, ?_⟩
      have e : decide (V.int ((invT t 4 : Int).fmod 2) = V.int 1) = oddT t := by
        unfold oddT
        rw [Int.fmod_eq_emod_of_nonneg _ (by decide)]
        refine decide_eq_decide.mpr ⟨fun z => ?_, fun z => ?_⟩
        · injection z with z
          omega
        · exact congrArg V.int (by omega)
      have z := q _ (same_new (o := .lst (List.replicate (invT t 4) (.int 1))) nD)
      rw [← e] at z
      exact z
def sgT (t : Trn) : Int := if oddT t = true then 1 else -1
def spTurnSign : Sp := fun vs H Q _ => ∃ (q : Addr) (t : Trn), vs = [.ref q] ∧ FT H q (trnV t) ∧ t ∈ allTurns ∧ ∀ H', Same H H' → Q (.int (sgT t)) H'
theorem okturn_sign {f fO : Addr} {fd fdO : FuncData} (F : Fun K "turn_sign" "turn_sign" sturn_sign f fd) (Fis_odd : Fun K "is_odd" "is_odd" sis_odd fO fdO) (gis_odd : mg "is_odd" = some (.ref fO)) (bis_odd : Binds K fdO ["turn"] []) (Gis_odd : FnOk P w K mg base CX0 1 fO fdO ["turn"] spIsOdd) : FnOk P w K mg base CX0 2 f fd ["turn"] spTurnSign := by
  refine F.ok scturn_sign (fun vs H Q E h => ?_) (fun cdv A outer s H vs Q E hr h => ?_)
  · obtain ⟨q, t, rfl, _⟩ := h
    rfl
  · obtain ⟨tq, t, rfl, ft, ht, q⟩ := h
    have nd := scturn_sign.nd
    refine ⟨_, (pss_one (ps_ret (pe_ifExp (pt_val (pe_call Gis_odd (hr.mono (by first | decide | omega)) (by rfl) gis_odd Fis_odd.kp bis_odd .nil pass0 (pa_cons (pv 0) pa_nil))) pe_int (pe_un un_neg pe_int)))), ?_⟩
    refine ⟨.ref tq, rfl, tq, t, rfl, ft, ht, fun H1 s1 => ⟨_, rfl, ?_⟩⟩
    have z := q H1 s1
    unfold sgT at z
    refine ite2 (fun e => ?_) (fun e => ?_)
    · rw [if_pos e] at z
      exact z
    · rw [if_neg e] at z
      exact ⟨_, rfl, z⟩
end
end Bk

namespace Bk
open PySem PySem.Spec PyProof.Rows L2 RZ
local macro_rules | `(tactic| walk_at "g") => `(tactic| (repeat first | refine ⟨_, rfl, ?_⟩ | refine ⟨cpow, ?_⟩ | refine ⟨wideM, ?_⟩ | refine ⟨_, _, rfl, rfl, ?_⟩ | refine ⟨rfl, ?_⟩))
theorem valV_someT {κ : Type} [DecidableEq κ] {kvs : List (κ × V)} {k : κ} (h : k ∈ kvs.map (·.1)) : ∃ v, valV kvs k = some v ∧ (k, v) ∈ kvs := by
  induction kvs with
  | nil => cases h
  | cons q r ih =>
    by_cases e : q.1 = k
    · refine ⟨q.2, valV_pos e, ?_⟩
      rw [← e]
      exact List.mem_cons_self
    · rw [valV_neg e]
      rw [List.map_cons, List.mem_cons] at h
      obtain ⟨v, h1, h2⟩ := ih (h.resolve_left fun z => e z.symm)
      exact ⟨v, h1, List.mem_cons_of_mem _ h2⟩
/-- how much stands there -/
def lenOT : Option HO → Nat
  | some (.lst xs) => xs.length
  | some (.dK kvs) => kvs.length
  | some (.dT kvs) => kvs.length
  | _ => 0
def lenAtT (H : Hp) : Option (Option V) → Nat
  | some (some (.ref a)) => lenOT (H a)
  | _ => 0
theorem lenAt_lstT {H : Hp} {a : Addr} {xs : List V} (h : H a = some (.lst xs)) : lenAtT H (some (some (.ref a))) = xs.length := by
  show lenOT (H a) = _
  rw [h]
  rfl
theorem lenAt_dicT {M : Mo} {H : Hp} {a : Addr} {kvs : List (Nat × V)} (h : H a = some (M.obj kvs)) : lenAtT H (some (some (.ref a))) = kvs.length := by
  show lenOT (H a) = _
  rw [h]
  unfold Mo.obj
  split
  · exact List.length_map _
  · exact List.length_map _
theorem psnocT {α β : Type} {F : α → β → Prop} : ∀ {xs : List α} {ys : List β} {y : β}, Paired F xs (ys ++ [y]) → ∃ xs' x, xs = xs' ++ [x] ∧ Paired F xs' ys ∧ F x y
  | _, [], _, .cons r .nil => ⟨[], _, rfl, .nil, r⟩
  | _, _ :: ys, _, .cons r t => by
    obtain ⟨xs', x, e, h1, h2⟩ := psnocT (ys := ys) t
    exact ⟨_ :: xs', x, by rw [e]; rfl, .cons r h1, h2⟩
theorem rch_roomT {lk : Nat → List Nat} {ts : List Nat} {a x : Nat} {done row wait : List Nat} (h : RchIn lk ts a x done row wait) (hts : ts.Nodup) : row.length ≤ ts.length := nodup_len h.nd hts h.sub
/-! ### ties, and signs for the things -/
def TkAt (H : Hp) (v : V) (p : Nat × Int) : Prop := ∃ b, v = .ref b ∧ FT H b [intV p.1, .int p.2]
theorem TkAt.mono {H H' : Hp} {v : V} {p : Nat × Int} (h : TkAt H v p) (m : Tups H H') : TkAt H' v p := by
  obtain ⟨b, e, f⟩ := h
  exact ⟨b, e, f.mono m⟩
/-- for each thing those that it is tied to, each with its sign -/
def TieAt (H : Hp) (d : Addr) (ts : List Nat) (tk : Nat → List (Nat × Int)) : Prop := ∃ kvs : List (Nat × V), Rd H d (moI.obj kvs) ∧ kvs.map (·.1) = ts ∧ ∀ q ∈ kvs, ∃ a vs, q.2 = .ref a ∧ H a = some (.lst vs) ∧ Paired (TkAt H) vs (tk q.1)
def sgK (ks : List Nat) (f : Nat → Int) : List (Nat × V) := ks.map fun n => (n, V.int (f n))
def sgO (ks : List Nat) (f : Nat → Int) : HO := moI.obj (sgK ks f)
theorem sgK_keys (ks : List Nat) (f : Nat → Int) : (sgK ks f).map (·.1) = ks := by
  unfold sgK
  rw [List.map_map]
  exact List.map_id _
theorem sgK_get {ks : List Nat} {f : Nat → Int} {n : Nat} (h : n ∈ ks) : valV (sgK ks f) n = some (.int (f n)) := by
  induction ks with
  | nil => cases h
  | cons k ks ih =>
    by_cases e : k = n
    · subst e
      exact valV_pos rfl
    · show valV ((k, V.int (f k)) :: sgK ks f) n = _
      rw [valV_neg e]
      exact ih ((List.mem_cons.mp h).resolve_left fun z => e z.symm)
theorem sgK_none {ks : List Nat} {f : Nat → Int} {n : Nat} (h : n ∉ ks) : valV (sgK ks f) n = none := by
  cases e : valV (sgK ks f) n with
  | none => rfl
  | some v =>
    have := valV_in e
    rw [sgK_keys] at this
    exact absurd this h
def putF (f : Nat → Int) (n : Nat) (s : Int) : Nat → Int := fun x => if x = n then s else f x
theorem sgK_put {ks : List Nat} {f : Nat → Int} {n : Nat} {s : Int} (h : n ∉ ks) : putK (sgK ks f) n (.int s) = sgK (ks ++ [n]) (putF f n s) := by
  rw [putK_new _ (sgK_none h)]
  unfold sgK
  rw [List.map_append]
  have e1 : (ks.map fun x => (x, V.int (f x))) = ks.map fun x => (x, V.int (putF f n s x)) := List.map_congr_left fun x hx => by
    unfold putF
    rw [if_neg (fun z => h (by rw [← z]; exact hx))]
  have e2 : [(n, V.int s)] = [n].map fun x => (x, V.int (putF f n s x)) := by
    show [(n, V.int s)] = [(n, V.int (putF f n s n))]
    unfold putF
    rw [if_pos rfl]
  rw [e1, e2]
theorem sg_get {H : Hp} {g : Addr} {ks : List Nat} {f : Nat → Int} (h : H g = some (sgO ks f)) (n : Nat) : DGet H g (intV n) (valV (sgK ks f) n) := by
  have e := DGet.k (k := (Sum.inl (n : Int) : L2.Key)) (show H g = some (.dK ((sgK ks f).map fun q => (Sum.inl (q.1 : Int), q.2))) from h)
  rw [valV_map_key (f := fun m : Nat => (Sum.inl (m : Int) : L2.Key)) fun q hq z => by injection z with z; omega] at e
  exact e
theorem sg_put {H : Hp} {g : Addr} {ks : List Nat} {f : Nat → Int} (h : H g = some (sgO ks f)) {n : Nat} {s : Int} (hn : n ∉ ks) (l : ks.length ≤ 900) : DPut H g (intV n) (.int s) (upd H g (sgO (ks ++ [n]) (putF f n s))) := by
  have e := DPut.k (k := (Sum.inl (n : Int) : L2.Key)) (v := .int s) (show H g = some (.dK ((sgK ks f).map fun q => (Sum.inl (q.1 : Int), q.2))) from h) (small1000 (by
    unfold sgK
    rw [List.length_map, List.length_map]
    omega))
  rw [putK_map_key (f := fun m : Nat => (Sum.inl (m : Int) : L2.Key)) fun q hq z => by injection z with z; omega, sgK_put hn] at e
  exact e
theorem TieAt.get {H : Hp} {d : Addr} {ts : List Nat} {tk : Nat → List (Nat × Int)} (h : TieAt H d ts tk) {n : Nat} (hn : n ∈ ts) : ∃ a vs, DGet H d (intV n) (some (.ref a)) ∧ H a = some (.lst vs) ∧ Paired (TkAt H) vs (tk n) := by
  obtain ⟨kvs, h1, h2, h3⟩ := h
  obtain ⟨x, e1, e2⟩ := valV_someT (kvs := kvs) (k := n) (by rw [h2]; exact hn)
  obtain ⟨a, vs, e, g1, g2⟩ := h3 _ e2
  refine ⟨a, vs, .inl ⟨_, (Sum.inl (n : Int) : L2.Key), h1, rfl, ?_⟩, g1, g2⟩
  rw [valV_map_key (f := fun m : Nat => (Sum.inl (m : Int) : L2.Key)) fun q hq z => by injection z with z; omega, e1]
  exact congrArg some e.symm
/-- all but one object stand -/
def But (g : Addr) (H H' : Hp) : Prop := ∀ b o, b ≠ g → H b = some o → H' b = some o
def stepR (tk : Nat → List (Nat × Int)) : Nat × Int → Nat × Int → Prop := fun p q => ∃ t, (q.1, t) ∈ tk p.1 ∧ q.2 = p.2 * t
theorem TieAt.but {H H' : Hp} {d g : Addr} {ts ks : List Nat} {tk : Nat → List (Nat × Int)} {f : Nat → Int} (h : TieAt H d ts tk) (b : But g H H') (n : d ≠ g) (hg : H g = some (sgO ks f)) : TieAt H' d ts tk := by
  obtain ⟨kvs, h1, h2, h3⟩ := h
  refine ⟨kvs, h1.imp (fun z => b _ _ n z) (fun ⟨o, z⟩ => ⟨o, b _ _ n z⟩), h2, fun q hq => ?_⟩
  obtain ⟨a, vs, e, g1, g2⟩ := h3 q hq
  refine ⟨a, vs, e, b _ _ (ne_of g1 hg fun z => by cases z) g1, pmono g2 fun v p z => ?_⟩
  obtain ⟨c, e, o, g3, g4⟩ := z
  exact ⟨c, e, o, g3, b _ _ (ne_of g4 hg fun z => by cases z) g4⟩
theorem TieAt.get2 {H H' : Hp} {d g : Addr} {ts ks : List Nat} {tk : Nat → List (Nat × Int)} {f : Nat → Int} (h : TieAt H d ts tk) (b : But g H H') (n : d ≠ g) (hg : H g = some (sgO ks f)) {x : Nat} (hx : x ∈ ts) :
    ∃ a vs, DGet H' d (intV x) (some (.ref a)) ∧ H a = some (.lst vs) ∧ H' a = some (.lst vs) ∧ Paired (TkAt H) vs (tk x) := by
  obtain ⟨kvs, h1, h2, h3⟩ := id h
  obtain ⟨y, e1, e2⟩ := valV_someT (kvs := kvs) (k := x) (by rw [h2]; exact hx)
  obtain ⟨a, vs, e, g1, g2⟩ := h3 _ e2
  refine ⟨a, vs, .inl ⟨_, (Sum.inl (x : Int) : L2.Key), h1.imp (fun z => b _ _ n z) (fun ⟨o, z⟩ => ⟨o, b _ _ n z⟩), rfl, ?_⟩, g1, b _ _ (ne_of g1 hg fun z => by cases z) g1, g2⟩
  rw [valV_map_key (f := fun m : Nat => (Sum.inl (m : Int) : L2.Key)) fun q hq z => by injection z with z; omega, e1]
  exact congrArg some e.symm
def One (s : Int) : Prop := s = 1 ∨ s = -1
theorem One.mul {s t : Int} (h : One s) (g : One t) : One (s * t) := by
  rcases h with rfl | rfl <;> rcases g with rfl | rfl
  · exact .inl rfl
  · exact .inr rfl
  · exact .inr rfl
  · exact .inl rfl
theorem But.fill {g p : Addr} {H H' : Hp} {o : HO} (b : But g H H') (n : H p = none) : But g H (upd H' p o) := fun c u hc e => by
  rw [upd_ne (fun z => by
    rw [z, n] at e
    cases e)]
  exact b c u hc e
theorem But.own {g : Addr} {H H' : Hp} {o : HO} (b : But g H H') : But g H (upd H' g o) := fun c u hc e => by
  rw [upd_ne hc]
  exact b c u hc e
section
variable {P : Program} {w : World} {K : PySem.W.Frag} {mg : Str → Option Value} {base : Heap}
abbrev s_spread : Stmt := topS 4
abbrev N_spread : List Str := ["first", "ties", "signs", "waiting", "thing", "other", "tie"]
theorem sc_spread : FnScope N_spread ["first", "ties", "signs"] (defScope s_spread) := ⟨rfl, rfl, rfl, by decide +kernel, rfl, by decide +kernel, by decide +kernel⟩
def spSpread : Sp := fun vs H Q _ => ∃ (a : Nat) (d g : Addr) (ts ks : List Nat) (tk : Nat → List (Nat × Int)) (f : Nat → Int), vs = [intV a, .ref d, .ref g] ∧ d ≠ g ∧ TieAt H d ts tk ∧ H g = some (sgO ks f) ∧ a ∈ ks ∧ ks.Nodup ∧ (∀ x ∈ ks, x ∈ ts) ∧ ts.Nodup ∧ ts.length < 64 ∧ (∀ x ∈ ts, (tk x).length ≤ 4 ∧ ∀ p ∈ tk x, p.1 ∈ ts ∧ One p.2) ∧ (∀ x ∈ ks, One (f x)) ∧ (∀ x ∈ ks, x ≠ a → ∀ p ∈ tk x, p.1 ∈ ks) ∧
  ∀ H' ks' f', But g H H' → H' g = some (sgO ks' f') → ks'.Nodup → (∀ x ∈ ks, x ∈ ks' ∧ f' x = f x) → (∀ x ∈ ks', x ∈ ts ∧ One (f' x)) → (∀ x ∈ ks', x ∉ ks → Hang (stepR tk) (a, f a) (x, f' x)) → (∀ x ∈ ks', ∀ p ∈ tk x, p.1 ∈ ks') → Q .non H'
theorem ok_spread {f : Addr} {fd : FuncData} (F : Fun K "_spread" "_spread" s_spread f fd) : FnOk P w K mg base CX0 1 f fd ["first", "ties", "signs"] spSpread := by
  refine F.ok sc_spread (fun vs H Q E h => ?_) (fun cdv A outer s H vs Q E hr h => ?_)
  · obtain ⟨a, d, g, ts, ks, tk, f, rfl, _⟩ := h
    rfl
  · obtain ⟨a, d, g, ts, ks, tk, f, rfl, hdg, hT, hg, hak, hkn, hkt, htn, htl, hcl, hon, hdn, q⟩ := h
    have nd := sc_spread.nd
    refine ⟨_, (pss_cons (ps_set (i := 3) nd rfl (.inl rfl) (pe_lst (pa_cons (pv 0) pa_nil)))
      (pss_one (ps_while PassesOwn.never (pt_truth (pv 3) (by intro _; rfl)) (pss_cons (ps_set (i := 4) nd rfl (.inl rfl) (kBM0 K rfl (pe_bm0 PySem.F.plainAttrs_list PySem.F.slot_list_pop PySem.F.type_list_pop mt_pop (pv 3))))
      (pss_one (ps_for PassesOwn.never rfl (kPiL K rfl (pi_list (pe_dget (hu_of hr) (pv 1) (pv 4) (fun _ _ => rfl)))) (kPgT K rfl (pg_tup (n := 2) rfl (pgs_cons (pg_name (i := 5) nd rfl (.inl rfl)) (pgs_cons (pg_name (i := 6) nd rfl (.inl rfl)) pgs_nil)))) (pss_one (ps_if (pt_cmp (pc_dnotin (hu_of hr) (pv 5) (pv 2))) (pss_cons (ps_dput (hu_of hr) (pv 2) (pv 5) (pe_op op_mul (pe_dget (hu_of hr) (pv 2) (pv 4) (fun _ _ => rfl)) (pv 6)) rfl)
      (pss_one (ps_expr (kBM K rfl (pe_bm PySem.F.plainAttrs_list PySem.F.slot_list_append PySem.F.type_list_append mt_append (pv 3) (pa_cons (pv 5) pa_nil)))))) pss_nil)))))))), ?_⟩
    refine ⟨intV a, rfl, Nat.le_of_lt (small1000 (by show 1 ≤ 1000; decide)), fun wt nwt => ?_⟩
    have s1 : Same H (upd H wt (.lst [intV a])) := same_new nwt
    have w1 : (upd H wt (.lst [intV a])) wt = some (.lst [intV a]) := upd_same
    generalize upd H wt (.lst [intV a]) = H1 at s1 w1 ⊢
    have gw : g ≠ wt := ne_of_none hg nwt
    have kl : ∀ {ks' : List Nat}, ks'.Nodup → (∀ x ∈ ks', x ∈ ts) → ks'.length ≤ ts.length := fun n s => nodup_len n htn s
    dsimp only [gName, tSeq]
    refine while_by (fun σ H4 => ∃ y4 y5 y6 ws ks' f', σ = [some (intV a), some (.ref d), some (.ref g), some (.ref wt), y4, y5, y6] ∧ H4 g = some (sgO ks' f') ∧ H4 wt = some (.lst (ws.map intV)) ∧ ks'.Nodup ∧ (∀ x ∈ ks, x ∈ ks' ∧ f' x = f x) ∧ (∀ x ∈ ks', x ∈ ts ∧ One (f' x)) ∧ (∀ x ∈ ks', x ∉ ks → Hang (stepR tk) (a, f a) (x, f' x)) ∧
        (∀ x ∈ ws, x ∈ ks' ∧ Hang (stepR tk) (a, f a) (x, f' x)) ∧ (∀ x ∈ ks', x ∉ ws → ∀ p ∈ tk x, p.1 ∈ ks') ∧ But g H H4 ∧ 2 * (ts.length - ks'.length) + ws.length ≤ 2 * ts.length + 1)
      (fun σ H4 => 2 * (ts.length - lenAtT H4 σ[2]?) + lenAtT H4 σ[3]?) ⟨_, _, _, [a], ks, f, rfl, s1 _ _ hg, w1, hkn, fun x hx => ⟨hx, rfl⟩, fun x hx => ⟨hkt x hx, hon x hx⟩, fun x h1 h2 => absurd h1 h2, fun x hx => by rw [List.mem_singleton.mp hx]; exact ⟨hak, .rfl _⟩, fun x h1 h2 => hdn x h1 fun z => h2 (List.mem_singleton.mpr z), fun b o _ e => s1 _ _ e, by show _ + 1 ≤ _; omega⟩ ?_ ?_
    · rintro σ H4 ⟨y4, y5, y6, ws, ks', f', rfl, g4, k4, n4, o4, t4, p4, w4, c4, b4, m4⟩
      refine ⟨.ref wt, rfl, !(ws.map intV).isEmpty, .inl ⟨_, .inl (.inl k4), rfl⟩, ?_⟩
      cases hw : ws with
      | nil =>
        subst hw
        refine iteF ?_
        exact q H4 ks' f' b4 g4 n4 o4 t4 p4 fun x hx => c4 x hx List.not_mem_nil
      | cons w0 wr =>
        have hne : ws ≠ [] := by rw [hw]; exact List.cons_ne_nil _ _
        have hwe : ws = ws.dropLast ++ [ws.getLast hne] := (List.dropLast_concat_getLast hne).symm
        refine iteT ?_
        clear hw
        generalize ws.dropLast = w1' at hwe
        generalize ws.getLast hne = th at hwe
        subst hwe
        rw [List.map_append] at k4
        have k4 : H4 wt = some (.lst (w1'.map intV ++ [intV th])) := k4
        have get1 : (w1'.map intV ++ [intV th])[(w1'.map intV ++ [intV th]).length - 1]? = some (intV th) := by
          rw [List.length_append, show (w1'.map intV).length + [intV th].length - 1 = (w1'.map intV).length from rfl, List.getElem?_append_right (Nat.le_refl _), Nat.sub_self]
          rfl
        refine ⟨.ref wt, rfl, .inl ⟨rfl, _, .inl (.inl k4)⟩, wt, _, intV th, rfl, rfl, k4, get1, ?_⟩
        rw [List.dropLast_concat]
        obtain ⟨thk, thp⟩ := w4 th (List.mem_append_right _ (List.mem_singleton.mpr rfl))
        have tht := (t4 th thk).1
        have m4g : lenAtT H4 (some (some (.ref g))) = ks'.length := by
          rw [lenAt_dicT (M := moI) g4]
          exact List.length_map _
        have m4w : lenAtT H4 (some (some (.ref wt))) = w1'.length + 1 := by
          rw [lenAt_lstT k4, List.length_append, List.length_map]
          rfl
        have b5 : But g H (upd H4 wt (.lst (w1'.map intV))) := b4.fill nwt
        have g5 : (upd H4 wt (.lst (w1'.map intV))) g = some (sgO ks' f') := by
          rw [upd_ne gw]
          exact g4
        have k5 : (upd H4 wt (.lst (w1'.map intV))) wt = some (.lst (w1'.map intV)) := upd_same
        generalize upd H4 wt (.lst (w1'.map intV)) = H5 at b5 g5 k5 ⊢
        obtain ⟨la, lvs, dg, hla0, hla, pla⟩ := hT.get2 b5 hdg hg tht
        have law : la ≠ wt := ne_of_none hla0 nwt
        have lag : la ≠ g := ne_of hla0 hg fun z => by cases z
        have mm : w1'.length + 1 + 2 * (ts.length - ks'.length) ≤ 2 * ts.length + 1 := by
          have : (w1' ++ [th]).length = w1'.length + 1 := by rw [List.length_append]; rfl
          omega
        refine ⟨.ref d, rfl, intV th, rfl, d, .ref la, rfl, dg, la, rfl, ⟨_, .inl (.inl hla)⟩, ?_⟩
        refine for_list (xs := lvs) (fun j σ H6 => ∃ y5 y6 ws2 ks2 f2, σ = [some (intV a), some (.ref d), some (.ref g), some (.ref wt), some (intV th), y5, y6] ∧ H6 g = some (sgO ks2 f2) ∧ H6 wt = some (.lst (ws2.map intV)) ∧ ks2.Nodup ∧ (∀ x ∈ ks', x ∈ ks2 ∧ f2 x = f' x) ∧ (∀ x ∈ ks2, x ∈ ts ∧ One (f2 x)) ∧ (∀ x ∈ ks2, x ∉ ks → Hang (stepR tk) (a, f a) (x, f2 x)) ∧
            (∀ x ∈ ws2, x ∈ ks2 ∧ Hang (stepR tk) (a, f a) (x, f2 x)) ∧ (∀ x ∈ ks2, x ∉ ws2 → x ≠ th → ∀ p ∈ tk x, p.1 ∈ ks2) ∧ (∀ p ∈ (tk th).take j, p.1 ∈ ks2) ∧ (∀ x ∈ w1', x ∈ ws2) ∧ But g H H6 ∧ 2 * (ts.length - ks2.length) + ws2.length ≤ 2 * (ts.length - ks'.length) + w1'.length)
          ⟨y5, y6, w1', ks', f', rfl, g5, k5, n4, fun x hx => ⟨hx, rfl⟩, t4, p4, fun x hx => w4 x (List.mem_append_left _ hx), fun x h1 h2 h3 => c4 x h1 fun z => (List.mem_append.mp z).elim h2 fun z => h3 (List.mem_singleton.mp z), fun p hp => absurd hp List.not_mem_nil, fun x hx => hx, b5, Nat.le_refl _⟩ ?_ ?_ ?_
        · rintro j σ H6 _ ⟨_, _, _, _, _, rfl, _, _, _, _, _, _, _, _, _, _, b6, _⟩
          exact .inl (.inl (b6 _ _ lag hla0))
        · rintro j x σ H6 hx ⟨y5, y6, ws2, ks2, f2, rfl, g6, k6, n6, o6, t6, p6, w6, c6, d6, i6, b6, m6⟩
          obtain ⟨p, hp, c, rfl, o, g3, g4⟩ := pget' pla hx
          have fb : FT H6 c [intV p.1, .int p.2] := ⟨o, g3, b6 _ _ (ne_of g4 hg fun z => by cases z) g4⟩
          have pm : p ∈ tk th := List.mem_of_getElem? hp
          obtain ⟨pt, po⟩ := (hcl th tht).2 p pm
          have tkj : (tk th).take (j + 1) = (tk th).take j ++ [p] := by
            rw [List.take_add_one, hp]
            rfl
          refine ⟨c, [intV p.1, .int p.2], rfl, fb.sqt, rfl, _, _, rfl, _, _, rfl, rfl, ?_⟩
          refine ⟨intV p.1, rfl, .ref g, rfl, g, _, rfl, sg_get g6 p.1, _, rfl, ?_⟩
          by_cases hin : p.1 ∈ ks2
          · rw [sgK_get hin]
            refine iteF ⟨_, _, ws2, ks2, f2, rfl, g6, k6, n6, o6, t6, p6, w6, c6, fun x hx => ?_, i6, b6, m6⟩
            rw [tkj] at hx
            rcases List.mem_append.mp hx with hx | hx
            · exact d6 x hx
            · rw [List.mem_singleton.mp hx]
              exact hin
          · rw [sgK_none hin]
            refine iteT ?_
            have thk2 := o6 th thk
            have tho := (t6 th thk2.1).2
            have gth := sg_get g6 th
            rw [sgK_get thk2.1] at gth
            have fe : ∀ x ∈ ks2, putF f2 p.1 (f2 th * p.2) x = f2 x := fun x hx => by
              unfold putF
              rw [if_neg (fun z => hin (by rw [← z]; exact hx))]
            have fn : putF f2 p.1 (f2 th * p.2) p.1 = f2 th * p.2 := by
              unfold putF
              rw [if_pos rfl]
            have hp0 : Hang (stepR tk) (a, f a) (th, f2 th) := by rw [thk2.2]; exact thp
            have hp1 : Hang (stepR tk) (a, f a) (p.1, f2 th * p.2) := .step hp0 ⟨p.2, pm, rfl⟩
            have n3 : (ks2 ++ [p.1]).Nodup := by
              rw [List.nodup_append]
              exact ⟨n6, by simp, fun x h1 y h2 z => hin (by rw [← List.mem_singleton.mp h2, ← z]; exact h1)⟩
            have t3 : ∀ x ∈ ks2 ++ [p.1], x ∈ ts ∧ One (putF f2 p.1 (f2 th * p.2) x) := fun x hx => by
              rcases List.mem_append.mp hx with hx | hx
              · rw [fe x hx]
                exact t6 x hx
              · rw [List.mem_singleton.mp hx, fn]
                exact ⟨pt, tho.mul po⟩
            have l3 := kl n3 fun x hx => (t3 x hx).1
            rw [List.length_append, show [p.1].length = 1 from rfl] at l3
            have bo : -(2 ^ 64) < p.2 ∧ p.2 < 2 ^ 64 := by
              rcases po with e | e <;> rw [e] <;> exact ⟨by decide, by decide⟩
            refine ⟨.ref g, rfl, intV th, rfl, g, .int (f2 th), rfl, gth, .int p.2, rfl, _, _, rfl, rfl, .inr bo, ?_⟩
            refine ⟨.ref g, rfl, intV p.1, rfl, g, _, rfl, sg_put g6 hin (by omega), ?_⟩
            have g7 : (upd H6 g (sgO (ks2 ++ [p.1]) (putF f2 p.1 (f2 th * p.2)))) g = some (sgO (ks2 ++ [p.1]) (putF f2 p.1 (f2 th * p.2))) := upd_same
            have k7 : (upd H6 g (sgO (ks2 ++ [p.1]) (putF f2 p.1 (f2 th * p.2)))) wt = some (.lst (ws2.map intV)) := by
              rw [upd_ne gw.symm]
              exact k6
            have b7 : But g H (upd H6 g (sgO (ks2 ++ [p.1]) (putF f2 p.1 (f2 th * p.2)))) := b6.own
            generalize upd H6 g (sgO (ks2 ++ [p.1]) (putF f2 p.1 (f2 th * p.2))) = H7 at g7 k7 b7 ⊢
            refine ⟨.ref wt, rfl, .inl ⟨rfl, _, .inl (.inl k7)⟩, intV p.1, rfl, wt, _, _, rfl, rfl, k7, small1000 (by rw [List.length_map]; omega), ?_⟩
            refine ⟨_, _, ws2 ++ [p.1], ks2 ++ [p.1], putF f2 p.1 (f2 th * p.2), rfl, ?_, ?_, n3, fun x hx => ?_, t3, fun x hx hk => ?_, fun x hx => ?_, fun x hx hw hne => ?_, fun x hx => ?_, fun x hx => List.mem_append_left _ (i6 x hx), b7.fill nwt, ?_⟩
            · rw [upd_ne gw]
              exact g7
            · rw [upd_same, List.map_append]
              rfl
            · obtain ⟨z1, z2⟩ := o6 x hx
              exact ⟨List.mem_append_left _ z1, by rw [fe x z1]; exact z2⟩
            · rcases List.mem_append.mp hx with hx | hx
              · rw [fe x hx]
                exact p6 x hx hk
              · rw [List.mem_singleton.mp hx, fn]
                exact hp1
            · rcases List.mem_append.mp hx with hx | hx
              · obtain ⟨z1, z2⟩ := w6 x hx
                exact ⟨List.mem_append_left _ z1, by rw [fe x z1]; exact z2⟩
              · rw [List.mem_singleton.mp hx, fn]
                exact ⟨List.mem_append_right _ (List.mem_singleton.mpr rfl), hp1⟩
            · intro y hy
              rcases List.mem_append.mp hx with hx | hx
              · exact List.mem_append_left _ (c6 x hx (fun z => hw (List.mem_append_left _ z)) hne y hy)
              · exact absurd (List.mem_append_right _ hx) hw
            · rw [tkj] at hx
              rcases List.mem_append.mp hx with hx | hx
              · exact List.mem_append_left _ (d6 x hx)
              · rw [List.mem_singleton.mp hx]
                exact List.mem_append_right _ (List.mem_singleton.mpr rfl)
            · rw [List.length_append, List.length_append, show [p.1].length = 1 from rfl]
              omega
        · rintro σ H6 ⟨y5, y6, ws2, ks2, f2, rfl, g6, k6, n6, o6, t6, p6, w6, c6, d6, i6, b6, m6⟩
          rw [plen pla, List.take_length] at d6
          refine ⟨⟨_, _, _, ws2, ks2, f2, rfl, g6, k6, n6, fun x hx => ?_, t6, p6, w6, fun x hx hw => ?_, b6, by omega⟩, ?_⟩
          · obtain ⟨z1, z2⟩ := o4 x hx
            obtain ⟨z3, z4⟩ := o6 x z1
            exact ⟨z3, z4.trans z2⟩
          · by_cases e : x = th
            · rw [e]
              exact d6
            · exact c6 x hx hw e
          · have l6 := kl n6 fun x hx => (t6 x hx).1
            show 2 * (ts.length - lenAtT H6 (some (some (.ref g)))) + lenAtT H6 (some (some (.ref wt))) < 2 * (ts.length - lenAtT H4 (some (some (.ref g)))) + lenAtT H4 (some (some (.ref wt)))
            rw [m4g, m4w, lenAt_lstT k6, lenAt_dicT (M := moI) g6, List.length_map, show (sgK ks2 f2).length = ks2.length from List.length_map _]
            omega
    · rintro σ H4 Q1 Q2 m h
      obtain ⟨x, e, k, t, z⟩ := h
      exact ⟨x, e, k, t, m _ _ z⟩
end
end Bk

namespace Bk
open PySem PySem.Spec PyProof.Rows L2 RZ
local macro_rules | `(tactic| walk_at "g") => `(tactic| (repeat first | refine ⟨_, rfl, ?_⟩ | refine ⟨cpow, ?_⟩ | refine ⟨wideM, ?_⟩ | refine ⟨_, _, rfl, rfl, ?_⟩ | refine ⟨rfl, ?_⟩))
theorem nat_sortedT {a b : List Nat} (hp : a.Perm b) (ha : a.Pairwise (· ≤ ·)) (hb : b.Pairwise (· ≤ ·)) : a = b := hp.eq_of_pairwise (fun x y _ _ h1 h2 => Nat.le_antisymm h1 h2) ha hb
theorem iteND {c A B : Prop} [Decidable c] (h : ¬ c) (a : A) : if (!decide c) = true then A else B := by
  rw [decide_eq_false h]
  exact a
def TieO (H : Hp) (d : Addr) (ts : List Nat) (tk : Nat → List (Nat × Int)) : Prop := ∃ kvs : List (Nat × V), H d = some (moI.obj kvs) ∧ kvs.map (·.1) = ts ∧ ∀ q ∈ kvs, ∃ a vs, q.2 = .ref a ∧ H a = some (.lst vs) ∧ Paired (TkAt H) vs (tk q.1)
theorem TieO.at {H : Hp} {d : Addr} {ts : List Nat} {tk : Nat → List (Nat × Int)} (h : TieO H d ts tk) : TieAt H d ts tk := by
  obtain ⟨kvs, h1, h2⟩ := h
  exact ⟨kvs, .inl h1, h2⟩
/-- signs that come of walks from the least things -/
def RootF (tk : Nat → List (Nat × Int)) (ts ks : List Nat) (f : Nat → Int) : Prop := ∀ x ∈ ks, One (f x) ∧ ∃ r ∈ ts, Hang (stepR tk) (r, 1) (x, f x) ∧ ∀ y ∈ ts, ∀ s, Hang (stepR tk) (r, 1) (y, s) → r ≤ y
def TkSym (tk : Nat → List (Nat × Int)) : Prop := ∀ x p, p ∈ tk x → (x, p.2) ∈ tk p.1
theorem closed_back {tk : Nat → List (Nat × Int)} (hs : TkSym tk) {ks : List Nat} (hc : ∀ x ∈ ks, ∀ p ∈ tk x, p.1 ∈ ks) {p q : Nat × Int} (h : Hang (stepR tk) p q) : q.1 ∈ ks → p.1 ∈ ks := by
  induction h with
  | rfl => exact fun z => z
  | step _ st ih =>
    obtain ⟨t, e, _⟩ := st
    refine fun z => ih ?_
    have h := hs _ _ e
    have h2 := hc _ z _ h
    exact h2
section
variable {P : Program} {w : World} {K : PySem.W.Frag} {mg : Str → Option Value} {base : Heap}
abbrev ssigns_of : Stmt := topS 3
abbrev Nsigns_of : List Str := ["ties", "signs", "first", "thing", "other", "tie"]
theorem scsigns_of : FnScope Nsigns_of ["ties"] (defScope ssigns_of) := ⟨rfl, rfl, rfl, by decide +kernel, rfl, by decide +kernel, by decide +kernel⟩
def spSignsOf : Sp := fun vs H Q _ => ∃ (d : Addr) (ts : List Nat) (tk : Nat → List (Nat × Int)), vs = [.ref d] ∧ TieO H d ts tk ∧ ts.Nodup ∧ ts.Pairwise (· ≤ ·) ∧ ts.length < 64 ∧ (∀ n ∈ ts, n < 64) ∧ (∀ x ∈ ts, (tk x).length ≤ 4 ∧ ∀ p ∈ tk x, p.1 ∈ ts ∧ One p.2) ∧ TkSym tk ∧
  (∀ H' f, Same H H' → RootF tk ts ts f → (∃ x ∈ ts, ∃ p ∈ tk x, f p.1 ≠ f x * p.2) → Q .non H') ∧
  ∀ H' g ks f, Same H H' → H g = none → H' g = some (sgO ks f) → (∀ x ∈ ts, x ∈ ks) → RootF tk ts ts f → (∀ x ∈ ts, ∀ p ∈ tk x, f p.1 = f x * p.2) → Q (.ref g) H'
theorem oksigns_of {f fS : Addr} {fd fdS : FuncData} (F : Fun K "signs_of" "signs_of" ssigns_of f fd) (F_spread : Fun K "_spread" "_spread" s_spread fS fdS) (g_spread : mg "_spread" = some (.ref fS)) (b_spread : Binds K fdS ["first", "ties", "signs"] [])
    (G_spread : FnOk P w K mg base CX0 1 fS fdS ["first", "ties", "signs"] spSpread) (m_sorted : mg "sorted" = none) : FnOk P w K mg base CX0 2 f fd ["ties"] spSignsOf := by
  refine F.ok scsigns_of (fun vs H Q E h => ?_) (fun cdv A outer s H vs Q E hr h => ?_)
  · obtain ⟨d, ts, tk, rfl, _⟩ := h
    rfl
  · obtain ⟨d, ts, tk, rfl, hT, hn, hup, hl, hN, hcl, hsy, qa, qb⟩ := h
    have nd := scsigns_of.nd
    refine ⟨_, (pss_cons (ps_set (i := 1) nd rfl (.inl rfl) pe_dnewK)
      (pss_cons (ps_for PassesOwn.never rfl (kPiL K rfl (pi_list (pe_callB (srtDM (moI_rules 64 K) rfl rfl (Nat.lt_of_le_of_lt (Nat.add_le_add_left (by decide) _) hr.units)) (by rfl) m_sorted (by decide +kernel) (pa_cons (pv 0) pa_nil)))) (pg_name (i := 2) nd rfl (.inl rfl)) (pss_one (ps_if (pt_cmp (pc_dnotin (hu_of hr) (pv 2) (pv 1))) (pss_cons (ps_dput (hu_of hr) (pv 1) (pv 2) pe_int rfl)
      (pss_one (ps_expr (pe_call G_spread (hr.mono (by first | decide | omega)) (by rfl) g_spread F_spread.kp b_spread .nil pass0 (pa_cons (pv 2) (pa_cons (pv 0) (pa_cons (pv 1) pa_nil))))))) pss_nil)))
      (pss_cons (ps_lock (ps_for PassesOwn.never rfl (pi_keys (pv 0)) (pg_name (i := 3) nd rfl (.inl rfl)) (pss_one (ps_for PassesOwn.never rfl (kPiL K rfl (pi_list (pe_dget (hu_of hr) (pv 0) (pv 3) (fun _ _ => rfl)))) (kPgT K rfl (pg_tup (n := 2) rfl (pgs_cons (pg_name (i := 4) nd rfl (.inl rfl)) (pgs_cons (pg_name (i := 5) nd rfl (.inl rfl)) pgs_nil)))) (pss_one (ps_if (pt_cmpR op_ne (pe_dget (hu_of hr) (pv 1) (pv 4) (fun _ _ => rfl)) (pe_op op_mul (pe_dget (hu_of hr) (pv 1) (pv 3) (fun _ _ => rfl)) (pv 5)) (nomark _)) (pss_one (ps_ret pe_non)) pss_nil))))))
      (pss_one (ps_ret (pv 1)))))), ?_⟩
    refine fun g ng => ?_
    obtain ⟨kvs0, hd0, e2, e3⟩ := id hT
    have s1 : Same H (upd H g (.dK [])) := same_new ng
    have g1 : (upd H g (.dK [])) g = some (sgO [] fun _ => 0) := upd_same
    have hdg : d ≠ g := ne_of_none hd0 ng
    generalize upd H g (.dK []) = H1 at s1 g1 ⊢
    refine ⟨.ref d, rfl, d, kvs0, rfl, s1 _ _ hd0, fun q hq => hN _ (by rw [← e2]; exact List.mem_map_of_mem hq), by rw [← List.length_map (f := fun q : Nat × V => q.1), e2]; exact hl, fun sv ts' sl hsv hpm hso nsl => ?_⟩
    rw [e2] at hpm
    obtain rfl := nat_sortedT hpm hso hup
    obtain rfl := moI_list hsv
    have s2 : Same H (upd H1 sl (.lst (ts'.map intV))) := s1.trans (same_new nsl)
    have g2 : (upd H1 sl (.lst (ts'.map intV))) g = some (sgO [] fun _ => 0) := (same_new nsl) _ _ g1
    have l2 : (upd H1 sl (.lst (ts'.map intV))) sl = some (.lst (ts'.map intV)) := upd_same
    generalize upd H1 sl (.lst (ts'.map intV)) = H2 at s2 g2 l2 ⊢
    have slg : sl ≠ g := ne_of l2 g2 fun z => by cases z
    have kl : ∀ {ks' : List Nat}, ks'.Nodup → (∀ x ∈ ks', x ∈ ts') → ks'.length ≤ ts'.length := fun n s => nodup_len n hn s
    refine ⟨sl, rfl, ⟨_, .inl (.inl l2)⟩, ?_⟩
    have hT2 : TieAt H2 d ts' tk := ⟨kvs0, .inl (s2 _ _ hd0), e2, fun q hq => by
      obtain ⟨a, vs, e, g1, g2⟩ := e3 q hq
      exact ⟨a, vs, e, s2 _ _ g1, pmono g2 fun _ _ z => z.mono s2.tups⟩⟩
    refine for_list (xs := ts'.map intV) (fun i σ H3 => ∃ y2 y3 y4 y5 ks f, σ = [some (.ref d), some (.ref g), y2, y3, y4, y5] ∧ H3 g = some (sgO ks f) ∧ ks.Nodup ∧ (∀ x ∈ ks, x ∈ ts') ∧ (∀ x ∈ ks, ∀ p ∈ tk x, p.1 ∈ ks) ∧ (∀ x ∈ ts'.take i, x ∈ ks) ∧ RootF tk ts' ks f ∧ But g H2 H3)
      ⟨none, none, none, none, [], fun _ => 0, rfl, g2, List.nodup_nil, fun x hx => absurd hx List.not_mem_nil, fun x hx => absurd hx List.not_mem_nil, fun x hx => absurd hx List.not_mem_nil, fun x hx => absurd hx List.not_mem_nil, fun b o _ e => e⟩ ?_ ?_ ?_
    · rintro i σ H3 _ ⟨y2, y3, y4, y5, ks, f, rfl, g3, n3, t3, c3, i3, r3, b3⟩
      exact .inl (.inl (b3 _ _ slg l2))
    · rintro i x σ H3 hx ⟨y2, y3, y4, y5, ks, f, rfl, g3, n3, t3, c3, i3, r3, b3⟩
      rw [List.getElem?_map] at hx
      obtain ⟨a, ha, rfl⟩ := Option.map_eq_some_iff.mp hx
      have at_ : a ∈ ts' := List.mem_of_getElem? ha
      have tki : ts'.take (i + 1) = ts'.take i ++ [a] := by
        rw [List.take_add_one, ha]
        rfl
      refine ⟨intV a, rfl, .ref g, rfl, g, _, rfl, sg_get g3 a, _, rfl, ?_⟩
      by_cases hin : a ∈ ks
      · rw [sgK_get hin]
        refine iteF ⟨_, _, _, _, ks, f, rfl, g3, n3, t3, c3, fun x hx => ?_, r3, b3⟩
        rw [tki] at hx
        rcases List.mem_append.mp hx with hx | hx
        · exact i3 x hx
        · rw [List.mem_singleton.mp hx]
          exact hin
      · rw [sgK_none hin]
        refine iteT ?_
        have lk := kl n3 t3
        refine ⟨.ref g, rfl, intV a, rfl, g, _, rfl, sg_put g3 hin (s := 1) (by omega), ?_⟩
        have b4 : But g H2 (upd H3 g (sgO (ks ++ [a]) (putF f a 1))) := b3.own
        have g4 : (upd H3 g (sgO (ks ++ [a]) (putF f a 1))) g = some (sgO (ks ++ [a]) (putF f a 1)) := upd_same
        generalize upd H3 g (sgO (ks ++ [a]) (putF f a 1)) = H4 at b4 g4 ⊢
        have fe : ∀ x ∈ ks, putF f a 1 x = f x := fun x hx => by
          unfold putF
          rw [if_neg (fun z => hin (by rw [← z]; exact hx))]
        have fa : putF f a 1 a = 1 := by
          unfold putF
          rw [if_pos rfl]
        have n4 : (ks ++ [a]).Nodup := by
          rw [List.nodup_append]
          exact ⟨n3, by simp, fun x h1 y h2 z => hin (by rw [← List.mem_singleton.mp h2, ← z]; exact h1)⟩
        have am : a ∈ ks ++ [a] := List.mem_append_right _ (List.mem_singleton.mpr rfl)
        have min : ∀ y ∈ ts', ∀ s, Hang (stepR tk) (a, 1) (y, s) → a ≤ y := fun y hy s hh => by
          rcases Nat.lt_or_ge y a with lt | ge
          · exfalso
            obtain ⟨j, hj⟩ := List.mem_iff_getElem?.mp hy
            have ji : j < i := by
              rcases Nat.lt_or_ge j i with l | g
              · exact l
              · exfalso
                have hj' := List.getElem?_eq_some_iff.mp hj
                have ha' := List.getElem?_eq_some_iff.mp ha
                obtain ⟨h1, rfl⟩ := hj'
                obtain ⟨h2, rfl⟩ := ha'
                rcases Nat.lt_or_ge i j with l2 | g2
                · have := List.pairwise_iff_getElem.mp hup i j h2 h1 l2
                  omega
                · obtain rfl : i = j := by omega
                  omega
            have yk : y ∈ ks := i3 y (by
              rw [List.mem_iff_getElem?]
              exact ⟨j, by rw [List.getElem?_take_of_lt ji]; exact hj⟩)
            exact hin (closed_back hsy c3 hh yk)
          · exact ge
        refine ⟨intV a, rfl, .ref d, rfl, .ref g, rfl, a, d, g, ts', ks ++ [a], tk, putF f a 1, rfl, hdg, hT2.but b4 hdg g2, g4, am, n4, fun x hx => ?_, hn, hl, hcl, fun x hx => ?_, fun x hx hne => ?_, fun H5 ks' f' b5 g5 n5 o5 t5 p5 c5 => ?_⟩
        · rcases List.mem_append.mp hx with hx | hx
          · exact t3 x hx
          · rw [List.mem_singleton.mp hx]
            exact at_
        · rcases List.mem_append.mp hx with hx | hx
          · rw [fe x hx]
            exact (r3 x hx).1
          · rw [List.mem_singleton.mp hx, fa]
            exact .inl rfl
        · intro p hp
          rcases List.mem_append.mp hx with hx | hx
          · exact List.mem_append_left _ (c3 x hx p hp)
          · exact absurd (List.mem_singleton.mp hx) hne
        · refine ⟨_, _, _, _, ks', f', rfl, g5, n5, fun x hx => (t5 x hx).1, c5, fun x hx => ?_, fun x hx => ?_, fun b o hb e => b5 _ _ hb (b4 _ _ hb e)⟩
          · rw [tki] at hx
            rcases List.mem_append.mp hx with hx | hx
            · exact (o5 x (List.mem_append_left _ (i3 x hx))).1
            · rw [List.mem_singleton.mp hx]
              exact (o5 a am).1
          · by_cases h1 : x ∈ ks ++ [a]
            · obtain ⟨_, e⟩ := o5 x h1
              rw [e]
              rcases List.mem_append.mp h1 with h1 | h1
              · rw [fe x h1]
                exact r3 x h1
              · rw [List.mem_singleton.mp h1, fa]
                exact ⟨.inl rfl, a, at_, .rfl _, min⟩
            · have h2 := p5 x hx h1
              rw [fa] at h2
              exact ⟨(t5 x hx).2, a, at_, h2, min⟩
    · rintro σ H3 ⟨y2, y3, y4, y5, ks, f, rfl, g3, n3, t3, c3, i3, r3, b3⟩
      rw [List.length_map, List.take_length] at i3
      have rf : RootF tk ts' ts' f := fun x hx => r3 x (i3 x hx)
      have sH3 : Same H H3 := fun b o e => b3 _ _ (fun z => by rw [z, ng] at e; cases e) (s2 _ _ e)
      have hd3 := sH3 _ _ hd0
      refine ⟨d, _, hd3, trivial, fun od => ?_⟩
      have g4 : (upd H3 d (.frz od (moI.obj kvs0))) g = some (sgO ks f) := by
        rw [upd_ne hdg.symm]
        exact g3
      have hTL : TieAt (upd H3 d (.frz od (moI.obj kvs0))) d ts' tk := ⟨kvs0, .inr ⟨od, upd_same⟩, e2, fun q hq => by
        obtain ⟨a, vs, e, g1, g2⟩ := e3 q hq
        refine ⟨a, vs, e, ?_, pmono g2 fun v p z => ?_⟩
        · rw [upd_ne (ne_of g1 hd0 fun z => by cases z)]
          exact sH3 _ _ g1
        · obtain ⟨c, e, o, z1, z2⟩ := z
          refine ⟨c, e, o, z1, ?_⟩
          rw [upd_ne (ne_of z2 hd0 fun z => by cases z)]
          exact sH3 _ _ z2⟩
      have sL : Same H (upd (upd H3 d (.frz od (moI.obj kvs0))) d (moI.obj kvs0)) := fun b o e => by
        rw [upd_upd]
        by_cases hb : b = d
        · subst hb
          rw [hd0] at e
          rw [upd_same]
          exact e
        · rw [upd_ne hb]
          exact sH3 _ _ e
      have gL : (upd (upd H3 d (.frz od (moI.obj kvs0))) d (moI.obj kvs0)) g = some (sgO ks f) := by
        rw [upd_upd, upd_ne hdg.symm]
        exact g3
      have dL : (upd H3 d (.frz od (moI.obj kvs0))) d = some (.frz od (moI.obj kvs0)) := upd_same
      generalize upd H3 d (.frz od (moI.obj kvs0)) = HL at g4 hTL sL gL dL ⊢
      refine ⟨.ref d, rfl, d, od, rfl, .inl ⟨_, dL, ?_⟩⟩
      refine for_it L2.walk_keys (fun i σ H => H = HL ∧ ∃ y3 y4 y5, σ = [some (.ref d), some (.ref g), y2, y3, y4, y5] ∧ ∀ x ∈ ts'.take i, ∀ p ∈ tk x, f p.1 = f x * p.2) ⟨rfl, _, _, _, rfl, fun x hx => absurd hx List.not_mem_nil⟩ ?_ ?_ ?_
      · rintro i σ H _ ⟨eH, _⟩
        rw [eH]
        exact dL
      · rintro i x σ H' H'' hi ⟨eH, y3, y4, y5, rfl, all⟩ ⟨eH2, k, v, hk, rfl⟩
        rw [eH2, eH]
        clear eH eH2 H' H''
        rw [List.getElem?_map] at hk
        obtain ⟨q, hq, e⟩ := Option.map_eq_some_iff.mp hk
        injection e with ek ev
        subst ek ev
        have hti : ts'[i]? = some q.1 := by
          rw [← e2, List.getElem?_map, hq]
          rfl
        have qt : q.1 ∈ ts' := List.mem_of_getElem? hti
        have tki : ts'.take (i + 1) = ts'.take i ++ [q.1] := by
          rw [List.take_add_one, hti]
          rfl
        obtain ⟨la, lvs, dg, hla, pla⟩ := hTL.get qt
        refine ⟨.ref d, rfl, intV q.1, rfl, d, .ref la, rfl, dg, la, rfl, ⟨_, .inl (.inl hla)⟩, ?_⟩
        have gq := sg_get g4 q.1
        rw [sgK_get (i3 _ qt)] at gq
        refine for_list (xs := lvs) (fun j σ H => H = HL ∧ ∃ y4 y5, σ = [some (.ref d), some (.ref g), y2, some (intV q.1), y4, y5] ∧ ∀ p ∈ (tk q.1).take j, f p.1 = f q.1 * p.2) ⟨rfl, _, _, rfl, fun x hx => absurd hx List.not_mem_nil⟩ ?_ ?_ ?_
        · rintro j σ H _ ⟨eH, _⟩
          rw [eH]
          exact .inl (.inl hla)
        · rintro j x σ H hx ⟨eH, y4, y5, rfl, al2⟩
          rw [eH]
          clear eH H
          obtain ⟨p, hp, c, rfl, fc⟩ := pget' pla hx
          have pm : p ∈ tk q.1 := List.mem_of_getElem? hp
          obtain ⟨pt, po⟩ := (hcl q.1 qt).2 p pm
          have tkj : (tk q.1).take (j + 1) = (tk q.1).take j ++ [p] := by
            rw [List.take_add_one, hp]
            rfl
          have gp := sg_get g4 p.1
          rw [sgK_get (i3 _ pt)] at gp
          have bo : -(2 ^ 64) < p.2 ∧ p.2 < 2 ^ 64 := by
            rcases po with e | e <;> rw [e] <;> exact ⟨by decide, by decide⟩
          refine ⟨c, [intV p.1, .int p.2], rfl, fc.sqt, rfl, _, _, rfl, _, _, rfl, rfl, ?_⟩
          refine ⟨.ref g, rfl, intV p.1, rfl, g, .int (f p.1), rfl, gp, .ref g, rfl, intV q.1, rfl, g, .int (f q.1), rfl, gq, .int p.2, rfl, _, _, rfl, rfl, .inr bo, rfl, _, rfl, ?_⟩
          by_cases e : f p.1 = f q.1 * p.2
          · refine iteNS (congrArg V.int e) ⟨rfl, _, _, rfl, fun x hx => ?_⟩
            rw [tkj] at hx
            rcases List.mem_append.mp hx with hx | hx
            · exact al2 x hx
            · rw [List.mem_singleton.mp hx]
              exact e
          · refine iteND (fun z => e (by injection z)) ?_
            exact ⟨dL, qa _ f sL rf ⟨q.1, qt, p, pm, e⟩⟩
        · rintro σ H ⟨eH, y4, y5, rfl, al2⟩
          rw [eH]
          clear eH H
          rw [plen pla, List.take_length] at al2
          refine ⟨rfl, _, _, _, rfl, fun x hx => ?_⟩
          rw [tki] at hx
          rcases List.mem_append.mp hx with hx | hx
          · exact all x hx
          · rw [List.mem_singleton.mp hx]
            exact al2
      · rintro σ H ⟨eH, y3, y4, y5, rfl, all⟩
        rw [eH]
        refine ⟨dL, .ref g, rfl, ?_⟩
        refine qb _ g ks f sL ng gL i3 rf fun x hx => all x ?_
        rw [List.length_map, ← List.length_map (f := fun q : Nat × V => q.1), e2, List.take_length]
        exact hx
end
end Bk

namespace Bk
open PySem PySem.Spec PyProof.Rows L2 RZ
local macro_rules | `(tactic| walk_at "g") => `(tactic| (repeat first | refine ⟨_, rfl, ?_⟩ | refine ⟨cpow, ?_⟩ | refine ⟨wideM, ?_⟩ | refine ⟨_, _, rfl, rfl, ?_⟩ | refine ⟨rfl, ?_⟩))
/-! ### the turning, as it must be -/
def tiesOf (b : Blk) : List (Nat × Int) := b.filterMap fun j => j.map fun k => (k.1, sgT k.2)
def tkS (S : Spc) (b : Nat) : List (Nat × Int) := tiesOf (S.getD b [])
theorem tkS_of {S : Spc} {b : Nat} {p : Nat × Int} : p ∈ tkS S b ↔ ∃ f t, getJ S b f = some (some (p.1, t)) ∧ p.2 = sgT t := by
  unfold tkS tiesOf
  rw [List.mem_filterMap]
  constructor
  · rintro ⟨j, hj, e⟩
    cases j with
    | none => cases e
    | some k =>
      cases Option.some.inj e
      obtain ⟨f, hf⟩ := List.mem_iff_getElem?.mp hj
      refine ⟨f, k.2, ?_, rfl⟩
      unfold getJ
      cases hb : S[b]? with
      | none =>
        rw [show S.getD b [] = [] from by
          show S[b]?.getD [] = []
          rw [hb]
          rfl] at hf
        cases hf
      | some y =>
        rw [show S.getD b [] = y from by
          show S[b]?.getD [] = y
          rw [hb]
          rfl] at hf
        exact hf
  · rintro ⟨f, t, e, e2⟩
    unfold getJ at e
    cases hb : S[b]? with
    | none =>
      rw [hb] at e
      cases e
    | some y =>
      rw [hb] at e
      refine ⟨some (p.1, t), ?_, ?_⟩
      · rw [show S.getD b [] = y from by
          show S[b]?.getD [] = y
          rw [hb]
          rfl]
        exact List.mem_of_getElem? e
      · show some (p.1, sgT t) = some p
        rw [← e2]
theorem sgT_back : ∀ t ∈ allTurns, sgT (back t) = sgT t := by decide +kernel
theorem sgT_one (t : Trn) : One (sgT t) := by
  unfold sgT
  split
  · exact .inl rfl
  · exact .inr rfl
theorem tkS_sym {S : Spc} (h : Good S) : TkSym (tkS S) := fun x p hp => by
  obtain ⟨f, t, e, e2⟩ := tkS_of.mp hp
  obtain ⟨q1, _, q3⟩ := h.both _ _ _ _ e
  exact tkS_of.mpr ⟨_, _, q3, by rw [e2, sgT_back t q1]⟩
theorem tkS_in {S : Spc} (h : Good S) {x : Nat} {p : Nat × Int} (hp : p ∈ tkS S x) : p.1 ∈ List.range S.length ∧ One p.2 := by
  obtain ⟨f, t, e, e2⟩ := tkS_of.mp hp
  exact ⟨List.mem_range.mpr (h.lt e), by rw [e2]; exact sgT_one t⟩
def Fit (tk : Nat → List (Nat × Int)) (ts : List Nat) (f : Nat → Int) : Prop := ∀ x ∈ ts, ∀ p ∈ tk x, f p.1 = f x * p.2
def TurnIs (S : Spc) (r : Option (List Int)) : Prop := ∃ f, RootF (tkS S) (List.range S.length) (List.range S.length) f ∧
  ((r = none ∧ ∃ x ∈ List.range S.length, ∃ p ∈ tkS S x, f p.1 ≠ f x * p.2) ∨ (r = some ((List.range S.length).map f) ∧ Fit (tkS S) (List.range S.length) f))
theorem fit_hang {S : Spc} (hG : Good S) {f : Nat → Int} (hf : Fit (tkS S) (List.range S.length) f) {p q : Nat × Int} (h : Hang (stepR (tkS S)) p q) : p.1 ∈ List.range S.length → q.1 ∈ List.range S.length ∧ f q.1 * p.2 = f p.1 * q.2 := by
  induction h with
  | rfl => exact fun z => ⟨z, rfl⟩
  | step _ st ih =>
    obtain ⟨t, e, e2⟩ := st
    intro z
    obtain ⟨h1, h2⟩ := ih z
    refine ⟨(tkS_in hG e).1, ?_⟩
    have h3 := hf _ h1 _ e
    rw [h3, e2, Int.mul_right_comm, h2, Int.mul_assoc]
theorem One.sq {s : Int} (h : One s) : s * s = 1 := by
  rcases h with rfl | rfl <;> rfl
/-- a walk and back -/
theorem hang_back {S : Spc} (hG : Good S) {p q : Nat × Int} (h : Hang (stepR (tkS S)) p q) (hp : One p.2) : One q.2 ∧ Hang (stepR (tkS S)) q p := by
  induction h with
  | rfl => exact ⟨hp, .rfl _⟩
  | step h1 st ih =>
    obtain ⟨t, e, e2⟩ := st
    obtain ⟨i1, i2⟩ := ih
    have ot := (tkS_in hG e).2
    have back := tkS_sym hG _ _ e
    refine ⟨by rw [e2]; exact i1.mul ot, ?_⟩
    refine Hang.trans (.one ⟨t, back, ?_⟩) i2
    rw [e2, Int.mul_assoc, ot.sq, Int.mul_one]
/-- signs that fit are those from the least ones -/
theorem fit_root {S : Spc} (hG : Good S) {f g : Nat → Int} (hf : Fit (tkS S) (List.range S.length) f) (rf : RootF (tkS S) (List.range S.length) (List.range S.length) f) (rg : RootF (tkS S) (List.range S.length) (List.range S.length) g) {x : Nat} (hx : x ∈ List.range S.length) : f x = g x := by
  obtain ⟨og, r, hr, w, mn⟩ := rg x hx
  obtain ⟨orr, r0, hr0, w0, mn0⟩ := rf r hr
  have le1 := mn0 r hr _ w0
  have b := (hang_back hG w0 (.inl rfl)).2
  -- the same walk back from 1
  have sc : ∀ {p q : Nat × Int}, Hang (stepR (tkS S)) p q → ∀ s : Int, Hang (stepR (tkS S)) (p.1, p.2 * s) (q.1, q.2 * s) := fun h s => by
    induction h with
    | rfl => exact .rfl _
    | step _ st ih =>
      obtain ⟨t, e, e2⟩ := st
      exact .step ih ⟨t, e, by rw [e2, Int.mul_right_comm]⟩
  have b2 := sc b (f r)
  have b3 : Hang (stepR (tkS S)) (r, 1) (r0, f r) := by
    have e1 : f r * f r = 1 := orr.sq
    rw [e1, Int.one_mul] at b2
    exact b2
  have le2 := mn r0 hr0 _ b3
  obtain rfl : r = r0 := Nat.le_antisymm le2 le1
  have h1 := (fit_hang hG hf w0 hr).2
  have h1 : f r * 1 = f r * f r := h1
  have fr1 : f r = 1 := by
    rw [orr.sq, Int.mul_one] at h1
    exact h1
  have h2 := (fit_hang hG hf w hr).2
  have h2 : f x * 1 = f r * g x := h2
  rw [fr1, Int.mul_one, Int.one_mul] at h2
  exact h2
theorem turn_one {S : Spc} (hG : Good S) {r r' : Option (List Int)} (h : TurnIs S r) (h' : TurnIs S r') : r = r' := by
  obtain ⟨f, rf, hf⟩ := h
  obtain ⟨g, rg, hg⟩ := h'
  rcases hf with ⟨rfl, x, hx, p, hp, ne⟩ | ⟨rfl, ff⟩
  · rcases hg with ⟨rfl, _⟩ | ⟨rfl, fg⟩
    · rfl
    · exfalso
      have e1 := fit_root hG fg rg rf hx
      have e2 := fit_root hG fg rg rf (tkS_in hG hp).1
      have := fg x hx p hp
      rw [e1, e2] at this
      exact ne this
  · rcases hg with ⟨rfl, x, hx, p, hp, ne⟩ | ⟨rfl, fg⟩
    · exfalso
      have e1 := fit_root hG ff rf rg hx
      have e2 := fit_root hG ff rf rg (tkS_in hG hp).1
      have := ff x hx p hp
      rw [e1, e2] at this
      exact ne this
    · exact congrArg some (List.map_congr_left fun x hx => fit_root hG ff rf rg hx)
end Bk

namespace Bk
open PySem PySem.Spec PyProof.Rows L2 RZ
local macro_rules | `(tactic| walk_at "g") => `(tactic| (repeat first | refine ⟨_, rfl, ?_⟩ | refine ⟨cpow, ?_⟩ | refine ⟨wideM, ?_⟩ | refine ⟨_, _, rfl, rfl, ?_⟩ | refine ⟨rfl, ?_⟩))
theorem dc_rangeT {lo : Int} {n : Nat} {g : TG} {tt : TT} {tk tv : TE} {vs : List Nat} {σ : L2.St} {H1 : Hp} {D : Addr} {Qd : Hp → Prop} (Pv : Nat → Hp → Prop) (h0 : Pv 0 (upd H1 D (.dK [])))
    (hs : ∀ i H, i < n → Pv i H → g (.int (lo + i)) (wipe σ vs) H fun σ2 H2 => wipe σ2 vs = wipe σ vs ∧ tt σ2 H2 fun b H3 =>
      if b = true then tk σ2 H3 fun y H4 => tv σ2 H4 fun z H5 => ∃ kvs k, y = kV k ∧ H5 D = some (.dK kvs) ∧ kvs.length < sizeLine ∧ Pv (i + 1) (upd H5 D (.dK (putK kvs k z))) else Pv (i + 1) H3) (hd : ∀ H, Pv n H → Qd H) :
    ∃ W : Nat → Nat → Hp → Prop, (∃ m, W 0 m (upd H1 D (.dK []))) ∧ ∀ i m H, W i m H →
      ((Itr lo n).stop i H ∧ Qd H) ∨ ((Itr lo n).go i H ∧ ∃ Nx : Hp → Prop, (∀ H', Nx H' → ∃ m', m' < m ∧ W (i + 1) m' H') ∧ ∀ x H', (Itr lo n).yld i H x H' → g x (wipe σ vs) H' fun σ2 H2 => wipe σ2 vs = wipe σ vs ∧ tt σ2 H2 fun b H3 =>
        if b = true then tk σ2 H3 fun y H4 => tv σ2 H4 fun z H5 => ∃ kvs k, y = kV k ∧ H5 D = some (.dK kvs) ∧ kvs.length < sizeLine ∧ Nx (upd H5 D (.dK (putK kvs k z))) else Nx H3) := by
  refine ⟨fun i m H => m = n - i ∧ i ≤ n ∧ Pv i H, ⟨n, by simp, Nat.zero_le _, h0⟩, ?_⟩
  rintro i m H ⟨rfl, hi, p⟩
  by_cases hlt : i < n
  · refine .inr ⟨hlt, Pv (i + 1), fun H' p' => ⟨n - (i + 1), by omega, rfl, hlt, p'⟩, fun x H' y => ?_⟩
    obtain ⟨e, y⟩ := y
    subst e y
    exact hs i _ hlt p
  · have e : i = n := by omega
    subst e
    exact .inl ⟨Nat.le_refl _, hd H p⟩
section
variable {P : Program} {w : World} {K : PySem.W.Frag} {mg : Str → Option Value} {base : Heap}
abbrev sturning : Stmt := topS 34
abbrev Nturning : List Str := ["space", "whole", "signs", "block", "joining"]
theorem scturning : FnScope Nturning ["space"] (defScope sturning) := ⟨rfl, rfl, rfl, by decide +kernel, rfl, by decide +kernel, by decide +kernel⟩
/-- None, or a new list -/
def RepT (H H' : Hp) (v : V) (r : Option (List Int)) : Prop := (r = none ∧ v = .non) ∨ ∃ l is, r = some is ∧ v = .ref l ∧ H l = none ∧ H' l = some (.lst (is.map V.int))
def spTurning : Sp := fun vs H Q _ => ∃ (N : Addr → Prop) (v : V) (d : PyData) (S : Spc), vs = [v] ∧ Dq N H v d ∧ norm d = nS S ∧ Good S ∧ 1 ≤ S.length ∧ S.length < 40 ∧ ∀ H' u r, Same H H' → TurnIs S r → RepT H H' u r → Q u H'
theorem okturning {f fS fR fT : Addr} {fd fdS fdR fdT : FuncData} (F : Fun K "turning" "turning" sturning f fd) (Fspace_of : Fun K "space_of" "space_of" sspace_of fS fdS) (gspace_of : mg "space_of" = some (.ref fS)) (bspace_of : Binds K fdS ["blocks"] []) (Gspace_of : FnOk P w K mg base CX0 6 fS fdS ["blocks"] spSpace)
    (Fsigns_of : Fun K "signs_of" "signs_of" ssigns_of fR fdR) (gsigns_of : mg "signs_of" = some (.ref fR)) (bsigns_of : Binds K fdR ["ties"] []) (Gsigns_of : FnOk P w K mg base CX0 2 fR fdR ["ties"] spSignsOf)
    (Fturn_sign : Fun K "turn_sign" "turn_sign" sturn_sign fT fdT) (gturn_sign : mg "turn_sign" = some (.ref fT)) (bturn_sign : Binds K fdT ["turn"] []) (Gturn_sign : FnOk P w K mg base CX0 2 fT fdT ["turn"] spTurnSign) (m_range : mg "range" = none) (m_len : mg "len" = none) : FnOk P w K mg base CX0 7 f fd ["space"] spTurning := by
  refine F.ok scturning (fun vs H Q E h => ?_) (fun cdv A outer s H vs Q E hr h => ?_)
  · obtain ⟨N, v, d, S, rfl, _⟩ := h
    rfl
  · obtain ⟨N, v, d, S, rfl, hd, hn, hG, h1, h2, q⟩ := h
    have nd := scturning.nd
    refine ⟨_, (pss_cons (ps_set (i := 1) nd rfl (.inr rfl) (pe_call Gspace_of (hr.mono (by first | decide | omega)) (by rfl) gspace_of Fspace_of.kp bspace_of .nil pass0 (pa_cons (pv 0) pa_nil)))
      (pss_cons (ps_set (i := 2) nd rfl (.inr rfl) (pe_call Gsigns_of (hr.mono (by first | decide | omega)) (by rfl) gsigns_of Fsigns_of.kp bsigns_of .nil pass0 (pa_cons (pe_dc (own := [("block", 3)]) (g := gName 3) (tt := tYes) rfl nd (pi_range1 (by rfl) m_range (pa_cons (pe_callB (kLen K rfl) (by rfl) m_len (by decide +kernel) (pa_cons (pv 1) pa_nil)) pa_nil)) (blkOk_by (own := [("block", 3)]) (N := Nturning) (sc := defScope sturning) (by decide +kernel)) (fun _ _ _ _ _ => (pg_name (i := 3) nd rfl (Or.inl rfl))) (fun _ _ _ _ _ => pts_nil) (fun _ _ _ _ _ => (pv 3)) (fun _ _ _ _ _ => (pe_lc (own := [("joining", 4)]) (g := gName 4) rfl nd (kPiT K rfl (pi_tup (pe_ix (kIxT K rfl) (pv 1) (pv 3) (fun _ _ => rfl)))) (blkOk_by (own := [("joining", 4)]) (N := Nturning) (sc := _) (by rfl)) (fun _ _ _ _ _ => (pg_name (i := 4) nd rfl (Or.inl rfl))) (fun _ _ _ _ _ => (pts_one (pt_cmpR op_notN (pv 4) pe_non (nomark _)))) (fun _ _ _ _ _ => (pe_tupF (pa_cons (pe_ix (kIxT K rfl) (pv 4) pe_int (fun _ _ => rfl)) (pa_cons (pe_call Gturn_sign (hr.mono (by first | decide | omega)) (by rfl) gturn_sign Fturn_sign.kp bturn_sign .nil pass0 (pa_cons (pe_ix (kIxT K rfl) (pv 4) pe_int (fun _ _ => rfl)) pa_nil)) pa_nil))))))) pa_nil)))
      (pss_cons (ps_if (pt_cmpR op_isN (pv 2) pe_non (nomark _)) (pss_one (ps_ret pe_non)) pss_nil)
      (pss_one (ps_ret (pe_lc (own := [("block", 3)]) (g := gName 3) (tt := tYes) rfl nd (pi_range1 (by rfl) m_range (pa_cons (pe_callB (kLen K rfl) (by rfl) m_len (by decide +kernel) (pa_cons (pv 1) pa_nil)) pa_nil)) (blkOk_by (own := [("block", 3)]) (N := Nturning) (sc := defScope sturning) (by decide +kernel)) (fun _ _ _ _ _ => (pg_name (i := 3) nd rfl (Or.inl rfl))) (fun _ _ _ _ _ => pts_nil) (fun _ _ _ _ _ => (pe_dget (hu_of hr) (pv 2) (pv 3) (fun _ _ => rfl))))))))), ?_⟩
    refine ⟨v, rfl, N, v, d, S, rfl, hd, hn, hG, h1, by omega, fun H1 u s1 st1 => ?_⟩
    obtain ⟨p, rs, rfl, fp, hb⟩ := st1
    have lrs := plen hb
    refine ⟨.ref p, rfl, p, rs, rfl, .inr fp.sqt, (rs.length : Int), rfl, by omega, by omega, fun D nD => ?_⟩
    refine dc_rangeT (lo := 0) (n := ((rs.length : Int)).toNat) (fun i H2 => ∃ kvs : List (Nat × V), H2 D = some (moI.obj kvs) ∧ kvs.map (·.1) = List.range i ∧ (∀ q ∈ kvs, ∃ a vs, q.2 = .ref a ∧ H2 a = some (.lst vs) ∧ Paired (TkAt H2) vs (tkS S q.1)) ∧ Same H1 H2) ⟨[], upd_same, rfl, fun _ hq => absurd hq List.not_mem_nil, same_new nD⟩ ?_ ?_
    · rintro b H2 hb2 ⟨kvs, h2, k2, l2, s2⟩
      rw [Int.zero_add]
      have hbr : b < rs.length := by omega
      obtain ⟨y, hy, pb, vb, hpb, fb, jb⟩ := pget' hb (List.getElem?_eq_getElem hbr)
      have hx : rs[b]? = some (.ref pb) := by rw [List.getElem?_eq_getElem hbr, hpb]
      have eS : S.getD b [] = y := by
        show S[b]?.getD [] = y
        rw [hy]
        rfl
      refine ⟨rfl, intV b, rfl, .ref p, rfl, intV b, rfl, p, rs, b, .ref pb, rfl, rfl, (fp.mono s2.tups).sqt, atI_nat hx, pb, rfl, ⟨_, (fb.mono s2.tups).sqt⟩, fun D2 nD2 => ?_⟩
      refine lc_tup (xs := vb) (fun i H3 => ∃ zs, H3 D2 = some (.lst zs) ∧ Paired (TkAt H3) zs (tiesOf (y.take i)) ∧ Same H2 H3) ⟨[], upd_same, .nil, same_new nD2⟩ ?_ ?_ ?_
      · rintro i H3 _ ⟨zs, h3, p3, s3⟩
        exact (fb.mono (s2.trans s3).tups).sqt
      · rintro i x H3 hx3 ⟨zs, h3, p3, s3⟩
        obtain ⟨j, hj, jx⟩ := pget' jb hx3
        have jx3 := jx.mono (s2.trans s3).tups
        have li : i < vb.length := (List.getElem?_eq_some_iff.mp hx3).1
        have ot : tiesOf (y.take (i + 1)) = tiesOf (y.take i) ++ tiesOf [j] := by
          unfold tiesOf
          rw [List.take_add_one, hj, List.filterMap_append]
          rfl
        have o4 : zs.length ≤ 400 := by
          rw [plen p3]
          have g : (tiesOf (y.take i)).length ≤ (y.take i).length := List.length_filterMap_le _ _
          rw [List.length_take] at g
          have := hG.l4 y (List.mem_of_getElem? hy)
          omega
        refine ⟨rfl, x, rfl, rfl, _, rfl, ?_⟩
        rw [jx3.isN]
        cases j with
        | none =>
          refine iteF ⟨zs, h3, ?_, s3⟩
          rw [ot]
          show Paired _ zs (tiesOf (y.take i) ++ [])
          rw [List.append_nil]
          exact p3
        | some k =>
          obtain ⟨n, tt⟩ := k
          obtain ⟨pj, pq, rfl, f5, f6⟩ := jx3
          have ht : tt ∈ allTurns := (hG.jok (List.mem_of_getElem? hy) _ (List.mem_of_getElem? hj) n tt rfl).2
          refine iteT ⟨.ref pj, rfl, pj, _, 0, intV n, rfl, rfl, f5.sqt, rfl, .ref pj, rfl, pj, _, 1, .ref pq, rfl, rfl, f5.sqt, rfl, pq, tt, rfl, f6, ht, fun H4 s4 => ?_⟩
          refine ⟨Nat.le_of_lt (small1000 (by show 2 ≤ 1000; decide)), fun t o nt dt => ?_⟩
          have s5 : Same H4 (upd H4 t (.frz o (.tup [intV n, .int (sgT tt)]))) := same_new nt
          have f7 : FT (upd H4 t (.frz o (.tup [intV n, .int (sgT tt)]))) t [intV n, .int (sgT tt)] := FT.new dt
          generalize upd H4 t (.frz o (.tup [intV n, .int (sgT tt)])) = H5 at s5 f7 ⊢
          have s35 := s4.trans s5
          have h5 := s35 _ _ h3
          refine ⟨zs, h5, small1000 (by omega), zs ++ [.ref t], upd_same, ?_, same_fill (s3.trans s35) nD2⟩
          rw [ot]
          exact papp (pmono p3 fun _ _ z => z.mono (s35.tups.trans (tups_set h5))) (.cons ⟨t, rfl, f7.mono (tups_set h5)⟩ .nil)
      · rintro H3 ⟨zs, h3, p3, s3⟩
        rw [plen jb, List.take_length] at p3
        have h23 := s3 _ _ h2
        have nb : valV kvs b = none := by
          cases e : valV kvs b with
          | none => rfl
          | some v =>
            have := valV_in e
            rw [k2, List.mem_range] at this
            omega
        have pk := putK_map_key (f := fun m : Nat => (Sum.inl (m : Int) : L2.Key)) (k := b) (v := .ref D2) (kvs := kvs) fun q hq z => by injection z with z; omega
        rw [putK_new _ nb] at pk
        have lk := congrArg List.length k2
        rw [List.length_map, List.length_range] at lk
        refine ⟨_, Sum.inl (b : Int), rfl, h23, small1000 (by rw [List.length_map, lk]; omega), kvs ++ [(b, .ref D2)], ?_, ?_, ?_, same_fill (s2.trans s3) nD⟩
        · rw [upd_same, pk]
          rfl
        · rw [List.map_append, k2, List.range_succ]
          rfl
        · have keep : ∀ (a : Addr) xs, H3 a = some (.lst xs) → (upd H3 D (.dK (putK (kvs.map fun q => (Sum.inl (q.1 : Int), q.2)) (Sum.inl (b : Int)) (.ref D2)))) a = some (.lst xs) := fun a xs z => by
            rw [upd_ne (ne_of z h23 fun y => moI.obj_lst _ _ y.symm)]
            exact z
          have tkp : Tups H3 (upd H3 D (.dK (putK (kvs.map fun q => (Sum.inl (q.1 : Int), q.2)) (Sum.inl (b : Int)) (.ref D2)))) := fun c o xs e => by
            rw [upd_ne (ne_of e h23 fun y => by cases y)]
            exact e
          intro q hq
          rcases List.mem_append.mp hq with hq | hq
          · obtain ⟨a, vs, e1, e2, e3⟩ := l2 q hq
            exact ⟨a, vs, e1, keep a vs (s3 _ _ e2), pmono e3 fun _ _ z => z.mono (s3.tups.trans tkp)⟩
          · obtain rfl := List.mem_singleton.mp hq
            refine ⟨D2, zs, rfl, keep _ _ h3, ?_⟩
            show Paired _ zs (tiesOf (S.getD b []))
            rw [eS]
            exact pmono p3 fun _ _ z => z.mono tkp
    · rintro H2 ⟨kvs, h2, k2, l2, s2⟩
      rw [Int.toNat_natCast, lrs] at k2
      have len4 : ∀ b, (tkS S b).length ≤ 4 := fun b => by
        unfold tkS tiesOf
        refine Nat.le_trans (List.length_filterMap_le _ _) ?_
        rcases Nat.lt_or_ge b S.length with lt | ge
        · rw [show S.getD b [] = S[b] from by
            show S[b]?.getD [] = S[b]
            rw [List.getElem?_eq_getElem lt]
            rfl, hG.l4 _ (List.getElem_mem lt)]
          exact Nat.le_refl _
        · rw [show S.getD b [] = [] from by
            show S[b]?.getD [] = []
            rw [List.getElem?_eq_none ge]
            rfl]
          exact Nat.zero_le _
      refine ⟨D, List.range S.length, tkS S, rfl, ⟨kvs, h2, k2, l2⟩, List.nodup_range, List.pairwise_le_range, by rw [List.length_range]; omega, fun n hn => by rw [List.mem_range] at hn; omega, fun x _ => ⟨len4 x, fun p hp => tkS_in hG hp⟩, tkS_sym hG, fun H3 f s3 rf bad => ?_, fun H3 g ks f s3 ng g3 ik rf fit => ?_⟩
      · refine ⟨.non, rfl, rfl, _, rfl, iteT ?_⟩
        exact q H3 .non none ((s1.trans s2).trans s3) ⟨f, rf, .inl ⟨rfl, bad⟩⟩ (.inl ⟨rfl, rfl⟩)
      · refine ⟨.ref g, rfl, rfl, _, rfl, iteF ?_⟩
        refine ⟨.ref p, rfl, p, rs, rfl, .inr (fp.mono (s2.trans s3).tups).sqt, (rs.length : Int), rfl, by omega, by omega, fun L nL => ?_⟩
        rw [Int.toNat_natCast, lrs]
        refine lc_range (lo := 0) (n := S.length) (fun i H4 => H4 L = some (.lst (((List.range i).map f).map V.int)) ∧ Same H3 H4) ⟨upd_same, same_new nL⟩ ?_ ?_
        · rintro b H4 hb4 ⟨h4, s4⟩
          rw [Int.zero_add]
          have gb := sg_get (s4 _ _ g3) b
          rw [sgK_get (ik b (List.mem_range.mpr hb4))] at gb
          refine ⟨rfl, .ref g, rfl, intV b, rfl, g, .int (f b), rfl, gb, _, h4, small1000 (by rw [List.length_map, List.length_map, List.length_range]; omega), ?_, same_fill s4 nL⟩
          rw [upd_same, List.range_succ, List.map_append, List.map_append]
          rfl
        · rintro H4 ⟨h4, s4⟩
          exact q H4 (.ref L) (some ((List.range S.length).map f)) (((s1.trans s2).trans s3).trans s4) ⟨f, rf, .inr ⟨rfl, fit⟩⟩ (.inr ⟨L, _, rfl, rfl, ((s1.trans s2).trans s3).free nL, h4⟩)
end
end Bk

namespace Bk
open PySem PySem.Spec PyProof.Rows L2 RZ
local macro_rules | `(tactic| walk_at "g") => `(tactic| (repeat first | refine ⟨_, rfl, ?_⟩ | refine ⟨cpow, ?_⟩ | refine ⟨wideM, ?_⟩ | refine ⟨_, _, rfl, rfl, ?_⟩ | refine ⟨rfl, ?_⟩))
def ringV (t : Trn) : Nat → List Nat → Nat → List Nat
  | 0, seen, _ => seen
  | k + 1, seen, a => if a ∈ seen then seen else ringV t k (seen ++ [a]) (tf t a)
def ringS (t : Trn) : Nat → List Nat × Nat
  | 0 => ([], 0)
  | c + 1 => (ringV t 5 (ringS t c).1 c, (ringS t c).2 + if c ∈ (ringS t c).1 then 0 else 1)
theorem ring_odd : ∀ t ∈ allTurns, decide (((4 : Int) - ((ringS t 4).2 : Int)).fmod 2 = 1) = oddT t ∧ (ringS t 4).2 ≤ 4 := by decide +kernel
theorem inV_nat (n : Nat) (l : List Nat) : inV (intV n) (l.map intV) = decide (n ∈ l) := by
  induction l with
  | nil => rfl
  | cons x l ih =>
    show (eqV (intV x) (intV n) || inV (intV n) (l.map intV)) = _
    rw [ih]
    show (decide ((x : Int) = (n : Int)) || decide (n ∈ l)) = _
    by_cases e : x = n
    · subst e
      rw [decide_eq_true rfl, decide_eq_true (List.mem_cons_self)]
      rfl
    · rw [decide_eq_false (fun z => e (by omega)), Bool.false_or]
      exact decide_eq_decide.mpr ⟨fun z => List.mem_cons_of_mem _ z, fun z => (List.mem_cons.mp z).resolve_left fun y => e y.symm⟩
theorem flat_nat (l : List Nat) : (l.map intV).all flatV = true := by
  rw [List.all_eq_true]
  intro v hv
  obtain ⟨n, _, rfl⟩ := List.mem_map.mp hv
  rfl
section
variable {P : Program} {w : World} {K : PySem.W.Frag} {mg : Str → Option Value} {base : Heap}
abbrev s_law_is_odd : Stmt := topS 46
abbrev N_law_is_odd : List Str := ["turn", "seen", "rings", "corner", "at"]
theorem sc_law_is_odd : FnScope N_law_is_odd ["turn"] (defScope s_law_is_odd) := ⟨rfl, rfl, rfl, by decide +kernel, rfl, by decide +kernel, by decide +kernel⟩
theorem ok_law_is_odd {f : Addr} {fd : FuncData} (F : Fun K "_law_is_odd" "_law_is_odd" s_law_is_odd f fd) (m_range : mg "range" = none) (m_int : mg "int" = none) : FnOk P w K mg base CX0 1 f fd ["turn"] spIsOdd := by
  refine F.ok sc_law_is_odd (fun vs H Q E h => ?_) (fun cdv A outer s H vs Q E hr h => ?_)
  · obtain ⟨q, t, rfl, _⟩ := h
    rfl
  · obtain ⟨tq, t, rfl, ft, ht, q⟩ := h
    have nd := sc_law_is_odd.nd
    refine ⟨_, (pss_cons (ps_set (i := 1) nd rfl (.inl rfl) (pe_lst pa_nil))
      (pss_cons (ps_set (i := 2) nd rfl (.inl rfl) pe_int)
      (pss_cons (ps_for PassesOwn.never rfl (pi_range1 (by rfl) m_range (pa_cons pe_int pa_nil)) (pg_name (i := 3) nd rfl (.inl rfl)) (pss_cons (ps_set (i := 2) nd rfl (.inl rfl) (pe_op op_add (pv 2) (pe_callTy call_int1 (by rfl) m_int (by decide +kernel) (pa_cons (pe_cmpR (kNotIn K rfl) (pv 3) (pv 1) (by rfl)) pa_nil))))
      (pss_cons (ps_set (i := 4) nd rfl (.inl rfl) (pv 3))
      (pss_one (ps_while PassesOwn.never (pt_cmpR (kNotIn K rfl) (pv 4) (pv 1) (by rfl)) (pss_cons (ps_expr (kBM K rfl (pe_bm PySem.F.plainAttrs_list PySem.F.slot_list_append PySem.F.type_list_append mt_append (pv 1) (pa_cons (pv 4) pa_nil))))
      (pss_one (ps_set (i := 4) nd rfl (.inl rfl) (pe_ix (kIxT K rfl) (pv 0) (pv 4) (fun _ _ => rfl))))))))))
      (pss_one (ps_ret (pe_cmpR op_eq (pe_op op_modN (pe_op op_sub pe_int (pv 2)) pe_int) pe_int (nomark _))))))), ?_⟩
    have tl : ∀ k, k < 4 → (trnV t)[k]? = some (intV (tf t k)) := fun k hk => by
      unfold trnV
      rw [List.getElem?_map, (tf_lt t ht k hk).2]
      rfl
    refine ⟨Nat.zero_le _, fun sl nsl => ?_⟩
    refine ⟨4, rfl, by decide, by decide, ?_⟩
    refine for_range (lo := 0) (n := 4) (fun c σ H1 => ∃ y3 y4, σ = [some (.ref tq), some (.ref sl), some (intV (ringS t c).2), y3, y4] ∧ H1 sl = some (.lst ((ringS t c).1.map intV)) ∧ (ringS t c).1.Nodup ∧ (∀ x ∈ (ringS t c).1, x < 4) ∧ Same H H1) ⟨none, none, rfl, upd_same, List.nodup_nil, fun x hx => absurd hx List.not_mem_nil, same_new nsl⟩ ?_ ?_
    · rintro c σ H1 hc ⟨y3, y4, rfl, h1, n1, l1, s1⟩
      rw [Int.zero_add]
      obtain ⟨seen, hs⟩ : ∃ l, l = (ringS t c).1 := ⟨_, rfl⟩
      obtain ⟨rg, hr2⟩ : ∃ n, n = (ringS t c).2 := ⟨_, rfl⟩
      rw [← hs] at h1 n1 l1
      rw [← hr2]
      have e1 : (ringS t (c + 1)).1 = ringV t 5 seen c := by rw [hs]; rfl
      have e2 : (ringS t (c + 1)).2 = rg + if c ∈ seen then 0 else 1 := by rw [hs, hr2]; rfl
      rw [e1, e2]
      refine ⟨intV rg, rfl, .int (c : Int), rfl, .ref sl, rfl, sl, seen.map intV, rfl, .inl (.inl (.inl h1)), rfl, flat_nat seen, .inr ⟨_, rfl, _, _, rfl, rfl, ?_⟩⟩
      have ei : (if true = true then !inV (.int (c : Int)) (seen.map intV) else inV (.int (c : Int)) (seen.map intV)) = !decide (c ∈ seen) := congrArg not (inV_nat c seen)
      rw [ei]
      have ev : V.int ((rg : Int) + (if (!decide (c ∈ seen)) = true then 1 else 0)) = intV (rg + if c ∈ seen then 0 else 1) := by
        by_cases z : c ∈ seen
        · rw [decide_eq_true z, if_pos z]
          rfl
        · rw [decide_eq_false z, if_neg z]
          exact congrArg V.int (by simp)
      show gName 2 (V.int ((rg : Int) + (if (!decide (c ∈ seen)) = true then 1 else 0))) _ _ _
      rw [ev]
      refine ⟨.int (c : Int), rfl, ?_⟩
      generalize (rg + if c ∈ seen then 0 else 1) = rg2
      dsimp only [gName, tSeq]
      refine while_by (fun σ H2 => ∃ a sn k, σ = [some (.ref tq), some (.ref sl), some (intV rg2), some (intV c), some (intV a)] ∧ H2 sl = some (.lst (sn.map intV)) ∧ a < 4 ∧ sn.Nodup ∧ (∀ x ∈ sn, x < 4) ∧ ringV t k sn a = ringV t 5 seen c ∧ 5 ≤ sn.length + k ∧ Same H H2)
        (fun σ H2 => 5 - lenAt H2 σ[1]?) ⟨c, seen, 5, rfl, h1, hc, n1, l1, rfl, by omega, s1⟩ ?_ ?_
      · rintro σ H2 ⟨a, sn, k, rfl, h2, a4, n2, l2, r2, k2, s2⟩
        have len4 : sn.length ≤ 4 := by
          have := nodup_len n2 (List.nodup_range (n := 4)) fun x hx => List.mem_range.mpr (l2 x hx)
          rwa [List.length_range] at this
        refine ⟨intV a, rfl, .ref sl, rfl, sl, sn.map intV, rfl, .inl (.inl (.inl h2)), rfl, flat_nat sn, _, rfl, ?_⟩
        have ei2 : (if true = true then !inV (intV a) (sn.map intV) else inV (intV a) (sn.map intV)) = !decide (a ∈ sn) := congrArg not (inV_nat a sn)
        rw [ei2]
        by_cases ha : a ∈ sn
        · rw [decide_eq_true ha]
          refine iteF ?_
          have er : ringV t k sn a = sn := by
            cases k with
            | zero => rfl
            | succ k =>
              show (if a ∈ sn then sn else _) = sn
              rw [if_pos ha]
          rw [← r2, er]
          exact ⟨_, _, rfl, h2, n2, l2, s2⟩
        · rw [decide_eq_false ha]
          refine iteT ?_
          obtain ⟨k, rfl⟩ : ∃ j, k = j + 1 := ⟨k - 1, by omega⟩
          have er : ringV t (k + 1) sn a = ringV t k (sn ++ [a]) (tf t a) := by
            show (if a ∈ sn then sn else ringV t k (sn ++ [a]) (tf t a)) = _
            rw [if_neg ha]
          refine ⟨.ref sl, rfl, .inl ⟨rfl, _, .inl (.inl h2)⟩, intV a, rfl, sl, _, _, rfl, rfl, h2, small1000 (by rw [List.length_map]; omega), ?_⟩
          have h3 : (upd H2 sl (.lst (sn.map intV ++ [intV a]))) sl = some (.lst ((sn ++ [a]).map intV)) := by
            rw [upd_same, List.map_append]
            rfl
          have s3 : Same H (upd H2 sl (.lst (sn.map intV ++ [intV a]))) := same_fill s2 nsl
          have m2 : lenAt H2 (some (some (.ref sl))) = sn.length := by
            rw [lenAt_lst h2, List.length_map]
          generalize upd H2 sl (.lst (sn.map intV ++ [intV a])) = H3 at h3 s3 ⊢
          refine ⟨.ref tq, rfl, intV a, rfl, tq, trnV t, a, intV (tf t a), rfl, rfl, (ft.mono s3.tups).sqt, atI_nat (tl a a4), ?_⟩
          refine ⟨⟨tf t a, sn ++ [a], k, rfl, h3, (tf_lt t ht a a4).1, ?_, fun x hx => ?_, er.symm.trans r2, by rw [List.length_append]; show 5 ≤ sn.length + 1 + k; omega, s3⟩, ?_⟩
          · rw [List.nodup_append]
            exact ⟨n2, by simp, fun x hx y hy z => ha (by rw [← List.mem_singleton.mp hy, ← z]; exact hx)⟩
          · rcases List.mem_append.mp hx with hx | hx
            · exact l2 x hx
            · rw [List.mem_singleton.mp hx]
              exact a4
          · show 5 - lenAt H3 (some (some (.ref sl))) < 5 - lenAt H2 (some (some (.ref sl)))
            rw [m2, lenAt_lst h3, List.length_map, List.length_append]
            show 5 - (sn.length + 1) < 5 - sn.length
            omega
      · rintro σ H2 Q1 Q2 m h
        obtain ⟨x, e, y, e2, p, xs, z1, z2, z3, z4, k, ek, z⟩ := h
        exact ⟨x, e, y, e2, p, xs, z1, z2, z3, z4, k, ek, m _ _ z⟩
    · rintro σ H1 ⟨y3, y4, rfl, h1, n1, l1, s1⟩
      obtain ⟨ro, rb⟩ := ring_odd t ht
      refine ⟨intV (ringS t 4).2, rfl, ?_⟩
      refine ⟨_, _, rfl, rfl, _, _, rfl, rfl, (show (2 : Int) ≠ 0 by decide), rfl, ?_⟩
      have z := q H1 s1
      rw [← ro] at z
      have e : decide (((4 : Int) - ((ringS t 4).2 : Int)).fmod 2 = 1) = decide (V.int (((4 : Int) - ((ringS t 4).2 : Int)).fmod 2) = V.int 1) := decide_eq_decide.mpr ⟨fun y => congrArg V.int y, fun y => by injection y⟩
      rw [e] at z
      exact z
end
end Bk

namespace Bk
open PySem PySem.Spec PyProof.Rows L2 RZ
local macro_rules | `(tactic| walk_at "g") => `(tactic| (repeat first | refine ⟨_, rfl, ?_⟩ | refine ⟨cpow, ?_⟩ | refine ⟨wideM, ?_⟩ | refine ⟨_, _, rfl, rfl, ?_⟩ | refine ⟨rfl, ?_⟩))
section
variable {P : Program} {w : World} {K : PySem.W.Frag} {mg : Str → Option Value} {base : Heap}
/-! ### _renamed_joining -/
abbrev s_renamed_joining : Stmt := topS 23
abbrev N_renamed_joining : List Str := ["joining", "order", "turns", "back", "other", "turn", "place", "corner"]
theorem sc_renamed_joining : FnScope N_renamed_joining ["joining", "order", "turns", "back"] (defScope s_renamed_joining) := ⟨rfl, rfl, rfl, by decide +kernel, rfl, by decide +kernel, by decide +kernel⟩
def spRenJ : Sp := fun vs H Q _ => ∃ (N N2 : Addr → Prop) (jv ov tv bv : V) (od td : PyData) (n : Nat) (o : List Nat) (ts : List Trn) (bk : Trn) (j : Jn), vs = [jv, ov, tv, bv] ∧ JAt H jv j ∧ Jok n j ∧ Dq N H ov od ∧ norm od = .list (o.map intD) ∧ Dq N2 H tv td ∧ norm td = trnsD ts ∧ Names n o ts ∧ n ≤ 60 ∧
  TAt H bv bk ∧ bk ∈ allTurns ∧ ∀ H' v', Same H H' → JAt H' v' (renJ o ts bk j) → Q v' H'
theorem ok_renamed_joining {f : Addr} {fd : FuncData} (F : Fun K "_renamed_joining" "_renamed_joining" s_renamed_joining f fd) (m_tuple : mg "tuple" = none) : FnOk P w K mg base CX0 1 f fd ["joining", "order", "turns", "back"] spRenJ := by
  refine F.ok sc_renamed_joining (fun vs H Q E h => ?_) (fun cdv A outer s H vs Q E hr h => ?_)
  · obtain ⟨N, N2, jv, ov, tv, bv, od, td, n, o, ts, bk, j, rfl, _⟩ := h
    rfl
  · obtain ⟨N, N2, jv, ov, tv, bv, od, td, n, o, ts, bk, j, rfl, hj, hjo, ho, no, ht, nt, hn, n60, ⟨pb, rfl, fb⟩, hbk, q⟩ := h
    have nd := sc_renamed_joining.nd
    refine ⟨_, (pss_cons (ps_if (pt_cmpR op_isN (pv 0) pe_non (nomark _)) (pss_one (ps_ret pe_non)) pss_nil)
      (pss_cons (ps_asg (pv 0) (kPgT K rfl (pg_tup (n := 2) rfl (pgs_cons (pg_name (i := 4) nd rfl (.inl rfl)) (pgs_cons (pg_name (i := 5) nd rfl (.inr rfl)) pgs_nil)))))
      (pss_cons (ps_set (i := 6) nd rfl (.inr rfl) (pe_idxE (kBM K rfl (pe_bm PySem.F.plainAttrs_list PySem.F.slot_list_index PySem.F.type_list_index (kIndexI K rfl) (pv 1) (pa_cons (pv 4) pa_nil))) (pe_bmF PySem.F.plainAttrs_tuple PySem.F.slot_tuple_index PySem.F.type_tuple_index (kTupIxN K rfl) (pv 1) (pa_cons (pv 4) pa_nil))))
      (pss_one (ps_ret (pe_tupF (pa_cons (pv 6) (pa_cons (pe_callTy (kTupleF K rfl) (by rfl) m_tuple (by decide +kernel) (pa_cons (pe_lc (own := [("corner", 7)]) (g := gName 7) (tt := tYes) rfl nd (kPiT K rfl (pi_tup (pv 3))) (blkOk_by (own := [("corner", 7)]) (N := N_renamed_joining) (sc := defScope s_renamed_joining) (by decide +kernel)) (fun _ _ _ _ _ => (pg_name (i := 7) nd rfl (Or.inl rfl))) (fun _ _ _ _ _ => pts_nil) (fun _ _ _ _ _ => (pe_ix (kIxE K rfl) (pe_ix (kIxE K rfl) (pv 2) (pv 6) (fun _ _ => rfl)) (pe_ix (kIxT K rfl) (pv 5) (pv 7) (fun _ _ => rfl)) (fun _ _ => rfl)))) pa_nil)) pa_nil)))))))), ?_⟩
    refine ⟨jv, rfl, rfl, ?_⟩
    rw [hj.isN]
    refine ⟨_, rfl, ?_⟩
    cases j with
    | none => exact iteT (q H _ (Same.refl H) rfl)
    | some k =>
      obtain ⟨b, t⟩ := k
      obtain ⟨hb, htm⟩ := hjo b t rfl
      obtain ⟨pj, pq, rfl, f1, f2⟩ := hj
      obtain ⟨mb, ib⟩ := hn.idx hb
      refine iteF ⟨.ref pj, rfl, pj, _, rfl, f1.sqt, rfl, _, _, rfl, _, _, rfl, rfl, ?_⟩
      -- place
      obtain ⟨a, rfl, ha⟩ := turn_of (K := K) ho no
      refine idxE a o b (fun R z => ⟨_, rfl, z⟩) (fun R z => ⟨_, rfl, z⟩) ha mb (by rw [hn.lo]; omega) ?_
      obtain ⟨_, _, et, mt⟩ := hn.at ib
      obtain ⟨a2, ys, x2, dx, rfl, hq, ly, hx2, hxd, nx⟩ := turns_at (K := K) ht nt et
      obtain ⟨a3, rfl, h3⟩ := turn_of (K := K) hxd nx
      have lbk := turns4 bk hbk
      refine ⟨intV (o.idxOf b), rfl, .ref pb, rfl, pb, rfl, ⟨_, fb.sqt⟩, fun D nD => ?_⟩
      refine lc_tup (xs := trnV bk) (fun i H2 => H2 = upd H D (.lst (((bk.take i).map fun c => tf (tsAt ts (o.idxOf b)) (tf t c)).map intV))) rfl ?_ ?_ ?_
      · rintro i H2 _ rfl
        exact (fb.mono (same_new nD).tups).sqt
      · rintro i x H2 hx rfl
        obtain ⟨c, rfl, hc⟩ : ∃ c, x = intV c ∧ bk[i]? = some c := by
          unfold trnV at hx
          rw [List.getElem?_map] at hx
          cases e : bk[i]? with
          | none => rw [e] at hx; cases hx
          | some c => rw [e] at hx; exact ⟨c, (Option.some.inj hx).symm, rfl⟩
        have c4 := lbk.2.1 c (List.mem_of_getElem? hc)
        have htf := tf_lt t htm c c4
        have htf2 := tf_lt _ mt (tf t c) htf.1
        have s2 : Same H (upd H D (.lst (((bk.take i).map fun c => tf (tsAt ts (o.idxOf b)) (tf t c)).map intV))) := same_new nD
        refine ⟨rfl, .ref a2, rfl, intV (o.idxOf b), rfl, ixS (hq.imp (fun z => s2.seq z) (fun z => s2.sqt z)) (atI_nat hx2) ?_⟩
        refine ⟨.ref pq, rfl, intV c, rfl, pq, trnV t, c, intV (tf t c), rfl, rfl, (f2.mono s2.tups).sqt, atI_nat (by unfold trnV; rw [List.getElem?_map, htf.2]; rfl), ?_⟩
        refine ixE (seq_same h3 s2) (atI_nat (v := intV (tf (tsAt ts (o.idxOf b)) (tf t c))) (by unfold trnV; rw [List.getElem?_map, htf2.2]; rfl)) ?_
        refine ⟨_, upd_same, small1000 (by rw [List.length_map, List.length_map, List.length_take, lbk.1]; omega), ?_⟩
        rw [upd_upd, take_succ_map hc, List.map_append]
        rfl
      · rintro H2 rfl
        rw [show (trnV bk).length = bk.length from List.length_map .., List.take_length]
        generalize hw : (bk.map fun c => tf (tsAt ts (o.idxOf b)) (tf t c)) = w
        have s2 : Same H (upd H D (.lst (w.map intV))) := same_new nD
        have h2 : (upd H D (.lst (w.map intV))) D = some (.lst (trnV w)) := upd_same
        generalize upd H D (.lst (w.map intV)) = H2 at s2 h2 ⊢
        refine ⟨D, _, rfl, .inl ⟨.inl (.inl h2), fun p2 o2 np2 d2 => ?_⟩⟩
        have s3 : Same H2 (upd H2 p2 (.frz o2 (.tup (trnV w)))) := same_new np2
        have ft : FT (upd H2 p2 (.frz o2 (.tup (trnV w)))) p2 (trnV w) := FT.new d2
        generalize upd H2 p2 (.frz o2 (.tup (trnV w))) = H3 at s3 ft ⊢
        refine ⟨Nat.le_of_lt (small1000 (by show 2 ≤ 1000; decide)), fun p3 o3 np3 d3 => ?_⟩
        have s4 : Same H3 (upd H3 p3 (.frz o3 (.tup [intV (o.idxOf b), .ref p2]))) := same_new np3
        refine q _ _ ((s2.trans s3).trans s4) ?_
        show JAt _ _ (some (o.idxOf b, bk.map fun c => tf (tsAt ts (o.idxOf b)) (tf t c)))
        rw [hw]
        exact ⟨p3, p2, rfl, FT.new d3, ft.mono s4.tups⟩
/-! ### _renamed_block -/
abbrev s_renamed_block : Stmt := topS 22
abbrev N_renamed_block : List Str := ["space", "order", "turns", "place", "block", "back", "face"]
theorem sc_renamed_block : FnScope N_renamed_block ["space", "order", "turns", "place"] (defScope s_renamed_block) := ⟨rfl, rfl, rfl, by decide +kernel, rfl, by decide +kernel, by decide +kernel⟩
def spRenB : Sp := fun vs H Q _ => ∃ (N N2 : Addr → Prop) (v ov tv : V) (od td : PyData) (S : Spc) (o : List Nat) (ts : List Trn) (k : Nat), vs = [v, ov, tv, intV k] ∧ ST H v S ∧ Good S ∧ Dq N H ov od ∧ norm od = .list (o.map intD) ∧ Dq N2 H tv td ∧ norm td = trnsD ts ∧ Names S.length o ts ∧ S.length ≤ 60 ∧
  k < S.length ∧ ∀ H' v', Same H H' → BT H' v' (renB S o ts k) → Q v' H'
theorem ok_renamed_block {f fC fJ : Addr} {fd fdC fdJ : FuncData} (F : Fun K "_renamed_block" "_renamed_block" s_renamed_block f fd)
    (Fcontrary : Fun K "contrary" "contrary" scontrary fC fdC) (gcontrary : mg "contrary" = some (.ref fC)) (bcontrary : Binds K fdC ["turn"] []) (Gcontrary : FnOk P w K mg base CX0 1 fC fdC ["turn"] spBackE)
    (F_renamed_joining : Fun K "_renamed_joining" "_renamed_joining" s_renamed_joining fJ fdJ) (g_renamed_joining : mg "_renamed_joining" = some (.ref fJ)) (b_renamed_joining : Binds K fdJ ["joining", "order", "turns", "back"] []) (G_renamed_joining : FnOk P w K mg base CX0 1 fJ fdJ ["joining", "order", "turns", "back"] spRenJ)
    (m_tuple : mg "tuple" = none) : FnOk P w K mg base CX0 2 f fd ["space", "order", "turns", "place"] spRenB := by
  refine F.ok sc_renamed_block (fun vs H Q E h => ?_) (fun cdv A outer s H vs Q E hr h => ?_)
  · obtain ⟨N, N2, v, ov, tv, od, td, S, o, ts, k, rfl, _⟩ := h
    rfl
  · obtain ⟨N, N2, v, ov, tv, od, td, S, o, ts, k, rfl, hv, hG, ho, no, ht, nt, hn, n60, hk, q⟩ := h
    have nd := sc_renamed_block.nd
    refine ⟨_, (pss_cons (ps_set (i := 4) nd rfl (.inr rfl) (pe_ix (kIxT K rfl) (pv 0) (pe_ix (kIxE K rfl) (pv 1) (pv 3) (fun _ _ => rfl)) (fun _ _ => rfl)))
      (pss_cons (ps_set (i := 5) nd rfl (.inr rfl) (pe_call Gcontrary (hr.mono (by first | decide | omega)) (by rfl) gcontrary Fcontrary.kp bcontrary .nil pass0 (pa_cons (pe_ix (kIxE K rfl) (pv 2) (pv 3) (fun _ _ => rfl)) pa_nil)))
      (pss_one (ps_ret (pe_callTy (kTupleF K rfl) (by rfl) m_tuple (by decide +kernel) (pa_cons (pe_lc (own := [("face", 6)]) (g := gName 6) (tt := tYes) rfl nd (kPiT K rfl (pi_tup (pv 5))) (blkOk_by (own := [("face", 6)]) (N := N_renamed_block) (sc := defScope s_renamed_block) (by decide +kernel)) (fun _ _ _ _ _ => (pg_name (i := 6) nd rfl (Or.inl rfl))) (fun _ _ _ _ _ => pts_nil) (fun _ _ _ _ _ => (pe_call G_renamed_joining (hr.mono (by first | decide | omega)) (by rfl) g_renamed_joining F_renamed_joining.kp b_renamed_joining .nil pass0 (pa_cons (pe_ix (kIxT K rfl) (pv 4) (pv 6) (fun _ _ => rfl)) (pa_cons (pv 1) (pa_cons (pv 2) (pa_cons (pv 5) pa_nil))))))) pa_nil)))))), ?_⟩
    obtain ⟨eo, lo, et, mt⟩ := hn.at hk
    obtain ⟨a, rfl, ha⟩ := turn_of (K := K) ho no
    obtain ⟨a2, ys, x2, dx, rfl, hq, ly, hx2, hxd, nx⟩ := turns_at (K := K) ht nt et
    obtain ⟨a3, rfl, h3⟩ := turn_of (K := K) hxd nx
    obtain ⟨b4, bat, bmem⟩ := back4 mt
    obtain ⟨j0, hj0⟩ := hG.l4.get (b := tf o k) (f := 0) lo (by decide)
    obtain ⟨p, rs, pb, vb, x0, rfl, f1, k1, f2, _, _⟩ := hv.face hj0
    refine ⟨.ref p, rfl, .ref a, rfl, intV k, rfl, ixE ha (atI_nat (v := intV (tf o k)) (by unfold trnV; rw [List.getElem?_map, eo]; rfl)) ?_⟩
    refine ⟨p, rs, (tf o k : Nat), .ref pb, rfl, rfl, f1.sqt, atI_nat k1, ?_⟩
    -- back
    refine ⟨.ref a2, rfl, intV k, rfl, ixS hq (atI_nat hx2) ?_⟩
    refine backE h3 mt (fun H1 pbk s1 n1 T1 => ?_)
    obtain ⟨pbk', e1, T1⟩ := T1
    cases e1
    refine ⟨.ref pbk, rfl, pbk, rfl, ⟨_, T1.sqt⟩, fun D nD => ?_⟩
    refine lc_tup (xs := trnV (back (tsAt ts k))) (fun i H2 => ∃ ws, H2 D = some (.lst ws) ∧ Paired (JAt H2) ws (((back (tsAt ts k)).take i).map fun f => renJ o ts (back (tsAt ts k)) ((getJ S (tf o k) f).getD none)) ∧ Same H1 H2) ⟨[], upd_same, .nil, same_new nD⟩ ?_ ?_ ?_
    · rintro i H2 _ ⟨ws, h2, t2, s2⟩
      exact (T1.mono s2.tups).sqt
    · rintro i x H2 hx ⟨ws, h2, t2, s2⟩
      obtain ⟨c, rfl, hc⟩ : ∃ c, x = intV c ∧ (back (tsAt ts k))[i]? = some c := by
        unfold trnV at hx
        rw [List.getElem?_map] at hx
        cases e : (back (tsAt ts k))[i]? with
        | none => rw [e] at hx; cases hx
        | some c => rw [e] at hx; exact ⟨c, (Option.some.inj hx).symm, rfl⟩
      have c4 := bmem c (List.mem_of_getElem? hc)
      obtain ⟨j, hj⟩ := hG.l4.get (b := tf o k) (f := c) lo c4
      obtain ⟨p', rs', pb', vb', x, ep, f1', k1', f2', k2', jx⟩ := hv.face hj
      cases ep
      obtain rfl := f1.inj f1'
      rw [k1] at k1'
      cases k1'
      obtain rfl := f2.inj f2'
      have sA := s1.trans s2
      refine ⟨rfl, .ref pb, rfl, intV c, rfl, pb, vb, c, x, rfl, rfl, (f2.mono sA.tups).sqt, atI_nat k2', ?_⟩
      refine ⟨.ref a, rfl, .ref a2, rfl, .ref pbk, rfl, N, N2, x, .ref a, .ref a2, .ref pbk, od, td, S.length, o, ts, back (tsAt ts k), j, rfl, jx.mono sA.tups, hG.jokAt hj, ho.same sA, no, ht.same sA, nt, hn, n60, ⟨pbk, rfl, T1.mono s2.tups⟩, back_mem mt, fun H3 v3 s3 j3 => ?_⟩
      have h3 := s3 _ _ h2
      refine ⟨ws, h3, small1000 (by rw [plen t2, List.length_map, List.length_take, b4]; omega), ws ++ [v3], upd_same, ?_, same_fill (s2.trans s3) nD⟩
      rw [take_succ_map hc, hj]
      exact papp (pmono t2 fun _ _ z => z.mono (s3.tups.trans (tups_set h3))) (.cons (j3.mono (tups_set h3)) .nil)
    · rintro H2 ⟨ws, h2, t2, s2⟩
      rw [show (trnV (back (tsAt ts k))).length = (back (tsAt ts k)).length from List.length_map .., List.take_length] at t2
      refine ⟨D, ws, rfl, .inl ⟨.inl (.inl h2), fun p2 o2 np2 d2 => ?_⟩⟩
      have s3 : Same H2 (upd H2 p2 (.frz o2 (.tup ws))) := same_new np2
      exact q _ _ ((s1.trans s2).trans s3) ⟨p2, ws, rfl, FT.new d2, pmono t2 fun _ _ z => z.mono s3.tups⟩
/-! ### renamed -/
abbrev srenamed : Stmt := topS 21
abbrev Nrenamed : List Str := ["space", "order", "turns", "whole", "many", "turn", "place"]
theorem screnamed : FnScope Nrenamed ["space", "order", "turns"] (defScope srenamed) := ⟨rfl, rfl, rfl, by decide +kernel, rfl, by decide +kernel, by decide +kernel⟩
def spRenamed : Sp := fun vs H Q _ => ∃ (N N1 N2 : Addr → Prop) (v ov tv : V) (d od td : PyData) (S : Spc) (o : List Nat) (ts : List Trn), vs = [v, ov, tv] ∧ Dq N H v d ∧ norm d = nS S ∧ Good S ∧ 1 ≤ S.length ∧ S.length ≤ 60 ∧ Dq N1 H ov od ∧ norm od = .list (o.map intD) ∧ Dq N2 H tv td ∧ norm td = trnsD ts ∧ Names S.length o ts ∧
  ∀ H' v', Same H H' → ST H' v' (renS S o ts) → Q v' H'
theorem okrenamed {f fX fO fL fT fB : Addr} {fd fdX fdO fdL fdT fdB : FuncData} (F : Fun K "renamed" "renamed" srenamed f fd)
    (Fspace_of : Fun K "space_of" "space_of" sspace_of fX fdX) (gspace_of : mg "space_of" = some (.ref fX)) (bspace_of : Binds K fdX ["blocks"] []) (Gspace_of : FnOk P w K mg base CX0 6 fX fdX ["blocks"] spSpace)
    (Fis_order : Fun K "is_order" "is_order" sis_order fO fdO) (gis_order : mg "is_order" = some (.ref fO)) (bis_order : Binds K fdO ["thing", "many"] []) (Gis_order : FnOk P w K mg base CX0 2 fO fdO ["thing", "many"] spOrder)
    (Fis_listed : Fun K "is_listed" "is_listed" sis_listed fL fdL) (gis_listed : mg "is_listed" = some (.ref fL)) (bis_listed : Binds K fdL ["thing"] []) (Gis_listed : FnOk P w K mg base CX0 1 fL fdL ["thing"] spListed)
    (Fis_turn : Fun K "is_turn" "is_turn" sis_turn fT fdT) (gis_turn : mg "is_turn" = some (.ref fT)) (bis_turn : Binds K fdT ["thing"] []) (Gis_turn : FnOk P w K mg base CX0 3 fT fdT ["thing"] spTurn)
    (F_renamed_block : Fun K "_renamed_block" "_renamed_block" s_renamed_block fB fdB) (g_renamed_block : mg "_renamed_block" = some (.ref fB)) (b_renamed_block : Binds K fdB ["space", "order", "turns", "place"] []) (G_renamed_block : FnOk P w K mg base CX0 2 fB fdB ["space", "order", "turns", "place"] spRenB)
    (m_len : mg "len" = none) (m_tuple : mg "tuple" = none) (m_all : mg "all" = none) (m_range : mg "range" = none) : FnOk P w K mg base CX0 7 f fd ["space", "order", "turns"] spRenamed := by
  refine F.ok screnamed (fun vs H Q E h => ?_) (fun cdv A outer s H vs Q E hr h => ?_)
  · obtain ⟨N, N1, N2, v, ov, tv, d, od, td, S, o, ts, rfl, _⟩ := h
    rfl
  · obtain ⟨N, N1, N2, v, ov, tv, d, od, td, S, o, ts, rfl, hd, nd0, hG, hl1, hl2, ho, no, ht, nt, hn, q⟩ := h
    have nd := screnamed.nd
    refine ⟨_, (pss_cons (ps_set (i := 3) nd rfl (.inr rfl) (pe_call Gspace_of (hr.mono (by first | decide | omega)) (by rfl) gspace_of Fspace_of.kp bspace_of .nil pass0 (pa_cons (pv 0) pa_nil)))
      (pss_cons (ps_set (i := 4) nd rfl (.inl rfl) (pe_callB (kLen K rfl) (by rfl) m_len (by decide +kernel) (pa_cons (pv 3) pa_nil)))
      (pss_cons (ps_if (pt_not (pt_val (pe_call Gis_order (hr.mono (by first | decide | omega)) (by rfl) gis_order Fis_order.kp bis_order .nil pass0 (pa_cons (pv 1) (pa_cons (pv 4) pa_nil))))) (pss_one ps_never) pss_nil)
      (pss_cons (ps_if (pw_or (pt_not (pt_val (pe_call Gis_listed (hr.mono (by first | decide | omega)) (by rfl) gis_listed Fis_listed.kp bis_listed .nil pass0 (pa_cons (pv 2) pa_nil)))) (pw_or (pt_cmpR op_ne (pe_callB (kLen K rfl) (by rfl) m_len (by decide +kernel) (pa_cons (pv 2) pa_nil)) (pv 4) (nomark _)) (pw_or1 (pt_not (pt_val (pe_callB (kAll K rfl rfl) (by rfl) m_all (by decide +kernel) (pa_cons (pe_lc (own := [("turn", 5)]) (g := gName 5) (tt := tYes) rfl nd (kPiS K rfl (pv 2)) (blkOk_by (own := [("turn", 5)]) (N := Nrenamed) (sc := defScope srenamed) (by decide +kernel)) (fun _ _ _ _ _ => (pg_name (i := 5) nd rfl (Or.inl rfl))) (fun _ _ _ _ _ => pts_nil) (fun _ _ _ _ _ => (pe_call Gis_turn (hr.mono (by first | decide | omega)) (by rfl) gis_turn Fis_turn.kp bis_turn .nil pass0 (pa_cons (pv 5) pa_nil)))) pa_nil))))))).pt (pss_one ps_never) pss_nil)
      (pss_one (ps_ret (pe_callTy (kTupleF K rfl) (by rfl) m_tuple (by decide +kernel) (pa_cons (pe_lc (own := [("place", 6)]) (g := gName 6) (tt := tYes) rfl nd (pi_range1 (by rfl) m_range (pa_cons (pv 4) pa_nil)) (blkOk_by (own := [("place", 6)]) (N := Nrenamed) (sc := defScope srenamed) (by decide +kernel)) (fun _ _ _ _ _ => (pg_name (i := 6) nd rfl (Or.inl rfl))) (fun _ _ _ _ _ => pts_nil) (fun _ _ _ _ _ => (pe_call G_renamed_block (hr.mono (by first | decide | omega)) (by rfl) g_renamed_block F_renamed_block.kp b_renamed_block .nil pass0 (pa_cons (pv 3) (pa_cons (pv 1) (pa_cons (pv 2) (pa_cons (pv 6) pa_nil))))))) pa_nil)))))))), ?_⟩
    refine ⟨v, rfl, N, v, d, S, rfl, hd, nd0, hG, hl1, by omega, fun H1 u s1 st1 => ?_⟩
    have st1' := st1
    obtain ⟨p, rs, rfl, f1, b1⟩ := st1
    have lrs : rs.length = S.length := plen b1
    refine ⟨.ref p, rfl, p, rs, rfl, .inr f1.sqt, ?_⟩
    refine ⟨ov, rfl, V.int rs.length, rfl, N1, ov, od, o, rs.length, rfl, ho.same s1, no, by rw [lrs]; exact hn.o, by omega, fun H2 s2 => ⟨_, rfl, iteF ?_⟩⟩
    have ht2 := ht.same (s1.trans s2)
    obtain ⟨a, xs, ds, rfl, hq, _, hds, en⟩ := ht2.seq (K := K) nt
    have lxs : xs.length = S.length := by rw [hds.len, norm_len en, hn.l]
    have sq : isSeqD td = true := by
      cases td <;> first | rfl | (simp only [norm, trnsD] at nt; cases nt)
    refine ⟨.ref a, rfl, N2, .ref a, td, rfl, ht2, fun H3 s3 => ?_⟩
    rw [sq]
    refine ⟨_, rfl, iteF ?_⟩
    have hq3 := hq.imp (fun z => s3.seq z) (fun z => s3.sqt z)
    refine ⟨.ref a, rfl, a, xs, rfl, hq3, V.int rs.length, rfl, rfl, _, rfl, iteNS (by rw [lxs, lrs]) ?_⟩
    refine ⟨.ref a, rfl, a, xs, rfl, hq3, fun J C hJ hC => ?_⟩
    intro D nD
    refine lc_seq (xs := xs) hJ (fun i H4 => H4 D = some (.lst ((List.replicate i true).map V.bl)) ∧ Same H3 H4) ⟨upd_same, same_new nD⟩ ?_ ?_ ?_
    · rintro i H4 ⟨h4, s4⟩
      exact SeqIt.mono K hJ (fun o e => s4 _ _ e) hC
    · rintro i x H4 hx ⟨h4, s4⟩
      obtain ⟨dx, hdx, hxd⟩ := hds.get hx
      obtain ⟨t, hti, et⟩ := norm_at en hdx
      have lk := (List.getElem?_eq_some_iff.mp hx).1
      refine ⟨rfl, x, rfl, N2, x, dx, t, rfl, hxd.same (s3.trans s4), et, hn.t t (List.mem_of_getElem? hti), fun H5 s5 => ?_⟩
      refine ⟨_, s5 _ _ h4, small1000 (by rw [List.length_map, List.length_replicate]; omega), ?_, same_fill (s4.trans s5) nD⟩
      rw [upd_same, List.replicate_succ', List.map_append]
      rfl
    · rintro H4 ⟨h4, s4⟩
      have eall : (List.replicate xs.length true).all id = true := by
        rw [List.all_eq_true]
        intro y hy
        rw [List.eq_of_mem_replicate hy]
        rfl
      refine ⟨D, _, rfl, .inl (.inl h4), _, rfl, ?_⟩
      rw [eall]
      refine iteF ?_
      have s14 := (s2.trans s3).trans s4
      refine ⟨V.int rs.length, rfl, (rs.length : Int), rfl, by omega, by omega, fun D2 nD2 => ?_⟩
      rw [lrs, Int.toNat_natCast]
      refine lc_range (lo := 0) (n := S.length) (fun i H5 => ∃ ws, H5 D2 = some (.lst ws) ∧ Paired (BT H5) ws ((List.range i).map (renB S o ts)) ∧ Same H4 H5) ⟨[], upd_same, .nil, same_new nD2⟩ ?_ ?_
      · rintro i H5 hi ⟨ws, h5, t5, s5⟩
        rw [Int.zero_add]
        have s15 := s14.trans s5
        refine ⟨rfl, .ref p, rfl, ov, rfl, .ref a, rfl, intV i, rfl, N1, N2, .ref p, ov, .ref a, od, td, S, o, ts, i, rfl, st1'.mono s15.tups, hG, ho.same (s1.trans s15), no, ht.same (s1.trans s15), nt, hn, hl2, hi, fun H6 v6 s6 b6 => ?_⟩
        have h6 := s6 _ _ h5
        refine ⟨ws, h6, small1000 (by rw [plen t5, List.length_map, List.length_range]; omega), ws ++ [v6], upd_same, ?_, same_fill (s5.trans s6) nD2⟩
        rw [List.range_succ, List.map_append]
        exact papp (pmono t5 fun _ _ z => z.mono (s6.tups.trans (tups_set h6))) (.cons (b6.mono (tups_set h6)) .nil)
      · rintro H5 ⟨ws, h5, t5, s5⟩
        refine ⟨D2, ws, rfl, .inl ⟨.inl (.inl h5), fun p2 o2 np2 d2 => ?_⟩⟩
        have s6 : Same H5 (upd H5 p2 (.frz o2 (.tup ws))) := same_new np2
        exact q _ _ (((s1.trans s14).trans s5).trans s6) ⟨p2, ws, rfl, FT.new d2, pmono t5 fun _ _ z => z.mono s6.tups⟩
end
end Bk

namespace Bk
open PySem PySem.Spec PyProof.Rows L2 RZ
local macro_rules | `(tactic| walk_at "g") => `(tactic| (repeat first | refine ⟨_, rfl, ?_⟩ | refine ⟨cpow, ?_⟩ | refine ⟨wideM, ?_⟩ | refine ⟨_, _, rfl, rfl, ?_⟩ | refine ⟨rfl, ?_⟩))
section
variable {P : Program} {w : World} {K : PySem.W.Frag} {mg : Str → Option Value} {base : Heap}
/-! ### _law_names -/
theorem rgV_nat (n : Nat) : rgV 0 (n : Int) = (List.range n).map intV := by
  unfold rgV
  rw [show ((n : Int) - 0).toNat = n by omega]
  exact List.map_congr_left fun x _ => by
    show V.int (0 + (x : Int)) = V.int (x : Int)
    rw [Int.zero_add]
structure NamesAt (H0 H : Hp) (R po pt : Addr) (o : List Nat) (ws : List V) (ts : List Trn) (n : Nat) : Prop where
  ho : H po = some (.lst (trnV o))
  ht : H pt = some (.lst ws)
  hw : Paired (TAt H) ws ts
  ok : Names n o ts
  ao : Away R po H
  at_ : Away R pt H
  ne : po ≠ pt
  fo : H0 po = none
  ft : H0 pt = none
def spNames : Sp := fun vs H Q _ => ∃ (R : Addr) (n : Nat), vs = [.ref R, intV n] ∧ 1 ≤ n ∧ n ≤ 60 ∧ ReelOk R H ∧
  ∀ H' p po pt o ws ts, Keep R H H' → Aw R H H' → ReelOk R H' → FT H' p [.ref po, .ref pt] → NamesAt H H' R po pt o ws ts n → Q (.ref p) H'
end
end Bk

namespace Bk
open PySem PySem.Spec PyProof.Rows L2 RZ
local macro_rules | `(tactic| walk_at "g") => `(tactic| (repeat first | refine ⟨_, rfl, ?_⟩ | refine ⟨cpow, ?_⟩ | refine ⟨wideM, ?_⟩ | refine ⟨_, _, rfl, rfl, ?_⟩ | refine ⟨rfl, ?_⟩))
/-! ### renamed spaces, face by face -/
theorem spc_ext {U W : Spc} (l : U.length = W.length) (h4 : L4 U) (h4' : L4 W) (h : ∀ b g, b < U.length → g < 4 → getJ U b g = getJ W b g) : U = W := by
  apply List.ext_getElem l
  intro b hb hb'
  have e1 : U[b]? = some U[b] := List.getElem?_eq_getElem hb
  have e2 : W[b]? = some W[b] := List.getElem?_eq_getElem hb'
  have l1 := h4 _ (List.getElem_mem hb)
  have l2 := h4' _ (List.getElem_mem hb')
  apply List.ext_getElem (l1.trans l2.symm)
  intro g hg hg'
  have := h b g hb (by omega)
  unfold getJ at this
  rw [e1, e2] at this
  have z : U[b][g]? = W[b][g]? := this
  rw [List.getElem?_eq_getElem hg, List.getElem?_eq_getElem hg'] at z
  exact Option.some.inj z
theorem tf_eq {t : Trn} {i c : Nat} (h : t[i]? = some c) : tf t i = c := by
  unfold tf
  rw [h]
  rfl
theorem range_tf {b : Trn} (h : b.length = 4) : b = (List.range 4).map (tf b) := by
  apply List.ext_getElem (by rw [h]; rfl)
  intro i h1 h2
  rw [List.getElem_map, List.getElem_range]
  exact (tf_eq (List.getElem?_eq_getElem h1)).symm
theorem tf_map {w : Trn} {f : Nat → Nat} {c : Nat} (hc : c < w.length) : tf (w.map f) c = f (tf w c) := by
  unfold tf
  rw [List.getElem?_map, List.getElem?_eq_getElem hc]
  rfl
def tJ (S : Spc) (o : List Nat) (ts : List Trn) (b g : Nat) : Jn := renJ o ts (back (tsAt ts b)) ((getJ S (tf o b) (tf (back (tsAt ts b)) g)).getD none)
theorem getJ_ren {S : Spc} {o : List Nat} {ts : List Trn} {b g : Nat} (hb : b < S.length) (hg : g < 4) (ht : tsAt ts b ∈ allTurns) : getJ (renS S o ts) b g = some (tJ S o ts b g) := by
  have e1 : (renS S o ts)[b]? = some (renB S o ts b) := by
    unfold renS
    rw [List.getElem?_map, List.getElem?_range hb]
    rfl
  unfold getJ
  rw [e1]
  show (renB S o ts b)[g]? = _
  unfold renB
  rw [List.getElem?_map, ((back4 ht).2.1 g hg).1]
  rfl
theorem renS_l4 {S : Spc} {o : List Nat} {ts : List Trn} (h : Names S.length o ts) : L4 (renS S o ts) := fun b hb => by
  unfold renS at hb
  obtain ⟨k, hk, rfl⟩ := List.mem_map.mp hb
  exact renB_len (h.at (List.mem_range.mp hk)).2.2.2
/-- all turns are there and back -/
theorem there {t : Trn} (h : t ∈ allTurns) {f : Nat} (hf : f < 4) : tf t f < 4 ∧ tf (back t) (tf t f) = f := ⟨(tf_lt t h f hf).1, tf_back t h f hf⟩
theorem backto {t : Trn} (h : t ∈ allTurns) {g : Nat} (hg : g < 4) : tf (back t) g < 4 ∧ tf t (tf (back t) g) = g := by
  have hb := back_mem h
  have := there hb hg
  rw [back_back t h] at this
  exact this
theorem map_set4 {α : Type} {F G : Nat → α} {g0 : Nat} (hg : g0 < 4) (h : ∀ g < 4, g ≠ g0 → F g = G g) : ((List.range 4).map F).set g0 (G g0) = (List.range 4).map G := by
  apply List.ext_getElem (by rw [List.length_set, List.length_map, List.length_map])
  intro i h1 h2
  rw [List.length_map, List.length_range] at h2
  rw [List.getElem_set, List.getElem_map, List.getElem_map, List.getElem_range]
  by_cases e : g0 = i
  · rw [if_pos e, e]
  · rw [if_neg e]
    exact h i h2 (fun z => e z.symm)
/-- what stands so far -/
structure Part (S : Spc) (o : List Nat) (ts : List Trn) (k f : Nat) (U : Spc) : Prop where
  l : U.length = S.length
  l4 : L4 U
  at_ : ∀ b g, b < S.length → g < 4 → getJ U b g = some (if b < k ∨ (b = k ∧ tf (back (tsAt ts b)) g < f) then tJ S o ts b g else none)
theorem Part.zero (S : Spc) (o : List Nat) (ts : List Trn) : Part S o ts 0 0 (freeS S.length) := by
  refine ⟨List.length_replicate, (freeS_good _).l4, fun b g hb hg => ?_⟩
  obtain ⟨z, hz⟩ := (freeS_good S.length).l4.get (b := b) (f := g) (by unfold freeS; rw [List.length_replicate]; exact hb) hg
  rw [hz, freeS_get hz, if_neg (by omega)]
theorem Part.next {S : Spc} {o : List Nat} {ts : List Trn} {k : Nat} {U : Spc} (h : Part S o ts k 4 U) (hn : Names S.length o ts) : Part S o ts (k + 1) 0 U := by
  refine ⟨h.l, h.l4, fun b g hb hg => ?_⟩
  rw [h.at_ b g hb hg]
  have := (backto (hn.at hb).2.2.2 hg).1
  by_cases e : b < k ∨ (b = k ∧ tf (back (tsAt ts b)) g < 4)
  · rw [if_pos e, if_pos (by omega)]
  · rw [if_neg e, if_neg (by omega)]
theorem Part.skip {S : Spc} {o : List Nat} {ts : List Trn} {k f : Nat} {U : Spc} (h : Part S o ts k f U) (hn : Names S.length o ts) (hk : k < S.length) (e : getJ S (tf o k) f = some none) : Part S o ts k (f + 1) U := by
  refine ⟨h.l, h.l4, fun b g hb hg => ?_⟩
  rw [h.at_ b g hb hg]
  by_cases e1 : b < k ∨ (b = k ∧ tf (back (tsAt ts b)) g < f)
  · rw [if_pos e1, if_pos (by omega)]
  · rw [if_neg e1]
    by_cases e2 : b < k ∨ (b = k ∧ tf (back (tsAt ts b)) g < f + 1)
    · rw [if_pos e2]
      obtain ⟨rfl, e3⟩ : b = k ∧ tf (back (tsAt ts b)) g = f := by omega
      unfold tJ
      rw [e3, e]
      rfl
    · rw [if_neg e2]
theorem Part.put {S : Spc} {o : List Nat} {ts : List Trn} {k f n : Nat} {t : Trn} {U : Spc} (h : Part S o ts k f U) (hn : Names S.length o ts) (hk : k < S.length) (hf : f < 4) (e : getJ S (tf o k) f = some (some (n, t))) :
    Part S o ts k (f + 1) (setJ U k (tf (tsAt ts k) f) (renJ o ts (back (tsAt ts k)) (some (n, t)))) := by
  have mt := (hn.at hk).2.2.2
  have th := there mt hf
  refine ⟨by rw [setJ_len]; exact h.l, h.l4.set _ _ _, fun b g hb hg => ?_⟩
  rw [getJ_set, h.at_ b g hb hg]
  by_cases c : b = k ∧ g = tf (tsAt ts k) f
  · obtain ⟨rfl, rfl⟩ := c
    rw [if_pos ⟨rfl, rfl⟩, Option.map_some]
    have e2 : (if b < b ∨ (b = b ∧ tf (back (tsAt ts b)) (tf (tsAt ts b) f) < f + 1) then tJ S o ts b (tf (tsAt ts b) f) else none) = tJ S o ts b (tf (tsAt ts b) f) := if_pos (.inr ⟨rfl, by rw [th.2]; omega⟩)
    rw [e2]
    unfold tJ
    rw [th.2, e]
    rfl
  · rw [if_neg c]
    have nf : b = k → tf (back (tsAt ts b)) g ≠ f := fun z z2 => c ⟨z, by
      subst z
      have := (backto mt hg).2
      rw [z2] at this
      exact this.symm⟩
    by_cases e1 : b < k ∨ (b = k ∧ tf (back (tsAt ts b)) g < f)
    · rw [if_pos e1, if_pos (by omega)]
    · rw [if_neg e1, if_neg (fun z => e1 (by
        rcases z with z | ⟨z1, z2⟩
        · exact .inl z
        · have := nf z1
          exact .inr ⟨z1, by omega⟩))]
theorem Part.done {S : Spc} {o : List Nat} {ts : List Trn} {U : Spc} (h : Part S o ts S.length 0 U) (hn : Names S.length o ts) : U = renS S o ts := by
  refine spc_ext (h.l.trans (renS_len S o ts).symm) h.l4 (renS_l4 hn) fun b g hb hg => ?_
  rw [h.l] at hb
  rw [h.at_ b g hb hg, getJ_ren hb hg (hn.at hb).2.2.2, if_pos (.inl hb)]
/-- the turn so far -/
def turnTo (tk : Trn) (X : Nat → Nat) (c : Nat) : List Nat := (List.range 4).map fun g => if tf (back tk) g < c then X (tf (back tk) g) else 0
theorem turnTo_zero (tk : Trn) (X : Nat → Nat) : turnTo tk X 0 = [0, 0, 0, 0] := rfl
theorem turnTo_set {tk : Trn} (h : tk ∈ allTurns) (X : Nat → Nat) {c : Nat} (hc : c < 4) : (turnTo tk X c).set (tf tk c) (X c) = turnTo tk X (c + 1) := by
  have th := there h hc
  unfold turnTo
  have e : X c = (fun g => if tf (back tk) g < c + 1 then X (tf (back tk) g) else 0) (tf tk c) := by
    show X c = if tf (back tk) (tf tk c) < c + 1 then X (tf (back tk) (tf tk c)) else 0
    rw [th.2, if_pos (by omega)]
  rw [e]
  refine map_set4 (F := fun g => if tf (back tk) g < c then X (tf (back tk) g) else 0) (G := fun g => if tf (back tk) g < c + 1 then X (tf (back tk) g) else 0) th.1 fun g hg ne => ?_
  show (if tf (back tk) g < c then X (tf (back tk) g) else 0) = if tf (back tk) g < c + 1 then X (tf (back tk) g) else 0
  have nc : tf (back tk) g ≠ c := fun z => ne (by
    have := (backto h hg).2
    rw [z] at this
    exact this.symm)
  by_cases e1 : tf (back tk) g < c
  · rw [if_pos e1, if_pos (by omega)]
  · rw [if_neg e1, if_neg (by omega)]
theorem turnTo_all {tk : Trn} (h : tk ∈ allTurns) (X : Nat → Nat) : turnTo tk X 4 = (back tk).map X := by
  have e := range_tf (back4 h).1
  unfold turnTo
  conv => rhs; rw [e, List.map_map]
  refine List.map_congr_left fun g hg => ?_
  rw [if_pos (backto h (List.mem_range.mp hg)).1]
  rfl
end Bk

namespace Bk
open PySem PySem.Spec PyProof.Rows L2 RZ
/-! ### turns put together -/
/-- first a, then b -/
def cmp (a b : Trn) : Trn := a.map (tf b)
def idT : Trn := [0, 1, 2, 3]
theorem cmp_turn : ∀ a ∈ allTurns, ∀ b ∈ allTurns, cmp a b ∈ allTurns ∧ back (cmp a b) = cmp (back b) (back a) := by decide +kernel
theorem cmp_back : ∀ a ∈ allTurns, cmp a (back a) = idT ∧ cmp (back a) a = idT := by decide +kernel
theorem idT_turn : idT ∈ allTurns ∧ back idT = idT := by decide +kernel
theorem tf_cmp {a b : Trn} (ha : a ∈ allTurns) {c : Nat} (hc : c < 4) : tf (cmp a b) c = tf b (tf a c) := tf_map (by rw [(turns4 a ha).1]; exact hc)
theorem map_lt {b : Trn} {f g : Nat → Nat} (hb : ∀ c ∈ b, c < 4) (h : ∀ c < 4, f c = g c) : b.map f = b.map g := List.map_congr_left fun c hc => h c (hb c hc)
theorem lt4 {t : Trn} (h : t ∈ allTurns) : ∀ c ∈ t, c < 4 := (turns4 t h).2.1
/-- a renamed joining's turn -/
theorem ren_turn {bk t u : Trn} (hb : bk ∈ allTurns) (ht : t ∈ allTurns) : (bk.map fun c => tf u (tf t c)) = cmp (cmp bk t) u := by
  unfold cmp
  rw [List.map_map]
  rfl
theorem cmp_assoc {a b c : Trn} (ha : a ∈ allTurns) (hb : b ∈ allTurns) : cmp (cmp a b) c = cmp a (cmp b c) := by
  have h : ∀ x < 4, (tf c ∘ tf b) x = tf (cmp b c) x := fun x hx => (tf_cmp hb hx).symm
  show (a.map (tf b)).map (tf c) = a.map (tf (cmp b c))
  rw [List.map_map]
  exact map_lt (lt4 ha) h
theorem cmp_id {a : Trn} (ha : a ∈ allTurns) : cmp a idT = a ∧ cmp idT a = a := by
  constructor
  · have h : ∀ c < 4, tf idT c = id c := by decide
    show a.map (tf idT) = a
    rw [map_lt (lt4 ha) h, List.map_id]
  · exact (range_tf (turns4 a ha).1).symm
theorem tf_injM {t : Trn} (h : t ∈ allTurns) {a b : Nat} (ha : a < 4) (hb : b < 4) (e : tf t a = tf t b) : a = b := by
  have h1 := (there h ha).2
  rw [e, (there h hb).2] at h1
  exact h1.symm
/-! ### orders -/
theorem Names.nd {n : Nat} {o : List Nat} {ts : List Trn} (h : Names n o ts) : o.Nodup := h.o.symm.nodup List.nodup_range
theorem Names.at_idx {n : Nat} {o : List Nat} {ts : List Trn} (h : Names n o ts) {b : Nat} (hb : b < n) : tf o (o.idxOf b) = b := by
  have hm := (h.idx hb).1
  have hl : o.idxOf b < o.length := List.idxOf_lt_length_iff.mpr hm
  refine tf_eq ?_
  rw [List.getElem?_eq_getElem hl, List.getElem_idxOf]
theorem Names.idx_at {n : Nat} {o : List Nat} {ts : List Trn} (h : Names n o ts) {k : Nat} (hk : k < n) : o.idxOf (tf o k) = k := by
  obtain ⟨e, l, _, _⟩ := h.at hk
  have e2 : o[o.idxOf (tf o k)]? = some (tf o k) := by
    have hl : o.idxOf (tf o k) < o.length := List.idxOf_lt_length_iff.mpr (List.mem_of_getElem? e)
    rw [List.getElem?_eq_getElem hl, List.getElem_idxOf]
  exact nd_ix h.nd e2 e
theorem tsAt_eq {ts : List Trn} {k : Nat} {t : Trn} (h : ts[k]? = some t) : tsAt ts k = t := by
  unfold tsAt
  rw [h]
  rfl
theorem tsAt_map {α : Type} {l : List α} {f : α → Trn} {k : Nat} {x : α} (h : l[k]? = some x) : tsAt (l.map f) k = f x := tsAt_eq (by rw [List.getElem?_map, h]; rfl)
theorem tf_mapat {l : List Nat} {f : Nat → Nat} {k x : Nat} (h : l[k]? = some x) : tf (l.map f) k = f x := tf_eq (by rw [List.getElem?_map, h]; rfl)
/-- where a face goes -/
theorem tJ_some {S : Spc} {o : List Nat} {ts : List Trn} {b g n : Nat} {t : Trn} (h : getJ S (tf o b) (tf (back (tsAt ts b)) g) = some (some (n, t))) : tJ S o ts b g = some (o.idxOf n, (back (tsAt ts b)).map fun c => tf (tsAt ts (o.idxOf n)) (tf t c)) := by
  unfold tJ
  rw [h]
  rfl
theorem tJ_none {S : Spc} {o : List Nat} {ts : List Trn} {b g : Nat} (h : getJ S (tf o b) (tf (back (tsAt ts b)) g) = some none) : tJ S o ts b g = none := by
  unfold tJ
  rw [h]
  rfl
theorem ren_get {S : Spc} {o : List Nat} {ts : List Trn} (hG : Good S) (hn : Names S.length o ts) {b g : Nat} (hb : b < S.length) (hg : g < 4) : ∃ j, getJ S (tf o b) (tf (back (tsAt ts b)) g) = some j ∧ getJ (renS S o ts) b g = some (renJ o ts (back (tsAt ts b)) j) := by
  obtain ⟨_, lo, _, mt⟩ := hn.at hb
  obtain ⟨j, hj⟩ := hG.l4.get (b := tf o b) (f := tf (back (tsAt ts b)) g) lo (backto mt hg).1
  refine ⟨j, hj, ?_⟩
  rw [getJ_ren hb hg mt]
  unfold tJ
  rw [hj]
  rfl
theorem good_ren {S : Spc} {o : List Nat} {ts : List Trn} (hG : Good S) (hn : Names S.length o ts) : Good (renS S o ts) := by
  refine ⟨renS_l4 hn, fun b g m u e => ?_⟩
  obtain ⟨hb, hg⟩ := (renS_l4 hn).of e
  rw [renS_len] at hb
  obtain ⟨j, hj, ej⟩ := ren_get hG hn hb hg
  obtain ⟨_, lo, _, mt⟩ := hn.at hb
  rw [ej] at e
  cases j with
  | none => cases e
  | some x =>
    obtain ⟨n, t⟩ := x
    obtain ⟨htm, hne, hbk⟩ := hG.both _ _ _ _ hj
    have nl := hG.lt hj
    obtain ⟨_, im⟩ := hn.idx nl
    obtain ⟨_, _, _, mtm⟩ := hn.at im
    have hbm := back_mem mt
    have e' := Option.some.inj (Option.some.inj e)
    injection e' with e1 e2
    rw [ren_turn hbm htm] at e2
    have c1 := cmp_turn _ hbm _ htm
    have c2 := cmp_turn _ c1.1 _ mtm
    subst e1 e2
    have f4 := (backto mt hg).1
    have eg : tf (cmp (cmp (back (tsAt ts b)) t) (tsAt ts (o.idxOf n))) g = tf (tsAt ts (o.idxOf n)) (tf t (tf (back (tsAt ts b)) g)) := by
      rw [tf_cmp c1.1 hg, tf_cmp hbm hg]
    have t4 := (there htm f4).1
    refine ⟨c2.1, fun z => ?_, ?_⟩
    · rw [eg] at z
      injection z with z1 z2
      refine hne (Prod.ext ?_ ?_)
      · show n = tf o b
        rw [← z1, hn.at_idx nl]
      · show tf t _ = _
        rw [z1] at z2
        have := (there mt t4).2
        rw [z2] at this
        exact this.symm
    · rw [eg]
      have hg2 := (there mtm t4).1
      rw [getJ_ren im hg2 mtm]
      have hx : getJ S (tf o (o.idxOf n)) (tf (back (tsAt ts (o.idxOf n))) (tf (tsAt ts (o.idxOf n)) (tf t (tf (back (tsAt ts b)) g)))) = some (some (tf o b, back t)) := by
        rw [hn.at_idx nl, (there mtm t4).2]
        exact hbk
      rw [tJ_some hx, hn.idx_at hb, ren_turn (back_mem mtm) (back_mem htm), c2.2, c1.2, back_back _ mt]
      rw [cmp_assoc (back_mem mtm) (back_mem htm)]
/-! ### renamed twice, renamed back -/
def bothT (ts : List Trn) (o2 : List Nat) (ts2 : List Trn) : List Trn := (List.range o2.length).map fun k => cmp (tsAt ts (tf o2 k)) (tsAt ts2 k)
theorem bothT_at {n : Nat} {o o2 : List Nat} {ts ts2 : List Trn} (h : Names n o ts) (h2 : Names n o2 ts2) {k : Nat} (hk : k < n) : tsAt (bothT ts o2 ts2) k = cmp (tsAt ts (tf o2 k)) (tsAt ts2 k) := by
  unfold bothT
  exact tsAt_map (by rw [List.getElem?_range (by rw [h2.lo]; exact hk)])
theorem names_both {n : Nat} {o o2 : List Nat} {ts ts2 : List Trn} (h : Names n o ts) (h2 : Names n o2 ts2) : Names n (o2.map (tf o)) (bothT ts o2 ts2) := by
  refine ⟨?_, by unfold bothT; rw [List.length_map, List.length_range, h2.lo], fun t ht => ?_⟩
  · have e : (List.range n).map (tf o) = o := by
      apply List.ext_getElem (by rw [List.length_map, List.length_range, h.lo])
      intro i h1 hi
      rw [List.getElem_map, List.getElem_range]
      exact tf_eq (List.getElem?_eq_getElem hi)
    refine (h2.o.map (tf o)).trans ?_
    rw [e]
    exact h.o
  · unfold bothT at ht
    obtain ⟨k, hk, rfl⟩ := List.mem_map.mp ht
    rw [List.mem_range, h2.lo] at hk
    obtain ⟨_, lo, _, m2⟩ := h2.at hk
    exact (cmp_turn _ (h.at lo).2.2.2 _ m2).1
theorem ren_ren {S : Spc} {o o2 : List Nat} {ts ts2 : List Trn} (hG : Good S) (h : Names S.length o ts) (h2 : Names S.length o2 ts2) : renS (renS S o ts) o2 ts2 = renS S (o2.map (tf o)) (bothT ts o2 ts2) := by
  have h3 := names_both h h2
  have h2' : Names (renS S o ts).length o2 ts2 := by rw [renS_len]; exact h2
  refine spc_ext (by rw [renS_len, renS_len, renS_len]) (renS_l4 h2') (renS_l4 h3) fun b g hb hg => ?_
  rw [renS_len, renS_len] at hb
  obtain ⟨e2, lo2, _, m2⟩ := h2.at hb
  obtain ⟨_, _, _, m1⟩ := h.at lo2
  obtain ⟨j3, hj3, ej3⟩ := ren_get hG h3 hb hg
  obtain ⟨j2, hj2, ej2⟩ := ren_get (good_ren hG h) h2' (by rw [renS_len]; exact hb) hg
  obtain ⟨j1, hj1, ej1⟩ := ren_get hG h lo2 (backto m2 hg).1
  rw [ej2, ej3]
  rw [ej1] at hj2
  have e12 := Option.some.inj hj2
  have hb3 := bothT_at h h2 hb
  have eo : tf (o2.map (tf o)) b = tf o (tf o2 b) := tf_mapat e2
  have cb := cmp_turn _ m1 _ m2
  rw [eo, hb3, cb.2, tf_cmp (back_mem m2) hg, hj1] at hj3
  have e13 := Option.some.inj hj3
  subst e13 e12
  rw [hb3, cb.2]
  cases j1 with
  | none => rfl
  | some x =>
    obtain ⟨n, t⟩ := x
    obtain ⟨nl, tm⟩ := hG.jokAt hj1 n t rfl
    obtain ⟨_, i1⟩ := h.idx nl
    obtain ⟨_, i2⟩ := h2.idx i1
    have ei : (o2.map (tf o)).idxOf n = o2.idxOf (o.idxOf n) := by
      have e4 : (o2.map (tf o))[o2.idxOf (o.idxOf n)]? = some n := by
        rw [List.getElem?_map, (h2.at i2).1, h2.at_idx i1]
        show some (tf o (o.idxOf n)) = some n
        rw [h.at_idx nl]
      have := h3.idx_at i2
      rw [tf_eq e4] at this
      exact this
    obtain ⟨_, _, _, mA⟩ := h.at i1
    obtain ⟨_, _, _, mB⟩ := h2.at i2
    show some (some (o2.idxOf (o.idxOf n), (back (tsAt ts2 b)).map fun c => tf (tsAt ts2 (o2.idxOf (o.idxOf n))) (tf ((back (tsAt ts (tf o2 b))).map fun c => tf (tsAt ts (o.idxOf n)) (tf t c)) c))) =
      some (some ((o2.map (tf o)).idxOf n, (cmp (back (tsAt ts2 b)) (back (tsAt ts (tf o2 b)))).map fun c => tf (tsAt (bothT ts o2 ts2) ((o2.map (tf o)).idxOf n)) (tf t c)))
    have c0 := cmp_turn _ (back_mem m2) _ (back_mem m1)
    have c1 := cmp_turn _ (back_mem m1) _ tm
    have c2 := cmp_turn _ c1.1 _ mA
    rw [ei, bothT_at h h2 i2, h2.at_idx i1, ren_turn (back_mem m1) tm, ren_turn (back_mem m2) c2.1, ren_turn c0.1 tm]
    rw [cmp_assoc (back_mem m2) c2.1, cmp_assoc c1.1 mA, cmp_assoc (back_mem m1) tm, ← cmp_assoc (back_mem m2) (back_mem m1), ← cmp_assoc c0.1 tm]
theorem ren_id {S : Spc} (hG : Good S) {ts : List Trn} (ht : ∀ k < S.length, tsAt ts k = idT) (l : ts.length = S.length) : renS S (List.range S.length) ts = S := by
  have hn : Names S.length (List.range S.length) ts := by
    refine ⟨.refl _, l, fun t h => ?_⟩
    obtain ⟨k, hk⟩ := List.mem_iff_getElem?.mp h
    have := ht k (by have := (List.getElem?_eq_some_iff.mp hk).1; omega)
    rw [tsAt_eq hk] at this
    rw [this]
    exact idT_turn.1
  refine spc_ext (renS_len _ _ _) (renS_l4 hn) hG.l4 fun b g hb hg => ?_
  rw [renS_len] at hb
  obtain ⟨j, hj, ej⟩ := ren_get hG hn hb hg
  have eb : tf (List.range S.length) b = b := tf_eq (List.getElem?_range hb)
  have id4 : ∀ c < 4, tf idT c = c := by decide
  rw [ht b hb, idT_turn.2] at hj ej
  rw [eb, id4 g hg] at hj
  rw [ej, hj]
  cases j with
  | none => rfl
  | some x =>
    obtain ⟨n, t⟩ := x
    obtain ⟨nl, tm⟩ := hG.jokAt hj n t rfl
    have ei : (List.range S.length).idxOf n = n := by
      have := hn.idx_at nl
      rw [tf_eq (List.getElem?_range nl)] at this
      exact this
    show some (some ((List.range S.length).idxOf n, idT.map fun c => tf (tsAt ts ((List.range S.length).idxOf n)) (tf t c))) = some (some (n, t))
    rw [ei, ht n nl, ren_turn idT_turn.1 tm, (cmp_id tm).2, (cmp_id tm).1]
def placesOf (n : Nat) (o : List Nat) : List Nat := (List.range n).map fun b => o.idxOf b
theorem places_at {n : Nat} {o : List Nat} {k : Nat} (hk : k < n) : (placesOf n o)[k]? = some (o.idxOf k) := by
  unfold placesOf
  rw [List.getElem?_map, List.getElem?_range hk]
  rfl
theorem names_back {n : Nat} {o : List Nat} {ts : List Trn} (h : Names n o ts) : Names n (placesOf n o) ((placesOf n o).map fun k => back (tsAt ts k)) := by
  have hl : (placesOf n o).length = n := by unfold placesOf; rw [List.length_map, List.length_range]
  refine ⟨?_, by rw [List.length_map, hl], fun t ht => ?_⟩
  · have e : (List.range n).map (fun k => o.idxOf (tf o k)) = List.range n := by
      conv => rhs; rw [← List.map_id (List.range n)]
      exact List.map_congr_left fun k hk => h.idx_at (List.mem_range.mp hk)
    have e2 : (List.range n).map (tf o) = o := by
      apply List.ext_getElem (by rw [List.length_map, List.length_range, h.lo])
      intro i h1 hi
      rw [List.getElem_map, List.getElem_range]
      exact tf_eq (List.getElem?_eq_getElem hi)
    have p1 : (placesOf n o).Perm (o.map fun b => o.idxOf b) := by
      unfold placesOf
      exact (h.o.symm).map _
    refine p1.trans ?_
    have e3 : (o.map fun b => o.idxOf b) = (List.range n).map (fun k => o.idxOf (tf o k)) := by
      conv => lhs; rw [← e2, List.map_map]
      rw [e2]
      rfl
    rw [e3, e]
  · obtain ⟨k, hk, rfl⟩ := List.mem_map.mp ht
    unfold placesOf at hk
    obtain ⟨b, hb, rfl⟩ := List.mem_map.mp hk
    exact back_mem (h.at (h.idx (List.mem_range.mp hb)).2).2.2.2
theorem ren_back {S : Spc} {o : List Nat} {ts : List Trn} (hG : Good S) (h : Names S.length o ts) : renS (renS S o ts) (placesOf S.length o) ((placesOf S.length o).map fun k => back (tsAt ts k)) = S := by
  have hb := names_back h
  rw [ren_ren hG h hb]
  have e1 : (placesOf S.length o).map (tf o) = List.range S.length := by
    unfold placesOf
    rw [List.map_map]
    conv => rhs; rw [← List.map_id (List.range S.length)]
    exact List.map_congr_left fun k hk => h.at_idx (List.mem_range.mp hk)
  rw [e1]
  refine ren_id hG (fun k hk => ?_) (by have := (names_both h hb).l; exact this)
  rw [bothT_at h hb hk, tsAt_map (places_at hk), tf_eq (places_at hk)]
  exact (cmp_back _ (h.at (h.idx hk).2).2.2.2).1
end Bk

namespace Bk
open PySem PySem.Spec PyProof.Rows L2 RZ
/-! ### parted, joined, beside: renamed -/
theorem Good.part {S : Spc} (h : Good S) {b f n : Nat} {t : Trn} (e : getJ S b f = some (some (n, t))) : Good (setJ (setJ S b f none) n (tf t f) none) := by
  obtain ⟨ht, hne, hbk⟩ := h.both _ _ _ _ e
  have hf := (h.l4.of e).2
  refine ⟨(h.l4.set _ _ _).set _ _ _, fun x y m u g => ?_⟩
  have G : ∀ x y, getJ (setJ (setJ S b f none) n (tf t f) none) x y = if x = n ∧ y = tf t f then (getJ S x y).map fun _ => none else if x = b ∧ y = f then (getJ S x y).map fun _ => none else getJ S x y := fun x y => by
    rw [getJ_set, getJ_set]
    by_cases c1 : x = n ∧ y = tf t f
    · rw [if_pos c1, if_pos c1]
      by_cases c2 : x = b ∧ y = f
      · exact absurd (Prod.ext (c1.1.symm.trans c2.1) (c1.2.symm.trans c2.2)) hne
      · rw [if_neg c2]
    · rw [if_neg c1, if_neg c1]
  rw [G] at g ⊢
  by_cases c1 : x = n ∧ y = tf t f
  · rw [if_pos c1] at g
    cases hz : getJ S x y with
    | none => rw [hz] at g; cases g
    | some z => rw [hz] at g; cases g
  · rw [if_neg c1] at g
    by_cases c2 : x = b ∧ y = f
    · rw [if_pos c2] at g
      cases hz : getJ S x y with
      | none => rw [hz] at g; cases g
      | some z => rw [hz] at g; cases g
    · rw [if_neg c2] at g
      obtain ⟨hu, q2, q3⟩ := h.both _ _ _ _ g
      have hy := (h.l4.of g).2
      refine ⟨hu, q2, ?_⟩
      rw [if_neg, if_neg]
      · exact q3
      · rintro ⟨rfl, hz⟩
        rw [hz, e] at q3
        have e2 := Option.some.inj (Option.some.inj q3)
        injection e2 with e2 e3
        refine c1 ⟨e2.symm, ?_⟩
        have := tf_back u hu y hy
        rw [hz, ← e3] at this
        exact this.symm
      · rintro ⟨rfl, hz⟩
        rw [hz, hbk] at q3
        have e2 := Option.some.inj (Option.some.inj q3)
        injection e2 with e2 e3
        refine c2 ⟨e2.symm, ?_⟩
        have e4 : t = u := by rw [← back_back t ht, e3, back_back u hu]
        subst e4
        have a1 := tf_back t ht y hy
        have a2 := tf_back t ht f hf
        rw [hz] at a1
        omega
/-- beside, as plain lists -/
def besS (S U : Spc) : Spc := S ++ shS S.length U
theorem shS_len (m : Nat) (S : Spc) : (shS m S).length = S.length := by
  unfold shS
  rw [List.length_map]
theorem besS_len (S U : Spc) : (besS S U).length = S.length + U.length := by
  unfold besS
  rw [List.length_append, shS_len]
theorem shS_shS (m k : Nat) (S : Spc) : shS m (shS k S) = shS (k + m) S := by
  unfold shS
  rw [List.map_map]
  refine List.map_congr_left fun b _ => ?_
  show shB m (shB k b) = shB (k + m) b
  unfold shB
  rw [List.map_map]
  refine List.map_congr_left fun j _ => ?_
  cases j with
  | none => rfl
  | some x =>
    obtain ⟨n, t⟩ := x
    show some (n + k + m, t) = some (n + (k + m), t)
    rw [Nat.add_assoc]
theorem shS_app (m : Nat) (S U : Spc) : shS m (S ++ U) = shS m S ++ shS m U := by
  unfold shS
  rw [List.map_append]
theorem besS_assoc (S U W : Spc) : besS (besS S U) W = besS S (besS U W) := by
  unfold besS
  rw [List.length_append, shS_len, shS_app, shS_shS, List.append_assoc, Nat.add_comm S.length]

def partS (S : Spc) (b f n : Nat) (t : Trn) : Spc := setJ (setJ S b f none) n (tf t f) none
theorem partS_len (S : Spc) (b f n : Nat) (t : Trn) : (partS S b f n t).length = S.length := by
  unfold partS
  rw [setJ_len, setJ_len]
theorem ren_set {S : Spc} {o : List Nat} {ts : List Trn} (h4 : L4 S) (hn : Names S.length o ts) {b f : Nat} {j : Jn} (hb : b < S.length) (hf : f < 4) :
    renS (setJ S b f j) o ts = setJ (renS S o ts) (o.idxOf b) (tf (tsAt ts (o.idxOf b)) f) (renJ o ts (back (tsAt ts (o.idxOf b))) j) := by
  have hn' : Names (setJ S b f j).length o ts := by rw [setJ_len]; exact hn
  refine spc_ext (by rw [renS_len, setJ_len, setJ_len, renS_len]) (renS_l4 hn') ((renS_l4 hn).set _ _ _) fun x g hx hg => ?_
  rw [renS_len, setJ_len] at hx
  obtain ⟨_, lo, _, mt⟩ := hn.at hx
  obtain ⟨_, ib⟩ := hn.idx hb
  obtain ⟨_, _, _, mb⟩ := hn.at ib
  obtain ⟨j0, hj0⟩ := h4.get (b := tf o x) (f := tf (back (tsAt ts x)) g) lo (backto mt hg).1
  rw [getJ_set, getJ_ren (by rw [setJ_len]; exact hx) hg mt, getJ_ren hx hg mt]
  unfold tJ
  rw [getJ_set, hj0]
  by_cases c : tf o x = b ∧ tf (back (tsAt ts x)) g = f
  · have c' : x = o.idxOf b ∧ g = tf (tsAt ts (o.idxOf b)) f := by
      have e1 : x = o.idxOf b := by rw [← c.1, hn.idx_at hx]
      refine ⟨e1, ?_⟩
      rw [← e1, ← c.2, (backto mt hg).2]
    rw [if_pos c, if_pos c', ← c'.1]
    rfl
  · have c' : ¬ (x = o.idxOf b ∧ g = tf (tsAt ts (o.idxOf b)) f) := fun z => c ⟨by rw [z.1, hn.at_idx hb], by rw [z.2, z.1, (there mb hf).2]⟩
    rw [if_neg c, if_neg c']
/-- the turn of a renamed joining -/
def inner (o : List Nat) (ts : List Trn) (b n : Nat) (t : Trn) : Trn := cmp (cmp (back (tsAt ts (o.idxOf b))) t) (tsAt ts (o.idxOf n))
theorem inner_turn {n0 : Nat} {o : List Nat} {ts : List Trn} (hn : Names n0 o ts) {b n f : Nat} {t : Trn} (hb : b < n0) (hnn : n < n0) (ht : t ∈ allTurns) (hf : f < 4) :
    inner o ts b n t ∈ allTurns ∧ tf (inner o ts b n t) (tf (tsAt ts (o.idxOf b)) f) = tf (tsAt ts (o.idxOf n)) (tf t f) ∧ back (inner o ts b n t) = inner o ts n b (back t) ∧ tf (tsAt ts (o.idxOf b)) f < 4 := by
  obtain ⟨_, _, _, mb⟩ := hn.at (hn.idx hb).2
  obtain ⟨_, _, _, mn⟩ := hn.at (hn.idx hnn).2
  have hbm := back_mem mb
  have c1 := cmp_turn _ hbm _ ht
  have c2 := cmp_turn _ c1.1 _ mn
  have th := there mb hf
  refine ⟨c2.1, ?_, ?_, th.1⟩
  · unfold inner
    rw [tf_cmp c1.1 th.1, tf_cmp hbm th.1, th.2]
  · unfold inner
    rw [c2.2, c1.2, back_back _ mb, cmp_assoc (back_mem mn) (back_mem ht)]
theorem renJ_inner {n0 : Nat} {o : List Nat} {ts : List Trn} (hn : Names n0 o ts) {b n : Nat} {t : Trn} (hb : b < n0) (ht : t ∈ allTurns) : renJ o ts (back (tsAt ts (o.idxOf b))) (some (n, t)) = some (o.idxOf n, inner o ts b n t) := by
  obtain ⟨_, _, _, mb⟩ := hn.at (hn.idx hb).2
  show some (o.idxOf n, _) = _
  rw [ren_turn (back_mem mb) ht]
  rfl
theorem ren_face {S : Spc} {o : List Nat} {ts : List Trn} (h4 : L4 S) (hn : Names S.length o ts) {b f : Nat} {j : Jn} (e : getJ S b f = some j) : getJ (renS S o ts) (o.idxOf b) (tf (tsAt ts (o.idxOf b)) f) = some (renJ o ts (back (tsAt ts (o.idxOf b))) j) := by
  obtain ⟨hb, hf⟩ := h4.of e
  obtain ⟨_, ib⟩ := hn.idx hb
  obtain ⟨_, _, _, mb⟩ := hn.at ib
  rw [getJ_ren ib (there mb hf).1 mb]
  unfold tJ
  rw [hn.at_idx hb, (there mb hf).2, e]
  rfl
theorem ren_part {S : Spc} {o : List Nat} {ts : List Trn} (hG : Good S) (hn : Names S.length o ts) {b f n : Nat} {t : Trn} (e : getJ S b f = some (some (n, t))) :
    renS (partS S b f n t) o ts = partS (renS S o ts) (o.idxOf b) (tf (tsAt ts (o.idxOf b)) f) (o.idxOf n) (inner o ts b n t) := by
  obtain ⟨hb, hf⟩ := hG.l4.of e
  obtain ⟨htm, _, _⟩ := hG.both _ _ _ _ e
  have nl := hG.lt e
  unfold partS
  rw [ren_set (hG.l4.set _ _ _) (by rw [setJ_len]; exact hn) (by rw [setJ_len]; exact nl) (tf_lt t htm f hf).1, ren_set hG.l4 hn hb hf, (inner_turn hn hb nl htm hf).2.1]
  rfl
theorem ren_join {S : Spc} {o : List Nat} {ts : List Trn} (hG : Good S) (hn : Names S.length o ts) {b f n : Nat} {t : Trn} (hb : b < S.length) (hf : f < 4) (nl : n < S.length) (htm : t ∈ allTurns) :
    renS (joinJ S b f n t) o ts = joinJ (renS S o ts) (o.idxOf b) (tf (tsAt ts (o.idxOf b)) f) (o.idxOf n) (inner o ts b n t) := by
  unfold joinJ
  rw [ren_set (hG.l4.set _ _ _) (by rw [setJ_len]; exact hn) (by rw [setJ_len]; exact nl) (tf_lt t htm f hf).1, ren_set hG.l4 hn hb hf, (inner_turn hn hb nl htm hf).2.1]
  rw [renJ_inner hn hb htm, renJ_inner hn nl (back_mem htm), (inner_turn hn hb nl htm hf).2.2.1]
theorem map_none {x : Option Jn} {j k : Jn} (h : x = some j) : (x.map fun _ => k) = some k := by
  rw [h]
  rfl
theorem join_part {S : Spc} (hG : Good S) {b f n : Nat} {t : Trn} (e : getJ S b f = some (some (n, t))) : joinJ (partS S b f n t) b f n t = S := by
  obtain ⟨htm, hne, hbk⟩ := hG.both _ _ _ _ e
  refine spc_ext (by rw [joinJ_len, partS_len]) ((((hG.l4.set _ _ _).set _ _ _).set _ _ _).set _ _ _) hG.l4 fun x g _ _ => ?_
  unfold joinJ partS
  rw [getJ_set, getJ_set, getJ_set, getJ_set]
  by_cases c1 : x = n ∧ g = tf t f
  · have c2 : ¬ (x = b ∧ g = f) := fun z => hne (Prod.ext (c1.1.symm.trans z.1) (c1.2.symm.trans z.2))
    rw [if_pos c1, if_neg c2, if_pos c1, if_neg c2, c1.1, c1.2, hbk]
    rfl
  · by_cases c2 : x = b ∧ g = f
    · rw [if_neg c1, if_pos c2, if_neg c1, if_pos c2, c2.1, c2.2, e]
      rfl
    · rw [if_neg c1, if_neg c2, if_neg c1, if_neg c2]
theorem part_join {S : Spc} (hG : Good S) {b f n : Nat} {t : Trn} (ht : t ∈ allTurns) (h1 : getJ S b f = some none) (h2 : getJ S n (tf t f) = some none) (hne : (n, tf t f) ≠ (b, f)) : partS (joinJ S b f n t) n (tf t f) b (back t) = S := by
  have hf := (hG.l4.of h1).2
  refine spc_ext (by rw [partS_len, joinJ_len]) ((((hG.l4.set _ _ _).set _ _ _).set _ _ _).set _ _ _) hG.l4 fun x g _ _ => ?_
  unfold joinJ partS
  rw [tf_back t ht f hf, getJ_set, getJ_set, getJ_set, getJ_set]
  by_cases c2 : x = b ∧ g = f
  · have c1 : ¬ (x = n ∧ g = tf t f) := fun z => hne (Prod.ext (z.1.symm.trans c2.1) (z.2.symm.trans c2.2))
    rw [if_pos c2, if_neg c1, if_neg c1, if_pos c2, c2.1, c2.2, h1]
    rfl
  · by_cases c1 : x = n ∧ g = tf t f
    · rw [if_neg c2, if_pos c1, if_pos c1, if_neg c2, c1.1, c1.2, h2]
      rfl
    · rw [if_neg c2, if_neg c1, if_neg c1, if_neg c2]
/-- two of unlike joinings at a face are not equal -/
theorem eqvAll_false : ∀ {xs ys : List PyData} {i : Nat} {x y : PyData}, xs[i]? = some x → ys[i]? = some y → PyData.eqv x y = false → PyData.eqvAll xs ys = false
  | [], _, i, x, y, h, _, _ => by simp at h
  | _ :: _, [], i, x, y, _, h, _ => by simp at h
  | a :: xs, b :: ys, 0, x, y, h1, h2, e => by
    have e1 : a = x := by simpa using h1
    have e2 : b = y := by simpa using h2
    subst e1 e2
    simp only [PyData.eqvAll, e, Bool.false_and]
  | a :: xs, b :: ys, i + 1, x, y, h1, h2, e => by
    have := eqvAll_false (xs := xs) (ys := ys) (i := i) (by simpa using h1) (by simpa using h2) e
    simp only [PyData.eqvAll, this, Bool.and_false]
theorem spc_unlike {S U : Spc} {b f n : Nat} {t : Trn} (h1 : getJ S b f = some none) (h2 : getJ U b f = some (some (n, t))) : PyData.eqv (shutD S) (shutD U) = false := by
  unfold getJ at h1 h2
  cases hs : S[b]? with
  | none => rw [hs] at h1; cases h1
  | some x =>
    cases hu : U[b]? with
    | none => rw [hu] at h2; cases h2
    | some y =>
      rw [hs] at h1
      rw [hu] at h2
      have h1' : x[f]? = some none := h1
      have h2' : y[f]? = some (some (n, t)) := h2
      simp only [shutD, PyData.eqv]
      refine eqvAll_false (i := b) (x := .tuple (x.map jD)) (y := .tuple (y.map jD)) (by rw [List.getElem?_map, hs]; rfl) (by rw [List.getElem?_map, hu]; rfl) ?_
      simp only [PyData.eqv]
      refine eqvAll_false (i := f) (x := .none) (y := jD (some (n, t))) (by rw [List.getElem?_map, h1']; rfl) (by rw [List.getElem?_map, h2']; rfl) ?_
      simp only [jD, PyData.eqv]
/-- two beside each other, the other way about -/
def otherWay (s u : Nat) : List Nat := (List.range s).map (fun k => u + k) ++ List.range u
theorem other_names (s u : Nat) : Names (u + s) (otherWay s u) (List.replicate (s + u) idT) := by
  refine ⟨?_, by rw [List.length_replicate]; omega, fun t h => by rw [List.eq_of_mem_replicate h]; exact idT_turn.1⟩
  have e : List.range (u + s) = List.range u ++ (List.range s).map (fun k => u + k) := List.range_add
  rw [e]
  exact List.perm_append_comm
theorem other_at {s u k : Nat} : (k < s → (otherWay s u)[k]? = some (u + k)) ∧ (∀ i, i < u → (otherWay s u)[s + i]? = some i) := by
  unfold otherWay
  constructor
  · intro h
    rw [List.getElem?_append_left (by rw [List.length_map, List.length_range]; exact h), List.getElem?_map, List.getElem?_range h]
    rfl
  · intro i h
    rw [List.getElem?_append_right (by rw [List.length_map, List.length_range]; omega), List.length_map, List.length_range, Nat.add_sub_cancel_left, List.getElem?_range h]
theorem ren_bes {S U : Spc} (hS : Good S) (hU : Good U) : renS (besS U S) (otherWay S.length U.length) (List.replicate (S.length + U.length) idT) = besS S U := by
  have lb := besS_len U S
  have hn : Names (besS U S).length (otherWay S.length U.length) (List.replicate (S.length + U.length) idT) := by
    rw [lb]
    exact other_names _ _
  have hG : Good (besS U S) := hU.twice hS
  have hG2 : Good (besS S U) := hS.twice hU
  have hts : ∀ k < S.length + U.length, tsAt (List.replicate (S.length + U.length) idT) k = idT := fun k hk => tsAt_eq (by rw [List.getElem?_replicate, if_pos hk])
  have id4 : ∀ c < 4, tf idT c = c := by decide
  have ridx : ∀ {n : Nat} {t : Trn}, n < (besS U S).length → t ∈ allTurns → renJ (otherWay S.length U.length) (List.replicate (S.length + U.length) idT) idT (some (n, t)) = some ((otherWay S.length U.length).idxOf n, t) := fun {n t} hnl ht => by
    show some (_, idT.map fun c => tf (tsAt _ _) (tf t c)) = _
    rw [hts _ (by have := (hn.idx hnl).2; rw [lb] at this; omega), ren_turn idT_turn.1 ht, (cmp_id ht).2, (cmp_id ht).1]
  refine spc_ext (by rw [renS_len, lb, besS_len]; omega) (renS_l4 hn) hG2.l4 fun b g hb hg => ?_
  rw [renS_len] at hb
  obtain ⟨j, hj, ej⟩ := ren_get hG hn hb hg
  rw [lb] at hb
  rw [hts b (by omega), idT_turn.2] at hj ej
  rw [id4 g hg] at hj
  rw [ej]
  by_cases c : b < S.length
  · rw [tf_eq (other_at.1 c)] at hj
    unfold besS at hj ⊢
    rw [getJ_right, getJ_sh] at hj
    rw [getJ_left c]
    cases hx : getJ S b g with
    | none => rw [hx] at hj; cases hj
    | some x =>
      rw [hx] at hj
      cases x with
      | none =>
        cases hj
        rfl
      | some y =>
        obtain ⟨n, t⟩ := y
        obtain ⟨nl, tm⟩ := hS.jokAt hx n t rfl
        cases hj
        have h1 := hn.idx_at (k := n) (by rw [lb]; omega)
        rw [tf_eq (other_at.1 nl)] at h1
        show some (renJ _ _ idT (some (n + U.length, t))) = _
        rw [ridx (by rw [lb]; omega) tm, Nat.add_comm n, h1]
  · obtain ⟨i, rfl⟩ : ∃ i, b = S.length + i := ⟨b - S.length, by omega⟩
    have hi : i < U.length := by omega
    rw [tf_eq ((other_at (k := 0)).2 i hi)] at hj
    unfold besS at hj ⊢
    rw [getJ_left hi] at hj
    rw [getJ_right, getJ_sh, hj]
    cases j with
    | none => rfl
    | some y =>
      obtain ⟨n, t⟩ := y
      obtain ⟨nl, tm⟩ := hU.jokAt hj n t rfl
      have h1 := hn.idx_at (k := S.length + n) (by rw [lb]; omega)
      rw [tf_eq ((other_at (k := 0)).2 n nl)] at h1
      show some (renJ _ _ idT (some (n, t))) = some (some (n + S.length, t))
      rw [ridx (by rw [lb]; omega) tm, h1, Nat.add_comm]
end Bk

/-! Rows of things, sorted: whichever way they stood. -/
namespace Bk
open PySem PySem.Spec PyProof.Rows L2
/-- things told as data that keeps their order -/
structure OrdE (e : Nat → PyData) : Prop where
  alike : ∀ n m, PySem.W.alike (e n) (e m) = true
  lt : ∀ n m, PySem.W.dataLt (e n) (e m) = decide (n < m)
  eqv : ∀ n m, PyData.eqv (e n) (e m) = decide (n = m)
theorem ordQ : OrdE encQ := ⟨encQ_alike, ltQ, eqvQ⟩
theorem ordT : OrdE encT := by
  refine ⟨encT_alike, fun n m => ?_, fun n m => ?_⟩
  · have h : (!PySem.W.dataLt (encT n) (encT m)) = decide (m ≤ n) := congrFun (congrFun leT m) n
    by_cases c : n < m
    · rw [decide_eq_false (by omega)] at h
      rw [decide_eq_true c]
      cases e : PySem.W.dataLt (encT n) (encT m) with
      | true => rfl
      | false => rw [e] at h; cases h
    · rw [decide_eq_true (by omega)] at h
      rw [decide_eq_false c]
      cases e : PySem.W.dataLt (encT n) (encT m) with
      | true => rw [e] at h; cases h
      | false => rfl
  · by_cases c : n = m
    · subst c
      rw [decide_eq_true rfl]
      simp [encT, moT, PyData.eqv, PyData.eqvAll]
    · rw [decide_eq_false c, Bool.eq_false_iff]
      intro h
      refine c (moT_inj (max n m + 1) n m (by omega) (by omega) ?_)
      simp [encT, moT, PyData.eqv, PyData.eqvAll] at h ⊢
      omega
theorem ordI : OrdE fun n => PyData.int (n : Nat) := by
  refine ⟨fun n m => by simp [PySem.W.alike], fun n m => ?_, fun n m => ?_⟩
  · rw [PySem.W.dataLt_int]
    exact decide_eq_decide.mpr ⟨fun h => by omega, fun h => by omega⟩
  · show ((n : Int) == (m : Int)) = _
    by_cases c : n = m
    · subst c
      simp
    · rw [decide_eq_false c]
      exact beq_eq_false_iff_ne.mpr fun z => c (by omega)
def encL (e : Nat → PyData) (r : List Nat) : PyData := .list (r.map e)
theorem encL_alike {e : Nat → PyData} (h : OrdE e) : ∀ b b', PySem.W.alike (encL e b) (encL e b') = true := fun b b' => by
  unfold encL
  rw [PySem.W.alike]
  have go : ∀ xs ys : List Nat, PySem.W.alikeAll (xs.map e) (ys.map e) = true := by
    intro xs
    induction xs with
    | nil => intro ys; simp [PySem.W.alikeAll]
    | cons x xs ih =>
      intro ys
      cases ys with
      | nil => simp [PySem.W.alikeAll]
      | cons y ys =>
        rw [List.map_cons, List.map_cons, PySem.W.alikeAll, ih ys, h.alike]
        simp
  exact go b b'
theorem encL_key (e : Nat → PyData) (bs : List (List Nat)) : PySem.W.Sortable (bs.map (encL e)) := PySem.W.Sortable.others fun b => ⟨nofun, nofun⟩
/-- the first of the one below the first of the other -/
def HdLt (r r' : List Nat) : Prop := ∃ x t y u, r = x :: t ∧ r' = y :: u ∧ x < y
theorem hd_lt {e : Nat → PyData} (h : OrdE e) {r r' : List Nat} (z : HdLt r r') : PySem.W.dataLt (encL e r) (encL e r') = true := by
  obtain ⟨x, t, y, u, rfl, rfl, lt⟩ := z
  show PySem.W.dataLt (.list (e x :: t.map e)) (.list (e y :: u.map e)) = true
  rw [PySem.W.dataLt_list, PySem.W.dataLt_cons (h.alike x y), h.eqv, decide_eq_false (by omega), if_neg Bool.false_ne_true, h.lt, decide_eq_true lt]
theorem hd_le {e : Nat → PyData} (h : OrdE e) {r r' : List Nat} (z : HdLt r r') : PySem.W.dataLe false (encL e) r r' = true := by
  obtain ⟨x, t, y, u, rfl, rfl, lt⟩ := z
  show (!PySem.W.dataLt (.list (e y :: u.map e)) (.list (e x :: t.map e))) = true
  rw [PySem.W.dataLt_list, PySem.W.dataLt_cons (h.alike y x), h.eqv, decide_eq_false (by omega), if_neg Bool.false_ne_true, h.lt, decide_eq_false (by omega)]
  rfl
theorem sort_rows {e : Nat → PyData} (h : OrdE e) {found rows : List (List Nat)} (pm : found.Perm rows) (up : rows.Pairwise HdLt) : found.mergeSort (PySem.W.dataLe false (encL e)) = rows := by
  have pm2 := (List.mergeSort_perm found (PySem.W.dataLe false (encL e))).trans pm
  refine pm2.eq_of_pairwise (le := fun a b => PySem.W.dataLe false (encL e) a b = true) (fun a b ha hb h1 h2 => ?_) (PySem.W.sort_pairwise (PySem.W.sortLe_total _ _ _) found) (up.imp fun z => hd_le h z)
  obtain ⟨i, hi⟩ := List.mem_iff_getElem?.mp (pm2.mem_iff.mp ha)
  obtain ⟨j, hj⟩ := List.mem_iff_getElem?.mp hb
  obtain ⟨li, ei⟩ := List.getElem?_eq_some_iff.mp hi
  obtain ⟨lj, ej⟩ := List.getElem?_eq_some_iff.mp hj
  have p := List.pairwise_iff_getElem.mp up
  have no : ∀ {r r' : List Nat}, HdLt r r' → PySem.W.dataLe false (encL e) r' r = true → False := fun {r r'} z w => by
    have w' : (!PySem.W.dataLt (encL e r) (encL e r')) = true := w
    rw [hd_lt h z] at w'
    cases w'
  rcases Nat.lt_trichotomy i j with c | rfl | c
  · exact (no (by have := p i j li lj c; rw [ei, ej] at this; exact this) h2).elim
  · rw [← ei, ← ej]
  · exact (no (by have := p j i lj li c; rw [ei, ej] at this; exact this) h1).elim
theorem rows_up {E : Nat → Nat → Bool} (h : EqvB E) {l : List Nat} (up : l.Pairwise (· < ·)) : (rowsE E l).Pairwise HdLt := by
  refine List.pairwise_iff_getElem.mpr fun i j hi hj lt => ?_
  obtain ⟨x, t, hx, e1, _⟩ := row_at h up (List.getElem?_eq_getElem hi)
  obtain ⟨y, u, hy, e2, _⟩ := row_at h up (List.getElem?_eq_getElem hj)
  refine ⟨x, t, y, u, e1, e2, ?_⟩
  obtain ⟨l1, q1⟩ := List.getElem?_eq_some_iff.mp hx
  obtain ⟨l2, q2⟩ := List.getElem?_eq_some_iff.mp hy
  rw [← q1, ← q2]
  exact List.pairwise_iff_getElem.mp (up.sublist (fstE_subl _ _)) i j l1 l2 lt
end Bk

/-! Rows of things called otherwise. -/
namespace Bk
open PySem PySem.Spec PyProof.Rows L2 RZ
/-! ### what a calling of things does to rows -/
/-- f calls the things of l by those of l', links by links -/
structure Calls (f : Nat → Nat) (l l' : List Nat) (lk lk' : Nat → List Nat) : Prop where
  into : ∀ x ∈ l, f x ∈ l'
  inj : ∀ x ∈ l, ∀ y ∈ l, f x = f y → x = y
  onto : ∀ y ∈ l', ∃ x ∈ l, f x = y
  fwd : ∀ x ∈ l, ∀ y ∈ lk x, y ∈ l ∧ f y ∈ lk' (f x)
  bwd : ∀ x ∈ l, ∀ y' ∈ lk' (f x), ∃ y ∈ lk x, y' = f y
theorem Calls.hang_fwd {f : Nat → Nat} {l l' : List Nat} {lk lk' : Nat → List Nat} (c : Calls f l l' lk lk') {x y : Nat} (h : Hang (fun x y => y ∈ lk x) x y) : x ∈ l → y ∈ l ∧ Hang (fun x y => y ∈ lk' x) (f x) (f y) := by
  induction h with
  | rfl => exact fun hx => ⟨hx, .rfl _⟩
  | step _ s ih =>
    intro hx
    obtain ⟨h1, h2⟩ := ih hx
    obtain ⟨g1, g2⟩ := c.fwd _ h1 _ s
    exact ⟨g1, .step h2 g2⟩
theorem Calls.hang_bwd {f : Nat → Nat} {l l' : List Nat} {lk lk' : Nat → List Nat} (c : Calls f l l' lk lk') {x' y' : Nat} (h : Hang (fun x y => y ∈ lk' x) x' y') : ∀ x ∈ l, x' = f x → ∃ y ∈ l, y' = f y ∧ Hang (fun x y => y ∈ lk x) x y := by
  induction h with
  | rfl => exact fun x hx e => ⟨x, hx, e, .rfl _⟩
  | step _ s ih =>
    intro x hx e
    obtain ⟨y, hy, ey, h2⟩ := ih x hx e
    rw [ey] at s
    obtain ⟨z, hz, ez⟩ := c.bwd y hy _ s
    exact ⟨z, (c.fwd y hy z hz).1, ez, .step h2 hz⟩
noncomputable abbrev hgB (lk : Nat → List Nat) : Nat → Nat → Bool := hangB (fun x y => y ∈ lk x)
theorem Calls.hang {f : Nat → Nat} {l l' : List Nat} {lk lk' : Nat → List Nat} (c : Calls f l l' lk lk') {x y : Nat} (hx : x ∈ l) (hy : y ∈ l) : hgB lk' (f x) (f y) = hgB lk x y := bool_ext (by
  rw [hangB_iff, hangB_iff]
  refine ⟨fun h => ?_, fun h => (c.hang_fwd h hx).2⟩
  obtain ⟨z, hz, e, g⟩ := c.hang_bwd h x hx rfl
  rw [c.inj y hy z hz e]
  exact g)
/-- a row called otherwise, sorted -/
def calR (l' : List Nat) (f : Nat → Nat) (r : List Nat) : List Nat := l'.filter fun y => decide (y ∈ r.map f)
theorem calR_of {l' r l2 : List Nat} {f : Nat → Nat} (up' : l'.Pairwise (· < ·)) (hr : ∀ x ∈ r, f x ∈ l') (nd : (r.map f).Nodup) (pm : l2.Perm (r.map f)) (up : l2.Pairwise (· ≤ ·)) : l2 = calR l' f r := by
  have nd2 : (calR l' f r).Nodup := (up'.filter _).imp fun z => Nat.ne_of_lt z
  have p2 : (calR l' f r).Perm (r.map f) := by
    refine (List.perm_ext_iff_of_nodup nd2 nd).mpr fun y => ?_
    unfold calR
    rw [List.mem_filter, decide_eq_true_iff]
    refine ⟨fun h => h.2, fun h => ⟨?_, h⟩⟩
    obtain ⟨x, hx, rfl⟩ := List.mem_map.mp h
    exact hr x hx
  exact (pm.trans p2.symm).eq_of_pairwise (fun x y _ _ h1 h2 => Nat.le_antisymm h1 h2) up ((up'.filter _).imp fun z => Nat.le_of_lt z)
theorem Calls.row {f : Nat → Nat} {l l' : List Nat} {lk lk' : Nat → List Nat} (c : Calls f l l' lk lk') {x : Nat} (hx : x ∈ l) : calR l' f (l.filter (hgB lk x)) = l'.filter (hgB lk' (f x)) := by
  unfold calR
  refine List.filter_congr fun y hy => ?_
  obtain ⟨z, hz, rfl⟩ := c.onto y hy
  rw [c.hang hx hz]
  by_cases e : hgB lk x z = true
  · rw [e]
    exact decide_eq_true (List.mem_map_of_mem (List.mem_filter.mpr ⟨hz, e⟩))
  · rw [Bool.eq_false_iff.mpr e]
    refine decide_eq_false fun h => e ?_
    obtain ⟨w, hw, ew⟩ := List.mem_map.mp h
    obtain ⟨h1, h2⟩ := List.mem_filter.mp hw
    rw [← c.inj w h1 z hz ew]
    exact h2
theorem rowsE_mem {E : Nat → Nat → Bool} (h : EqvB E) {l : List Nat} (up : l.Pairwise (· < ·)) {r : List Nat} : r ∈ rowsE E l ↔ ∃ x ∈ l, r = l.filter (E x) := by
  constructor
  · intro hr
    unfold rowsE at hr
    obtain ⟨x, hx, rfl⟩ := List.mem_map.mp hr
    exact ⟨x, (fstE_subl E l).subset hx, rfl⟩
  · rintro ⟨x, hx, rfl⟩
    obtain ⟨z, hz, _, e⟩ := fstE_low h l up x hx
    unfold rowsE
    refine List.mem_map.mpr ⟨z, hz, ?_⟩
    refine List.filter_congr fun y _ => bool_ext ⟨fun w => h.trans _ _ _ (h.symm _ _ e) w, fun w => h.trans _ _ _ e w⟩
theorem rowsE_nd {E : Nat → Nat → Bool} (h : EqvB E) {l : List Nat} (up : l.Pairwise (· < ·)) : (rowsE E l).Nodup := (rows_up h up).imp fun {r r'} z e => by
  obtain ⟨x, t, y, u, rfl, rfl, lt⟩ := z
  injection e with e _
  omega
theorem Calls.rows {f : Nat → Nat} {l l' : List Nat} {lk lk' : Nat → List Nat} (c : Calls f l l' lk lk') (up : l.Pairwise (· < ·)) (up' : l'.Pairwise (· < ·)) (sy : ∀ x y, y ∈ lk x → x ∈ lk y) (sy' : ∀ x y, y ∈ lk' x → x ∈ lk' y) :
    ((rowsE (hgB lk) l).map (calR l' f)).Perm (rowsE (hgB lk') l') := by
  have E := hangB_eqv (r := fun x y => y ∈ lk x) sy
  have E' := hangB_eqv (r := fun x y => y ∈ lk' x) sy'
  refine (List.perm_ext_iff_of_nodup ?_ (rowsE_nd E' up')).mpr fun r => ?_
  · refine List.pairwise_map.mpr (List.pairwise_iff_forall_sublist.mpr fun {a b} hs e => ?_)
    have hab := (rowsE_nd E up).sublist hs
    have ha := hs.subset (List.mem_cons_self (a := a) (l := [b]))
    have hb := hs.subset (List.mem_cons_of_mem a (List.mem_cons_self (a := b) (l := [])))
    obtain ⟨x, hx, rfl⟩ := (rowsE_mem E up).mp ha
    obtain ⟨y, hy, rfl⟩ := (rowsE_mem E up).mp hb
    rw [c.row hx, c.row hy] at e
    have hm : f y ∈ l'.filter (hgB lk' (f x)) := by
      rw [e]
      exact List.mem_filter.mpr ⟨c.into y hy, E'.rfl _⟩
    have exy := (List.mem_filter.mp hm).2
    rw [c.hang hx hy] at exy
    refine (List.nodup_cons.mp hab).1 (List.mem_singleton.mpr ?_)
    exact List.filter_congr fun z _ => bool_ext ⟨fun w => E.trans _ _ _ (E.symm _ _ exy) w, fun w => E.trans _ _ _ exy w⟩
  · rw [List.mem_map, rowsE_mem E' up']
    constructor
    · rintro ⟨s, hs, rfl⟩
      obtain ⟨x, hx, rfl⟩ := (rowsE_mem E up).mp hs
      exact ⟨f x, c.into x hx, c.row hx⟩
    · rintro ⟨y, hy, rfl⟩
      obtain ⟨x, hx, rfl⟩ := c.onto y hy
      exact ⟨_, (rowsE_mem E up).mpr ⟨x, hx, rfl⟩, c.row hx⟩
/-! ### a space called otherwise -/
section
variable {S : Spc} {o : List Nat} {ts : List Trn}
def plO (o : List Nat) (b : Nat) : Nat := o.idxOf b
def tnO (o : List Nat) (ts : List Trn) (b : Nat) : Trn := tsAt ts (o.idxOf b)
theorem tnO_mem (hn : Names S.length o ts) {b : Nat} (hb : b < S.length) : tnO o ts b ∈ allTurns := (hn.at (hn.idx hb).2).2.2.2
theorem plO_inj (hn : Names S.length o ts) {b c : Nat} (hb : b < S.length) (hc : c < S.length) (e : plO o b = plO o c) : b = c := by
  rw [← hn.at_idx hb, ← hn.at_idx hc]
  exact congrArg (tf o) e
theorem plO_onto (hn : Names S.length o ts) {k : Nat} (hk : k < S.length) : ∃ b, b < S.length ∧ plO o b = k := ⟨tf o k, (hn.at hk).2.1, hn.idx_at hk⟩
/-- a joining, called otherwise -/
theorem ren_jn (hG : Good S) (hn : Names S.length o ts) {b f n : Nat} {t : Trn} (e : getJ S b f = some (some (n, t))) : ∃ t', getJ (renS S o ts) (plO o b) (tf (tnO o ts b) f) = some (some (plO o n, t')) ∧ ∀ c, c < 4 → tf t' (tf (tnO o ts b) c) = tf (tnO o ts n) (tf t c) := by
  have hb := (hG.l4.of e).1
  have htm := tnO_mem hn hb
  refine ⟨(back (tnO o ts b)).map fun c => tf (tnO o ts n) (tf t c), ren_face hG.l4 hn e, fun c hc => ?_⟩
  have q1 := (tf_lt _ htm c hc).1
  have q2 := (tf_lt _ (back_mem htm) _ q1).2
  rw [tf_back _ htm c hc] at q2
  show (((back (tnO o ts b)).map fun c => tf (tnO o ts n) (tf t c))[tf (tnO o ts b) c]?).getD 0 = _
  rw [List.getElem?_map, q2]
  rfl
/-- and back: what is joined there is joined here -/
theorem ren_jn_back (hG : Good S) (hn : Names S.length o ts) {b g n' : Nat} {t' : Trn} (hb : b < S.length) (e : getJ (renS S o ts) (plO o b) g = some (some (n', t'))) : ∃ f n t, f < 4 ∧ g = tf (tnO o ts b) f ∧ getJ S b f = some (some (n, t)) ∧ n' = plO o n ∧ ∀ c, c < 4 → tf t' (tf (tnO o ts b) c) = tf (tnO o ts n) (tf t c) := by
  have htm := tnO_mem hn hb
  have hg := ((good_ren hG hn).l4.of e).2
  have hf := (tf_lt _ (back_mem htm) g hg).1
  have eg : g = tf (tnO o ts b) (tf (back (tnO o ts b)) g) := by
    have := tf_back _ (back_mem htm) g hg
    rw [back_back _ htm] at this
    exact this.symm
  obtain ⟨j, hj⟩ := hG.l4.get hb hf
  cases j with
  | none =>
    have := ren_face hG.l4 hn hj
    rw [show tf (tsAt ts (o.idxOf b)) (tf (back (tnO o ts b)) g) = g from eg.symm] at this
    rw [show getJ (renS S o ts) (plO o b) g = some none from this] at e
    cases e
  | some k =>
    obtain ⟨n, t⟩ := k
    obtain ⟨t2, h1, h2⟩ := ren_jn hG hn hj
    rw [← eg, e] at h1
    injection h1 with h1
    injection h1 with h1
    injection h1 with h1 h3
    subst h3
    exact ⟨_, n, t, hf, eg, hj, h1, h2⟩
/-! corners and faces -/
def calT (o : List Nat) (ts : List Trn) (x : Nat) : Nat := 4 * plO o (x / 4) + tf (tnO o ts (x / 4)) (x % 4)
theorem calT_at (b c : Nat) (hc : c < 4) : calT o ts (4 * b + c) = 4 * plO o b + tf (tnO o ts b) c := by
  unfold calT
  rw [show (4 * b + c) / 4 = b by omega, show (4 * b + c) % 4 = c by omega]
theorem split4 (x : Nat) : ∃ b c, c < 4 ∧ x = 4 * b + c := ⟨x / 4, x % 4, Nat.mod_lt _ (by decide), by omega⟩
theorem calT_parts (hn : Names S.length o ts) {b c : Nat} (hb : b < S.length) (hc : c < 4) : calT o ts (4 * b + c) / 4 = plO o b ∧ calT o ts (4 * b + c) % 4 = tf (tnO o ts b) c ∧ calT o ts (4 * b + c) < 4 * S.length := by
  have h1 := (tf_lt _ (tnO_mem hn hb) c hc).1
  have h2 := (hn.idx hb).2
  rw [calT_at b c hc]
  show _ ∧ _ ∧ 4 * o.idxOf b + _ < _
  unfold plO
  omega
theorem calT_base (hn : Names S.length o ts) : (∀ x ∈ List.range (4 * S.length), calT o ts x ∈ List.range (4 * (renS S o ts).length)) ∧ (∀ x ∈ List.range (4 * S.length), ∀ y ∈ List.range (4 * S.length), calT o ts x = calT o ts y → x = y) ∧ ∀ y ∈ List.range (4 * (renS S o ts).length), ∃ x ∈ List.range (4 * S.length), calT o ts x = y := by
  refine ⟨fun x hx => ?_, fun x hx y hy e => ?_, fun y hy => ?_⟩
  · obtain ⟨b, c, hc, rfl⟩ := split4 x
    have := List.mem_range.mp hx
    rw [renS_len]
    exact List.mem_range.mpr (calT_parts hn (by omega) hc).2.2
  · obtain ⟨b, c, hc, rfl⟩ := split4 x
    obtain ⟨b', c', hc', rfl⟩ := split4 y
    have h1 := List.mem_range.mp hx
    have h2 := List.mem_range.mp hy
    obtain ⟨a1, a2, _⟩ := calT_parts hn (b := b) (by omega) hc
    obtain ⟨d1, d2, _⟩ := calT_parts hn (b := b') (by omega) hc'
    rw [e] at a1 a2
    have eb := plO_inj hn (b := b) (c := b') (by omega) (by omega) (a1.symm.trans d1)
    subst eb
    have := tf_injM (tnO_mem hn (by omega)) hc hc' (a2.symm.trans d2)
    rw [this]
  · obtain ⟨k, g, hg, rfl⟩ := split4 y
    have h1 := List.mem_range.mp hy
    rw [renS_len] at h1
    obtain ⟨b, hb, rfl⟩ := plO_onto hn (k := k) (by omega)
    have htm := tnO_mem hn hb
    have hf := (tf_lt _ (back_mem htm) g hg).1
    refine ⟨4 * b + tf (back (tnO o ts b)) g, List.mem_range.mpr (by omega), ?_⟩
    rw [calT_at b _ hf]
    have := tf_back _ (back_mem htm) g hg
    rw [back_back _ htm] at this
    rw [this]
theorem callsC (hG : Good S) (hn : Names S.length o ts) : Calls (calT o ts) (List.range (4 * S.length)) (List.range (4 * (renS S o ts).length)) (lkC S) (lkC (renS S o ts)) := by
  obtain ⟨h1, h2, h3⟩ := calT_base hn
  refine ⟨h1, h2, h3, fun x hx y hy => ?_, fun x hx y' hy' => ?_⟩
  · obtain ⟨b, c, hc, rfl⟩ := split4 x
    have hb : b < S.length := by have := List.mem_range.mp hx; omega
    refine ⟨List.mem_range.mpr (lkC_lt hG hy), ?_⟩
    obtain ⟨f, n, t, hf, e, ne, rfl⟩ := metL_mem.mp hy
    rw [show (4 * b + c) / 4 = b by omega] at e
    rw [show (4 * b + c) % 4 = c by omega] at ne ⊢
    obtain ⟨t', e', k⟩ := ren_jn hG hn e
    obtain ⟨p1, p2, _⟩ := calT_parts hn hb hc
    have hq := (hG.both _ _ _ _ e).1
    refine metL_mem.mpr ⟨tf (tnO o ts b) f, plO o n, t', (tf_lt _ (tnO_mem hn hb) f hf).1, by rw [p1]; exact e', ?_, ?_⟩
    · rw [p2]
      exact fun z => ne (tf_injM (tnO_mem hn hb) hf hc z)
    · rw [p2, k c hc, calT_at n _ (tf_lt t hq c hc).1]
  · obtain ⟨b, c, hc, rfl⟩ := split4 x
    have hb : b < S.length := by have := List.mem_range.mp hx; omega
    obtain ⟨p1, p2, _⟩ := calT_parts hn hb hc
    obtain ⟨g, n', t', hg, e, ne, rfl⟩ := metL_mem.mp hy'
    rw [p1] at e
    rw [p2] at ne ⊢
    obtain ⟨f, n, t, hf, rfl, ej, rfl, k⟩ := ren_jn_back hG hn hb e
    have hq := (hG.both _ _ _ _ ej).1
    refine ⟨4 * n + tf t c, metL_mem.mpr ⟨f, n, t, hf, by rw [show (4 * b + c) / 4 = b by omega]; exact ej, ?_, by rw [show (4 * b + c) % 4 = c by omega]⟩, ?_⟩
    · rw [show (4 * b + c) % 4 = c by omega]
      exact fun z => ne (by rw [z])
    · rw [k c hc, calT_at n _ (tf_lt t hq c hc).1]
theorem callsF (hG : Good S) (hn : Names S.length o ts) : Calls (calT o ts) (List.range (4 * S.length)) (List.range (4 * (renS S o ts).length)) (lkF S) (lkF (renS S o ts)) := by
  obtain ⟨h1, h2, h3⟩ := calT_base hn
  refine ⟨h1, h2, h3, fun x hx y hy => ?_, fun x hx y' hy' => ?_⟩
  · obtain ⟨b, c, hc, rfl⟩ := split4 x
    have hb : b < S.length := by have := List.mem_range.mp hx; omega
    refine ⟨List.mem_range.mpr (lkF_lt hG hy), ?_⟩
    obtain ⟨n, t, e, rfl⟩ := lkF_mem.mp hy
    rw [show (4 * b + c) / 4 = b by omega, show (4 * b + c) % 4 = c by omega] at e
    rw [show (4 * b + c) % 4 = c by omega]
    obtain ⟨t', e', k⟩ := ren_jn hG hn e
    obtain ⟨p1, p2, _⟩ := calT_parts hn hb hc
    have hq := (hG.both _ _ _ _ e).1
    refine lkF_mem.mpr ⟨plO o n, t', by rw [p1, p2]; exact e', ?_⟩
    rw [p2, k c hc, calT_at n _ (tf_lt t hq c hc).1]
  · obtain ⟨b, c, hc, rfl⟩ := split4 x
    have hb : b < S.length := by have := List.mem_range.mp hx; omega
    obtain ⟨p1, p2, _⟩ := calT_parts hn hb hc
    obtain ⟨n', t', e, rfl⟩ := lkF_mem.mp hy'
    rw [p1, p2] at e
    rw [p2]
    obtain ⟨f, n, t, hf, ef, ej, rfl, k⟩ := ren_jn_back hG hn hb e
    obtain rfl := tf_injM (tnO_mem hn hb) hc hf ef
    have hq := (hG.both _ _ _ _ ej).1
    refine ⟨4 * n + tf t c, lkF_mem.mpr ⟨n, t, by rw [show (4 * b + c) / 4 = b by omega, show (4 * b + c) % 4 = c by omega]; exact ej, by rw [show (4 * b + c) % 4 = c by omega]⟩, ?_⟩
    rw [k c hc, calT_at n _ (tf_lt t hq c hc).1]
theorem callsP (hG : Good S) (hn : Names S.length o ts) : Calls (plO o) (List.range S.length) (List.range (renS S o ts).length) (lkP S) (lkP (renS S o ts)) := by
  refine ⟨fun x hx => ?_, fun x hx y hy e => plO_inj hn (List.mem_range.mp hx) (List.mem_range.mp hy) e, fun y hy => ?_, fun x hx y hy => ?_, fun x hx y' hy' => ?_⟩
  · rw [renS_len]
    exact List.mem_range.mpr (hn.idx (List.mem_range.mp hx)).2
  · have h := List.mem_range.mp hy
    rw [renS_len] at h
    obtain ⟨b, hb, e⟩ := plO_onto hn h
    exact ⟨b, List.mem_range.mpr hb, e⟩
  · obtain ⟨f, t, e⟩ := lkP_of.mp hy
    obtain ⟨t', e', _⟩ := ren_jn hG hn e
    exact ⟨List.mem_range.mpr (hG.lt e), lkP_of.mpr ⟨_, _, e'⟩⟩
  · obtain ⟨g, t', e⟩ := lkP_of.mp hy'
    obtain ⟨f, n, t, _, _, ej, en, _⟩ := ren_jn_back hG hn (List.mem_range.mp hx) e
    exact ⟨n, lkP_of.mpr ⟨_, _, ej⟩, en⟩
/-! edges -/
def calQ (o : List Nat) (ts : List Trn) (x : Nat) : Nat := 16 * plO o (x / 16) + 4 * tf (tnO o ts (x / 16)) (x / 4 % 4) + tf (tnO o ts (x / 16)) (x % 4)
theorem calQ_at (b c e : Nat) (hc : c < 4) (he : e < 4) : calQ o ts (16 * b + 4 * c + e) = 16 * plO o b + 4 * tf (tnO o ts b) c + tf (tnO o ts b) e := by
  unfold calQ
  rw [show (16 * b + 4 * c + e) / 16 = b by omega, show (16 * b + 4 * c + e) / 4 % 4 = c by omega, show (16 * b + 4 * c + e) % 4 = e by omega]
theorem calQ_parts (hn : Names S.length o ts) {b c e : Nat} (hb : b < S.length) (hc : c < 4) (he : e < 4) : calQ o ts (16 * b + 4 * c + e) / 16 = plO o b ∧ calQ o ts (16 * b + 4 * c + e) / 4 % 4 = tf (tnO o ts b) c ∧ calQ o ts (16 * b + 4 * c + e) % 4 = tf (tnO o ts b) e := by
  have h1 := (tf_lt _ (tnO_mem hn hb) c hc).1
  have h2 := (tf_lt _ (tnO_mem hn hb) e he).1
  rw [calQ_at b c e hc he]
  omega
theorem dirs_at {U : Spc} {b c e : Nat} (hc : c < 4) (he : e < 4) : 16 * b + 4 * c + e ∈ dirs U ↔ b < U.length ∧ c ≠ e := by
  rw [dirs_mem, show (16 * b + 4 * c + e) / 4 % 4 = c by omega, show (16 * b + 4 * c + e) % 4 = e by omega]
  exact ⟨fun h => ⟨by omega, h.2⟩, fun h => ⟨by omega, h.2⟩⟩
theorem callsQ (hG : Good S) (hn : Names S.length o ts) : Calls (calQ o ts) (dirs S) (dirs (renS S o ts)) (lkQ S) (lkQ (renS S o ts)) := by
  refine ⟨fun x hx => ?_, fun x hx y hy e => ?_, fun y hy => ?_, fun x hx y hy => ?_, fun x hx y' hy' => ?_⟩
  · obtain ⟨b, c, e, hc, he, rfl⟩ := split16 x
    obtain ⟨hb, ne⟩ := (dirs_at hc he).mp hx
    have htm := tnO_mem hn hb
    rw [calQ_at b c e hc he]
    refine (dirs_at (tf_lt _ htm c hc).1 (tf_lt _ htm e he).1).mpr ⟨?_, fun z => ne (tf_injM htm hc he z)⟩
    rw [renS_len]
    exact (hn.idx hb).2
  · obtain ⟨b, c, d, hc, hd, rfl⟩ := split16 x
    obtain ⟨b', c', d', hc', hd', rfl⟩ := split16 y
    obtain ⟨hb, _⟩ := (dirs_at hc hd).mp hx
    obtain ⟨hb', _⟩ := (dirs_at hc' hd').mp hy
    obtain ⟨a1, a2, a3⟩ := calQ_parts hn hb hc hd
    obtain ⟨g1, g2, g3⟩ := calQ_parts hn hb' hc' hd'
    rw [e] at a1 a2 a3
    have eb := plO_inj hn hb hb' (a1.symm.trans g1)
    subst eb
    have e1 := tf_injM (tnO_mem hn hb) hc hc' (a2.symm.trans g2)
    have e2 := tf_injM (tnO_mem hn hb) hd hd' (a3.symm.trans g3)
    rw [e1, e2]
  · obtain ⟨k, c, e, hc, he, rfl⟩ := split16 y
    obtain ⟨hk, ne⟩ := (dirs_at hc he).mp hy
    rw [renS_len] at hk
    obtain ⟨b, hb, rfl⟩ := plO_onto hn hk
    have htm := tnO_mem hn hb
    have hc' := (tf_lt _ (back_mem htm) c hc).1
    have he' := (tf_lt _ (back_mem htm) e he).1
    have q1 := tf_back _ (back_mem htm) c hc
    have q2 := tf_back _ (back_mem htm) e he
    rw [back_back _ htm] at q1 q2
    refine ⟨16 * b + 4 * tf (back (tnO o ts b)) c + tf (back (tnO o ts b)) e, (dirs_at hc' he').mpr ⟨hb, fun z => ne ?_⟩, ?_⟩
    · rw [← q1, ← q2, z]
    · rw [calQ_at _ _ _ hc' he', q1, q2]
  · obtain ⟨b, c, e, hc, he, rfl⟩ := split16 x
    obtain ⟨hb, ne⟩ := (dirs_at hc he).mp hx
    obtain ⟨p1, p2, p3⟩ := calQ_parts hn hb hc he
    obtain ⟨f, n, t, hf, ej, z1, z2, ey⟩ := mtQ_mem.mp (show y ∈ mtQ S _ _ _ 4 from hy)
    rw [show (16 * b + 4 * c + e) / 16 = b by omega] at ej
    rw [show (16 * b + 4 * c + e) / 4 % 4 = c by omega] at z1 ey
    rw [show (16 * b + 4 * c + e) % 4 = e by omega] at z2 ey
    have hq := (hG.both _ _ _ _ ej).1
    have lc := (tf_lt t hq c hc).1
    have le := (tf_lt t hq e he).1
    obtain ⟨t', e', k⟩ := ren_jn hG hn ej
    subst ey
    refine ⟨(dirs_at lc le).mpr ⟨hG.lt ej, fun z => ne (tf_injM hq hc he z)⟩, ?_⟩
    show _ ∈ mtQ (renS S o ts) _ _ _ 4
    rw [p1, p2, p3]
    refine mtQ_mem.mpr ⟨tf (tnO o ts b) f, plO o n, t', (tf_lt _ (tnO_mem hn hb) f hf).1, e', fun z => z1 (tf_injM (tnO_mem hn hb) hf hc z), fun z => z2 (tf_injM (tnO_mem hn hb) hf he z), ?_⟩
    rw [k c hc, k e he, calQ_at n _ _ lc le]
  · obtain ⟨b, c, e, hc, he, rfl⟩ := split16 x
    obtain ⟨hb, ne⟩ := (dirs_at hc he).mp hx
    obtain ⟨p1, p2, p3⟩ := calQ_parts hn hb hc he
    have hy' : y' ∈ mtQ (renS S o ts) _ _ _ 4 := hy'
    rw [p1, p2, p3] at hy'
    obtain ⟨g, n', t', hg, e', z1, z2, rfl⟩ := mtQ_mem.mp hy'
    obtain ⟨f, n, t, hf, rfl, ej, rfl, k⟩ := ren_jn_back hG hn hb e'
    have hq := (hG.both _ _ _ _ ej).1
    refine ⟨16 * n + 4 * tf t c + tf t e, ?_, ?_⟩
    · show _ ∈ mtQ S _ _ _ 4
      rw [show (16 * b + 4 * c + e) / 16 = b by omega, show (16 * b + 4 * c + e) / 4 % 4 = c by omega, show (16 * b + 4 * c + e) % 4 = e by omega]
      exact mtQ_mem.mpr ⟨f, n, t, hf, ej, fun z => z1 (by rw [z]), fun z => z2 (by rw [z]), rfl⟩
    · rw [k c hc, k e he, calQ_at n _ _ (tf_lt t hq c hc).1 (tf_lt t hq e he).1]
theorem calQ_flp {x : Nat} : calQ o ts (flp x) = flp (calQ o ts x) ∨ ¬ (tf (tnO o ts (x / 16)) (x / 4 % 4) < 4 ∧ tf (tnO o ts (x / 16)) (x % 4) < 4) := by
  by_cases h : tf (tnO o ts (x / 16)) (x / 4 % 4) < 4 ∧ tf (tnO o ts (x / 16)) (x % 4) < 4
  · refine .inl ?_
    obtain ⟨b, c, e, hc, he, rfl⟩ := split16 x
    rw [show (16 * b + 4 * c + e) / 16 = b by omega, show (16 * b + 4 * c + e) / 4 % 4 = c by omega, show (16 * b + 4 * c + e) % 4 = e by omega] at h
    rw [flp_at b c e hc he, calQ_at b e c he hc, calQ_at b c e hc he, flp_at _ _ _ h.1 h.2]
  · exact .inr h
end
end Bk

/-! Edges called otherwise, one way or the other; the border; how many. -/
namespace Bk
open PySem PySem.Spec PyProof.Rows L2 RZ
theorem lkQ_eqv {S : Spc} (hG : Good S) : EqvB (hgB (lkQ S)) := hangB_eqv (r := fun x y => y ∈ lkQ S x) (fun _ _ z => lkQ_symm hG z)
theorem callsFlp {S : Spc} (hG : Good S) : Calls flp (dirs S) (dirs S) (lkQ S) (lkQ S) := by
  refine ⟨dirs_flp, fun x _ y _ e => by rw [← flp_flp x, e, flp_flp], fun y hy => ⟨flp y, dirs_flp y hy, flp_flp y⟩, fun x hx y hy => ⟨?_, lkQ_flp hG hy⟩, fun x hx y' hy' => ⟨flp y', ?_, (flp_flp y').symm⟩⟩
  · have E := lkQ_eqv hG
    have : y ∈ lkQ S x := hy
    obtain ⟨f, n, t, hf, g, z1, z2, rfl⟩ := mtQ_mem.mp (show y ∈ mtQ S _ _ _ 4 from hy)
    have q := (hG.both _ _ _ _ g).1
    have a1 := (tf_lt t q (x / 4 % 4) (Nat.mod_lt _ (by decide))).1
    have a2 := (tf_lt t q (x % 4) (Nat.mod_lt _ (by decide))).1
    refine (dirs_at a1 a2).mpr ⟨hG.lt g, fun w => (dirs_mem.mp hx).2 (tf_injM q (Nat.mod_lt _ (by decide)) (Nat.mod_lt _ (by decide)) w)⟩
  · have := lkQ_flp hG hy'
    rw [flp_flp] at this
    exact this
/-- a row turned about -/
noncomputable def flR (S : Spc) (r : List Nat) : List Nat := calR (dirs S) flp r
/-- the one way or the other, whichever is less -/
noncomputable def eiR (S : Spc) (r : List Nat) : List Nat := if (flR S r).headD 0 < r.headD 0 then flR S r else r
noncomputable abbrev clQ (S : Spc) (x : Nat) : List Nat := (dirs S).filter (hgB (lkQ S) x)
theorem clQ_head {S : Spc} (hG : Good S) {x : Nat} (hx : x ∈ dirs S) : ∃ z t, clQ S x = z :: t ∧ z ∈ dirs S ∧ hgB (lkQ S) x z = true ∧ ∀ y ∈ clQ S x, z ≤ y := by
  have hm : x ∈ clQ S x := List.mem_filter.mpr ⟨hx, (lkQ_eqv hG).rfl x⟩
  have up : (clQ S x).Pairwise (· < ·) := (dirs_up S).filter _
  cases e : clQ S x with
  | nil => rw [e] at hm; cases hm
  | cons z t =>
    have hz : z ∈ clQ S x := by rw [e]; exact List.mem_cons_self
    refine ⟨z, t, rfl, (List.mem_filter.mp hz).1, (List.mem_filter.mp hz).2, fun y hy => ?_⟩
    rw [e] at up
    rcases List.mem_cons.mp hy with rfl | hy
    · exact Nat.le_refl _
    · exact Nat.le_of_lt ((List.pairwise_cons.mp up).1 y hy)
theorem clQ_eq {S : Spc} (hG : Good S) {x y : Nat} (h : hgB (lkQ S) x y = true) : clQ S x = clQ S y := List.filter_congr fun z _ => bool_ext ⟨fun w => (lkQ_eqv hG).trans _ _ _ ((lkQ_eqv hG).symm _ _ h) w, fun w => (lkQ_eqv hG).trans _ _ _ h w⟩
theorem clQ_same {S : Spc} (hG : Good S) {x y : Nat} (hy : y ∈ dirs S) (h : clQ S x = clQ S y) : hgB (lkQ S) x y = true := by
  have hm : y ∈ clQ S x := by
    rw [h]
    exact List.mem_filter.mpr ⟨hy, (lkQ_eqv hG).rfl y⟩
  exact (List.mem_filter.mp hm).2
theorem clQ_hd {S : Spc} (hG : Good S) {x y : Nat} (hx : x ∈ dirs S) (hy : y ∈ dirs S) (h : (clQ S x).headD 0 = (clQ S y).headD 0) : clQ S x = clQ S y := by
  obtain ⟨z, t, e1, _, g1, _⟩ := clQ_head hG hx
  obtain ⟨w, u, e2, _, g2, _⟩ := clQ_head hG hy
  rw [e1, e2] at h
  have h : z = w := h
  subst h
  exact clQ_eq hG ((lkQ_eqv hG).trans _ _ _ g1 ((lkQ_eqv hG).symm _ _ g2))
theorem flR_cl {S : Spc} (hG : Good S) {x : Nat} (hx : x ∈ dirs S) : flR S (clQ S x) = clQ S (flp x) := (callsFlp hG).row hx
theorem keep_cl {S : Spc} (hG : Good S) {x : Nat} (hx : x ∈ dirs S) : keepE (clQ S x) = decide ((clQ S x).headD 0 ≤ (clQ S (flp x)).headD 0) := by
  obtain ⟨z, t, e1, z1, g1, lo1⟩ := clQ_head hG hx
  obtain ⟨w, u, e2, w1, g2, lo2⟩ := clQ_head hG (dirs_flp x hx)
  have hw : w ∈ clQ S (flp x) := List.mem_filter.mpr ⟨w1, g2⟩
  have fw : flp w ∈ clQ S x := by
    refine List.mem_filter.mpr ⟨dirs_flp w w1, ?_⟩
    have := hangQ_flp hG (show hgB (lkQ S) (flp x) w = true from g2)
    rw [flp_flp] at this
    exact this
  have fz : ∀ y ∈ clQ S x, flp y ∈ clQ S (flp x) := fun y hy => List.mem_filter.mpr ⟨dirs_flp y (List.mem_filter.mp hy).1, hangQ_flp hG (List.mem_filter.mp hy).2⟩
  have k := keepE_iff (x := z) (t := t)
  rw [e2]
  show keepE (clQ S x) = decide ((clQ S x).headD 0 ≤ w)
  rw [e1]
  show keepE (z :: t) = decide (z ≤ w)
  by_cases c : z ≤ w
  · rw [decide_eq_true c]
    refine k.mpr fun y hy => ?_
    rw [← e1] at hy
    have := lo2 _ (fz y hy)
    omega
  · rw [decide_eq_false c, Bool.eq_false_iff]
    intro h
    have := k.mp h (flp w) (by rw [← e1]; exact fw)
    rw [flp_flp] at this
    exact c this
theorem eiR_cl {S : Spc} (hG : Good S) {x : Nat} (hx : x ∈ dirs S) : eiR S (clQ S x) = if keepE (clQ S x) = true then clQ S x else clQ S (flp x) := by
  unfold eiR
  rw [flR_cl hG hx, keep_cl hG hx]
  by_cases c : (clQ S x).headD 0 ≤ (clQ S (flp x)).headD 0
  · rw [if_neg (by omega), if_pos (decide_eq_true c)]
  · rw [if_pos (by omega), if_neg (by rw [decide_eq_false c]; exact Bool.false_ne_true)]
theorem keep_or {S : Spc} (hG : Good S) {x : Nat} (hx : x ∈ dirs S) : keepE (clQ S x) = true ∨ keepE (clQ S (flp x)) = true := by
  rw [keep_cl hG hx, keep_cl hG (dirs_flp x hx), flp_flp, decide_eq_true_iff, decide_eq_true_iff]
  omega
theorem keep_both {S : Spc} (hG : Good S) {x : Nat} (hx : x ∈ dirs S) (h1 : keepE (clQ S x) = true) (h2 : keepE (clQ S (flp x)) = true) : clQ S x = clQ S (flp x) := by
  rw [keep_cl hG hx, decide_eq_true_iff] at h1
  rw [keep_cl hG (dirs_flp x hx), flp_flp, decide_eq_true_iff] at h2
  exact clQ_hd hG hx (dirs_flp x hx) (by omega)
theorem edgE_mem {S : Spc} (hG : Good S) {r : List Nat} : r ∈ edgE S ↔ ∃ x ∈ dirs S, r = clQ S x ∧ keepE r = true := by
  show r ∈ (wayE S).filter keepE ↔ _
  rw [List.mem_filter]
  have h := rowsE_mem (lkQ_eqv hG) (dirs_up S) (r := r)
  show r ∈ rowsE _ _ ∧ _ ↔ _
  rw [h]
  exact ⟨fun ⟨⟨x, hx, e⟩, k⟩ => ⟨x, hx, e, k⟩, fun ⟨x, hx, e, k⟩ => ⟨⟨x, hx, e⟩, k⟩⟩
theorem eiR_in {S : Spc} (hG : Good S) {x : Nat} (hx : x ∈ dirs S) : eiR S (clQ S x) ∈ edgE S := by
  rw [eiR_cl hG hx]
  by_cases c : keepE (clQ S x) = true
  · rw [if_pos c]
    exact (edgE_mem hG).mpr ⟨x, hx, rfl, c⟩
  · rw [if_neg c]
    exact (edgE_mem hG).mpr ⟨_, dirs_flp x hx, rfl, (keep_or hG hx).resolve_left c⟩
theorem eiR_keep {S : Spc} (hG : Good S) {r : List Nat} (h : r ∈ edgE S) : eiR S r = r := by
  obtain ⟨x, hx, rfl, k⟩ := (edgE_mem hG).mp h
  rw [eiR_cl hG hx, if_pos k]
theorem edgE_nd {S : Spc} (hG : Good S) : (edgE S).Nodup := (edgE_up hG).imp fun {r r'} z e => by
  obtain ⟨x, t, y, u, rfl, rfl, lt⟩ := z
  injection e with e _
  omega
section
variable {S : Spc} {o : List Nat} {ts : List Trn}
theorem calQ_flip (hn : Names S.length o ts) {x : Nat} (hx : x ∈ dirs S) : calQ o ts (flp x) = flp (calQ o ts x) := by
  have hb : x / 16 < S.length := by have := (dirs_mem.mp hx).1; omega
  rcases calQ_flp (o := o) (ts := ts) (x := x) with h | h
  · exact h
  · exact absurd ⟨(tf_lt _ (tnO_mem hn hb) _ (Nat.mod_lt _ (by decide))).1, (tf_lt _ (tnO_mem hn hb) _ (Nat.mod_lt _ (by decide))).1⟩ h
theorem edges_called (hG : Good S) (hn : Names S.length o ts) : ((edgE S).map fun r => eiR (renS S o ts) (calR (dirs (renS S o ts)) (calQ o ts) r)).Perm (edgE (renS S o ts)) := by
  have c := callsQ hG hn
  have hR := good_ren hG hn
  have E := lkQ_eqv hG
  have E' := lkQ_eqv hR
  have row : ∀ {x}, x ∈ dirs S → calR (dirs (renS S o ts)) (calQ o ts) (clQ S x) = clQ (renS S o ts) (calQ o ts x) := fun hx => c.row hx
  refine (List.perm_ext_iff_of_nodup ?_ (edgE_nd hR)).mpr fun r => ?_
  · refine List.pairwise_map.mpr (List.pairwise_iff_forall_sublist.mpr ?_)
    intro a b hs e
    have hab := (edgE_nd hG).sublist hs
    obtain ⟨x, hx, rfl, kx⟩ := (edgE_mem hG).mp (hs.subset List.mem_cons_self)
    obtain ⟨y, hy, rfl, ky⟩ := (edgE_mem hG).mp (hs.subset (List.mem_cons_of_mem _ List.mem_cons_self))
    have nx := c.into x hx
    have ny := c.into y hy
    have fin : clQ S x = clQ S y := by
      have e : eiR (renS S o ts) (calR (dirs (renS S o ts)) (calQ o ts) (clQ S x)) = eiR (renS S o ts) (calR (dirs (renS S o ts)) (calQ o ts) (clQ S y)) := e
      rw [row hx, row hy, eiR_cl hR nx, eiR_cl hR ny] at e
      have same : ∀ {u v}, u ∈ dirs S → v ∈ dirs S → clQ (renS S o ts) (calQ o ts u) = clQ (renS S o ts) (calQ o ts v) → clQ S u = clQ S v := fun {u v} hu hv h => by
        have := clQ_same hR (c.into v hv) h
        rw [c.hang hu hv] at this
        exact clQ_eq hG this
      by_cases cx : keepE (clQ (renS S o ts) (calQ o ts x)) = true <;> by_cases cy : keepE (clQ (renS S o ts) (calQ o ts y)) = true
      · rw [if_pos cx, if_pos cy] at e
        exact same hx hy e
      · rw [if_pos cx, if_neg cy, ← calQ_flip hn hy] at e
        have h := same hx (dirs_flp y hy) e
        rw [h] at kx
        rw [h, keep_both hG hy ky kx]
      · rw [if_neg cx, if_pos cy, ← calQ_flip hn hx] at e
        have h := same (dirs_flp x hx) hy e
        rw [← h] at ky
        rw [keep_both hG hx kx ky, h]
      · rw [if_neg cx, if_neg cy, ← calQ_flip hn hx, ← calQ_flip hn hy] at e
        have h := clQ_same hG (dirs_flp y hy) (same (dirs_flp x hx) (dirs_flp y hy) e)
        have h2 := hangQ_flp hG (show hgB (lkQ S) _ _ = true from h)
        rw [flp_flp, flp_flp] at h2
        exact clQ_eq hG h2
    exact (List.nodup_cons.mp hab).1 (by rw [fin]; exact List.mem_cons_self)
  · rw [List.mem_map]
    constructor
    · rintro ⟨s, hs, rfl⟩
      obtain ⟨x, hx, rfl, _⟩ := (edgE_mem hG).mp hs
      rw [row hx]
      exact eiR_in hR (c.into x hx)
    · intro hr
      obtain ⟨y, hy, rfl, ky⟩ := (edgE_mem hR).mp hr
      obtain ⟨x, hx, rfl⟩ := c.onto y hy
      by_cases k : keepE (clQ S x) = true
      · refine ⟨_, (edgE_mem hG).mpr ⟨x, hx, rfl, k⟩, ?_⟩
        rw [row hx]
        exact eiR_keep hR hr
      · refine ⟨_, (edgE_mem hG).mpr ⟨_, dirs_flp x hx, rfl, (keep_or hG hx).resolve_left k⟩, ?_⟩
        rw [row (dirs_flp x hx), calQ_flip hn hx, eiR_cl hR (dirs_flp _ hy), flp_flp]
        by_cases k2 : keepE (clQ (renS S o ts) (flp (calQ o ts x))) = true
        · rw [if_pos k2]
          exact (keep_both hR hy ky k2).symm
        · rw [if_neg k2]
/-! the border -/
def frC (S : Spc) : List Nat := (List.range (4 * S.length)).filter (isFr S)
theorem free_called (hG : Good S) (hn : Names S.length o ts) : frC (renS S o ts) = calR (List.range (4 * (renS S o ts).length)) (calT o ts) (frC S) := by
  obtain ⟨h1, h2, h3⟩ := calT_base hn
  have fr : ∀ x ∈ List.range (4 * S.length), isFr (renS S o ts) (calT o ts x) = isFr S x := fun x hx => by
    obtain ⟨b, c, hc, rfl⟩ := split4 x
    have hb : b < S.length := by have := List.mem_range.mp hx; omega
    obtain ⟨p1, p2, _⟩ := calT_parts hn hb hc
    obtain ⟨j, hj⟩ := hG.l4.get hb hc
    have := ren_face hG.l4 hn hj
    unfold isFr
    rw [p1, p2, show (4 * b + c) / 4 = b by omega, show (4 * b + c) % 4 = c by omega, hj]
    rw [show getJ (renS S o ts) (plO o b) (tf (tnO o ts b) c) = some (renJ o ts (back (tsAt ts (o.idxOf b))) j) from this]
    cases j with
    | none => rfl
    | some k => rfl
  unfold frC calR
  refine List.filter_congr fun y hy => ?_
  obtain ⟨x, hx, rfl⟩ := h3 y hy
  rw [fr x hx]
  by_cases c : isFr S x = true
  · rw [c]
    exact (decide_eq_true (List.mem_map_of_mem (List.mem_filter.mpr ⟨hx, c⟩))).symm
  · rw [Bool.eq_false_iff.mpr c]
    refine (decide_eq_false fun h => c ?_).symm
    obtain ⟨z, hz, e⟩ := List.mem_map.mp h
    obtain ⟨g1, g2⟩ := List.mem_filter.mp hz
    rw [← h2 z g1 x hx e]
    exact g2
/-! how many -/
theorem crn_called (hG : Good S) (hn : Names S.length o ts) : ((crnE S).map (calR (List.range (4 * (renS S o ts).length)) (calT o ts))).Perm (crnE (renS S o ts)) :=
  (callsC hG hn).rows List.pairwise_lt_range List.pairwise_lt_range (fun _ _ z => lkC_symm hG z) (fun _ _ z => lkC_symm (good_ren hG hn) z)
theorem fac_called (hG : Good S) (hn : Names S.length o ts) : ((facE S).map (calR (List.range (4 * (renS S o ts).length)) (calT o ts))).Perm (facE (renS S o ts)) :=
  (callsF hG hn).rows List.pairwise_lt_range List.pairwise_lt_range (fun _ _ z => lkF_symm hG z) (fun _ _ z => lkF_symm (good_ren hG hn) z)
noncomputable def parE (S : Spc) : List (List Nat) := rowsE (hgB (lkP S)) (List.range S.length)
theorem par_called (hG : Good S) (hn : Names S.length o ts) : ((parE S).map (calR (List.range (renS S o ts).length) (plO o))).Perm (parE (renS S o ts)) :=
  (callsP hG hn).rows List.pairwise_lt_range List.pairwise_lt_range (lkP_symm hG) (lkP_symm (good_ren hG hn))
theorem cnt_called (hG : Good S) (hn : Names S.length o ts) : cntI (renS S o ts) = cntI S := by
  have h1 := (crn_called hG hn).length_eq
  have h2 := (edges_called hG hn).length_eq
  have h3 := (fac_called hG hn).length_eq
  rw [List.length_map] at h1 h2 h3
  unfold cntI
  rw [← h1, ← h2, ← h3, renS_len]
end
end Bk

/-! Signs called otherwise. -/
namespace Bk
open PySem PySem.Spec PyProof.Rows L2 RZ
def mulOk (a b : Trn) : Bool := decide ((a.map (tf b)) ∈ allTurns) && decide (sgT (a.map (tf b)) = -(sgT a * sgT b))
theorem mulOk_all : (allTurns.all fun a => allTurns.all fun b => mulOk a b) = true := by decide +kernel
theorem sgT_mul {a b : Trn} (ha : a ∈ allTurns) (hb : b ∈ allTurns) : a.map (tf b) ∈ allTurns ∧ sgT (a.map (tf b)) = -(sgT a * sgT b) := by
  have h := List.all_eq_true.mp (List.all_eq_true.mp mulOk_all a ha) b hb
  unfold mulOk at h
  rw [Bool.and_eq_true, decide_eq_true_iff, decide_eq_true_iff] at h
  exact h
theorem hang_scale {tk : Nat → List (Nat × Int)} {p q : Nat × Int} (h : Hang (stepR tk) p q) (s : Int) : Hang (stepR tk) (p.1, p.2 * s) (q.1, q.2 * s) := by
  induction h with
  | rfl => exact .rfl _
  | step _ st ih =>
    obtain ⟨t, e, e2⟩ := st
    refine .step ih ⟨t, e, ?_⟩
    show _ * s = _ * s * t
    rw [e2, Int.mul_right_comm]
/-- a fit of any signs is that of the signs from the least -/
theorem root_fit {S : Spc} (hG : Good S) {f g : Nat → Int} (rf : RootF (tkS S) (List.range S.length) (List.range S.length) f) (hg : Fit (tkS S) (List.range S.length) g) (og : ∀ x ∈ List.range S.length, One (g x)) : Fit (tkS S) (List.range S.length) f := by
  -- f x = g r * g x, r the least
  have key : ∀ x ∈ List.range S.length, ∃ r ∈ List.range S.length, Hang (stepR (tkS S)) (r, 1) (x, f x) ∧ f x = g r * g x ∧ ∀ y ∈ List.range S.length, ∀ s, Hang (stepR (tkS S)) (r, 1) (y, s) → r ≤ y := fun x hx => by
    obtain ⟨ox, r, hr, hh, lo⟩ := rf x hx
    have h := (fit_hang hG hg hh hr).2
    refine ⟨r, hr, hh, ?_, lo⟩
    have h : g x * 1 = g r * f x := h
    have q := (og r hr).sq
    calc f x = (g r * g r) * f x := by rw [q, Int.one_mul]
      _ = g r * (g r * f x) := Int.mul_assoc ..
      _ = g r * g x := by rw [← h, Int.mul_one]
  intro x hx p hp
  have hp1 := (tkS_in hG hp).1
  obtain ⟨r, hr, hh, e1, lo⟩ := key x hx
  obtain ⟨r', hr', hh', e2, lo'⟩ := key p.1 hp1
  have ox := (rf x hx).1
  have opt := (rf p.1 hp1).1
  -- both roots are the same
  have hto : Hang (stepR (tkS S)) (r, 1) (p.1, f x * p.2) := .step hh ⟨p.2, hp, rfl⟩
  have er : r' = r := by
    obtain ⟨_, b1⟩ := hang_back hG hto (.inl rfl)
    obtain ⟨_, b2⟩ := hang_back hG hh' (.inl rfl)
    have l1 : r ≤ r' := by
      -- r hangs with p.1, p.1 with r'
      have sc := hang_scale b2 (f x * p.2 * f p.1)
      exact lo r' hr' _ (hto.trans (by
        have e : f p.1 * (f x * p.2 * f p.1) = f x * p.2 := by
          rw [Int.mul_comm (f p.1), Int.mul_assoc, opt.sq, Int.mul_one]
        rw [e] at sc
        exact sc))
    have l2 : r' ≤ r := by
      have sc := hang_scale b1 (f x * p.2 * f p.1)
      have o2 : f x * p.2 * (f x * p.2 * f p.1) = f p.1 := by
        have q1 := ox.sq
        have q2 := (tkS_in hG hp).2.sq
        calc f x * p.2 * (f x * p.2 * f p.1) = (f x * f x) * (p.2 * p.2) * f p.1 := by
              simp only [Int.mul_assoc, Int.mul_left_comm, Int.mul_comm]
          _ = f p.1 := by rw [q1, q2]; simp
      rw [o2] at sc
      exact lo' r hr _ (hh'.trans sc)
    omega
  subst er
  rw [e1, e2, hg x hx p hp, Int.mul_assoc]
section
variable {S : Spc} {o : List Nat} {ts : List Trn}
/-- a turn's own sign -/
def ownT (o : List Nat) (ts : List Trn) (b : Nat) : Int := -(sgT (tnO o ts b))
theorem ownT_one (b : Nat) : One (ownT o ts b) := by
  unfold ownT
  rcases sgT_one (tnO o ts b) with h | h
  · rw [h]; exact .inr rfl
  · rw [h]; exact .inl rfl
theorem neg3 (a b c : Int) : -(-(b * a) * c) = a * -b * -c := by
  rw [Int.neg_mul, Int.neg_neg, Int.mul_neg, Int.mul_neg, Int.neg_mul, Int.neg_neg, Int.mul_comm b a]
theorem ren_tie (hG : Good S) (hn : Names S.length o ts) {b : Nat} {p : Nat × Int} (hp : p ∈ tkS S b) : (plO o p.1, p.2 * ownT o ts b * ownT o ts p.1) ∈ tkS (renS S o ts) (plO o b) := by
  obtain ⟨f, t, e, e2⟩ := tkS_of.mp hp
  have hb := (hG.l4.of e).1
  have hq := (hG.both _ _ _ _ e).1
  have h := ren_face hG.l4 hn e
  have m1 := sgT_mul (back_mem (tnO_mem hn hb)) hq
  have m2 := sgT_mul m1.1 (tnO_mem hn (hG.lt e))
  refine tkS_of.mpr ⟨tf (tnO o ts b) f, ((back (tnO o ts b)).map (tf t)).map (tf (tnO o ts p.1)), ?_, ?_⟩
  · rw [List.map_map]
    exact h
  · show p.2 * ownT o ts b * ownT o ts p.1 = sgT _
    rw [m2.2, m1.2, sgT_back _ (tnO_mem hn hb), e2]
    unfold ownT
    exact (neg3 _ _ _).symm
theorem ren_tie_back (hG : Good S) (hn : Names S.length o ts) {b : Nat} {p' : Nat × Int} (hb : b < S.length) (hp : p' ∈ tkS (renS S o ts) (plO o b)) : ∃ p ∈ tkS S b, p' = (plO o p.1, p.2 * ownT o ts b * ownT o ts p.1) := by
  obtain ⟨g, t', e, e2⟩ := tkS_of.mp hp
  obtain ⟨f, n, t, hf, eg, ej, en, k⟩ := ren_jn_back hG hn hb e
  have hp0 : (n, sgT t) ∈ tkS S b := tkS_of.mpr ⟨f, t, ej, rfl⟩
  refine ⟨(n, sgT t), hp0, ?_⟩
  have h := ren_face hG.l4 hn ej
  rw [show tf (tsAt ts (o.idxOf b)) f = g from eg.symm, show o.idxOf b = plO o b from rfl, e] at h
  have h2 : p'.1 = plO o n := en
  have h3 : t' = ((back (tnO o ts b)).map (tf t)).map (tf (tnO o ts n)) := by
    rw [List.map_map]
    injection h with h
    injection h with h
    injection h with _ h
  have hq := (hG.both _ _ _ _ ej).1
  have m1 := sgT_mul (back_mem (tnO_mem hn hb)) hq
  have m2 := sgT_mul m1.1 (tnO_mem hn (hG.lt ej))
  refine Prod.ext h2 ?_
  show p'.2 = sgT t * ownT o ts b * ownT o ts n
  rw [e2, h3, m2.2, m1.2, sgT_back _ (tnO_mem hn hb)]
  unfold ownT
  exact neg3 _ _ _
/-- signs there of signs here -/
theorem fit_there (hG : Good S) (hn : Names S.length o ts) {f : Nat → Int} (hf : Fit (tkS S) (List.range S.length) f) : Fit (tkS (renS S o ts)) (List.range (renS S o ts).length) (fun k => f (tf o k) * ownT o ts (tf o k)) := fun k hk p' hp => by
  have hk' := List.mem_range.mp hk
  rw [renS_len] at hk'
  obtain ⟨b, hb, rfl⟩ := plO_onto hn hk'
  obtain ⟨p, hp0, rfl⟩ := ren_tie_back hG hn hb hp
  have hn1 := List.mem_range.mp (tkS_in hG hp0).1
  have a1 : tf o (plO o b) = b := hn.at_idx hb
  have a2 : tf o (plO o p.1) = p.1 := hn.at_idx hn1
  show f (tf o (plO o p.1)) * ownT o ts (tf o (plO o p.1)) = f (tf o (plO o b)) * ownT o ts (tf o (plO o b)) * (p.2 * ownT o ts b * ownT o ts p.1)
  rw [a1, a2, hf b (List.mem_range.mpr hb) p hp0]
  have q := (ownT_one (o := o) (ts := ts) b).sq
  calc f b * p.2 * ownT o ts p.1 = f b * p.2 * ownT o ts p.1 * 1 := (Int.mul_one _).symm
    _ = f b * p.2 * ownT o ts p.1 * (ownT o ts b * ownT o ts b) := by rw [q]
    _ = _ := by simp only [Int.mul_assoc, Int.mul_left_comm, Int.mul_comm]
theorem fit_here (hG : Good S) (hn : Names S.length o ts) {f : Nat → Int} (hf : Fit (tkS (renS S o ts)) (List.range (renS S o ts).length) f) : Fit (tkS S) (List.range S.length) (fun b => f (plO o b) * ownT o ts b) := fun b hb p hp => by
  have hb' := List.mem_range.mp hb
  have h := hf (plO o b) (List.mem_range.mpr (by rw [renS_len]; exact (hn.idx hb').2)) _ (ren_tie hG hn hp)
  have h : f (plO o p.1) = f (plO o b) * (p.2 * ownT o ts b * ownT o ts p.1) := h
  show f (plO o p.1) * ownT o ts p.1 = f (plO o b) * ownT o ts b * p.2
  rw [h]
  have q := (ownT_one (o := o) (ts := ts) p.1).sq
  calc f (plO o b) * (p.2 * ownT o ts b * ownT o ts p.1) * ownT o ts p.1 = f (plO o b) * ownT o ts b * p.2 * (ownT o ts p.1 * ownT o ts p.1) := by simp only [Int.mul_assoc, Int.mul_left_comm, Int.mul_comm]
    _ = _ := by rw [q, Int.mul_one]
theorem mulOne {a b : Int} (ha : One a) (hb : One b) : One (a * b) := by
  rcases ha with rfl | rfl <;> rcases hb with rfl | rfl <;> first | exact .inl rfl | exact .inr rfl
/-- a turning here and there -/
theorem turn_called (hG : Good S) (hn : Names S.length o ts) {r1 r2 : Option (List Int)} (h1 : TurnIs S r1) (h2 : TurnIs (renS S o ts) r2) :
    (r1 = none ∧ r2 = none) ∨ ∃ f g, r1 = some ((List.range S.length).map f) ∧ r2 = some ((List.range S.length).map g) ∧ (∀ x < S.length, One (f x) ∧ One (g (plO o x))) ∧
      (∀ row ∈ parE S, ∀ x ∈ row, ∀ y ∈ row, f x * ownT o ts x * g (plO o x) = f y * ownT o ts y * g (plO o y)) ∧ ∀ x t, x :: t ∈ parE (renS S o ts) → g x = 1 := by
  have hR := good_ren hG hn
  obtain ⟨f, R1, c1⟩ := h1
  obtain ⟨g, R2, c2⟩ := h2
  rcases c1 with ⟨rfl, x, hx, p, hp, ne⟩ | ⟨rfl, F1⟩
  · refine .inl ⟨rfl, ?_⟩
    rcases c2 with ⟨rfl, _⟩ | ⟨rfl, F2⟩
    · rfl
    · have hf := fit_here hG hn F2
      have := root_fit hG R1 hf (fun y hy => mulOne (R2 _ ((callsP hG hn).into y hy)).1 (ownT_one y))
      exact absurd (this x hx p hp) ne
  · rcases c2 with ⟨rfl, x, hx, p, hp, ne⟩ | ⟨rfl, F2⟩
    · have hf := fit_there hG hn F1
      have := root_fit hR R2 hf (fun y hy => mulOne (R1 _ (List.mem_range.mpr (hn.at (by have := List.mem_range.mp hy; rw [renS_len] at this; exact this)).2.1)).1 (ownT_one _))
      exact absurd (this x hx p hp) ne
    · refine .inr ⟨f, g, rfl, by rw [renS_len], fun x hx => ⟨(R1 x (List.mem_range.mpr hx)).1, (R2 _ ((callsP hG hn).into x (List.mem_range.mpr hx))).1⟩, fun row hrow x hx y hy => ?_, fun x t hrow => ?_⟩
      · -- constant on what hangs together
        have hh := fit_here hG hn F2
        have E := hangB_eqv (r := fun x y => y ∈ lkP S x) (lkP_symm hG)
        obtain ⟨z, hz, rfl⟩ := (rowsE_mem E List.pairwise_lt_range).mp hrow
        have go : ∀ {x y : Nat}, Hang (fun x y => y ∈ lkP S x) x y → x < S.length → y < S.length ∧ f x * (g (plO o x) * ownT o ts x) = f y * (g (plO o y) * ownT o ts y) := by
          intro x y h
          induction h with
          | rfl => exact fun h => ⟨h, rfl⟩
          | step _ s ih =>
            intro h
            obtain ⟨b1, b2⟩ := ih h
            obtain ⟨ff, t, e⟩ := lkP_of.mp s
            have hp : (_, sgT t) ∈ tkS S _ := tkS_of.mpr ⟨ff, t, e, rfl⟩
            have q1 := F1 _ (List.mem_range.mpr b1) _ hp
            have q2 := hh _ (List.mem_range.mpr b1) _ hp
            refine ⟨hG.lt e, ?_⟩
            rw [b2]
            have q1 : f _ = f _ * sgT t := q1
            have q2 : g (plO o _) * ownT o ts _ = g (plO o _) * ownT o ts _ * sgT t := q2
            rw [q1, q2]
            have s2 := (sgT_one t).sq
            calc _ = f _ * (g (plO o _) * ownT o ts _) * 1 := (Int.mul_one _).symm
              _ = f _ * (g (plO o _) * ownT o ts _) * (sgT t * sgT t) := by rw [s2]
              _ = _ := by simp only [Int.mul_assoc, Int.mul_left_comm, Int.mul_comm]
        obtain ⟨x1, x2⟩ := List.mem_filter.mp hx
        obtain ⟨y1, y2⟩ := List.mem_filter.mp hy
        have := (go (hangB_iff.mp (E.trans _ _ _ (E.symm _ _ x2) y2)) (List.mem_range.mp x1)).2
        simp only [Int.mul_assoc, Int.mul_left_comm, Int.mul_comm] at this ⊢
        exact this
      · have E := hangB_eqv (r := fun x y => y ∈ lkP (renS S o ts) x) (lkP_symm hR)
        obtain ⟨z, hz, e⟩ := (rowsE_mem E List.pairwise_lt_range).mp hrow
        have hm : x ∈ (List.range (renS S o ts).length).filter (hgB (lkP (renS S o ts)) z) := by
          rw [← e]
          exact List.mem_cons_self
        obtain ⟨x1, x2⟩ := List.mem_filter.mp hm
        obtain ⟨ox, r, hr, hh, lo⟩ := R2 x x1
        have le1 := lo x x1 _ hh
        -- the root is in the row, whose first one is x
        have down : ∀ {p q : Nat × Int}, Hang (stepR (tkS (renS S o ts))) p q → Hang (fun x y => y ∈ lkP (renS S o ts) x) p.1 q.1 := by
          intro p q h
          induction h with
          | rfl => exact .rfl _
          | step _ s ih =>
            obtain ⟨t, e, _⟩ := s
            obtain ⟨ff, t', e', _⟩ := tkS_of.mp e
            exact .step ih (lkP_of.mpr ⟨ff, t', e'⟩)
        have rm : r ∈ x :: t := by
          rw [e]
          exact List.mem_filter.mpr ⟨hr, E.trans _ _ _ x2 (E.symm _ _ (hangB_iff.mpr (down hh)))⟩
        have up : (x :: t).Pairwise (· < ·) := by
          rw [e]
          exact List.pairwise_lt_range.filter _
        have le2 : x ≤ r := by
          rcases List.mem_cons.mp rm with rfl | rm
          · exact Nat.le_refl _
          · exact Nat.le_of_lt ((List.pairwise_cons.mp up).1 r rm)
        have er : r = x := by omega
        subst er
        have h := (fit_hang hR F2 hh hr).2
        have h : g r * 1 = g r * g r := h
        rw [ox.sq, Int.mul_one] at h
        exact h
end
end Bk

/-! Rows told as lists of lists of tuples. -/
namespace Bk
open PySem PySem.Spec PyProof.Rows L2 RZ
theorem sqt_fill {K : PySem.W.Frag} {H : Hp} {a p : Addr} {xs ys : List V} {o : HO} (h : SqT K H a xs) (hp : H p = some (.lst ys)) : SqT K (upd H p o) a xs := by
  rcases h with (h | ⟨u, h⟩) | h
  · exact .inl (.inl (by rw [upd_ne (ne_of h hp fun z => by cases z)]; exact h))
  · exact .inl (.inr ⟨u, by rw [upd_ne (ne_of h hp fun z => by cases z)]; exact h⟩)
  · exact .inr h
theorem kCatA {X : Cx} (K : PySem.W.Frag) (h : X.K = K) : OpR X (binaryOp .Add) (rCatA K) := h ▸ op_catA
theorem kSlA {X : Cx} (K : PySem.W.Frag) (h : X.K = K) : SlR X (rSlA K) := h ▸ sl_tupA
/-- a tuple of numbers, of either sort -/
def TupAt (K : PySem.W.Frag) (H : Hp) (v : V) (ns : List Int) : Prop := ∃ p, v = .ref p ∧ SqT K H p (ns.map V.int)
/-- a list of such, which is not L -/
def RowX (K : PySem.W.Frag) (L : Addr → Prop) (H : Hp) (v : V) (r : List (List Int)) : Prop := ∃ p vs, v = .ref p ∧ ¬ L p ∧ H p = some (.lst vs) ∧ Paired (TupAt K H) vs r
def RwsV (K : PySem.W.Frag) (H : Hp) (v : V) (rows : List (List (List Int))) : Prop := ∃ l qs, v = .ref l ∧ H l = some (.lst qs) ∧ Paired (RowX K (fun _ => False) H) qs rows
theorem TupAt.same {K : PySem.W.Frag} {H H' : Hp} {v : V} {ns : List Int} (h : TupAt K H v ns) (s : Same H H') : TupAt K H' v ns := by
  obtain ⟨p, e, h⟩ := h
  exact ⟨p, e, s.sqt h⟩
theorem TupAt.fill {K : PySem.W.Frag} {H : Hp} {v : V} {ns : List Int} {L : Addr} {xs : List V} {o : HO} (h : TupAt K H v ns) (hL : H L = some (.lst xs)) : TupAt K (upd H L o) v ns := by
  obtain ⟨p, e, h⟩ := h
  exact ⟨p, e, sqt_fill h hL⟩
theorem RowX.same {K : PySem.W.Frag} {L : Addr → Prop} {H H' : Hp} {v : V} {r : List (List Int)} (h : RowX K L H v r) (s : Same H H') : RowX K L H' v r := by
  obtain ⟨p, vs, e, n, g, t⟩ := h
  exact ⟨p, vs, e, n, s _ _ g, pmono t fun _ _ z => z.same s⟩
theorem RowX.fill {K : PySem.W.Frag} {B : Addr → Prop} {H : Hp} {v : V} {r : List (List Int)} {L : Addr} {xs : List V} {o : HO} (h : RowX K B H v r) (hB : B L) (hL : H L = some (.lst xs)) : RowX K B (upd H L o) v r := by
  obtain ⟨p, vs, e, n, g, t⟩ := h
  exact ⟨p, vs, e, n, by rw [upd_ne (fun z => n (by rw [z]; exact hB))]; exact g, pmono t fun _ _ z => z.fill hL⟩
theorem RowX.wk {K : PySem.W.Frag} {B B' : Addr → Prop} {H : Hp} {v : V} {r : List (List Int)} (h : RowX K B H v r) (k : ∀ a, B' a → B a) : RowX K B' H v r := by
  obtain ⟨p, vs, e, n, g, t⟩ := h
  exact ⟨p, vs, e, fun z => n (k _ z), g, t⟩
def RwsX (K : PySem.W.Frag) (B : Addr → Prop) (H : Hp) (v : V) (rows : List (List (List Int))) : Prop := ∃ l qs, v = .ref l ∧ ¬ B l ∧ H l = some (.lst qs) ∧ Paired (RowX K B H) qs rows
theorem RwsX.same {K : PySem.W.Frag} {B : Addr → Prop} {H H' : Hp} {v : V} {rows : List (List (List Int))} (h : RwsX K B H v rows) (s : Same H H') : RwsX K B H' v rows := by
  obtain ⟨l, qs, e, n, g, t⟩ := h
  exact ⟨l, qs, e, n, s _ _ g, pmono t fun _ _ z => z.same s⟩
theorem RwsX.fill {K : PySem.W.Frag} {B : Addr → Prop} {H : Hp} {v : V} {rows : List (List (List Int))} {L : Addr} {xs : List V} {o : HO} (h : RwsX K B H v rows) (hB : B L) (hL : H L = some (.lst xs)) : RwsX K B (upd H L o) v rows := by
  obtain ⟨l, qs, e, n, g, t⟩ := h
  exact ⟨l, qs, e, n, by rw [upd_ne (fun z => n (by rw [z]; exact hB))]; exact g, pmono t fun _ _ z => z.fill hB hL⟩
theorem RwsX.wk {K : PySem.W.Frag} {B B' : Addr → Prop} {H : Hp} {v : V} {rows : List (List (List Int))} (h : RwsX K B H v rows) (k : ∀ a, B' a → B a) : RwsX K B' H v rows := by
  obtain ⟨l, qs, e, n, g, t⟩ := h
  exact ⟨l, qs, e, fun z => n (k _ z), g, pmono t fun _ _ z => z.wk k⟩
theorem RwsX.any {K : PySem.W.Frag} {B : Addr → Prop} {H : Hp} {v : V} {rows : List (List (List Int))} (h : RwsX K B H v rows) : RwsV K H v rows := by
  obtain ⟨l, qs, e, n, g, t⟩ := h
  exact ⟨l, qs, e, g, pmono t fun _ _ z => z.wk fun _ y => y.elim⟩
theorem RowX.off {K : PySem.W.Frag} {H : Hp} {v : V} {r : List (List Int)} {L : Addr} (h : RowX K (fun _ => False) H v r) (n : H L = none) : RowX K (fun a => a = L) H v r := by
  obtain ⟨p, vs, e, _, g, t⟩ := h
  exact ⟨p, vs, e, (fun z => by rw [show p = L from z, n] at g; cases g), g, t⟩
theorem RwsV.off {K : PySem.W.Frag} {H : Hp} {v : V} {rows : List (List (List Int))} {L : Addr} (h : RwsV K H v rows) (n : H L = none) : RwsX K (fun a => a = L) H v rows := by
  obtain ⟨l, qs, e, g, t⟩ := h
  exact ⟨l, qs, e, (fun z => by rw [show l = L from z, n] at g; cases g), g, pmono t fun _ _ z => z.off n⟩
theorem RowX.any {K : PySem.W.Frag} {L : Addr → Prop} {H : Hp} {v : V} {r : List (List Int)} (h : RowX K L H v r) : RowX K (fun _ => False) H v r := by
  obtain ⟨p, vs, e, n, g, t⟩ := h
  exact ⟨p, vs, e, fun z => z, g, t⟩
theorem RwsV.same {K : PySem.W.Frag} {H H' : Hp} {v : V} {rows : List (List (List Int))} (h : RwsV K H v rows) (s : Same H H') : RwsV K H' v rows := by
  obtain ⟨l, qs, e, g, t⟩ := h
  exact ⟨l, qs, e, s _ _ g, pmono t fun _ _ z => z.same s⟩
/-! as data -/
def tupI (t : List Int) : PyData := .tuple (t.map PyData.int)
def rowI (r : List (List Int)) : PyData := .list (r.map tupI)
def rwsI (rows : List (List (List Int))) : PyData := .list (rows.map rowI)
theorem tups_dp {K : PySem.W.Frag} {H : Hp} {vs : List V} {r : List (List Int)} (h : Paired (TupAt K H) vs r) : DpAll K H vs (r.map tupI) := by
  induction h with
  | nil => exact .nil
  | cons x t ih =>
    obtain ⟨p, rfl, g⟩ := x
    exact .cons (.tup g (dp_ints _)) ih
theorem rowx_dp {K : PySem.W.Frag} {L : Addr → Prop} {H : Hp} {qs : List V} {rows : List (List (List Int))} (h : Paired (RowX K L H) qs rows) : DpAll K H qs (rows.map rowI) := by
  induction h with
  | nil => exact .nil
  | cons x t ih =>
    obtain ⟨p, vs, rfl, _, g, z⟩ := x
    exact .cons (.lst (.inl (.inl g)) (tups_dp z)) ih
theorem RwsV.dp {K : PySem.W.Frag} {H : Hp} {v : V} {rows : List (List (List Int))} (h : RwsV K H v rows) : Dp K H v (rwsI rows) := by
  obtain ⟨l, qs, rfl, g, t⟩ := h
  exact .lst (.inl (.inl g)) (rowx_dp t)
theorem rwss_dp {K : PySem.W.Frag} {H : Hp} {vs : List V} {ll : List (List (List (List Int)))} (h : Paired (RwsV K H) vs ll) : DpAll K H vs (ll.map rwsI) := by
  induction h with
  | nil => exact .nil
  | cons x t ih => exact .cons x.dp ih
theorem tups_lay : ∀ r : List (List Int), PyData.canLayAll0 (r.map tupI) = true ∧ PyData.depthAll (r.map tupI) ≤ 1
  | [] => by simp [PyData.canLayAll0, PyData.depthAll]
  | t :: r => by
    have ih := tups_lay r
    have l := ints_lay t
    simp only [List.map_cons, PyData.canLayAll0, PyData.depthAll, tupI, PyData.canLay0, PyData.depth, ih.1, l.1, Bool.and_self, true_and, PySem.W.depth_ints]
    have := ih.2
    omega
theorem rows_lay : ∀ rows : List (List (List Int)), PyData.canLayAll0 (rows.map rowI) = true ∧ PyData.depthAll (rows.map rowI) ≤ 2
  | [] => by simp [PyData.canLayAll0, PyData.depthAll]
  | t :: r => by
    have ih := rows_lay r
    have l := tups_lay t
    simp only [List.map_cons, PyData.canLayAll0, PyData.depthAll, rowI, PyData.canLay0, PyData.depth, ih.1, l.1, Bool.and_self, true_and]
    have := ih.2
    have := l.2
    omega
theorem rwss_lay : ∀ ll : List (List (List (List Int))), PyData.canLayAll0 (ll.map rwsI) = true ∧ PyData.depthAll (ll.map rwsI) ≤ 3
  | [] => by simp [PyData.canLayAll0, PyData.depthAll]
  | t :: r => by
    have ih := rwss_lay r
    have l := rows_lay t
    simp only [List.map_cons, PyData.canLayAll0, PyData.depthAll, rwsI, PyData.canLay0, PyData.depth, ih.1, l.1, Bool.and_self, true_and]
    have := ih.2
    have := l.2
    omega
theorem row_shaped (r : List (List Int)) : SeqAt.shaped (rowI r) = true := by
  have l := tups_lay r
  show ((rowI r).canLay0 && decide ((rowI r).depth ≤ 64)) = true
  rw [Bool.and_eq_true]
  exact ⟨by simp only [rowI, PyData.canLay0]; exact l.1, decide_eq_true (by simp only [rowI, PyData.depth]; have := l.2; omega)⟩
theorem rws_shaped (r : List (List (List Int))) : SeqAt.shaped (rwsI r) = true := by
  have l := rows_lay r
  show ((rwsI r).canLay0 && decide ((rwsI r).depth ≤ 64)) = true
  rw [Bool.and_eq_true]
  exact ⟨by simp only [rwsI, PyData.canLay0]; exact l.1, decide_eq_true (by simp only [rwsI, PyData.depth]; have := l.2; omega)⟩
theorem rwss_shaped (r : List (List (List (List Int)))) : SeqAt.shaped (.list (r.map rwsI)) = true := by
  have l := rwss_lay r
  show (PyData.canLay0 (.list (r.map rwsI)) && decide (PyData.depth (.list (r.map rwsI)) ≤ 64)) = true
  rw [Bool.and_eq_true]
  exact ⟨by simp only [PyData.canLay0]; exact l.1, decide_eq_true (by simp only [PyData.depth]; have := l.2; omega)⟩
theorem shaped_refl {d : PyData} (h : SeqAt.shaped d = true) : PyData.eqv d d = true := SeqAt.eqv_refl _ (SeqAt.canLay_of_shaped h)
/-! rows by their modes -/
def decR (M : Mo) (rows : List (List Nat)) : List (List (List Int)) := rows.map fun r => r.map M.dec
theorem mo_tup {K : PySem.W.Frag} {M : Mo} (ht : M.t = true) {H : Hp} {vs : List V} {r : List Nat} (h : Paired (M.at H) vs r) : Paired (TupAt K H) vs (r.map M.dec) := by
  induction h with
  | nil => exact .nil
  | cons x t ih =>
    refine .cons ?_ ih
    unfold Mo.at at x
    rw [if_pos ht] at x
    obtain ⟨p, e, g⟩ := x
    exact ⟨p, e, .inl (.inl g)⟩
theorem rowsAt_rws {K : PySem.W.Frag} {M : Mo} (ht : M.t = true) {H H' : Hp} {l : Addr} {rows : List (List Nat)} (h : RowsAt M H H' l rows) : RwsV K H' (.ref l) (decR M rows) := by
  obtain ⟨ps, h1, _, _, _, hp⟩ := h
  have go : ∀ {ps : List Addr} {rows : List (List Nat)}, Paired (fun p row => H p = none ∧ ∃ vs, H' p = some (.lst vs) ∧ Paired (M.at H') vs row) ps rows → Paired (RowX K (fun _ => False) H') (ps.map V.ref) (rows.map fun r => r.map M.dec) := by
    intro ps rows hp
    induction hp with
    | nil => exact .nil
    | cons x t ih =>
      obtain ⟨_, vs, e, g⟩ := x
      exact .cons ⟨_, vs, rfl, fun z => z, e, mo_tup ht g⟩ ih
  exact ⟨l, _, rfl, h1, go hp⟩
def bordR (S : Spc) : List (List (List Int)) := [(freeL S (4 * S.length)).map fun p => [(p.1 : Int), (p.2 : Int)]]
theorem fc_tup {K : PySem.W.Frag} {H : Hp} {vs : List V} {r : List (Nat × Nat)} (h : Paired (FcAt H) vs r) : Paired (TupAt K H) vs (r.map fun p => [(p.1 : Int), (p.2 : Int)]) := by
  induction h with
  | nil => exact .nil
  | cons x t ih =>
    obtain ⟨p, e, g⟩ := x
    exact .cons ⟨p, e, FT.sqt g⟩ ih
theorem cut_one {n : Nat} (h : 1 < n) : HT.sIx n 0 (some 1) = 1 := by
  unfold HT.sIx
  simp
  omega
theorem cut_tail (n0 : Int) (rest : List Int) (h : 1 < (n0 :: rest).length) : cutV ((n0 :: rest).map V.int) (some 1) none = rest.map V.int := by
  unfold cutV
  rw [List.length_map, cut_one h]
  show List.take ((n0 :: rest).length - 1) (rest.map V.int) = _
  rw [List.length_cons, Nat.add_sub_cancel, ← List.length_map (f := V.int), List.take_length]
end Bk

/-! Rows of things called otherwise, by the law. -/
namespace Bk
open PySem PySem.Spec PyProof.Rows L2 RZ
def mdC (q : Bool) : Mo := if q then moQ else moT
def unC (q : Bool) : Nat := if q then 16 else 4
def rsC (q : Bool) (n : Nat) : List Nat := if q then [n / 4 % 4, n % 4] else [n % 4]
def clC (o : List Nat) (ts : List Trn) (q : Bool) (n : Nat) : Nat := if q then calQ o ts n else calT o ts n
def encC (q : Bool) (n : Nat) : PyData := .tuple (((mdC q).dec n).map PyData.int)
theorem encC_ord (q : Bool) : OrdE (encC q) := by
  cases q
  · exact ordT
  · exact ordQ
theorem mdC_t (q : Bool) : (mdC q).t = true := by cases q <;> rfl
theorem dec_c (q : Bool) (n : Nat) : (mdC q).dec n = ((n / unC q : Nat) : Int) :: (rsC q n).map fun c : Nat => (c : Int) := by
  cases q <;> rfl
theorem rsC_lt (q : Bool) (n : Nat) : ∀ c ∈ rsC q n, c < 4 := by
  intro c hc
  cases q
  · rw [List.mem_singleton.mp (show c ∈ [n % 4] from hc)]
    omega
  · have hc : c ∈ [n / 4 % 4, n % 4] := hc
    simp only [List.mem_cons, List.not_mem_nil, or_false] at hc
    omega
theorem rsC_len (q : Bool) (n : Nat) : 1 ≤ (rsC q n).length ∧ (rsC q n).length ≤ 2 := by
  cases q
  · exact ⟨Nat.le_refl 1, by show 1 ≤ 2; decide⟩
  · exact ⟨by show 1 ≤ 2; decide, Nat.le_refl 2⟩
theorem cl_c {N : Nat} {o : List Nat} {ts : List Trn} (hn : Names N o ts) {q : Bool} {n : Nat} (h : n / unC q < N) : (mdC q).dec (clC o ts q n) = ((plO o (n / unC q) : Nat) : Int) :: (rsC q n).map fun c => ((tf (tnO o ts (n / unC q)) c : Nat) : Int) := by
  have ht : tnO o ts (n / unC q) ∈ allTurns := (hn.at (hn.idx h).2).2.2.2
  cases q
  · have l := (tf_lt _ ht (n % 4) (Nat.mod_lt _ (by decide))).1
    show [((calT o ts n / 4 : Nat) : Int), ((calT o ts n % 4 : Nat) : Int)] = [((plO o (n / 4) : Nat) : Int), ((tf (tnO o ts (n / 4)) (n % 4) : Nat) : Int)]
    have l : tf (tnO o ts (n / 4)) (n % 4) < 4 := l
    unfold calT
    rw [show (4 * plO o (n / 4) + tf (tnO o ts (n / 4)) (n % 4)) / 4 = plO o (n / 4) by omega, show (4 * plO o (n / 4) + tf (tnO o ts (n / 4)) (n % 4)) % 4 = tf (tnO o ts (n / 4)) (n % 4) by omega]
  · have l := (tf_lt _ ht (n % 4) (Nat.mod_lt _ (by decide))).1
    have l2 := (tf_lt _ ht (n / 4 % 4) (Nat.mod_lt _ (by decide))).1
    show [((calQ o ts n / 16 : Nat) : Int), ((calQ o ts n / 4 % 4 : Nat) : Int), ((calQ o ts n % 4 : Nat) : Int)] = [((plO o (n / 16) : Nat) : Int), ((tf (tnO o ts (n / 16)) (n / 4 % 4) : Nat) : Int), ((tf (tnO o ts (n / 16)) (n % 4) : Nat) : Int)]
    have l : tf (tnO o ts (n / 16)) (n % 4) < 4 := l
    have l2 : tf (tnO o ts (n / 16)) (n / 4 % 4) < 4 := l2
    unfold calQ
    rw [show (16 * plO o (n / 16) + 4 * tf (tnO o ts (n / 16)) (n / 4 % 4) + tf (tnO o ts (n / 16)) (n % 4)) / 16 = plO o (n / 16) by omega, show (16 * plO o (n / 16) + 4 * tf (tnO o ts (n / 16)) (n / 4 % 4) + tf (tnO o ts (n / 16)) (n % 4)) / 4 % 4 = tf (tnO o ts (n / 16)) (n / 4 % 4) by omega, show (16 * plO o (n / 16) + 4 * tf (tnO o ts (n / 16)) (n / 4 % 4) + tf (tnO o ts (n / 16)) (n % 4)) % 4 = tf (tnO o ts (n / 16)) (n % 4) by omega]
/-! tuples and rows of them, as sorted() wants them -/
def CAt (K : PySem.W.Frag) (q : Bool) (H : Hp) (v : V) (n : Nat) : Prop := TupAt K H v ((mdC q).dec n)
def RwC (K : PySem.W.Frag) (q : Bool) (H : Hp) (v : V) (r : List Nat) : Prop := RowX K (fun _ => False) H v (r.map (mdC q).dec)
theorem cat_dp {K : PySem.W.Frag} {q : Bool} (H : Hp) (v : V) (n : Nat) (h : CAt K q H v n) : ∃ p, v = .ref p ∧ Dp K H v (encC q n) := by
  obtain ⟨p, rfl, g⟩ := h
  exact ⟨p, rfl, .tup g (dp_ints _)⟩
theorem pmapU {α β γ : Type} {F : α → γ → Prop} {f : β → γ} {xs : List α} {l : List β} (h : Paired F xs (l.map f)) : Paired (fun x b => F x (f b)) xs l := by
  induction l generalizing xs with
  | nil =>
    cases h
    exact .nil
  | cons b l ih =>
    cases h with
    | cons a t => exact .cons a (ih t)
theorem pmapV {α β γ : Type} {F : α → γ → Prop} {f : β → γ} {xs : List α} {l : List β} (h : Paired (fun x b => F x (f b)) xs l) : Paired F xs (l.map f) := by
  induction h with
  | nil => exact .nil
  | cons a _ ih => exact .cons a ih
theorem rwc_dp {K : PySem.W.Frag} {q : Bool} (H : Hp) (v : V) (r : List Nat) (h : RwC K q H v r) : ∃ p, v = .ref p ∧ Dp K H v (encL (encC q) r) := by
  obtain ⟨p, vs, rfl, _, g, z⟩ := h
  refine ⟨p, rfl, .lst (.inl (.inl g)) ?_⟩
  have := tups_dp z
  rw [List.map_map] at this
  exact this
theorem encC_key (q : Bool) (bs : List Nat) : PySem.W.Sortable (bs.map (encC q)) := by
  cases q
  · exact encT_key bs
  · exact encQ_key bs
theorem encC_one (q : Bool) (n : Nat) : (encC q n).depth ≤ 1 := by
  unfold encC
  rw [PyData.depth, PySem.W.depth_ints]
  exact Nat.le_refl _
theorem encC_deep (q : Bool) (n : Nat) : (encC q n).depth ≤ 4 := Nat.le_trans (encC_one q n) (by decide)
theorem encL_deep (q : Bool) (r : List Nat) : (encL (encC q) r).depth ≤ 4 := by
  have go : ∀ r : List Nat, PyData.depthAll (r.map (encC q)) ≤ 1 := by
    intro r
    induction r with
    | nil => simp [PyData.depthAll]
    | cons n r ih =>
      rw [List.map_cons, PyData.depthAll]
      exact Nat.max_le.mpr ⟨encC_one q n, ih⟩
  unfold encL
  rw [PyData.depth]
  have := go r
  omega
def srtC (q : Bool) (l : List Nat) : List Nat := l.mergeSort (PySem.W.dataLe false (encC q))
def srtL (q : Bool) (rows : List (List Nat)) : List (List Nat) := rows.mergeSort (PySem.W.dataLe false (encL (encC q)))
def cldR (o : List Nat) (ts : List Trn) (q : Bool) (rows : List (List Nat)) : List (List Nat) := srtL q (rows.map fun r => srtC q (r.map (clC o ts q)))
section
variable {P : Program} {w : World} {K : PySem.W.Frag} {mg : Str → Option Value} {base : Heap}
abbrev s_law_called : Stmt := topS 47
abbrev N_law_called : List Str := ["rows", "places", "turns", "found", "row", "told", "one", "at", "corner"]
theorem sc_law_called : FnScope N_law_called ["rows", "places", "turns"] (defScope s_law_called) := ⟨rfl, rfl, rfl, by decide +kernel, rfl, by decide +kernel, by decide +kernel⟩
def spCalled (K : PySem.W.Frag) : Sp := fun vs H Q _ => ∃ (v : V) (pp pt : Addr) (N : Nat) (o : List Nat) (ws : List V) (ts : List Trn) (q : Bool) (rows : List (List Nat)), vs = [v, .ref pp, .ref pt] ∧ RwsV K H v (decR (mdC q) rows) ∧ Names N o ts ∧ H pp = some (.lst (trnV ((List.range N).map (plO o)))) ∧ H pt = some (.lst ws) ∧ Paired (TAt H) ws ts ∧ N ≤ 1000 ∧ rows.length ≤ 1000 ∧ (∀ r ∈ rows, r.length ≤ 1000 ∧ ∀ n ∈ r, n / unC q < N) ∧
  ∀ H' v', Same H H' → RwsV K H' v' (decR (mdC q) (cldR o ts q rows)) → Q v' H'
theorem ok_law_called {f : Addr} {fd : FuncData} (F : Fun K "_law_called" "_law_called" s_law_called f fd) (m_tuple : mg "tuple" = none) (m_sorted : mg "sorted" = none) : FnOk P w K mg base CX0 1 f fd ["rows", "places", "turns"] (spCalled K) := by
  refine F.ok sc_law_called (fun vs H Q E h => ?_) (fun cdv A outer s H vs Q E hr h => ?_)
  · obtain ⟨v, pp, pt, N, o, ws, ts, q, rows, rfl, _⟩ := h
    rfl
  · obtain ⟨v, pp, pt, N, o, ws, ts, q, rows, rfl, hv, hn, hpp, hpt, pw, hN, h1, h2, qq⟩ := h
    have nd := sc_law_called.nd
    refine ⟨_, (pss_cons (ps_set (i := 3) nd rfl (.inl rfl) (pe_lst pa_nil))
      (pss_cons (ps_for PassesOwn.never rfl (kPiL K rfl (pi_list (pv 0))) (pg_name (i := 4) nd rfl (.inl rfl)) (pss_cons (ps_set (i := 5) nd rfl (.inl rfl) (pe_lst pa_nil))
      (pss_cons (ps_for PassesOwn.never rfl (kPiL K rfl (pi_list (pv 4))) (pg_name (i := 6) nd rfl (.inl rfl)) (pss_cons (ps_set (i := 7) nd rfl (.inr rfl) (pe_ix (kIxL K rfl) (pv 1) (pe_ix (kIxT K rfl) (pv 6) pe_int (fun _ _ => rfl)) (fun _ _ => rfl)))
      (pss_one (ps_expr (kBM K rfl (pe_bm PySem.F.plainAttrs_list PySem.F.slot_list_append PySem.F.type_list_append mt_append (pv 5) (pa_cons (pe_op (kCatA K rfl) (pe_tupF (pa_cons (pv 7) pa_nil)) (pe_callTy (kTupleF K rfl) (by rfl) m_tuple (by decide +kernel) (pa_cons (pe_lc (own := [("corner", 8)]) (g := gName 8) (tt := tYes) rfl nd (kPiT K rfl (pi_tup (pe_slice (kSlA K rfl) (pv 6) (po_some pe_int) po_none))) (blkOk_by (own := [("corner", 8)]) (N := N_law_called) (sc := defScope s_law_called) (by decide +kernel)) (fun _ _ _ _ _ => (pg_name (i := 8) nd rfl (Or.inl rfl))) (fun _ _ _ _ _ => pts_nil) (fun _ _ _ _ _ => (pe_ix (kIxT K rfl) (pe_ix (kIxL K rfl) (pv 2) (pv 7) (fun _ _ => rfl)) (pv 8) (fun _ _ => rfl)))) pa_nil))) pa_nil)))))))
      (pss_one (ps_expr (kBM K rfl (pe_bm PySem.F.plainAttrs_list PySem.F.slot_list_append PySem.F.type_list_append mt_append (pv 3) (pa_cons (pe_callB (kSortG (enc := encC q) (At := CAt K q) rfl cat_dp (encC_ord q).alike (encC_key q) (encC_deep q) (Nat.lt_of_le_of_lt (Nat.add_le_add_left (by decide) _) hr.units)) (by rfl) m_sorted (by decide +kernel) (pa_cons (pv 5) pa_nil)) pa_nil))))))))
      (pss_one (ps_ret (pe_callB (kSortG (enc := encL (encC q)) (At := RwC K q) rfl rwc_dp (encL_alike (encC_ord q)) (encL_key _) (encL_deep q) (Nat.lt_of_le_of_lt (Nat.add_le_add_left (by decide) _) hr.units)) (by rfl) m_sorted (by decide +kernel) (pa_cons (pv 3) pa_nil)))))), ?_⟩
    obtain ⟨l, qs, rfl, hl, hp⟩ := id hv
    have hp := pmapU hp
    have lqs := plen hp
    refine ⟨Nat.zero_le _, fun D nD => ?_⟩
    have s0 : Same H (upd H D (.lst [])) := same_new nD
    refine ⟨.ref l, rfl, l, rfl, ⟨_, .inl (.inl (s0 _ _ hl))⟩, ?_⟩
    refine for_list (xs := qs) (fun i σ H1 => ∃ y4 y5 y6 y7 y8 zs, σ = [some (.ref l), some (.ref pp), some (.ref pt), some (.ref D), y4, y5, y6, y7, y8] ∧ H1 D = some (.lst zs) ∧ Same H H1 ∧
        Paired (fun v r => RowX K (fun a => a = D) H1 v (r.map (mdC q).dec)) zs ((rows.take i).map fun r => srtC q (r.map (clC o ts q))))
      ⟨none, none, none, none, none, [], rfl, upd_same, s0, .nil⟩ ?_ ?_ ?_
    · rintro i σ H1 _ ⟨_, _, _, _, _, _, _, _, s1, _⟩
      exact .inl (.inl (s1 _ _ hl))
    · rintro i x σ H1 hx ⟨y4, y5, y6, y7, y8, zs, rfl, hD, s1, pz⟩
      obtain ⟨row, hrow, rx⟩ := pget' hp hx
      obtain ⟨lr, hin⟩ := h2 row (List.mem_of_getElem? hrow)
      obtain ⟨a, vs, rfl, _, ha, pa⟩ := rx.same s1
      have pa := pmapU pa
      have lz := plen pz
      rw [List.length_map, List.length_take] at lz
      refine ⟨Nat.zero_le _, fun T nT => ?_⟩
      have sT : Same H1 (upd H1 T (.lst [])) := same_new nT
      refine ⟨.ref a, rfl, a, rfl, ⟨_, .inl (.inl (sT _ _ ha))⟩, ?_⟩
      refine for_list (xs := vs) (fun j σ H2 => ∃ y6 y7 y8 us, σ = [some (.ref l), some (.ref pp), some (.ref pt), some (.ref D), some (.ref a), some (.ref T), y6, y7, y8] ∧ H2 T = some (.lst us) ∧ Same H1 H2 ∧
          Paired (CAt K q H2) us ((row.take j).map (clC o ts q)))
        ⟨y6, y7, y8, [], rfl, upd_same, sT, .nil⟩ ?_ ?_ ?_
      · rintro j σ H2 _ ⟨_, _, _, _, _, _, s2, _⟩
        exact .inl (.inl (s2 _ _ ha))
      · rintro j y σ H2 hy ⟨y6, y7, y8, us, rfl, hT, s2, pu⟩
        obtain ⟨n, hnn, tx⟩ := pget' pa hy
        have hb := hin n (List.mem_of_getElem? hnn)
        obtain ⟨kp, rfl, hk⟩ := TupAt.same tx s2
        rw [dec_c] at hk
        have s02 := s1.trans s2
        have lu := plen pu
        rw [List.length_map, List.length_take] at lu
        have hpp2 := s02 _ _ hpp
        have hpt2 := s02 _ _ hpt
        have ip : (trnV ((List.range N).map (plO o)))[n / unC q]? = some (intV (plO o (n / unC q))) := by
          unfold trnV
          rw [List.map_map, List.getElem?_map, List.getElem?_range hb]
          rfl
        have ib := (hn.idx hb).2
        obtain ⟨_, _, ht, hm0⟩ := hn.at ib
        have hm : tnO o ts (n / unC q) ∈ allTurns := hm0
        refine ⟨.ref pp, rfl, .ref kp, rfl, kp, _, 0, intV (n / unC q), rfl, rfl, hk, atI_nat (j := 0) rfl, pp, _, n / unC q, intV (plO o (n / unC q)), rfl, rfl, .inl (.inl hpp2), atI_nat ip, ?_⟩
        dsimp only
        refine ⟨.ref T, rfl, .inl ⟨rfl, _, .inl (.inl hT)⟩, ?_⟩
        refine ⟨intV (plO o (n / unC q)), rfl, Nat.le_of_lt (small1000 (by show 1 ≤ 1000; decide)), fun a1 o1 na1 da1 => ?_⟩
        have s3 : Same H2 (upd H2 a1 (.frz o1 (.tup [intV (plO o (n / unC q))]))) := same_new na1
        have fa : FT (upd H2 a1 (.frz o1 (.tup [intV (plO o (n / unC q))]))) a1 [intV (plO o (n / unC q))] := FT.new da1
        generalize upd H2 a1 (.frz o1 (.tup [intV (plO o (n / unC q))])) = H3 at s3 fa ⊢
        have hk3 := s3.sqt hk
        have ll : 1 < (((n / unC q : Nat) : Int) :: (rsC q n).map fun c : Nat => (c : Int)).length := by
          rw [List.length_cons, List.length_map]
          have := (rsC_len q n).1
          omega
        refine ⟨.ref kp, rfl, 1, rfl, kp, _, rfl, hk3, fun z => absurd z.1 (by rw [List.length_map, cut_one ll]; decide), fun _ sp nsp => ?_⟩
        rw [cut_tail _ _ ll]
        have s4 : Same H3 (upd H3 sp (.tup (((rsC q n).map fun c : Nat => (c : Int)).map V.int))) := same_new nsp
        have h4 : (upd H3 sp (.tup (((rsC q n).map fun c : Nat => (c : Int)).map V.int))) sp = some (.tup (((rsC q n).map fun c : Nat => (c : Int)).map V.int)) := upd_same
        generalize upd H3 sp (.tup (((rsC q n).map fun c : Nat => (c : Int)).map V.int)) = H4 at s4 h4 ⊢
        refine ⟨sp, rfl, ⟨_, .inl (.inl h4)⟩, fun L nL => ?_⟩
        refine lc_tup (xs := ((rsC q n).map fun c : Nat => (c : Int)).map V.int) (fun m H5 => H5 L = some (.lst ((((rsC q n).take m).map fun c => tf (tnO o ts (n / unC q)) c).map intV)) ∧ Same H4 H5) ⟨upd_same, same_new nL⟩ ?_ ?_ ?_
        · rintro m H5 _ ⟨_, s5⟩
          exact .inl (.inl (s5 _ _ h4))
        · rintro m x H5 hx ⟨h5, s5⟩
          rw [List.map_map, List.getElem?_map] at hx
          obtain ⟨c, hc, ec⟩ := Option.map_eq_some_iff.mp hx
          subst ec
          have c4 := rsC_lt q n c (List.mem_of_getElem? hc)
          have s05 := ((s02.trans s3).trans s4).trans s5
          have ht' : ts[plO o (n / unC q)]? = some (tnO o ts (n / unC q)) := ht
          obtain ⟨wv, hw, pq, rfl, fq⟩ := pgetR pw ht'
          have tl : (trnV (tnO o ts (n / unC q)))[c]? = some (intV (tf (tnO o ts (n / unC q)) c)) := by
            unfold trnV
            rw [List.getElem?_map, (tf_lt _ hm c c4).2]
            rfl
          refine ⟨rfl, .ref pt, rfl, intV (plO o (n / unC q)), rfl, pt, _, plO o (n / unC q), .ref pq, rfl, rfl, .inl (.inl (s05 _ _ hpt)), atI_nat hw, intV c, rfl, pq, _, c, _, rfl, rfl, (fq.mono s05.tups).sqt, atI_nat tl, ?_⟩
          refine ⟨_, h5, small1000 (by rw [List.length_map, List.length_map, List.length_take]; have := (rsC_len q n).2; omega), ?_, same_fill s5 nL⟩
          rw [upd_same, List.take_add_one, hc, List.map_append, List.map_append]
          rfl
        · rintro H5 ⟨h5, s5⟩
          rw [List.length_map, List.length_map, List.take_length] at h5
          refine ⟨L, _, rfl, .inl ⟨.inl (.inl h5), fun a2 o2 na2 da2 => ?_⟩⟩
          generalize eV : (((rsC q n).map fun c => tf (tnO o ts (n / unC q)) c).map intV) = ev at h5 ⊢
          have s6 : Same H5 (upd H5 a2 (.frz o2 (.tup ev))) := same_new na2
          have fb : FT (upd H5 a2 (.frz o2 (.tup ev))) a2 ev := FT.new da2
          generalize upd H5 a2 (.frz o2 (.tup ev)) = H6 at s6 fb ⊢
          have le : 1 ≤ ev.length ∧ ev.length ≤ 2 := by
            rw [← eV, List.length_map, List.length_map]
            exact rsC_len q n
          have s36 := (s4.trans s5).trans s6
          refine ⟨a1, a2, _, _, rfl, rfl, (fa.mono s36.tups).sqt, fb.sqt, Nat.le_of_lt (small1000 (by simp only [List.length_cons, List.length_nil]; omega)), (fun z => by cases z), fun _ z => ?_, fun _ _ cp ncp => ?_⟩
          · rw [z] at le
            exact absurd le.1 (by decide)
          have ed : [intV (plO o (n / unC q))] ++ ev = ((mdC q).dec (clC o ts q n)).map V.int := by
            rw [cl_c hn hb, List.map_cons, List.map_map, ← eV, List.map_map]
            rfl
          rw [ed]
          have s7 : Same H6 (upd H6 cp (.tup (((mdC q).dec (clC o ts q n)).map V.int))) := same_new ncp
          have h7 : (upd H6 cp (.tup (((mdC q).dec (clC o ts q n)).map V.int))) cp = some (.tup (((mdC q).dec (clC o ts q n)).map V.int)) := upd_same
          generalize upd H6 cp (.tup (((mdC q).dec (clC o ts q n)).map V.int)) = H7 at s7 h7 ⊢
          have s27 := (s3.trans s36).trans s7
          have hT7 := s27 _ _ hT
          refine ⟨T, us, _, rfl, rfl, hT7, small1000 (by omega), ?_⟩
          refine ⟨_, _, _, us ++ [.ref cp], rfl, upd_same, same_fill (s2.trans s27) nT, ?_⟩
          rw [List.take_add_one, hnn, List.map_append]
          exact papp (pmono pu fun _ _ z => (TupAt.same z s27).fill hT7) (.cons (TupAt.fill (K := K) (H := H7) (ns := (mdC q).dec (clC o ts q n)) ⟨cp, rfl, .inl (.inl h7)⟩ hT7) .nil)
      · rintro σ H2 ⟨y6, y7, y8, us, rfl, hT, s2, pu⟩
        have lv := plen pa
        rw [lv, List.take_length] at pu
        have hD2 := s2 _ _ hD
        refine ⟨.ref D, rfl, .inl ⟨rfl, _, .inl (.inl hD2)⟩, .ref T, rfl, T, us, _, rfl, .inl (.inl hT), pu, fun R ys nR py => ?_⟩
        have s3 : Same H2 (upd H2 R (.lst ys)) := same_new nR
        have h3 : (upd H2 R (.lst ys)) R = some (.lst ys) := upd_same
        have RD : R ≠ D := fun z => by rw [z, hD2] at nR; cases nR
        have py3 : Paired (CAt K q (upd H2 R (.lst ys))) ys (srtC q (row.map (clC o ts q))) := pmono py fun _ _ z => TupAt.same z s3
        generalize upd H2 R (.lst ys) = H3 at s3 h3 py3 ⊢
        have hD3 := s3 _ _ hD2
        refine ⟨D, zs, _, rfl, rfl, hD3, small1000 (by omega), ?_⟩
        refine ⟨_, _, _, _, _, zs ++ [.ref R], rfl, upd_same, same_fill (s1.trans (s2.trans s3)) nD, ?_⟩
        rw [List.take_add_one, hrow, List.map_append]
        refine papp (pmono pz fun _ _ z => (z.same (s2.trans s3)).fill rfl hD3) (.cons (RowX.fill (K := K) (B := fun a => a = D) (H := H3) ⟨R, ys, rfl, RD, h3, pmapV py3⟩ rfl hD3) .nil)
    · rintro σ H1 ⟨y4, y5, y6, y7, y8, zs, rfl, hD, s1, pz⟩
      rw [lqs, List.take_length] at pz
      refine ⟨.ref D, rfl, D, zs, _, rfl, .inl (.inl hD), pmono pz fun _ _ z => z.any, fun R ys nR py => ?_⟩
      have s3 : Same H1 (upd H1 R (.lst ys)) := same_new nR
      exact qq _ _ (s1.trans s3) ⟨R, ys, rfl, upd_same, pmapV (pmono py fun _ _ z => RowX.same z s3)⟩
end
end Bk

/-! min(x, y) of two things told as data. -/
namespace Bk
open PySem PySem.Spec PyProof.Rows L2 RZ
section
open PySem.W
variable {prog : Program} {w : World} {A : Around} {E : Value → Shared → Prop} {s : Shared}
theorem least_two_at {a b : Value} {Q : Value → Shared → Prop}
    (h : wpAny (model prog w) A.in1 (pyIter (.ref s.heap.objs.size)) (fun it s₂ => ∃ I fp wr G n P St H bt, it = .ref I ∧ WalksS prog w A.in1 I fp wr G n P St ∧ St 0 s₂ ∧ (∀ b ∈ fp, b < s₂.heap.objs.size) ∧ 0 < n ∧
      (∀ b o, H.get? b = some o → b ∉ wr) ∧ (∀ b o, H.get? b = some o → s₂.heap.get? b = some o) ∧ CmpIn prog w A.in1 .Lt H P bt ∧ ∀ v s', P (argBest bt (n - 1)) v → Moved wr G s₂ s' → Q v s') E
      { s with heap := s.heap.push { cls := .type "tuple", data := .seq #[a, b] } }) :
    wpAny (model prog w) A (call (.builtin "min") [a, b]) Q E s := by
  have hname : (toString "min" ++ toString ".loop" : String) = "min.loop" := by decide
  refine call_function_tree F.kind_min F.plain_min F.entry_min (F.args_min2 _ _) ?_
  show wpAny _ A.in1 (Builtin.Builtins.bindParams "min" ["key", "default"] 0 ⟨[], []⟩ >>= _) _ _ s
  refine wpAny_bind (wpAny_of_eq (show Builtin.Builtins.bindParams "min" ["key", "default"] 0 ⟨[], []⟩ = pure [none, none] from rfl) ?_)
  show wpAny _ A.in1 (newTuple [a, b] >>= _) _ _ s
  refine wpAny_bind (wpAny_newObj_type ?_)
  refine wpAny_bind (wpAny_mono h (fun it s₂ h₂ => ?_) fun _ _ e => e)
  obtain ⟨I, fp, wr, G, n, P, St, H, bt, rfl, W, hst, hfp, hn, hw, hkeep, hcmp, hQ⟩ := h₂
  refine wpAny_bind (wpAny_newObj_type ?_)
  have hSf : s₂.heap.objs.size ∉ fp := fun hm => Nat.lt_irrefl _ (hfp _ hm)
  rw [hname]
  refine wpAny_pure ⟨plainId_quiet F.plain_min_loop _, codeAny_min_loop_firstH W H hw bt hcmp s₂.heap.objs.size hSf (fresh_in hkeep) _ hn (fun b o e => Heap.get?_push_of_some _ (hkeep b o e)) (W.frame 0 s₂ _ s₂.toks hst (Nat.le_refl _) fun b _ o e => Heap.get?_push_of_some _ e) (Heap.get?_push_size _ rfl) fun v s' hP hm => ?_⟩
  exact hQ v s' hP (Moved.drop_new (tk := s₂.toks) hm (Nat.le_refl _))
theorem least_two {a b : Value} {x y : PyData} {as bs : List Addr} {Q : Value → Shared → Prop} (hh : A.handled = none) (ra : Reads s.heap a x as) (rb : Reads s.heap b y bs) (ha : AlikeAll [x, y]) (hu : A.units + 1 + PyData.depthAll [x, y] < cLine)
    (h : ∀ h' tk, (∀ c o, s.heap.get? c = some o → h'.get? c = some o) → Q (if dataLt y x = true then b else a) { s with heap := h', toks := tk }) :
    wpAny (model prog w) A (call (.builtin "min") [a, b]) Q E s := by
  refine least_two_at ?_
  have k1 : ∀ c o, s.heap.get? c = some o → (s.heap.push { cls := .type "tuple", data := .seq #[a, b] }).get? c = some o := fun c o e => Heap.get?_push_of_some _ e
  have hT : (s.heap.push { cls := .type "tuple", data := .seq #[a, b] }).IsTuple s.heap.objs.size #[a, b] := ⟨_, Heap.get?_push_size _ rfl, rfl, 0, rfl⟩
  have ra1 := Reads.keeps k1 ra
  have rb1 := Reads.keeps k1 rb
  refine iter_tupleW (A := A.in1) hh hT fun s₂ e W st hfp hw hk => ?_
  have cmp : CmpIn prog w A.in1 .Lt (s.heap.push { cls := .type "tuple", data := .seq #[a, b] }) (fun i v => (#[a, b] : Array Value)[i]? = some v) (fun i j => dataLt ([x, y].getD i .none) ([x, y].getD j .none)) := by
    have one : ∀ {i : Nat} {v : Value}, (#[a, b] : Array Value)[i]? = some v → ∃ cs, Reads (s.heap.push { cls := .type "tuple", data := .seq #[a, b] }) v ([x, y].getD i .none) cs ∧ [x, y].getD i .none ∈ [x, y] ∧ ([x, y].getD i .none).depth ≤ PyData.depthAll [x, y] := by
      intro i v hv
      match i, hv with
      | 0, hv =>
        cases Option.some.inj hv
        exact ⟨_, ra1, List.mem_cons_self, by show x.depth ≤ _; simp only [PyData.depthAll]; omega⟩
      | 1, hv =>
        cases Option.some.inj hv
        exact ⟨_, rb1, List.mem_cons_of_mem _ List.mem_cons_self, by show y.depth ≤ _; simp only [PyData.depthAll]; omega⟩
      | i + 2, hv => simp at hv
    intro i j vi vj s' Q' E' hk' hi hj hq
    obtain ⟨as1, r1, m1, d1⟩ := one hi
    obtain ⟨as2, r2, m2, d2⟩ := one hj
    refine rcLt_alike _ _ A.in1 s' vi vj _ _ (Reads.keeps hk' r1) (Reads.keeps hk' r2) (ha.1 _ m1 _ m2) (ha.2 _ m1) ?_ prog w E' Q' hq
    have := Nat.min_le_left ([x, y].getD i .none).depth ([x, y].getD j .none).depth
    have e1 : A.in1.units = A.units + 1 := rfl
    omega
  refine ⟨_, _, _, _, _, _, _, _, _, rfl, W, st, hfp, by show 0 < 2; decide, hw, hk, cmp, fun v s' hP m => ?_⟩
  obtain ⟨h', tk, rfl, hk'⟩ := moved_old e rfl m
  have e0 : argBest (fun i j => dataLt ([x, y].getD i .none) ([x, y].getD j .none)) ((#[a, b] : Array Value).size - 1) = if dataLt y x = true then 1 else 0 := by
    show argBest _ 1 = _
    by_cases c : dataLt y x = true
    · rw [if_pos c]
      simp [argBest, c]
    · rw [if_neg c]
      simp [argBest, c]
  have hP : (#[a, b] : Array Value)[argBest (fun i j => dataLt ([x, y].getD i .none) ([x, y].getD j .none)) ((#[a, b] : Array Value).size - 1)]? = some v := hP
  rw [e0] at hP
  have q := h h' tk fun c o e => hk' c o (k1 c o e)
  have ev : v = if dataLt y x = true then b else a := by
    by_cases c : dataLt y x = true
    · rw [if_pos c] at hP ⊢
      exact (Option.some.inj hP).symm
    · rw [if_neg c] at hP ⊢
      exact (Option.some.inj hP).symm
  rw [ev]
  exact q
end
def rMinL {β : Type} (enc : β → PyData) (At : Hp → V → β → Prop) : List V → Hp → VK → Prop := fun vs H Q => ∃ (x y : V) (b c : β), vs = [x, y] ∧ At H x b ∧ At H y c ∧ Q (if PySem.W.dataLt (enc c) (enc b) = true then y else x) H
theorem kMinL {β : Type} {X : Cx} {K : PySem.W.Frag} {enc : β → PyData} {At : Hp → V → β → Prop} (h : X.K = K) (hc : X.calm = true) (hat : ∀ H v b, At H v b → ∃ p, v = .ref p ∧ Dp K H v (enc b)) (hal : ∀ b b', PySem.W.alike (enc b) (enc b') = true) (hno : ∀ b, enc b ≠ .none) (hd : ∀ b, (enc b).depth ≤ 4) (hu : X.A.units + 8 < cLine) : CallR X (.builtin "min") (rMinL enc At) := by
  subst h
  rintro pins s σ H vs us Q I r ⟨x, y, b, c, rfl, hx, hy, q⟩
  cases r with
  | cons r1 rr =>
  cases rr with
  | cons r2 rr =>
  cases rr
  obtain ⟨p1, rfl, d1⟩ := hat _ _ _ hx
  obtain ⟨p2, rfl, d2⟩ := hat _ _ _ hy
  obtain ⟨as, ra⟩ := Dp.reads I _ _ _ d1 r1
  obtain ⟨bs, rb⟩ := Dp.reads I _ _ _ d2 r2
  refine least_two (I.ok.hd hc) ra rb ⟨?_, ?_⟩ ?_ fun h' tk hk => ?_
  · intro d hd d' hd'
    simp only [List.mem_cons, List.not_mem_nil, or_false] at hd hd'
    rcases hd with rfl | rfl <;> rcases hd' with rfl | rfl <;> exact hal _ _
  · intro d hd
    simp only [List.mem_cons, List.not_mem_nil, or_false] at hd
    rcases hd with rfl | rfl <;> exact hno _
  · have e1 := hd b
    have e2 := hd c
    simp only [PyData.depthAll]
    omega
  · by_cases z : PySem.W.dataLt (enc c) (enc b) = true
    · rw [if_pos z] at q ⊢
      exact ⟨.ref p2, H, I.kept hk, r2, q⟩
    · rw [if_neg z] at q ⊢
      exact ⟨.ref p1, H, I.kept hk, r1, q⟩
end Bk

/-! Edges, one way or the other, by the law. -/
namespace Bk
open PySem PySem.Spec PyProof.Rows L2 RZ
def lesR (a b : List Nat) : List Nat := if PySem.W.dataLt (encL (encC true) b) (encL (encC true) a) = true then b else a
def eitR (rows : List (List Nat)) : List (List Nat) := srtL true (rows.map fun r => lesR r (srtC true (r.map flp)))
theorem flp_dec (n : Nat) : (moQ.dec (flp n)).map V.int = [V.int ((n / 16 : Nat) : Int), V.int ((n % 4 : Nat) : Int), V.int ((n / 4 % 4 : Nat) : Int)] := by
  obtain ⟨b, c, e, hc, he, rfl⟩ := split16 n
  rw [flp_at b c e hc he]
  show [V.int (((16 * b + 4 * e + c) / 16 : Nat) : Int), V.int (((16 * b + 4 * e + c) / 4 % 4 : Nat) : Int), V.int (((16 * b + 4 * e + c) % 4 : Nat) : Int)] = _
  rw [show (16 * b + 4 * c + e) / 16 = b by omega, show (16 * b + 4 * c + e) / 4 % 4 = c by omega, show (16 * b + 4 * c + e) % 4 = e by omega, show (16 * b + 4 * e + c) / 16 = b by omega, show (16 * b + 4 * e + c) / 4 % 4 = e by omega, show (16 * b + 4 * e + c) % 4 = c by omega]
section
variable {P : Program} {w : World} {K : PySem.W.Frag} {mg : Str → Option Value} {base : Heap}
abbrev s_law_either : Stmt := topS 48
abbrev N_law_either : List Str := ["rows", "found", "row", "block", "c", "d"]
theorem sc_law_either : FnScope N_law_either ["rows"] (defScope s_law_either) := ⟨rfl, rfl, rfl, by decide +kernel, rfl, by decide +kernel, by decide +kernel⟩
def spEither (K : PySem.W.Frag) : Sp := fun vs H Q _ => ∃ (v : V) (rows : List (List Nat)), vs = [v] ∧ RwsV K H v (decR moQ rows) ∧ rows.length ≤ 1000 ∧ (∀ r ∈ rows, r.length ≤ 1000) ∧
  ∀ H' v', Same H H' → RwsV K H' v' (decR moQ (eitR rows)) → Q v' H'
theorem ok_law_either {f : Addr} {fd : FuncData} (F : Fun K "_law_either" "_law_either" s_law_either f fd) (m_min : mg "min" = none) (m_sorted : mg "sorted" = none) : FnOk P w K mg base CX0 1 f fd ["rows"] (spEither K) := by
  refine F.ok sc_law_either (fun vs H Q E h => ?_) (fun cdv A outer s H vs Q E hr h => ?_)
  · obtain ⟨v, rows, rfl, _⟩ := h
    rfl
  · obtain ⟨v, rows, rfl, hv, h1, h2, qq⟩ := h
    have nd := sc_law_either.nd
    refine ⟨_, (pss_cons (ps_setLc (i := 1) (own := [("row", 2)]) (g := gName 2) (tt := tYes) rfl nd rfl rfl (sw_true rfl rfl rfl (by decide +kernel)) (kPiL K rfl (pi_list (pv 0))) (blkOk_by (own := [("row", 2)]) (N := N_law_either) (sc := defScope s_law_either) (by decide +kernel)) (fun _ _ _ _ _ => (pg_name (i := 2) nd rfl (Or.inl rfl))) (fun _ _ _ _ _ => pts_nil) (fun _ _ _ _ _ => (pe_callB (kMinL (enc := encL (encC true)) (At := RwC K true) rfl rfl rwc_dp (encL_alike (encC_ord true)) (fun _ z => by cases z) (encL_deep true) (Nat.lt_of_le_of_lt (Nat.add_le_add_left (by decide) _) hr.units)) (by rfl) m_min (by decide +kernel) (pa_cons (pv 2) (pa_cons (pe_callB (kSortG (enc := encC true) (At := CAt K true) rfl cat_dp (encC_ord true).alike (encC_key true) (encC_deep true) (Nat.lt_of_le_of_lt (Nat.add_le_add_left (by decide) _) hr.units)) (by rfl) m_sorted (by decide +kernel) (pa_cons (pe_lc (own := [("block", 3), ("c", 4), ("d", 5)]) (tt := tYes) rfl nd (kPiL K rfl (pi_list (pv 2))) (blkOk_by (own := [("block", 3), ("c", 4), ("d", 5)]) (N := N_law_either) (sc := _) (by rfl)) (fun _ _ _ _ _ => (kPgT K rfl (pg_tup (n := 3) rfl (pgs_cons (pg_name (i := 3) nd rfl (Or.inl rfl)) (pgs_cons (pg_name (i := 4) nd rfl (Or.inl rfl)) (pgs_cons (pg_name (i := 5) nd rfl (Or.inl rfl)) pgs_nil)))))) (fun _ _ _ _ _ => pts_nil) (fun _ _ _ _ _ => (pe_tup (pa_cons (pv 3) (pa_cons (pv 5) (pa_cons (pv 4) pa_nil)))))) pa_nil)) pa_nil)))))
      (pss_one (ps_ret (pe_callB (kSortG (enc := encL (encC true)) (At := RwC K true) rfl rwc_dp (encL_alike (encC_ord true)) (encL_key _) (encL_deep true) (Nat.lt_of_le_of_lt (Nat.add_le_add_left (by decide) _) hr.units)) (by rfl) m_sorted (by decide +kernel) (pa_cons (pv 1) pa_nil))))), ?_⟩
    obtain ⟨l, qs, rfl, hl, hp⟩ := id hv
    have hp := pmapU hp
    have lqs := plen hp
    refine ⟨.ref l, rfl, l, rfl, ⟨_, .inl (.inl hl)⟩, fun L nL => ?_⟩
    refine lc_list (xs := qs) (fun i H3 => ∃ ws, H3 L = some (.lst ws) ∧ Paired (fun v r => RowX K (fun a => a = L) H3 v (r.map moQ.dec)) ws ((rows.take i).map fun r => lesR r (srtC true (r.map flp))) ∧ Same H H3) ⟨[], upd_same, .nil, same_new nL⟩ ?_ ?_ ?_
    · rintro i H3 _ ⟨_, _, _, s3⟩
      exact .inl (.inl (s3 _ _ hl))
    · rintro i x H3 hx ⟨ws, h3', p3, s3⟩
      obtain ⟨row, hrow, rx⟩ := pget' hp hx
      have hmem := List.mem_of_getElem? hrow
      obtain ⟨a, vs, rfl, _, ha0, pa0⟩ := id rx
      have rx3 := rx.same s3
      have ha := s3 _ _ ha0
      have pa : Paired (fun v n => TupAt K H3 v (moQ.dec n)) vs row := pmono (pmapU pa0) fun _ _ z => TupAt.same z s3
      have aL : a ≠ L := fun z => by rw [z, nL] at ha0; cases ha0
      have lw := plen p3
      rw [List.length_map, List.length_take] at lw
      have l2 := h2 row hmem
      refine ⟨rfl, .ref a, rfl, .ref a, rfl, a, rfl, ⟨_, .inl (.inl ha)⟩, fun L2 nL2 => ?_⟩
      refine lc_list (xs := vs) (fun j H4 => ∃ zs, H4 L2 = some (.lst zs) ∧ Paired (CAt K true H4) zs ((row.take j).map flp) ∧ Same H3 H4) ⟨[], upd_same, .nil, same_new nL2⟩ ?_ ?_ ?_
      · rintro j H4 _ ⟨_, _, _, s4⟩
        exact .inl (.inl (s4 _ _ ha))
      · rintro j y H4 hy ⟨zs, h4, p4, s4⟩
        obtain ⟨n, hn, tx⟩ := pget' pa hy
        obtain ⟨kp, rfl, hk⟩ := TupAt.same tx s4
        have lz := plen p4
        rw [List.length_map, List.length_take] at lz
        have il := (List.getElem?_eq_some_iff.mp hn).1
        refine ⟨kp, _, rfl, hk, rfl, _, _, rfl, _, _, rfl, _, [], rfl, rfl, ?_⟩
        refine ⟨rfl, .int ((n / 16 : Nat) : Int), rfl, .int ((n % 4 : Nat) : Int), rfl, .int ((n / 4 % 4 : Nat) : Int), rfl, Nat.le_of_lt (small1000 (by show 3 ≤ 1000; decide)), fun tp ntp => ?_⟩
        dsimp only
        rw [← flp_dec n]
        have s5 : Same H4 (upd H4 tp (.tup ((moQ.dec (flp n)).map V.int))) := same_new ntp
        have h5 : (upd H4 tp (.tup ((moQ.dec (flp n)).map V.int))) tp = some (.tup ((moQ.dec (flp n)).map V.int)) := upd_same
        generalize upd H4 tp (.tup ((moQ.dec (flp n)).map V.int)) = H5 at s5 h5 ⊢
        have hL5 := s5 _ _ h4
        refine ⟨zs, hL5, small1000 (by omega), zs ++ [.ref tp], upd_same, ?_, same_fill (s4.trans s5) nL2⟩
        rw [List.take_add_one, hn, List.map_append]
        exact papp (pmono p4 fun _ _ z => (TupAt.same z s5).fill hL5) (.cons (TupAt.fill (K := K) (H := H5) (ns := moQ.dec (flp n)) ⟨tp, rfl, .inl (.inl h5)⟩ hL5) .nil)
      · rintro H4 ⟨zs, h4, p4, s4⟩
        have lv := plen pa
        rw [lv, List.take_length] at p4
        refine ⟨L2, zs, _, rfl, .inl (.inl h4), p4, fun R ys nR py => ?_⟩
        have s5 : Same H4 (upd H4 R (.lst ys)) := same_new nR
        have h5 : (upd H4 R (.lst ys)) R = some (.lst ys) := upd_same
        have py5 : Paired (CAt K true (upd H4 R (.lst ys))) ys (srtC true (row.map flp)) := pmono py fun _ _ z => TupAt.same z s5
        have h34 := s4 _ _ h3'
        have RL : R ≠ L := fun z => by rw [z, h34] at nR; cases nR
        generalize upd H4 R (.lst ys) = H5 at s5 h5 py5 ⊢
        have s35 := s4.trans s5
        have r1 : RowX K (fun a => a = L) H5 (.ref a) (row.map moQ.dec) := ⟨a, vs, rfl, aL, s35 _ _ ha, pmapV (pmono pa fun _ _ z => TupAt.same z s35)⟩
        have r2 : RowX K (fun a => a = L) H5 (.ref R) ((srtC true (row.map flp)).map moQ.dec) := ⟨R, ys, rfl, RL, h5, pmapV py5⟩
        refine ⟨.ref a, .ref R, row, srtC true (row.map flp), rfl, r1.any, r2.any, ?_⟩
        have hL5 := s5 _ _ h34
        refine ⟨ws, hL5, small1000 (by omega), ws ++ [_], upd_same, ?_, same_fill (s3.trans s35) nL⟩
        rw [List.take_add_one, hrow, List.map_append]
        refine papp (pmono p3 fun _ _ z => (z.same s35).fill rfl hL5) (.cons ?_ .nil)
        show RowX K (fun a => a = L) _ _ ((lesR row (srtC true (row.map flp))).map moQ.dec)
        unfold lesR
        by_cases z : PySem.W.dataLt (encL (encC true) (srtC true (row.map flp))) (encL (encC true) row) = true
        · rw [if_pos z, if_pos z]
          exact r2.fill rfl hL5
        · rw [if_neg z, if_neg z]
          exact r1.fill rfl hL5
    · rintro H3 ⟨ws, h3', p3, s3⟩
      rw [lqs, List.take_length] at p3
      refine ⟨.ref L, rfl, L, ws, _, rfl, .inl (.inl h3'), pmono p3 fun _ _ z => z.any, fun R ys nR py => ?_⟩
      have s4 : Same H3 (upd H3 R (.lst ys)) := same_new nR
      exact qq _ _ (s3.trans s4) ⟨R, ys, rfl, upd_same, pmapV (pmono py fun _ _ z => RowX.same z s4)⟩
end
end Bk

/-! Turnings here and there, by the law. -/
namespace Bk
open PySem PySem.Spec PyProof.Rows L2 RZ
local macro_rules | `(tactic| walk_at "g") => `(tactic| (repeat first | refine ⟨_, rfl, ?_⟩ | refine ⟨cpow, ?_⟩ | refine ⟨wideM, ?_⟩ | refine ⟨_, _, rfl, rfl, ?_⟩ | refine ⟨rfl, ?_⟩))
theorem unlike_one {ns : List Int} (h : ∀ x ∈ ns, ∀ y ∈ ns, x = y) : unlike ns ≤ 1 := by
  unfold unlike
  obtain ⟨d1, d2⟩ := dd_set ns [] List.nodup_nil
  generalize ns.foldl step_dedup [] = l at d1 d2
  match l, d1, d2 with
  | [], _, _ => exact Nat.zero_le _
  | [_], _, _ => exact Nat.le_refl _
  | x :: y :: l, d1, d2 =>
    have hx := ((d2 x).mp List.mem_cons_self).resolve_left List.not_mem_nil
    have hy := ((d2 y).mp (List.mem_cons_of_mem _ List.mem_cons_self)).resolve_left List.not_mem_nil
    have e := h x hx y hy
    subst e
    exact absurd List.mem_cons_self (List.nodup_cons.mp d1).1
theorem own_is (o : List Nat) (ts : List Trn) (b : Nat) : (if oddT (tnO o ts b) = true then (-1 : Int) else 1) = ownT o ts b := by
  unfold ownT sgT
  by_cases c : oddT (tnO o ts b) = true
  · rw [if_pos c, if_pos c]
  · rw [if_neg c, if_neg c]
    rfl
theorem oneM {a b : Int} (h : One a) : CMul a b := .inl (by
  rcases h with rfl | rfl
  · exact ⟨by decide, by decide⟩
  · exact ⟨by decide, by decide⟩)
theorem if_own {t : Trn} {e : Int} {C : V → Hp → Prop} {σ : L2.St} {H : Hp} (he : (if oddT t = true then (-1 : Int) else 1) = e) (h : C (.int e) H) : if oddT t = true then tUn (rU fun i => V.int (-i)) (tC (V.int 1)) σ H C else tC (V.int 1) σ H C := by
  subst he
  by_cases c : oddT t = true
  · rw [if_pos c] at h ⊢
    exact ⟨_, rfl, h⟩
  · rw [if_neg c] at h ⊢
    exact h
section
variable {P : Program} {w : World} {K : PySem.W.Frag} {mg : Str → Option Value} {base : Heap}
abbrev s_law_turning_right : Stmt := topS 49
abbrev N_law_turning_right : List Str := ["space", "other", "names", "order", "turns", "places", "one", "told", "part", "signs", "block", "own"]
theorem sc_law_turning_right : FnScope N_law_turning_right ["space", "other", "names"] (defScope s_law_turning_right) := ⟨rfl, rfl, rfl, by decide +kernel, rfl, by decide +kernel, by decide +kernel⟩
def spTurnRight : Sp := fun vs H Q _ => ∃ (N N' : Addr → Prop) (v v2 : V) (d d2 : PyData) (S : Spc) (o : List Nat) (ts : List Trn) (nm po pt pp : Addr) (ws : List V), vs = [v, v2, .ref nm] ∧ Dq N H v d ∧ norm d = nS S ∧ Dq N' H v2 d2 ∧ norm d2 = nS (renS S o ts) ∧ Good S ∧ Names S.length o ts ∧ 1 ≤ S.length ∧ S.length < 40 ∧
  FT H nm [.ref po, .ref pt, .ref pp] ∧ H pp = some (.lst (trnV ((List.range S.length).map (plO o)))) ∧ H pt = some (.lst ws) ∧ Paired (TAt H) ws ts ∧ ∀ H', Same H H' → Q (.bl true) H'
theorem ok_law_turning_right {f fT fP fO : Addr} {fd fdT fdP fdO : FuncData} (F : Fun K "_law_turning_right" "_law_turning_right" s_law_turning_right f fd)
    (Fturning : Fun K "turning" "turning" sturning fT fdT) (gturning : mg "turning" = some (.ref fT)) (bturning : Binds K fdT ["space"] []) (Gturning : FnOk P w K mg base CX0 7 fT fdT ["space"] spTurning)
    (Fparts_of : Fun K "parts_of" "parts_of" sparts_of fP fdP) (gparts_of : mg "parts_of" = some (.ref fP)) (bparts_of : Binds K fdP ["space"] []) (Gparts_of : FnOk P w K mg base CX0 7 fP fdP ["space"] spPartsOf)
    (F_law_is_odd : Fun K "_law_is_odd" "_law_is_odd" s_law_is_odd fO fdO) (g_law_is_odd : mg "_law_is_odd" = some (.ref fO)) (b_law_is_odd : Binds K fdO ["turn"] []) (G_law_is_odd : FnOk P w K mg base CX0 1 fO fdO ["turn"] spIsOdd)
    (m_len : mg "len" = none) (m_set : mg "set" = none) : FnOk P w K mg base CX0 8 f fd ["space", "other", "names"] spTurnRight := by
  refine F.ok sc_law_turning_right (fun vs H Q E h => ?_) (fun cdv A outer s H vs Q E hr h => ?_)
  · obtain ⟨N, N', v, v2, d, d2, S, o, ts, nm, po, pt, pp, ws, rfl, _⟩ := h
    rfl
  · obtain ⟨N, N', v, v2, d, d2, S, o, ts, nm, po, pt, pp, ws, rfl, hd, hn, hd2, hn2, hG, hnm, h1, h2, fnm, hpp, hpt, pw, q⟩ := h
    have nd := sc_law_turning_right.nd
    refine ⟨_, (pss_cons (ps_asg (pv 2) (kPgT K rfl (pg_tup (n := 3) rfl (pgs_cons (pg_name (i := 3) nd rfl (.inl rfl)) (pgs_cons (pg_name (i := 4) nd rfl (.inl rfl)) (pgs_cons (pg_name (i := 5) nd rfl (.inl rfl)) pgs_nil))))))
      (pss_cons (ps_asg (pe_tupF (pa_cons (pe_call Gturning (hr.mono (by first | decide | omega)) (by rfl) gturning Fturning.kp bturning .nil pass0 (pa_cons (pv 0) pa_nil)) (pa_cons (pe_call Gturning (hr.mono (by first | decide | omega)) (by rfl) gturning Fturning.kp bturning .nil pass0 (pa_cons (pv 1) pa_nil)) pa_nil))) (kPgT K rfl (pg_tup (n := 2) rfl (pgs_cons (pg_name (i := 6) nd rfl (.inl rfl)) (pgs_cons (pg_name (i := 7) nd rfl (.inr rfl)) pgs_nil)))))
      (pss_cons (ps_if (pw_or (pt_cmpR op_isN (pv 6) pe_non (nomark _)) (pw_or1 (pt_cmpR op_isN (pv 7) pe_non (nomark _)))).pt (pss_one (ps_ret (pe_and (pe_cmpR op_isN (pv 6) pe_non (nomark _)) (pe_one (pe_cmpR op_isN (pv 7) pe_non (nomark _)))))) pss_nil)
      (pss_cons (ps_for PassesOwn.never rfl (kPiL K rfl (pi_list (pe_call Gparts_of (hr.mono (by first | decide | omega)) (by rfl) gparts_of Fparts_of.kp bparts_of .nil pass0 (pa_cons (pv 0) pa_nil)))) (pg_name (i := 8) nd rfl (.inl rfl)) (pss_cons (ps_set (i := 9) nd rfl (.inl rfl) (pe_lst pa_nil))
      (pss_cons (ps_for PassesOwn.never rfl (kPiL K rfl (pi_list (pv 8))) (pg_name (i := 10) nd rfl (.inl rfl)) (pss_cons (ps_set (i := 11) nd rfl (.inl rfl) (pe_ifExp (pt_val (pe_call G_law_is_odd (hr.mono (by first | decide | omega)) (by rfl) g_law_is_odd F_law_is_odd.kp b_law_is_odd .nil pass0 (pa_cons (pe_ix (kIxL K rfl) (pv 4) (pe_ix (kIxL K rfl) (pv 5) (pv 10) (fun _ _ => rfl)) (fun _ _ => rfl)) pa_nil))) (pe_un un_neg pe_int) pe_int))
      (pss_one (ps_expr (kBM K rfl (pe_bm PySem.F.plainAttrs_list PySem.F.slot_list_append PySem.F.type_list_append mt_append (pv 9) (pa_cons (pe_op op_mul (pe_op op_mul (pe_ix (kIxL K rfl) (pv 6) (pv 10) (fun _ _ => rfl)) (pv 11)) (pe_ix (kIxL K rfl) (pv 7) (pe_ix (kIxL K rfl) (pv 5) (pv 10) (fun _ _ => rfl)) (fun _ _ => rfl))) pa_nil)))))))
      (pss_one (ps_if (pt_cmpR op_gt (pe_lenSetA K rfl rfl (by rfl) m_len (by rfl) m_set (pv 9)) pe_int (nomark _)) (pss_one (ps_ret pe_bl)) pss_nil)))))
      (pss_one (ps_ret (pe_cmpR (kEqD K rfl hr.units) (pe_lc (own := [("part", 8)]) (g := gName 8) (tt := tYes) rfl nd (kPiL K rfl (pi_list (pe_call Gparts_of (hr.mono (by first | decide | omega)) (by rfl) gparts_of Fparts_of.kp bparts_of .nil pass0 (pa_cons (pv 1) pa_nil)))) (blkOk_by (own := [("part", 8)]) (N := N_law_turning_right) (sc := defScope s_law_turning_right) (by decide +kernel)) (fun _ _ _ _ _ => (pg_name (i := 8) nd rfl (Or.inl rfl))) (fun _ _ _ _ _ => pts_nil) (fun _ _ _ _ _ => (pe_ix (kIxL K rfl) (pv 7) (pe_ix (kIxL K rfl) (pv 8) pe_int (fun _ _ => rfl)) (fun _ _ => rfl)))) (pe_op op_rep (pe_lst (pa_cons pe_int pa_nil)) (pe_callB (kLen K rfl) (by rfl) m_len (by decide +kernel) (pa_cons (pe_call Gparts_of (hr.mono (by first | decide | omega)) (by rfl) gparts_of Fparts_of.kp bparts_of .nil pass0 (pa_cons (pv 1) pa_nil)) pa_nil))) (nomark _)))))))), ?_⟩
    have hR := good_ren hG hnm
    have lR : (renS S o ts).length = S.length := renS_len S o ts
    refine ⟨.ref nm, rfl, nm, _, rfl, fnm.sqt, rfl, _, _, rfl, _, _, rfl, _, [], rfl, rfl, ?_⟩
    refine ⟨v, rfl, N, v, d, S, rfl, hd, hn, hG, h1, h2, fun H1 u1 r1 s1 t1 p1 => ?_⟩
    refine ⟨v2, rfl, N', v2, d2, renS S o ts, rfl, hd2.same s1, hn2, hR, by omega, by omega, fun H2 u2 r2 s2 t2 p2 => ?_⟩
    refine ⟨Nat.le_of_lt (small1000 (by show 2 ≤ 1000; decide)), fun a o1 na da => ?_⟩
    have s3 : Same H2 (upd H2 a (.frz o1 (.tup [u1, u2]))) := same_new na
    have fa : FT (upd H2 a (.frz o1 (.tup [u1, u2]))) a [u1, u2] := FT.new da
    generalize upd H2 a (.frz o1 (.tup [u1, u2])) = H3 at s3 fa ⊢
    refine ⟨a, _, rfl, fa.sqt, rfl, _, _, rfl, _, [], rfl, rfl, ?_⟩
    have s03 := (s1.trans s2).trans s3
    rcases turn_called hG hnm t1 t2 with ⟨e1, e2⟩ | ⟨f, g, e1, e2, o12, cst, fst⟩
    · subst e1
      subst e2
      obtain rfl : u1 = .non := by
        rcases p1 with ⟨_, z⟩ | ⟨_, _, z, _⟩
        · exact z
        · cases z
      obtain rfl : u2 = .non := by
        rcases p2 with ⟨_, z⟩ | ⟨_, _, z, _⟩
        · exact z
        · cases z
      refine ⟨.non, rfl, rfl, _, rfl, ?_⟩
      rw [decide_eq_true (rfl : V.non = V.non)]
      refine iteT (iteT ?_)
      refine ⟨.non, rfl, rfl, _, rfl, ?_⟩
      rw [decide_eq_true (rfl : V.non = V.non)]
      refine iteT ?_
      refine ⟨.non, rfl, rfl, ?_⟩
      rw [decide_eq_true (rfl : V.non = V.non)]
      exact q _ s03
    · subst e1
      subst e2
      obtain ⟨l1, n1, rfl, hl1⟩ : ∃ l1, H l1 = none ∧ u1 = .ref l1 ∧ H1 l1 = some (.lst (((List.range S.length).map f).map V.int)) := by
        rcases p1 with ⟨z, _⟩ | ⟨l, is, e, e2, n, z⟩
        · cases z
        · cases e
          exact ⟨l, n, e2, z⟩
      obtain ⟨l2, n2, rfl, hl2⟩ : ∃ l2, H1 l2 = none ∧ u2 = .ref l2 ∧ H2 l2 = some (.lst (((List.range S.length).map g).map V.int)) := by
        rcases p2 with ⟨z, _⟩ | ⟨l, is, e, e2, n, z⟩
        · cases z
        · cases e
          exact ⟨l, n, e2, by rw [z]⟩
      have hl1 := (s2.trans s3) _ _ hl1
      have hl2 := s3 _ _ hl2
      have ne1 : ∀ l : Addr, decide (V.ref l = V.non) = false := fun l => decide_eq_false nofun
      refine ⟨.ref l1, rfl, rfl, _, rfl, ?_⟩
      rw [ne1]
      refine iteF ?_
      refine ⟨.ref l2, rfl, rfl, _, rfl, ?_⟩
      rw [ne1]
      refine iteF ?_
      dsimp only [tNext]
      refine ⟨v, rfl, N, v, d, S, rfl, hd.same s03, hn, hG, h1, h2, fun H4 lp s4 rw4 => ?_⟩
      obtain ⟨ps, hlp, _, _, _, pr4⟩ := rw4
      have lps := plen pr4
      have iv : ∀ {h : Nat → Int} {b : Nat}, b < S.length → (((List.range S.length).map h).map V.int)[b]? = some (.int (h b)) := fun {h b} hb => by
        rw [List.getElem?_map, List.getElem?_map, List.getElem?_range hb]
        rfl
      refine ⟨lp, rfl, ⟨_, .inl (.inl hlp)⟩, ?_⟩
      refine for_list (xs := ps.map V.ref) (fun i σ H5 => ∃ y8 y9 y10 y11, σ = [some v, some v2, some (.ref nm), some (.ref po), some (.ref pt), some (.ref pp), some (.ref l1), some (.ref l2), y8, y9, y10, y11] ∧ Same H4 H5) ⟨_, _, _, _, rfl, Same.refl _⟩ ?_ ?_ ?_
      · rintro i σ H5 _ ⟨_, _, _, _, _, s5⟩
        exact .inl (.inl (s5 _ _ hlp))
      · rintro i x σ H5 hx ⟨y8, y9, y10, y11, rfl, s5⟩
        rw [List.getElem?_map] at hx
        obtain ⟨p, hp, rfl⟩ := Option.map_eq_some_iff.mp hx
        obtain ⟨row, hrow, _, vs, hvs, pv⟩ := pget' pr4 hp
        have ev := moI_list pv
        subst ev
        have hmem : row ∈ parE S := List.mem_of_getElem? hrow
        have inr : ∀ b ∈ row, b < S.length := fun b hb => by
          have E := hangB_eqv (r := fun x y => y ∈ lkP S x) (lkP_symm hG)
          obtain ⟨z, hz, rfl⟩ := (rowsE_mem E List.pairwise_lt_range).mp hmem
          exact List.mem_range.mp (List.mem_filter.mp hb).1
        have lrow : row.length ≤ 63 := by
          have E := hangB_eqv (r := fun x y => y ∈ lkP S x) (lkP_symm hG)
          obtain ⟨z, hz, rfl⟩ := (rowsE_mem E List.pairwise_lt_range).mp hmem
          have := List.length_filter_le (hangB (fun x y => y ∈ lkP S x) z) (List.range S.length)
          rw [List.length_range] at this
          exact Nat.le_trans this (by omega)
        refine ⟨Nat.zero_le _, fun T nT => ?_⟩
        have sT : Same H5 (upd H5 T (.lst [])) := same_new nT
        have hvs5 := s5 _ _ hvs
        refine ⟨.ref p, rfl, p, rfl, ⟨_, .inl (.inl (sT _ _ hvs5))⟩, ?_⟩
        refine for_list (xs := row.map intV) (fun j σ H6 => ∃ y10 y11, σ = [some v, some v2, some (.ref nm), some (.ref po), some (.ref pt), some (.ref pp), some (.ref l1), some (.ref l2), some (.ref p), some (.ref T), y10, y11] ∧ H6 T = some (.lst (((row.take j).map fun b => f b * ownT o ts b * g (plO o b)).map V.int)) ∧ Same H5 H6)
          ⟨y10, y11, rfl, upd_same, sT⟩ ?_ ?_ ?_
        · rintro j σ H6 _ ⟨_, _, _, _, s6⟩
          exact .inl (.inl (s6 _ _ hvs5))
        · rintro j y σ H6 hy ⟨y10, y11, rfl, hT, s6⟩
          rw [List.getElem?_map] at hy
          obtain ⟨b, hb, rfl⟩ := Option.map_eq_some_iff.mp hy
          have bl := inr b (List.mem_of_getElem? hb)
          have s06 := ((s03.trans s4).trans s5).trans s6
          have s36 := (s4.trans s5).trans s6
          have ip : (trnV ((List.range S.length).map (plO o)))[b]? = some (intV (plO o b)) := by
            unfold trnV
            rw [List.map_map, List.getElem?_map, List.getElem?_range bl]
            rfl
          have ib : plO o b < S.length := (hnm.idx bl).2
          obtain ⟨_, _, ht, hm0⟩ := hnm.at ib
          have hm : tnO o ts b ∈ allTurns := hm0
          have ht' : ts[plO o b]? = some (tnO o ts b) := ht
          obtain ⟨wv, hw, pq, rfl, fq⟩ := pgetR pw ht'
          refine ⟨.ref pt, rfl, .ref pp, rfl, intV b, rfl, pp, _, b, intV (plO o b), rfl, rfl, .inl (.inl (s06 _ _ hpp)), atI_nat ip, pt, _, plO o b, .ref pq, rfl, rfl, .inl (.inl (s06 _ _ hpt)), atI_nat hw, ?_⟩
          refine ⟨pq, tnO o ts b, rfl, fq.mono s06.tups, hm, fun H7 s7 => ?_⟩
          refine ⟨_, rfl, ?_⟩
          have hT7 := s7 _ _ hT
          have s37 := s36.trans s7
          have s07 := s06.trans s7
          refine if_own (own_is o ts b) ?_
          dsimp only
          refine ⟨.ref T, rfl, .inl ⟨rfl, _, .inl (.inl hT7)⟩, .ref l1, rfl, intV b, rfl, l1, _, b, .int (f b), rfl, rfl, .inl (.inl (s37 _ _ hl1)), atI_nat (iv bl), .int (ownT o ts b), rfl, _, _, rfl, rfl, oneM (o12 b bl).1, .ref l2, rfl, .ref pp, rfl, intV b, rfl, pp, _, b, intV (plO o b), rfl, rfl, .inl (.inl (s07 _ _ hpp)), atI_nat ip, l2, _, plO o b, .int (g (plO o b)), rfl, rfl, .inl (.inl (s37 _ _ hl2)), atI_nat (iv ib), _, _, rfl, rfl, oneM (mulOne (o12 b bl).1 (ownT_one b)), T, _, _, rfl, rfl, hT7, small1000 (by rw [List.length_map, List.length_map, List.length_take]; omega), ?_⟩
          refine ⟨_, _, rfl, ?_, same_fill (s6.trans s7) nT⟩
          rw [upd_same, List.take_add_one, hb, List.map_append, List.map_append]
          rfl
        · rintro σ H6 ⟨y10, y11, rfl, hT, s6⟩
          rw [List.length_map, List.take_length] at hT
          refine ⟨.ref T, rfl, T, _, rfl, .inl (.inl (.inl hT)), by rw [List.length_map]; exact lrow, _, _, rfl, rfl, _, rfl, ?_⟩
          have u1 : unlike (row.map fun b => f b * ownT o ts b * g (plO o b)) ≤ 1 := unlike_one fun x hx y hy => by
            obtain ⟨a, ha, rfl⟩ := List.mem_map.mp hx
            obtain ⟨b, hb, rfl⟩ := List.mem_map.mp hy
            exact cst row hmem a ha b hb
          have ed : decide (((unlike (row.map fun b => f b * ownT o ts b * g (plO o b)) : Nat) : Int) > 1) = false := decide_eq_false (by omega)
          rw [ed]
          refine iteF ?_
          exact ⟨_, _, _, _, rfl, s5.trans s6⟩
      · rintro σ H5 ⟨y8, y9, y10, y11, rfl, s5⟩
        have s05 := (s03.trans s4).trans s5
        have rowsN : ∀ {H' Hx : Hp} {l : Addr}, RowsAt moI H' Hx l (rowsE (hangB (fun x y => y ∈ lkP (renS S o ts) x)) (List.range (renS S o ts).length)) → True := fun _ => trivial
        refine ⟨v2, rfl, N', v2, d2, renS S o ts, rfl, hd2.same s05, hn2, hR, by omega, by omega, fun H6 lq s6 rw6 => ?_⟩
        obtain ⟨qs, hlq, _, _, _, pr6⟩ := rw6
        have lqs := plen pr6
        have l40 : qs.length ≤ 40 := by
          have E := hangB_eqv (r := fun x y => y ∈ lkP (renS S o ts) x) (lkP_symm hR)
          have := (rowsE_flat E (List.pairwise_lt_range.imp fun z => Nat.ne_of_lt z) (l := List.range (renS S o ts).length)).2.2
          rw [List.length_range] at this
          omega
        refine ⟨lq, rfl, ⟨_, .inl (.inl hlq)⟩, fun L nL => ?_⟩
        refine lc_list (xs := qs.map V.ref) (fun j H7 => H7 L = some (.lst (List.replicate j (V.int 1))) ∧ Same H6 H7) ⟨upd_same, same_new nL⟩ ?_ ?_ ?_
        · rintro j H7 _ ⟨_, s7⟩
          exact .inl (.inl (s7 _ _ hlq))
        · rintro j x H7 hx ⟨h7, s7⟩
          rw [List.getElem?_map] at hx
          obtain ⟨p, hp, rfl⟩ := Option.map_eq_some_iff.mp hx
          have jl := (List.getElem?_eq_some_iff.mp hp).1
          obtain ⟨row, hrow, _, vs, hvs, pv⟩ := pget' pr6 hp
          have ev := moI_list pv
          subst ev
          have hmem : row ∈ parE (renS S o ts) := List.mem_of_getElem? hrow
          obtain ⟨x0, t0, rfl, x1⟩ : ∃ x0 t0, row = x0 :: t0 ∧ x0 < S.length := by
            have E := hangB_eqv (r := fun x y => y ∈ lkP (renS S o ts) x) (lkP_symm hR)
            obtain ⟨z, hz, e⟩ := (rowsE_mem E List.pairwise_lt_range).mp hmem
            have hm : z ∈ row := by
              rw [e]
              exact List.mem_filter.mpr ⟨hz, E.rfl z⟩
            cases row with
            | nil => cases hm
            | cons x0 t0 =>
              have : x0 ∈ (List.range (renS S o ts).length).filter (hangB (fun x y => y ∈ lkP (renS S o ts) x) z) := by
                rw [← e]
                exact List.mem_cons_self
              have := List.mem_range.mp (List.mem_filter.mp this).1
              exact ⟨x0, t0, rfl, by omega⟩
          have g1 := fst x0 t0 hmem
          have s37 := ((s4.trans s5).trans s6).trans s7
          refine ⟨rfl, .ref l2, rfl, .ref p, rfl, p, _, 0, intV x0, rfl, rfl, .inl (.inl (s7 _ _ hvs)), atI_nat (j := 0) rfl, l2, _, x0, .int (g x0), rfl, rfl, .inl (.inl (s37 _ _ hl2)), atI_nat (iv x1), ?_⟩
          refine ⟨_, h7, small1000 (by rw [List.length_replicate]; omega), ?_, same_fill s7 nL⟩
          rw [upd_same, g1, List.replicate_succ']
        · rintro H7 ⟨h7, s7⟩
          refine ⟨Nat.le_of_lt (small1000 (by show 1 ≤ 1000; decide)), fun a1 na1 => ?_⟩
          have s8 : Same H7 (upd H7 a1 (.lst [V.int 1])) := same_new na1
          have h8 : (upd H7 a1 (.lst [V.int 1])) a1 = some (.lst [V.int 1]) := upd_same
          generalize upd H7 a1 (.lst [V.int 1]) = H8 at s8 h8 ⊢
          have s08 := ((s05.trans s6).trans s7).trans s8
          refine ⟨v2, rfl, N', v2, d2, renS S o ts, rfl, hd2.same s08, hn2, hR, by omega, by omega, fun H9 lz s9 rw9 => ?_⟩
          obtain ⟨zs, hlz, _, _, _, pr9⟩ := rw9
          have lzs : zs.length = qs.length := (plen pr9).trans lqs.symm
          have hL9 := (s8.trans s9) _ _ h7
          rw [List.length_map] at hL9
          refine ⟨lz, _, rfl, .inl (.inl (.inl hlz)), a1, _, _, rfl, rfl, s9 _ _ h8, by rw [List.length_map]; omega, by rw [List.length_map]; omega, by rw [List.length_map]; exact Nat.le_of_lt (small1000 (by simp only [List.length_cons, List.length_nil]; omega)), fun e1 ne1 => ?_⟩
          rw [List.length_map, Int.toNat_natCast, lzs]
          have ef : (List.replicate qs.length [V.int 1]).flatten = (List.replicate qs.length (1 : Int)).map V.int := by
            rw [List.map_replicate, List.flatten_replicate_singleton]
          rw [ef]
          have hL9 : H9 L = some (.lst ((List.replicate qs.length (1 : Int)).map V.int)) := by
            rw [hL9, List.map_replicate]
          have s10 : Same H9 (upd H9 e1 (.lst ((List.replicate qs.length (1 : Int)).map V.int))) := same_new ne1
          have sh : SeqAt.shaped (.list ((List.replicate qs.length (1 : Int)).map PyData.int)) = true := by
            have l := ints_lay (List.replicate qs.length (1 : Int))
            show (PyData.canLay0 (.list _) && decide (PyData.depth (.list _) ≤ 64)) = true
            rw [Bool.and_eq_true]
            exact ⟨by simp only [PyData.canLay0]; exact l.1, decide_eq_true (by simp only [PyData.depth]; have := l.2; omega)⟩
          refine ⟨.list ((List.replicate qs.length (1 : Int)).map PyData.int), .list ((List.replicate qs.length (1 : Int)).map PyData.int), .lst (.inl (.inl (s10 _ _ hL9))) (dp_ints _), .lst (.inl (.inl upd_same)) (dp_ints _), sh, sh, ?_⟩
          rw [shaped_refl sh]
          exact q _ ((s08.trans s9).trans s10)
end
end Bk

/-! What is called otherwise, is what the renamed space tells. -/
namespace Bk
open PySem PySem.Spec PyProof.Rows L2 RZ
theorem srtC_up {q : Bool} (l : List Nat) : (srtC q l).Pairwise (· ≤ ·) := by
  refine (PySem.W.sort_pairwise (PySem.W.sortLe_total _ _ _) l).imp fun {a b} h => ?_
  have h : (!PySem.W.dataLt (encC q b) (encC q a)) = true := h
  rw [(encC_ord q).lt] at h
  have : ¬ b < a := fun z => by rw [decide_eq_true z] at h; cases h
  omega
theorem Calls.srt {f : Nat → Nat} {l l' : List Nat} {lk lk' : Nat → List Nat} (c : Calls f l l' lk lk') (up : l.Pairwise (· < ·)) (up' : l'.Pairwise (· < ·)) {q : Bool} {r : List Nat} (hs : r.Sublist l) : srtC q (r.map f) = calR l' f r := by
  refine calR_of up' (fun x hx => c.into x (hs.subset hx)) ?_ (List.mergeSort_perm ..) (srtC_up _)
  refine List.pairwise_map.mpr (List.Pairwise.imp_of_mem (fun {a b} ha hb h e => ?_) (up.sublist hs))
  have := c.inj a (hs.subset ha) b (hs.subset hb) e
  omega
theorem cld_eq {o : List Nat} {ts : List Trn} {q : Bool} {rows rows' : List (List Nat)} {l' : List Nat} (hf : ∀ r ∈ rows, srtC q (r.map (clC o ts q)) = calR l' (clC o ts q) r) (pm : (rows.map (calR l' (clC o ts q))).Perm rows') (up : rows'.Pairwise HdLt) : cldR o ts q rows = rows' := by
  unfold cldR
  rw [List.map_congr_left hf]
  exact sort_rows (encC_ord q) pm up
theorem rowsE_sub {E : Nat → Nat → Bool} (h : EqvB E) {l : List Nat} (up : l.Pairwise (· < ·)) {r : List Nat} (hr : r ∈ rowsE E l) : r.Sublist l := by
  obtain ⟨x, _, rfl⟩ := (rowsE_mem h up).mp hr
  exact List.filter_sublist
section
variable {S : Spc} {o : List Nat} {ts : List Trn}
theorem crn_cld (hG : Good S) (hn : Names S.length o ts) : cldR o ts false (crnE S) = crnE (renS S o ts) := by
  have hR := good_ren hG hn
  refine cld_eq (l' := List.range (4 * (renS S o ts).length)) (fun r hr => ?_) (crn_called hG hn) (rows_up (hangB_eqv fun _ _ z => lkC_symm hR z) List.pairwise_lt_range)
  exact (callsC hG hn).srt List.pairwise_lt_range List.pairwise_lt_range (rowsE_sub (hangB_eqv fun _ _ z => lkC_symm hG z) List.pairwise_lt_range hr)
theorem fac_cld (hG : Good S) (hn : Names S.length o ts) : cldR o ts false (facE S) = facE (renS S o ts) := by
  have hR := good_ren hG hn
  refine cld_eq (l' := List.range (4 * (renS S o ts).length)) (fun r hr => ?_) (fac_called hG hn) (rows_up (hangB_eqv fun _ _ z => lkF_symm hR z) List.pairwise_lt_range)
  exact (callsF hG hn).srt List.pairwise_lt_range List.pairwise_lt_range (rowsE_sub (hangB_eqv fun _ _ z => lkF_symm hG z) List.pairwise_lt_range hr)
theorem srtL_one (q : Bool) (r : List Nat) : srtL q [r] = [r] := by
  unfold srtL
  exact List.perm_singleton.mp (List.mergeSort_perm ..)
theorem bor_cld (hG : Good S) (hn : Names S.length o ts) : cldR o ts false [frC S] = [frC (renS S o ts)] := by
  unfold cldR
  rw [List.map_singleton, srtL_one, free_called hG hn]
  rw [show srtC false ((frC S).map (clC o ts false)) = calR (List.range (4 * (renS S o ts).length)) (calT o ts) (frC S) from (callsC hG hn).srt List.pairwise_lt_range List.pairwise_lt_range List.filter_sublist]
theorem les_cl (hG : Good S) {x : Nat} (hx : x ∈ dirs S) : lesR (clQ S x) (srtC true ((clQ S x).map flp)) = eiR S (clQ S x) := by
  have e : srtC true ((clQ S x).map flp) = flR S (clQ S x) := (callsFlp hG).srt (dirs_up S) (dirs_up S) List.filter_sublist
  rw [e]
  unfold lesR eiR
  rw [flR_cl hG hx]
  obtain ⟨z, t, e1, z1, g1, _⟩ := clQ_head hG hx
  obtain ⟨w, u, e2, w1, g2, _⟩ := clQ_head hG (dirs_flp x hx)
  have hz : (clQ S x).headD 0 = z := by rw [e1]; rfl
  have hw : (clQ S (flp x)).headD 0 = w := by rw [e2]; rfl
  rw [hz, hw]
  rcases Nat.lt_trichotomy w z with c | c | c
  · rw [if_pos c, if_pos (hd_lt (encC_ord true) ⟨w, u, z, t, e2, e1, c⟩)]
  · have : clQ S (flp x) = clQ S x := clQ_hd hG (dirs_flp x hx) hx (by rw [hz, hw, c])
    rw [this, ite_self, ite_self]
  · rw [if_neg (show ¬ w < z by omega)]
    have h := hd_le (encC_ord true) (r := clQ S x) (r' := clQ S (flp x)) ⟨z, t, w, u, e1, e2, c⟩
    have h : (!PySem.W.dataLt (encL (encC true) (clQ S (flp x))) (encL (encC true) (clQ S x))) = true := h
    rw [if_neg (fun y => by rw [y] at h; cases h)]
theorem eit_self (hG : Good S) : eitR (edgE S) = edgE S := by
  unfold eitR
  rw [List.map_congr_left (g := id) fun r hr => ?_, List.map_id]
  · exact sort_rows (encC_ord true) (.refl _) (edgE_up hG)
  · obtain ⟨x, hx, rfl, _⟩ := (edgE_mem hG).mp hr
    rw [les_cl hG hx, eiR_keep hG hr]
    rfl
theorem eit_cld (hG : Good S) (hn : Names S.length o ts) : eitR (cldR o ts true (edgE S)) = edgE (renS S o ts) := by
  have hR := good_ren hG hn
  have c := callsQ hG hn
  have hf : ∀ r ∈ edgE S, srtC true (r.map (clC o ts true)) = calR (dirs (renS S o ts)) (calQ o ts) r := fun r hr => by
    obtain ⟨x, hx, rfl, _⟩ := (edgE_mem hG).mp hr
    exact c.srt (dirs_up S) (dirs_up _) List.filter_sublist
  have pm : (cldR o ts true (edgE S)).Perm ((edgE S).map (calR (dirs (renS S o ts)) (calQ o ts))) := by
    unfold cldR
    rw [List.map_congr_left hf]
    exact List.mergeSort_perm ..
  unfold eitR
  refine sort_rows (encC_ord true) ?_ (edgE_up hR)
  refine (pm.map _).trans ?_
  rw [List.map_map]
  refine .trans (.of_eq (List.map_congr_left fun r hr => ?_)) (edges_called hG hn)
  obtain ⟨x, hx, rfl, _⟩ := (edgE_mem hG).mp hr
  show lesR (calR (dirs (renS S o ts)) (calQ o ts) (clQ S x)) _ = eiR (renS S o ts) (calR (dirs (renS S o ts)) (calQ o ts) (clQ S x))
  rw [show calR (dirs (renS S o ts)) (calQ o ts) (clQ S x) = clQ (renS S o ts) (calQ o ts x) from c.row hx]
  exact les_cl hR (c.into x hx)
/-! parts, as rows of numbers -/
def srtN (rows : List (List Nat)) : List (List Nat) := rows.mergeSort (PySem.W.dataLe false (encL fun n => PyData.int (n : Nat)))
theorem par_srt (hG : Good S) (hn : Names S.length o ts) : srtN ((parE S).map (calR (List.range (renS S o ts).length) (plO o))) = parE (renS S o ts) := by
  have hR := good_ren hG hn
  exact sort_rows ordI (par_called hG hn) (rows_up (hangB_eqv (lkP_symm hR)) List.pairwise_lt_range)
theorem par_row (hG : Good S) (hn : Names S.length o ts) {r : List Nat} (hr : r ∈ parE S) {l2 : List Nat} (pm : l2.Perm (r.map (plO o))) (up : l2.Pairwise (· ≤ ·)) : l2 = calR (List.range (renS S o ts).length) (plO o) r := by
  have c := callsP hG hn
  have hs := rowsE_sub (hangB_eqv (lkP_symm hG)) List.pairwise_lt_range hr
  refine calR_of List.pairwise_lt_range (fun x hx => c.into x (hs.subset hx)) ?_ pm up
  refine List.pairwise_map.mpr (List.Pairwise.imp_of_mem (fun {a b} ha hb h e => ?_) (List.pairwise_lt_range.sublist hs))
  have := c.inj a (hs.subset ha) b (hs.subset hb) e
  omega
end
end Bk

/-! The law: a space renamed tells the same, otherwise called. -/
namespace Bk
open PySem PySem.Spec PyProof.Rows L2 RZ
local macro_rules | `(tactic| walk_at "g") => `(tactic| (repeat first | refine ⟨_, rfl, ?_⟩ | refine ⟨cpow, ?_⟩ | refine ⟨wideM, ?_⟩ | refine ⟨_, _, rfl, rfl, ?_⟩ | refine ⟨rfl, ?_⟩))
/-! rows of numbers, sorted -/
def RwI (H : Hp) (v : V) (r : List Nat) : Prop := ∃ p, v = .ref p ∧ H p = some (.lst (r.map intV))
def RiN (D : Addr) (H : Hp) (v : V) (r : List Nat) : Prop := ∃ p, v = .ref p ∧ p ≠ D ∧ H p = some (.lst (r.map intV))
theorem dp_nats {K : PySem.W.Frag} {H : Hp} (r : List Nat) : DpAll K H (r.map intV) (r.map fun n => PyData.int (n : Nat)) := by
  have h := dp_ints (K := K) (H := H) (r.map fun n : Nat => (n : Int))
  rw [List.map_map, List.map_map] at h
  exact h
theorem rwi_dp {K : PySem.W.Frag} (H : Hp) (v : V) (r : List Nat) (h : RwI H v r) : ∃ p, v = .ref p ∧ Dp K H v (encL (fun n => PyData.int (n : Nat)) r) := by
  obtain ⟨p, rfl, h⟩ := h
  exact ⟨p, rfl, .lst (.inl (.inl h)) (dp_nats r)⟩
theorem nats_lay (r : List Nat) : PyData.canLayAll0 (r.map fun n => PyData.int (n : Nat)) = true ∧ PyData.depthAll (r.map fun n => PyData.int (n : Nat)) ≤ 1 := by
  have h := ints_lay (r.map fun n : Nat => (n : Int))
  rw [List.map_map] at h
  exact h
theorem encI_deep (r : List Nat) : (encL (fun n => PyData.int (n : Nat)) r).depth ≤ 4 := by
  unfold encL
  rw [PyData.depth]
  have := (nats_lay r).2
  omega
theorem rwsi_shaped (rows : List (List Nat)) : SeqAt.shaped (.list (rows.map (encL fun n => PyData.int (n : Nat)))) = true := by
  have go : ∀ rows : List (List Nat), PyData.canLayAll0 (rows.map (encL fun n => PyData.int (n : Nat))) = true ∧ PyData.depthAll (rows.map (encL fun n => PyData.int (n : Nat))) ≤ 2 := by
    intro rows
    induction rows with
    | nil => simp [PyData.canLayAll0, PyData.depthAll]
    | cons r rows ih =>
      have l := nats_lay r
      simp only [List.map_cons, PyData.canLayAll0, PyData.depthAll, encL, PyData.canLay0, PyData.depth, l.1, ih.1, Bool.and_self, true_and]
      have := l.2
      have := ih.2
      unfold encL at this
      omega
  have l := go rows
  show (PyData.canLay0 (.list _) && decide (PyData.depth (.list _) ≤ 64)) = true
  rw [Bool.and_eq_true]
  exact ⟨by simp only [PyData.canLay0]; exact l.1, decide_eq_true (by simp only [PyData.depth]; have := l.2; omega)⟩
theorem rwsi_dp {K : PySem.W.Frag} {H : Hp} {vs : List V} {rows : List (List Nat)} (h : Paired (RwI H) vs rows) : DpAll K H vs (rows.map (encL fun n => PyData.int (n : Nat))) := by
  induction h with
  | nil => exact .nil
  | cons x t ih =>
    obtain ⟨p, rfl, h⟩ := x
    exact .cons (.lst (.inl (.inl h)) (dp_nats _)) ih
theorem rowsI_rwi {H H' : Hp} {l : Addr} {rows : List (List Nat)} (h : RowsAt moI H H' l rows) : ∃ ps : List V, H' l = some (.lst ps) ∧ Paired (RwI H') ps rows := by
  obtain ⟨ps, h1, _, _, _, hp⟩ := h
  have go : ∀ {ps : List Addr} {rows : List (List Nat)}, Paired (fun p row => H p = none ∧ ∃ vs, H' p = some (.lst vs) ∧ Paired (moI.at H') vs row) ps rows → Paired (RwI H') (ps.map V.ref) rows := by
    intro ps rows hp
    induction hp with
    | nil => exact .nil
    | cons x t ih =>
      obtain ⟨_, vs, e, g⟩ := x
      have ev := moI_list g
      subst ev
      exact .cons ⟨_, rfl, e⟩ ih
  exact ⟨_, h1, go hp⟩
/-! unlike, never -/
theorem neRw {K : PySem.W.Frag} {H : Hp} {x y : V} {rows : List (List (List Int))} {Q : VK} (hx : RwsV K H x rows) (hy : RwsV K H y rows) (q : Q (.bl false) H) : rNeD K x y H Q :=
  ⟨rwsI rows, rwsI rows, hx.dp, hy.dp, rws_shaped _, rws_shaped _, by rw [shaped_refl (rws_shaped _)]; exact q⟩
theorem tupI_shaped (t : List Int) : SeqAt.shaped (tupI t) = true := by
  have l := ints_lay t
  show ((tupI t).canLay0 && decide ((tupI t).depth ≤ 64)) = true
  rw [Bool.and_eq_true]
  exact ⟨by simp only [tupI, PyData.canLay0]; exact l.1, decide_eq_true (by simp only [tupI, PyData.depth]; have := l.2; omega)⟩
theorem neTp {K : PySem.W.Frag} {H : Hp} {a b : Addr} {t : List Int} {Q : VK} (hx : FT H a (t.map V.int)) (hy : FT H b (t.map V.int)) (q : Q (.bl false) H) : rNeD K (.ref a) (.ref b) H Q :=
  ⟨tupI t, tupI t, .tup hx.sqt (dp_ints _), .tup hy.sqt (dp_ints _), tupI_shaped _, tupI_shaped _, by rw [shaped_refl (tupI_shaped _)]; exact q⟩
theorem bord_dec (S : Spc) : bordR S = decR moT [frC S] := by
  unfold bordR decR freeL frC
  rw [List.map_singleton, List.map_map]
  rfl
/-! how long rows are -/
theorem rows4 {E : Nat → Nat → Bool} (h : EqvB E) {N : Nat} (hN : N ≤ 24) : (rowsE E (List.range (4 * N))).length ≤ 1000 ∧ ∀ r ∈ rowsE E (List.range (4 * N)), r.length ≤ 1000 ∧ ∀ n ∈ r, n / unC false < N := by
  have nd : (List.range (4 * N)).Pairwise (· ≠ ·) := List.pairwise_lt_range.imp fun z => Nat.ne_of_lt z
  have l := (rowsE_flat h nd).2.2
  rw [List.length_range] at l
  refine ⟨by omega, fun r hr => ?_⟩
  have hs := rowsE_sub h List.pairwise_lt_range hr
  have := hs.length_le
  rw [List.length_range] at this
  refine ⟨by omega, fun n hn => ?_⟩
  have := List.mem_range.mp (hs.subset hn)
  show n / 4 < N
  omega
theorem edge_fine {S : Spc} (hG : Good S) (hN : S.length ≤ 24) : (edgE S).length ≤ 1000 ∧ ∀ r ∈ edgE S, r.length ≤ 1000 ∧ ∀ n ∈ r, n / unC true < S.length := by
  have ld := dirs_len S
  have l := (rowsE_flat (lkQ_eqv hG) ((dirs_up S).imp fun z => Nat.ne_of_lt z)).2.2
  have l2 : (edgE S).length ≤ (wayE S).length := List.length_filter_le _ _
  have l : (wayE S).length ≤ (dirs S).length := l
  refine ⟨by omega, fun r hr => ?_⟩
  obtain ⟨x, hx, rfl, _⟩ := (edgE_mem hG).mp hr
  have := List.length_filter_le (hgB (lkQ S) x) (dirs S)
  refine ⟨Nat.le_trans this (by omega), fun n hn => ?_⟩
  have := (dirs_mem.mp (List.mem_filter.mp hn).1).1
  show n / 16 < S.length
  omega
theorem cldR_fine {o : List Nat} {ts : List Trn} {q : Bool} {rows : List (List Nat)} (h1 : rows.length ≤ 1000) (h2 : ∀ r ∈ rows, r.length ≤ 1000) : (cldR o ts q rows).length ≤ 1000 ∧ ∀ r ∈ cldR o ts q rows, r.length ≤ 1000 := by
  unfold cldR srtL
  refine ⟨by rw [List.length_mergeSort, List.length_map]; exact h1, fun r hr => ?_⟩
  rw [List.mem_mergeSort] at hr
  obtain ⟨r0, h0, rfl⟩ := List.mem_map.mp hr
  unfold srtC
  rw [List.length_mergeSort, List.length_map]
  exact h2 r0 h0
/-- what the names are, at a heap -/
structure NmC (H : Hp) (po pt pp : Addr) (n : Nat) (o : List Nat) (ws : List V) (ts : List Trn) : Prop where
  ho : H po = some (.lst (trnV o))
  ht : H pt = some (.lst ws)
  hp : H pp = some (.lst (trnV ((List.range n).map (plO o))))
  pw : Paired (TAt H) ws ts
theorem NmC.same {H H' : Hp} {po pt pp : Addr} {n : Nat} {o : List Nat} {ws : List V} {ts : List Trn} (h : NmC H po pt pp n o ws ts) (s : Same H H') : NmC H' po pt pp n o ws ts :=
  ⟨s _ _ h.ho, s _ _ h.ht, s _ _ h.hp, pmono h.pw fun _ _ z => z.mono s.tups⟩
section
variable {P : Program} {w : World} {K : PySem.W.Frag} {mg : Str → Option Value} {base : Heap}
abbrev slaw : Stmt := topS 50
abbrev Nlaw : List Str := ["script", "reel", "k", "space", "left", "order", "turns", "places", "other", "block", "part"]
theorem sclaw : FnScope Nlaw ["script"] (defScope slaw) := ⟨rfl, rfl, rfl, by decide +kernel, rfl, by decide +kernel, by decide +kernel⟩
def spLaw (K : PySem.W.Frag) : Sp := fun vs H Q _ => ∃ (a : Addr) (ns : List Int), vs = [.ref a] ∧ SqL K H a (ns.map V.int) ∧ ns.length ≤ 63 ∧ ∀ H', Q (.bl true) H'
theorem ok_law {f fR fD fO fH fW fX fN fU fC fA fF fB fP fI fE : Addr} {fd fdR fdD fdO fdH fdW fdX fdN fdU fdC fdA fdF fdB fdP fdI fdE : FuncData} (F : Fun K "law" "law" slaw f fd)
    (F_law_reel : Fun K "_law_reel" "_law_reel" s_law_reel fR fdR) (g_law_reel : mg "_law_reel" = some (.ref fR)) (b_law_reel : Binds K fdR ["script"] []) (G_law_reel : FnOk P w K mg base CX0 1 fR fdR ["script"] (spReel K))
    (F_law_draw : Fun K "_law_draw" "_law_draw" s_law_draw fD fdD) (g_law_draw : mg "_law_draw" = some (.ref fD)) (b_law_draw : Binds K fdD ["reel", "many"] []) (G_law_draw : FnOk P w K mg base CX0 1 fD fdD ["reel", "many"] spDraw)
    (F_law_blocks : Fun K "_law_blocks" "_law_blocks" s_law_blocks fO fdO) (g_law_blocks : mg "_law_blocks" = some (.ref fO)) (b_law_blocks : Binds K fdO ["reel", "most"] []) (G_law_blocks : FnOk P w K mg base CX0 4 fO fdO ["reel", "most"] spBlocks)
    (F_law_shut : Fun K "_law_shut" "_law_shut" s_law_shut fH fdH) (g_law_shut : mg "_law_shut" = some (.ref fH)) (b_law_shut : Binds K fdH ["blocks"] []) (G_law_shut : FnOk P w K mg base CX0 1 fH fdH ["blocks"] spShut)
    (F_law_turns : Fun K "_law_turns" "_law_turns" s_law_turns fW fdW) (g_law_turns : mg "_law_turns" = some (.ref fW)) (b_law_turns : Binds K fdW [] []) (G_law_turns : FnOk P w K mg base CX0 1 fW fdW [] spTurns)
    (Frenamed : Fun K "renamed" "renamed" srenamed fX fdX) (grenamed : mg "renamed" = some (.ref fX)) (brenamed : Binds K fdX ["space", "order", "turns"] []) (Grenamed : FnOk P w K mg base CX0 7 fX fdX ["space", "order", "turns"] spRenamed)
    (Fcounted : Fun K "counted" "counted" scounted fN fdN) (gcounted : mg "counted" = some (.ref fN)) (bcounted : Binds K fdN ["space"] []) (Gcounted : FnOk P w K mg base CX0 8 fN fdN ["space"] spCounted)
    (F_law_turning_right : Fun K "_law_turning_right" "_law_turning_right" s_law_turning_right fU fdU) (g_law_turning_right : mg "_law_turning_right" = some (.ref fU)) (b_law_turning_right : Binds K fdU ["space", "other", "names"] []) (G_law_turning_right : FnOk P w K mg base CX0 8 fU fdU ["space", "other", "names"] spTurnRight)
    (Fcorners_of : Fun K "corners_of" "corners_of" scorners_of fC fdC) (gcorners_of : mg "corners_of" = some (.ref fC)) (bcorners_of : Binds K fdC ["space"] []) (Gcorners_of : FnOk P w K mg base CX0 7 fC fdC ["space"] spCornersOf)
    (F_law_called : Fun K "_law_called" "_law_called" s_law_called fA fdA) (g_law_called : mg "_law_called" = some (.ref fA)) (b_law_called : Binds K fdA ["rows", "places", "turns"] []) (G_law_called : FnOk P w K mg base CX0 1 fA fdA ["rows", "places", "turns"] (spCalled K))
    (Ffaces_of : Fun K "faces_of" "faces_of" sfaces_of fF fdF) (gfaces_of : mg "faces_of" = some (.ref fF)) (bfaces_of : Binds K fdF ["space"] []) (Gfaces_of : FnOk P w K mg base CX0 7 fF fdF ["space"] spFacesOf)
    (Fborder : Fun K "border" "border" sborder fB fdB) (gborder : mg "border" = some (.ref fB)) (bborder : Binds K fdB ["space"] []) (Gborder : FnOk P w K mg base CX0 7 fB fdB ["space"] spBorder)
    (Fparts_of : Fun K "parts_of" "parts_of" sparts_of fP fdP) (gparts_of : mg "parts_of" = some (.ref fP)) (bparts_of : Binds K fdP ["space"] []) (Gparts_of : FnOk P w K mg base CX0 7 fP fdP ["space"] spPartsOf)
    (F_law_either : Fun K "_law_either" "_law_either" s_law_either fI fdI) (g_law_either : mg "_law_either" = some (.ref fI)) (b_law_either : Binds K fdI ["rows"] []) (G_law_either : FnOk P w K mg base CX0 1 fI fdI ["rows"] (spEither K))
    (Fedges_of : Fun K "edges_of" "edges_of" sedges_of fE fdE) (gedges_of : mg "edges_of" = some (.ref fE)) (bedges_of : Binds K fdE ["space"] []) (Gedges_of : FnOk P w K mg base CX0 7 fE fdE ["space"] spEdgesOf)
    (m_range : mg "range" = none) (m_len : mg "len" = none) (m_min : mg "min" = none) (m_int : mg "int" = none) (m_list : mg "list" = none) (m_sorted : mg "sorted" = none) :
    FnG P w K mg base 9 f fd ["script"] (spLaw K) := by
  refine fnG_of F sclaw (fun vs H Q E h => ?_) (fun cdv A outer s H vs Q E hg hr h => ?_)
  · obtain ⟨a, ns, rfl, _⟩ := h
    rfl
  · obtain ⟨a, ns, rfl, hS, hl, q⟩ := h
    have nd := sclaw.nd
    refine ⟨_, (pss_cons (ps_set (i := 1) nd rfl (.inr rfl) (pe_call G_law_reel (hr.mono (by first | decide | omega)) (by rfl) g_law_reel F_law_reel.kp b_law_reel .nil pass0 (pa_cons (pv 0) pa_nil)))
      (pss_cons (ps_for PassesOwn.never rfl (pi_range1 (by rfl) m_range (pa_cons (pe_op op_add pe_int (pe_callB (call_min2 rfl) (by rfl) m_min (by decide +kernel) (pa_cons (pe_callB (kLen K rfl) (by rfl) m_len (by decide +kernel) (pa_cons (pv 0) pa_nil)) (pa_cons pe_int pa_nil)))) pa_nil)) (pg_name (i := 2) nd rfl (.inl rfl)) (pss_cons (ps_set (i := 3) nd rfl (.inl rfl) (pe_call G_law_shut (hr.mono (by first | decide | omega)) (by rfl) g_law_shut F_law_shut.kp b_law_shut .nil pass0 (pa_cons (pe_call G_law_blocks (hr.mono (by first | decide | omega)) (by rfl) g_law_blocks F_law_blocks.kp b_law_blocks .nil pass0 (pa_cons (pv 1) (pa_cons (pe_ix (kIxL K rfl) (pe_lst (pa_cons pe_int (pa_cons pe_int pa_nil))) (pe_callTy call_int1 (by rfl) m_int (by decide +kernel) (pa_cons (pe_cmpR op_eq (pe_call G_law_draw (hr.mono (by first | decide | omega)) (by rfl) g_law_draw F_law_draw.kp b_law_draw .nil pass0 (pa_cons (pv 1) (pa_cons pe_int pa_nil))) pe_int (nomark _)) pa_nil)) (fun _ _ => rfl)) pa_nil))) pa_nil)))
      (pss_cons (ps_set (i := 4) nd rfl (.inr rfl) (pe_listRg rfl (by rfl) m_list (prg_1 (by rfl) m_range (pe_callB (kLen K rfl) (by rfl) m_len (by decide +kernel) (pa_cons (pv 3) pa_nil)))))
      (pss_cons (ps_set (i := 5) nd rfl (.inr rfl) (pe_lc (own := [("block", 9)]) (g := gName 9) (tt := tYes) rfl nd (kPiT K rfl (pi_tup (pv 3))) (blkOk_by (own := [("block", 9)]) (N := Nlaw) (sc := defScope slaw) (by decide +kernel)) (fun _ _ _ _ _ => (pg_name (i := 9) nd rfl (Or.inl rfl))) (fun _ _ _ _ _ => pts_nil) (fun _ _ _ _ _ => (kBM K rfl (pe_bm PySem.F.plainAttrs_list PySem.F.slot_list_pop PySem.F.type_list_pop mt_popAt (pv 4) (pa_cons (pe_call G_law_draw (hr.mono (by first | decide | omega)) (by rfl) g_law_draw F_law_draw.kp b_law_draw .nil pass0 (pa_cons (pv 1) (pa_cons (pe_callB (kLen K rfl) (by rfl) m_len (by decide +kernel) (pa_cons (pv 4) pa_nil)) pa_nil))) pa_nil))))))
      (pss_cons (ps_setLc (i := 6) (own := [("block", 9)]) (g := gName 9) (tt := tYes) rfl nd rfl rfl (sw_true rfl rfl rfl (by decide +kernel)) (kPiT K rfl (pi_tup (pv 3))) (blkOk_by (own := [("block", 9)]) (N := Nlaw) (sc := defScope slaw) (by decide +kernel)) (fun _ _ _ _ _ => (pg_name (i := 9) nd rfl (Or.inl rfl))) (fun _ _ _ _ _ => pts_nil) (fun _ _ _ _ _ => (pe_ix (kIxL K rfl) (pe_call0 G_law_turns (hr.mono (by first | decide | omega)) (by rfl) g_law_turns F_law_turns.kp b_law_turns .nil pass0) (pe_call G_law_draw (hr.mono (by first | decide | omega)) (by rfl) g_law_draw F_law_draw.kp b_law_draw .nil pass0 (pa_cons (pv 1) (pa_cons pe_int pa_nil))) (fun _ _ => rfl))))
      (pss_cons (ps_set (i := 7) nd rfl (.inr rfl) (pe_lc (own := [("block", 9)]) (g := gName 9) (tt := tYes) rfl nd (pi_range1 (by rfl) m_range (pa_cons (pe_callB (kLen K rfl) (by rfl) m_len (by decide +kernel) (pa_cons (pv 3) pa_nil)) pa_nil)) (blkOk_by (own := [("block", 9)]) (N := Nlaw) (sc := defScope slaw) (by decide +kernel)) (fun _ _ _ _ _ => (pg_name (i := 9) nd rfl (Or.inl rfl))) (fun _ _ _ _ _ => pts_nil) (fun _ _ _ _ _ => (kBM K rfl (pe_bm PySem.F.plainAttrs_list PySem.F.slot_list_index PySem.F.type_list_index (kIndexI K rfl) (pv 5) (pa_cons (pv 9) pa_nil))))))
      (pss_cons (ps_set (i := 8) nd rfl (.inl rfl) (pe_call Grenamed (hr.mono (by first | decide | omega)) (by rfl) grenamed Frenamed.kp brenamed .nil pass0 (pa_cons (pv 3) (pa_cons (pv 5) (pa_cons (pv 6) pa_nil)))))
      (pss_cons (ps_if (pw_or (pt_cmpR (kNeD K rfl hr.units) (pe_call Gcounted (hr.mono (by first | decide | omega)) (by rfl) gcounted Fcounted.kp bcounted .nil pass0 (pa_cons (pv 8) pa_nil)) (pe_call Gcounted (hr.mono (by first | decide | omega)) (by rfl) gcounted Fcounted.kp bcounted .nil pass0 (pa_cons (pv 3) pa_nil)) (nomark _)) (pw_or1 (pt_not (pt_val (pe_call G_law_turning_right (hr.mono (by first | decide | omega)) (by rfl) g_law_turning_right F_law_turning_right.kp b_law_turning_right .nil pass0 (pa_cons (pv 3) (pa_cons (pv 8) (pa_cons (pe_tupF (pa_cons (pv 5) (pa_cons (pv 6) (pa_cons (pv 7) pa_nil)))) pa_nil)))))))).pt (pss_one (ps_ret pe_bl)) pss_nil)
      (pss_cons (ps_if (pt_cmpR (kNeD K rfl hr.units) (pe_call Gcorners_of (hr.mono (by first | decide | omega)) (by rfl) gcorners_of Fcorners_of.kp bcorners_of .nil pass0 (pa_cons (pv 8) pa_nil)) (pe_call G_law_called (hr.mono (by first | decide | omega)) (by rfl) g_law_called F_law_called.kp b_law_called .nil pass0 (pa_cons (pe_call Gcorners_of (hr.mono (by first | decide | omega)) (by rfl) gcorners_of Fcorners_of.kp bcorners_of .nil pass0 (pa_cons (pv 3) pa_nil)) (pa_cons (pv 7) (pa_cons (pv 6) pa_nil)))) (nomark _)) (pss_one (ps_ret pe_bl)) pss_nil)
      (pss_cons (ps_if (pt_cmpR (kNeD K rfl hr.units) (pe_call Gfaces_of (hr.mono (by first | decide | omega)) (by rfl) gfaces_of Ffaces_of.kp bfaces_of .nil pass0 (pa_cons (pv 8) pa_nil)) (pe_call G_law_called (hr.mono (by first | decide | omega)) (by rfl) g_law_called F_law_called.kp b_law_called .nil pass0 (pa_cons (pe_call Gfaces_of (hr.mono (by first | decide | omega)) (by rfl) gfaces_of Ffaces_of.kp bfaces_of .nil pass0 (pa_cons (pv 3) pa_nil)) (pa_cons (pv 7) (pa_cons (pv 6) pa_nil)))) (nomark _)) (pss_one (ps_ret pe_bl)) pss_nil)
      (pss_cons (ps_if (pt_cmpR (kNeD K rfl hr.units) (pe_lst (pa_cons (pe_call Gborder (hr.mono (by first | decide | omega)) (by rfl) gborder Fborder.kp bborder .nil pass0 (pa_cons (pv 8) pa_nil)) pa_nil)) (pe_call G_law_called (hr.mono (by first | decide | omega)) (by rfl) g_law_called F_law_called.kp b_law_called .nil pass0 (pa_cons (pe_lst (pa_cons (pe_call Gborder (hr.mono (by first | decide | omega)) (by rfl) gborder Fborder.kp bborder .nil pass0 (pa_cons (pv 3) pa_nil)) pa_nil)) (pa_cons (pv 7) (pa_cons (pv 6) pa_nil)))) (nomark _)) (pss_one (ps_ret pe_bl)) pss_nil)
      (pss_cons (ps_if (pt_cmpR (kNeD K rfl hr.units) (pe_call Gparts_of (hr.mono (by first | decide | omega)) (by rfl) gparts_of Fparts_of.kp bparts_of .nil pass0 (pa_cons (pv 8) pa_nil)) (pe_callB (kSortG (enc := encL fun n => PyData.int (n : Nat)) (At := RwI) rfl rwi_dp (encL_alike ordI) (encL_key _) encI_deep (Nat.lt_of_le_of_lt (Nat.add_le_add_left (by decide) _) hr.units)) (by rfl) m_sorted (by decide +kernel) (pa_cons (pe_lc (own := [("part", 10)]) (g := gName 10) (tt := tYes) rfl nd (kPiL K rfl (pi_list (pe_call Gparts_of (hr.mono (by first | decide | omega)) (by rfl) gparts_of Fparts_of.kp bparts_of .nil pass0 (pa_cons (pv 3) pa_nil)))) (blkOk_by (own := [("part", 10)]) (N := Nlaw) (sc := defScope slaw) (by decide +kernel)) (fun _ _ _ _ _ => (pg_name (i := 10) nd rfl (Or.inl rfl))) (fun _ _ _ _ _ => pts_nil) (fun _ _ _ _ _ => (pe_callB (kSorted K rfl) (by rfl) m_sorted (by decide +kernel) (pa_cons (pe_lc (own := [("block", 9)]) (g := gName 9) (tt := tYes) rfl nd (kPiL K rfl (pi_list (pv 10))) (blkOk_by (own := [("block", 9)]) (N := Nlaw) (sc := _) (by rfl)) (fun _ _ _ _ _ => (pg_name (i := 9) nd rfl (Or.inl rfl))) (fun _ _ _ _ _ => pts_nil) (fun _ _ _ _ _ => (pe_ix (kIxL K rfl) (pv 7) (pv 9) (fun _ _ => rfl)))) pa_nil)))) pa_nil)) (nomark _)) (pss_one (ps_ret pe_bl)) pss_nil)
      (pss_one (ps_if (pt_cmpR (kNeD K rfl hr.units) (pe_call G_law_either (hr.mono (by first | decide | omega)) (by rfl) g_law_either F_law_either.kp b_law_either .nil pass0 (pa_cons (pe_call Gedges_of (hr.mono (by first | decide | omega)) (by rfl) gedges_of Fedges_of.kp bedges_of .nil pass0 (pa_cons (pv 8) pa_nil)) pa_nil)) (pe_call G_law_either (hr.mono (by first | decide | omega)) (by rfl) g_law_either F_law_either.kp b_law_either .nil pass0 (pa_cons (pe_call G_law_called (hr.mono (by first | decide | omega)) (by rfl) g_law_called F_law_called.kp b_law_called .nil pass0 (pa_cons (pe_call Gedges_of (hr.mono (by first | decide | omega)) (by rfl) gedges_of Fedges_of.kp bedges_of .nil pass0 (pa_cons (pv 3) pa_nil)) (pa_cons (pv 7) (pa_cons (pv 6) pa_nil)))) pa_nil)) (nomark _)) (pss_one (ps_ret pe_bl)) pss_nil))))))))))))))
      (pss_one (ps_ret pe_bl)))), ?_⟩
    refine ⟨.ref a, rfl, a, ns, rfl, hS, hl, fun H1 R s1 _ hR1 => ?_⟩
    obtain ⟨turns, ht, ht2⟩ : ∃ n : Nat, (1 : Int) + (if (12 : Int) < ((ns.map V.int).length : Int) then (12 : Int) else ((ns.map V.int).length : Int)) = (n : Int) ∧ n ≤ 100 := by
      rw [List.length_map]
      by_cases h : (12 : Int) < (ns.length : Int)
      · exact ⟨13, by rw [if_pos h]; rfl, by decide⟩
      · exact ⟨1 + ns.length, by rw [if_neg h]; omega, by omega⟩
    refine ⟨.ref a, rfl, a, _, rfl, .inl (s1.seq hS), _, _, rfl, _, _, rfl, rfl, (turns : Int), congrArg (fun z => [V.int z]) ht, by omega, by omega, ?_⟩
    rw [Int.toNat_natCast]
    refine for_range (lo := 0) (n := turns) (fun i σ H2 => ∃ y2 y3 y4 y5 y6 y7 y8, σ = [some (.ref a), some (.ref R), y2, y3, y4, y5, y6, y7, y8, none, none] ∧ ReelOk R H2) ⟨_, _, _, _, _, _, _, rfl, hR1⟩ ?_ ?_
    · rintro i σ H2 hi ⟨y2, y3, y4, y5, y6, y7, y8, rfl, hR2⟩
      refine ⟨.ref R, rfl, Nat.le_of_lt (small1000 (by show 2 ≤ 1000; decide)), fun p np => ?_⟩
      have s3 : Same H2 (upd H2 p (.lst [.int 6, .int 12])) := same_new np
      have h3 : (upd H2 p (.lst [.int 6, .int 12])) p = some (.lst [.int 6, .int 12]) := upd_same
      have hA3 := hR2.away (o := .lst [.int 6, .int 12]) np
      generalize upd H2 p (.lst [.int 6, .int 12]) = H3 at s3 h3 hA3 ⊢
      refine ⟨.ref R, rfl, R, 8, rfl, by decide, by decide, hA3.ok, fun H4 r k4 hR4 _ r0 r1 => ?_⟩
      obtain ⟨most, hm, hm1, hm2⟩ : ∃ most : Nat, atI [V.int 6, .int 12] (if decide (V.int r = V.int 0) = true then 1 else 0) = some (intV most) ∧ 1 ≤ most ∧ most ≤ 12 := by
        by_cases h : decide (V.int r = V.int 0) = true
        · rw [if_pos h]
          exact ⟨12, rfl, by decide, by decide⟩
        · rw [if_neg h]
          exact ⟨6, rfl, by decide, by decide⟩
      refine ⟨rfl, .inr ⟨_, rfl, p, _, _, _, rfl, rfl, .inl (.inl (k4 _ _ h3 hA3.ne)), hm, R, most, rfl, hm1, by omega, hR4, fun H5 l rs S k5 hR _ nl hS5 hF5 hG hS1 hS20 => ?_⟩⟩
      have hS2 : S.length ≤ 12 := by omega
      refine ⟨l, rs, S, rfl, hS5, by omega, fun H6 v s6 hd6 => ?_⟩
      have hR6 := hR.same s6
      have st6 := (hd6 fun _ => False).st
      clear hm hm1 hm2 hS20 hS5 hF5 hd6 k5 k4 h3 hA3 hR4 hR s3 s6 r0 r1 np s1 hR1 hR2
      dsimp only
      obtain ⟨pS, rS, rfl, fpS, hbS⟩ := id st6
      have lrs : rS.length = S.length := plen hbS
      refine ⟨.ref pS, rfl, pS, rS, rfl, .inr fpS.sqt, (rS.length : Int), rfl, .of_le (by decide) (by omega) (by decide) (by omega), fun L nL => ?_⟩
      rw [rgV_nat, lrs]
      have h1 : (upd H6 L (.lst ((List.range S.length).map intV))) L = some (.lst (trnV (List.range S.length))) := upd_same
      have s1 : Same H6 (upd H6 L (.lst ((List.range S.length).map intV))) := same_new nL
      have aL : Away R L (upd H6 L (.lst ((List.range S.length).map intV))) := hR6.away nL
      generalize upd H6 L (.lst ((List.range S.length).map intV)) = H7 at h1 s1 aL ⊢
      have fp7 := fpS.mono s1.tups
      -- order
      dsimp only
      refine ⟨.ref pS, rfl, pS, rfl, ⟨_, fp7.sqt⟩, fun D nD => ?_⟩
      have nLD : L ≠ D := ne_of_none h1 nD
      refine lc_tup (xs := rS) (fun i H3 => ∃ fs gs, H3 L = some (.lst (trnV fs)) ∧ H3 D = some (.lst (trnV gs)) ∧ (gs ++ fs).Perm (List.range S.length) ∧ gs.length = i ∧ Away R D H3 ∧ Away R L H3 ∧ Keep R H6 H3)
        ⟨List.range S.length, [], by rw [upd_ne nLD]; exact h1, upd_same, .refl _, rfl, aL.ok.away nD, aL.same (same_new nD), Keep.of (s1.trans (same_new nD))⟩ ?_ ?_ ?_
      · rintro i H3 _ ⟨fs, gs, _, _, _, _, _, _, k3⟩
        exact (fpS.mono (k3.tups hR6)).sqt
      · rintro i x H3 hx ⟨fs, gs, h3, h3', pm, rfl, aD3, aL3, k3⟩
        have hi : gs.length < S.length := by rw [← lrs]; exact (List.getElem?_eq_some_iff.mp hx).1
        have hl : fs.length = S.length - gs.length := by
          have := pm.length_eq
          rw [List.length_append, List.length_range] at this
          omega
        have lm : (trnV fs).length = fs.length := List.length_map ..
        refine ⟨rfl, .ref L, rfl, .inl ⟨rfl, _, .inl (.inl h3)⟩, .ref R, rfl, .ref L, rfl, L, _, rfl, .inl (.inl (.inl h3)), R, ((trnV fs).length : Int), rfl, by rw [lm]; omega, by rw [lm]; omega, aD3.ok, fun H4 r k4 hR4 w4 r0 r1 => ?_⟩
        rw [lm] at r1
        obtain ⟨x, hx⟩ : ∃ x, fs[r.toNat]? = some x := ⟨_, List.getElem?_eq_getElem (by omega)⟩
        have h4 := k4 _ _ h3 aL3.ne
        have h4' := k4 _ _ h3' aD3.ne
        have aL4 := w4 L (fun z => by rw [h3] at z; cases z) aL3
        have aD4 := w4 D (fun z => by rw [h3'] at z; cases z) aD3
        refine ⟨L, _, r, r.toNat, intV x, rfl, rfl, h4, by omega, by omega, pop_ix lm r0 r1, by unfold trnV; rw [List.getElem?_map, hx]; rfl, ?_⟩
        have ee : (trnV fs).eraseIdx r.toNat = trnV (fs.eraseIdx r.toNat) := erase_map
        rw [ee]
        have h5 : (upd H4 L (.lst (trnV (fs.eraseIdx r.toNat)))) L = some (.lst (trnV (fs.eraseIdx r.toNat))) := upd_same
        have h5' : (upd H4 L (.lst (trnV (fs.eraseIdx r.toNat)))) D = some (.lst (trnV gs)) := by rw [upd_ne nLD.symm]; exact h4'
        have aL5 : Away R L (upd H4 L (.lst (trnV (fs.eraseIdx r.toNat)))) := aL4.fill
        have aD5 : Away R D (upd H4 L (.lst (trnV (fs.eraseIdx r.toNat)))) := aD4.fill' aL4
        have k5 : Keep R H6 (upd H4 L (.lst (trnV (fs.eraseIdx r.toNat)))) := keep_fill (k3.trans k4) nL
        generalize upd H4 L (.lst (trnV (fs.eraseIdx r.toNat))) = H5 at h5 h5' aL5 aD5 k5 ⊢
        refine ⟨_, h5', small1000 (by unfold trnV; rw [List.length_map]; omega), fs.eraseIdx r.toNat, gs ++ [x], by rw [upd_ne nLD]; exact h5, by rw [upd_same]; unfold trnV; rw [List.map_append]; rfl, ?_, by rw [List.length_append]; rfl, aD5.fill, aL5.fill' aD5, keep_fill k5 (s1.free nD)⟩
        rw [List.append_assoc]
        exact ((pperm_erase hx).append_left gs).trans pm
      · rintro H3 ⟨fs, gs, h3, h3', pm, hg, aD3, aL3, k3⟩
        have el : fs = [] := by
          have := pm.length_eq
          rw [List.length_append, List.length_range] at this
          exact List.length_eq_zero_iff.mp (by omega)
        subst el
        rw [List.append_nil] at pm
        -- turns
        dsimp only
        refine ⟨.ref pS, rfl, pS, rfl, ⟨_, (fpS.mono (k3.tups hR6)).sqt⟩, fun D2 nD2 => ?_⟩
        have nDD : D ≠ D2 := ne_of_none h3' nD2
        refine lc_tup (xs := rS) (fun i H4 => ∃ ws ts, H4 D2 = some (.lst ws) ∧ Paired (TAt H4) ws ts ∧ ts.length = i ∧ (∀ t ∈ ts, t ∈ allTurns) ∧ H4 D = some (.lst (trnV gs)) ∧ Away R D2 H4 ∧ Away R D H4 ∧ Keep R H6 H4)
          ⟨[], [], upd_same, .nil, rfl, fun t h => (by cases h), by rw [upd_ne nDD]; exact h3', aD3.ok.away nD2, aD3.same (same_new nD2), k3.same (same_new nD2)⟩ ?_ ?_ ?_
        · rintro i H4 _ ⟨_, _, _, _, _, _, _, _, _, k4⟩
          exact (fpS.mono (k4.tups hR6)).sqt
        · rintro i x H4 hx ⟨ws, ts, h4, t4, hl, hm, h4', aE4, aD4, k4⟩
          have hi : i < S.length := by rw [← lrs]; exact (List.getElem?_eq_some_iff.mp hx).1
          refine ⟨rfl, rfl, fun H5 pT s5 nT T5 => ?_⟩
          obtain ⟨us, hu, tu⟩ := T5
          have lu : us.length = 24 := by rw [plen tu, turns_len]
          have aD5 := aD4.same s5
          have aE5 := aE4.same s5
          have aT5 : Away R pT H5 := by
            obtain ⟨g, c, gs', cs, m, st, r, h1, h2, h3⟩ := aD4
            have r5 : Reel R g c gs' cs m st H5 := ⟨s5 _ _ r.r, s5 _ _ r.g, s5 _ _ r.c, r.gl, r.cl, r.g0, r.c0, r.ne, r.s0, r.s1⟩
            exact ⟨g, c, gs', cs, m, st, r5, (ne_of_none r.r nT).symm, (ne_of_none r.g nT).symm, (ne_of_none r.c nT).symm⟩
          refine ⟨.ref R, rfl, R, 24, rfl, by decide, by decide, aD5.ok, fun H6' r k6 hR6' w6 r0 r1 => ?_⟩
          obtain ⟨x, t, hx, ht, hxt⟩ := plen' tu (i := r.toNat) (by rw [turns_len]; omega)
          have tp := k6.tups aD5.ok
          refine ⟨pT, us, r, x, rfl, rfl, .inl (.inl (k6 _ _ hu aT5.ne)), at_of (j := r.toNat) (by omega) hx, ?_⟩
          have h6 := k6 _ _ (s5 _ _ h4) aE5.ne
          have aE6 := w6 D2 (fun z => by rw [s5 _ _ h4] at z; cases z) aE5
          have aD6 := w6 D (fun z => by rw [s5 _ _ h4'] at z; cases z) aD5
          have k46 : Keep R H6 H6' := (k4.same s5).trans k6
          have tf := tups_set (o := .lst (ws ++ [x])) h6
          refine ⟨ws, h6, small1000 (by rw [plen t4, hl]; omega), ws ++ [x], ts ++ [t], upd_same, papp (pmono t4 fun _ _ z => z.mono ((s5.tups.trans tp).trans tf)) (.cons (hxt.mono (tp.trans tf)) .nil), by rw [List.length_append, hl]; rfl, ?_, by rw [upd_ne nDD]; exact k6 _ _ (s5 _ _ h4') aD5.ne, aE6.fill, aD6.fill' aE6, keep_fill k46 (k3.free nD2 fun z => aE4.ne z)⟩
          intro u hu
          rcases List.mem_append.mp hu with z | z
          · exact hm u z
          · rw [List.mem_singleton.mp z]
            exact List.mem_of_getElem? ht
        · rintro H4 ⟨ws, ts, h4, t4, hl, hm, h4', aE4, aD4, k4⟩
          rw [lrs] at hl
          have hnm : Names S.length gs ts := ⟨pm, hl, hm⟩
          have st4 := st6.mono (k4.tups hR6)
          have fp4 := fpS.mono (k4.tups hR6)
          have hR4 := aD4.ok
          -- places
          dsimp only
          refine ⟨.ref pS, rfl, pS, rS, rfl, .inr fp4.sqt, (S.length : Int), by rw [lrs], by omega, by omega, fun D3 nD3 => ?_⟩
          rw [Int.toNat_natCast]
          refine lc_range (lo := 0) (n := S.length) (fun i H5 => H5 D3 = some (.lst (trnV ((List.range i).map (plO gs)))) ∧ Same H4 H5) ⟨upd_same, same_new nD3⟩ ?_ ?_
          · rintro i H5 hi ⟨h5, s5⟩
            rw [Int.zero_add]
            have mi := (hnm.idx hi).1
            refine ⟨rfl, .ref D, rfl, .inl ⟨rfl, _, .inl (.inl (s5 _ _ h4'))⟩, .int (i : Int), rfl, D, gs.map (fun c : Nat => (c : Int)), (i : Int), rfl, rfl, ?_, List.mem_map_of_mem mi, Nat.le_of_lt (small1000 (by rw [List.length_map, hnm.lo]; omega)), ?_⟩
            · rw [← intV_map']
              exact .inl (.inl (s5 _ _ h4'))
            · rw [idx_int]
              refine ⟨_, h5, small1000 (by unfold trnV; rw [List.length_map, List.length_map, List.length_range]; omega), ?_, same_fill s5 nD3⟩
              rw [upd_same, List.range_succ]
              unfold trnV
              rw [List.map_append, List.map_append]
              rfl
          · rintro H5 ⟨h5, s5⟩
            have nm5 : NmC H5 D D2 D3 S.length gs ws ts := ⟨s5 _ _ h4', s5 _ _ h4, h5, pmono t4 fun _ _ z => z.mono s5.tups⟩
            have st5 := st4.mono s5.tups
            have hR5 := hR4.same s5
            clear h4 h4' h5 aE4 aD4 k4 k3 aL3 aD3 h3 h3' t4 s5 st4 fp4 fp7 aL s1 h1
            generalize V.ref pS = v at *
            have hR' := good_ren hG hnm
            have lR : (renS S gs ts).length = S.length := renS_len S gs ts
            dsimp only
            -- other
            refine ⟨v, rfl, .ref D, rfl, .ref D2, rfl, fun _ => False, fun _ => False, fun _ => False, v, .ref D, .ref D2, shutD S, .list (gs.map intD), .list (ts.map tupD), S, gs, ts, rfl, st5.dq, norm_shut S, hG, hS1, by omega, .lst nm5.ho (fun z => z) (dqs_ints gs), norm_list gs, .lst nm5.ht (fun z => z) (tats_dqs nm5.pw), norm_tups ts, hnm, fun H6a v2 s6 st62 => ?_⟩
            have st6a := st5.mono s6.tups
            have nm6 := nm5.same s6
            have hR6a := hR5.same s6
            clear st5 nm5 hR5 s6
            dsimp only
            have dS : ∀ {H : Hp}, ST H v S → ∃ (N : Addr → Prop) (d : PyData), Dq N H v d ∧ norm d = nS S := fun h => ⟨fun _ => False, shutD S, h.dq, norm_shut S⟩
            -- counted
            refine ⟨v2, rfl, fun _ => False, v2, shutD _, renS S gs ts, rfl, st62.dq, norm_shut _, hR', by omega, by omega, fun H7 c1 s7 f7 => ?_⟩
            refine ⟨v, rfl, fun _ => False, v, shutD S, S, rfl, (st6a.mono s7.tups).dq, norm_shut S, hG, hS1, by omega, fun H8 c2 s8 f8 => ?_⟩
            rw [cnt_called hG hnm] at f7
            refine neTp (f7.mono s8.tups) f8 ⟨_, rfl, iteF ?_⟩
            have s68 := s7.trans s8
            have st8 := st6a.mono s68.tups
            have st82 := st62.mono s68.tups
            have nm8 := nm6.same s68
            have hR8 := hR6a.same s68
            clear st6a st62 nm6 hR6a s68 f7 f8 s7 s8
            -- turnings
            refine ⟨v, rfl, v2, rfl, .ref D, rfl, .ref D2, rfl, .ref D3, rfl, Nat.le_of_lt (small1000 (by show 3 ≤ 1000; decide)), fun b o na da => ?_⟩
            have s9 : Same H8 (upd H8 b (.frz o (.tup [.ref D, .ref D2, .ref D3]))) := same_new na
            have fb : FT (upd H8 b (.frz o (.tup [.ref D, .ref D2, .ref D3]))) b [.ref D, .ref D2, .ref D3] := FT.new da
            generalize upd H8 b (.frz o (.tup [.ref D, .ref D2, .ref D3])) = H9 at s9 fb ⊢
            have nm9 := nm8.same s9
            refine ⟨fun _ => False, fun _ => False, v, v2, shutD S, shutD _, S, gs, ts, b, D, D2, D3, ws, rfl, (st8.mono s9.tups).dq, norm_shut S, (st82.mono s9.tups).dq, norm_shut _, hG, hnm, hS1, by omega, fb, nm9.hp, nm9.ht, nm9.pw, fun H10 s10 => ?_⟩
            refine ⟨true, rfl, iteF ?_⟩
            dsimp only [tNext]
            have s810 := s9.trans s10
            have st10 := st8.mono s810.tups
            have st102 := st82.mono s810.tups
            have nm10 := nm8.same s810
            have hR10 := hR8.same s810
            clear st8 st82 nm8 nm9 hR8 s810 s9 s10 fb da na
            -- corners
            refine ⟨v2, rfl, fun _ => False, v2, shutD _, renS S gs ts, rfl, st102.dq, norm_shut _, hR', by omega, by omega, fun H11 l1 s11 r11 => ?_⟩
            refine ⟨v, rfl, fun _ => False, v, shutD S, S, rfl, (st10.mono s11.tups).dq, norm_shut S, hG, hS1, by omega, fun H12 l2 s12 r12 => ?_⟩
            have nm12 := (nm10.same s11).same s12
            have fC := rows4 (hangB_eqv (r := fun x y => y ∈ lkC S x) fun _ _ z => lkC_symm hG z) (N := S.length) (by omega)
            refine ⟨.ref D3, rfl, .ref D2, rfl, .ref l2, D3, D2, S.length, gs, ws, ts, false, crnE S, rfl, rowsAt_rws rfl r12, hnm, nm12.hp, nm12.ht, nm12.pw, by omega, fC.1, fC.2, fun H13 w3 s13 r13 => ?_⟩
            rw [crn_cld hG hnm] at r13
            refine neRw ((rowsAt_rws rfl r11).same (s12.trans s13)) r13 ⟨_, rfl, iteF ?_⟩
            dsimp only [tNext]
            have s103 := (s11.trans s12).trans s13
            have st13 := st10.mono s103.tups
            have st132 := st102.mono s103.tups
            have nm13 := nm10.same s103
            have hR13 := hR10.same s103
            clear st10 st102 nm10 nm12 hR10 s103 s11 s12 s13 r11 r12 r13 fC
            -- faces
            refine ⟨v2, rfl, fun _ => False, v2, shutD _, renS S gs ts, rfl, st132.dq, norm_shut _, hR', by omega, by omega, fun H14 l3 s14 r14 => ?_⟩
            refine ⟨v, rfl, fun _ => False, v, shutD S, S, rfl, (st13.mono s14.tups).dq, norm_shut S, hG, hS1, by omega, fun H15 l4 s15 r15 => ?_⟩
            have nm15 := (nm13.same s14).same s15
            have fF := rows4 (hangB_eqv (r := fun x y => y ∈ lkF S x) fun _ _ z => lkF_symm hG z) (N := S.length) (by omega)
            refine ⟨.ref D3, rfl, .ref D2, rfl, .ref l4, D3, D2, S.length, gs, ws, ts, false, facE S, rfl, rowsAt_rws rfl r15, hnm, nm15.hp, nm15.ht, nm15.pw, by omega, fF.1, fF.2, fun H16 w3 s16 r16 => ?_⟩
            rw [fac_cld hG hnm] at r16
            refine neRw ((rowsAt_rws rfl r14).same (s15.trans s16)) r16 ⟨_, rfl, iteF ?_⟩
            dsimp only [tNext]
            have s136 := (s14.trans s15).trans s16
            have st16 := st13.mono s136.tups
            have st162 := st132.mono s136.tups
            have nm16 := nm13.same s136
            have hR16 := hR13.same s136
            clear st13 st132 nm13 nm15 hR13 s136 s14 s15 s16 r14 r15 r16 fF
            -- border
            refine ⟨v2, rfl, fun _ => False, v2, shutD _, renS S gs ts, rfl, st162.dq, norm_shut _, hR', by omega, by omega, fun H17 b1 xs1 s17 _ h17 p17 => ?_⟩
            refine ⟨Nat.le_of_lt (small1000 (by show 1 ≤ 1000; decide)), fun b2 n2 => ?_⟩
            have s18 : Same H17 (upd H17 b2 (.lst [.ref b1])) := same_new n2
            have h18 : (upd H17 b2 (.lst [.ref b1])) b2 = some (.lst [.ref b1]) := upd_same
            generalize upd H17 b2 (.lst [.ref b1]) = H18 at s18 h18 ⊢
            have B18 : RwsV K H18 (.ref b2) (bordR (renS S gs ts)) := ⟨b2, _, rfl, h18, .cons ⟨b1, xs1, rfl, fun z => z, s18 _ _ h17, pmono (fc_tup p17) fun _ _ z => TupAt.same z s18⟩ .nil⟩
            have st18 := st16.mono (s17.trans s18).tups
            refine ⟨v, rfl, fun _ => False, v, shutD S, S, rfl, st18.dq, norm_shut S, hG, hS1, by omega, fun H19 b3 xs3 s19 _ h19 p19 => ?_⟩
            refine ⟨Nat.le_of_lt (small1000 (by show 1 ≤ 1000; decide)), fun b4 n4 => ?_⟩
            have s20 : Same H19 (upd H19 b4 (.lst [.ref b3])) := same_new n4
            have h20 : (upd H19 b4 (.lst [.ref b3])) b4 = some (.lst [.ref b3]) := upd_same
            generalize upd H19 b4 (.lst [.ref b3]) = H20 at s20 h20 ⊢
            have B20 : RwsV K H20 (.ref b4) (bordR S) := ⟨b4, _, rfl, h20, .cons ⟨b3, xs3, rfl, fun z => z, s20 _ _ h19, pmono (fc_tup p19) fun _ _ z => TupAt.same z s20⟩ .nil⟩
            have nm20 := nm16.same (((s17.trans s18).trans s19).trans s20)
            rw [bord_dec] at B18 B20
            have lfr : ∀ r ∈ [frC S], r.length ≤ 1000 ∧ ∀ n ∈ r, n / unC false < S.length := fun r hr => by
              rw [List.mem_singleton.mp hr]
              have l := List.length_filter_le (isFr S) (List.range (4 * S.length))
              rw [List.length_range] at l
              refine ⟨Nat.le_trans l (by omega), fun n hn => ?_⟩
              have := List.mem_range.mp (List.mem_filter.mp hn).1
              show n / 4 < S.length
              omega
            refine ⟨.ref D3, rfl, .ref D2, rfl, .ref b4, D3, D2, S.length, gs, ws, ts, false, [frC S], rfl, B20, hnm, nm20.hp, nm20.ht, nm20.pw, by omega, by show 1 ≤ 1000; decide, lfr, fun H21 w3 s21 r21 => ?_⟩
            rw [bor_cld hG hnm] at r21
            refine neRw (B18.same ((s19.trans s20).trans s21)) r21 ⟨_, rfl, iteF ?_⟩
            dsimp only [tNext]
            have s161 := (((s17.trans s18).trans s19).trans s20).trans s21
            have st21 := st16.mono s161.tups
            have st212 := st162.mono s161.tups
            have nm21 := nm16.same s161
            have hR21 := hR16.same s161
            clear st16 st162 nm16 nm20 hR16 s161 s17 s18 s19 s20 s21 r21 B18 B20 h17 h18 h19 h20 p17 p19 lfr st18
            -- parts
            refine ⟨v2, rfl, fun _ => False, v2, shutD _, renS S gs ts, rfl, st212.dq, norm_shut _, hR', by omega, by omega, fun H22 l5 s22 r22 => ?_⟩
            refine ⟨v, rfl, fun _ => False, v, shutD S, S, rfl, (st21.mono s22.tups).dq, norm_shut S, hG, hS1, by omega, fun H23 l6 s23 r23 => ?_⟩
            have nm23 := (nm21.same s22).same s23
            obtain ⟨ps5, hl5, pr5⟩ := rowsI_rwi r22
            obtain ⟨ps6, hl6, pr6⟩ := rowsI_rwi r23
            have lps6 := plen pr6
            have lpar : (parE S).length ≤ 1000 := by
              have l := (rowsE_flat (hangB_eqv (r := fun x y => y ∈ lkP S x) (lkP_symm hG)) (List.pairwise_lt_range.imp fun z => Nat.ne_of_lt z) (l := List.range S.length)).2.2
              rw [List.length_range] at l
              have l : (parE S).length ≤ S.length := l
              omega
            refine ⟨l6, rfl, ⟨_, .inl (.inl hl6)⟩, fun M nM => ?_⟩
            refine lc_list (xs := ps6) (fun j H24 => ∃ zs, H24 M = some (.lst zs) ∧ Paired (RiN M H24) zs (((parE S).take j).map (calR (List.range (renS S gs ts).length) (plO gs))) ∧ Same H23 H24) ⟨[], upd_same, .nil, same_new nM⟩ ?_ ?_ ?_
            · rintro j H24 _ ⟨_, _, _, s24⟩
              exact .inl (.inl (s24 _ _ hl6))
            · rintro j x H24 hx ⟨zs, h24, p24, s24⟩
              obtain ⟨row, hrow, rp, rfl, hrp⟩ := pget' pr6 hx
              have hmem : row ∈ parE S := List.mem_of_getElem? hrow
              have hs := rowsE_sub (hangB_eqv (r := fun x y => y ∈ lkP S x) (lkP_symm hG)) List.pairwise_lt_range hmem
              have lrow := hs.length_le
              rw [List.length_range] at lrow
              have lz := plen p24
              rw [List.length_map, List.length_take] at lz
              have hrp4 := s24 _ _ hrp
              refine ⟨rfl, .ref rp, rfl, rp, rfl, ⟨_, .inl (.inl hrp4)⟩, fun L2 nL2 => ?_⟩
              refine lc_list (xs := row.map intV) (fun m H25 => H25 L2 = some (.lst ((((row.take m).map (plO gs)).map fun c : Nat => (c : Int)).map V.int)) ∧ Same H24 H25) ⟨upd_same, same_new nL2⟩ ?_ ?_ ?_
              · rintro m H25 _ ⟨_, s25⟩
                exact .inl (.inl (s25 _ _ hrp4))
              · rintro m y H25 hy ⟨h25, s25⟩
                rw [List.getElem?_map] at hy
                obtain ⟨n, hn, rfl⟩ := Option.map_eq_some_iff.mp hy
                have nl := List.mem_range.mp (hs.subset (List.mem_of_getElem? hn))
                have ml := (List.getElem?_eq_some_iff.mp hn).1
                have hpp := (s24.trans s25) _ _ nm23.hp
                have ip : (trnV ((List.range S.length).map (plO gs)))[n]? = some (intV (plO gs n)) := by
                  unfold trnV
                  rw [List.map_map, List.getElem?_map, List.getElem?_range nl]
                  rfl
                refine ⟨rfl, .ref D3, rfl, intV n, rfl, D3, _, n, intV (plO gs n), rfl, rfl, .inl (.inl hpp), atI_nat ip, ?_⟩
                refine ⟨_, h25, small1000 (by rw [List.length_map, List.length_map, List.length_map, List.length_take]; omega), ?_, same_fill s25 nL2⟩
                rw [upd_same, List.take_add_one, hn, List.map_append, List.map_append, List.map_append]
                rfl
              · rintro H25 ⟨h25, s25⟩
                rw [List.length_map, List.take_length] at h25
                refine ⟨L2, _, rfl, .inl (.inl (.inl h25)), by rw [List.length_map, List.length_map]; omega, fun ns' p pm up np => ?_⟩
                obtain ⟨ms, rfl⟩ : ∃ ms : List Nat, ns' = ms.map fun c : Nat => (c : Int) := by
                  refine ⟨ns'.map Int.toNat, ?_⟩
                  rw [List.map_map]
                  refine (List.map_id ns').symm.trans (List.map_congr_left fun z hz => ?_)
                  obtain ⟨c, _, rfl⟩ := List.mem_map.mp (pm.mem_iff.mp hz)
                  rfl
                have pm2 : ms.Perm (row.map (plO gs)) := by
                  have := pm.map Int.toNat
                  rw [List.map_map, List.map_map] at this
                  have e : ∀ l : List Nat, l.map (Int.toNat ∘ fun c : Nat => (c : Int)) = l := fun l => (List.map_congr_left fun z _ => rfl).trans (List.map_id l)
                  rw [e, e] at this
                  exact this
                have up2 : ms.Pairwise (· ≤ ·) := (List.pairwise_map.mp up).imp fun z => by omega
                have em := par_row hG hnm hmem pm2 up2
                have s26 : Same H25 (upd H25 p (.lst ((ms.map fun c : Nat => (c : Int)).map V.int))) := same_new np
                have h26 : (upd H25 p (.lst ((ms.map fun c : Nat => (c : Int)).map V.int))) p = some (.lst (ms.map intV)) := by
                  rw [upd_same, List.map_map]
                  rfl
                have h245 := s25 _ _ h24
                have pM : p ≠ M := fun z => by rw [z, h245] at np; cases np
                generalize upd H25 p (.lst ((ms.map fun c : Nat => (c : Int)).map V.int)) = H26 at s26 h26 ⊢
                have h246 := s26 _ _ h245
                refine ⟨zs, h246, small1000 (by omega), zs ++ [.ref p], upd_same, ?_, same_fill ((s24.trans s25).trans s26) nM⟩
                rw [List.take_add_one, show (parE S)[j]? = some row from hrow, List.map_append]
                refine papp (pmono p24 fun _ _ z => ?_) (.cons ⟨p, rfl, pM, by rw [upd_ne pM, h26, em]⟩ .nil)
                obtain ⟨p', e', n', h'⟩ := z
                exact ⟨p', e', n', by rw [upd_ne n']; exact (s25.trans s26) _ _ h'⟩
            · rintro H24 ⟨zs, h24, p24, s24⟩
              rw [lps6, show (parE S).take (rowsE (hangB fun x y => y ∈ lkP S x) (List.range S.length)).length = parE S from List.take_length] at p24
              refine ⟨M, zs, _, rfl, .inl (.inl h24), pmono p24 fun _ _ z => ⟨_, z.choose_spec.1, z.choose_spec.2.2⟩, fun R2 ys nR2 py => ?_⟩
              have s25 : Same H24 (upd H24 R2 (.lst ys)) := same_new nR2
              have h25 : (upd H24 R2 (.lst ys)) R2 = some (.lst ys) := upd_same
              have py2 : Paired (RwI (upd H24 R2 (.lst ys))) ys (parE (renS S gs ts)) := by
                rw [← par_srt hG hnm]
                exact pmono py fun _ _ z => by
                  obtain ⟨p', e', h'⟩ := z
                  exact ⟨p', e', s25 _ _ h'⟩
              generalize upd H24 R2 (.lst ys) = H25 at s25 h25 py2 ⊢
              have s225 := (s23.trans s24).trans s25
              have px2 : Paired (RwI H25) ps5 (parE (renS S gs ts)) := pmono pr5 fun _ _ z => by
                obtain ⟨p', e', h'⟩ := z
                exact ⟨p', e', s225 _ _ h'⟩
              refine ⟨.list ((parE (renS S gs ts)).map (encL fun n => PyData.int (n : Nat))), .list ((parE (renS S gs ts)).map (encL fun n => PyData.int (n : Nat))), .lst (.inl (.inl (s225 _ _ hl5))) (rwsi_dp px2), .lst (.inl (.inl h25)) (rwsi_dp py2), rwsi_shaped _, rwsi_shaped _, ?_⟩
              rw [shaped_refl (rwsi_shaped _)]
              refine ⟨_, rfl, iteF ?_⟩
              dsimp only [tNext]
              have s215 := s22.trans s225
              have st25 := st21.mono s215.tups
              have st252 := st212.mono s215.tups
              have nm25 := nm21.same s215
              have hR25 := hR21.same s215
              clear st21 st212 nm21 nm23 hR21 s215 s225 s22 s23 s24 s25 r22 r23 hl5 hl6 pr5 pr6 h24 p24 h25 py py2 px2 lps6
              -- edges
              refine ⟨v2, rfl, fun _ => False, v2, shutD _, renS S gs ts, rfl, st252.dq, norm_shut _, hR', by omega, by omega, fun H26 l7 s26 r26 => ?_⟩
              have eR := edge_fine hR' (by omega)
              have eS := edge_fine hG (by omega)
              refine ⟨.ref l7, edgE (renS S gs ts), rfl, rowsAt_rws rfl r26, eR.1, fun r hr => (eR.2 r hr).1, fun H27 w7 s27 r27 => ?_⟩
              rw [eit_self hR'] at r27
              have s257 := s26.trans s27
              refine ⟨v, rfl, fun _ => False, v, shutD S, S, rfl, (st25.mono s257.tups).dq, norm_shut S, hG, hS1, by omega, fun H28 l8 s28 r28 => ?_⟩
              have nm28 := (nm25.same s257).same s28
              refine ⟨.ref D3, rfl, .ref D2, rfl, .ref l8, D3, D2, S.length, gs, ws, ts, true, edgE S, rfl, rowsAt_rws rfl r28, hnm, nm28.hp, nm28.ht, nm28.pw, by omega, eS.1, eS.2, fun H29 w8 s29 r29 => ?_⟩
              have cf := cldR_fine (o := gs) (ts := ts) (q := true) eS.1 fun r hr => (eS.2 r hr).1
              refine ⟨w8, cldR gs ts true (edgE S), rfl, r29, cf.1, cf.2, fun H30 w9 s30 r30 => ?_⟩
              rw [eit_cld hG hnm] at r30
              refine neRw (r27.same ((s28.trans s29).trans s30)) r30 ⟨_, rfl, iteF ?_⟩
              exact ⟨_, _, _, _, _, _, _, rfl, hR25.same (((s257.trans s28).trans s29).trans s30)⟩
    · rintro σ H2 ⟨y2, y3, y4, y5, y6, y7, y8, rfl, hR2⟩
      exact q _
end
end Bk

namespace Bk
open PySem PySem.Spec PyProof.Rows L2 RZ
theorem all_mk {l : PySem.W.OpenLaw} {w : World} {K : PySem.W.Frag} {h : Heap} {mg : Str → Option Value} {fa frows_of f_reached fsigns_of f_spread fis_whole fis_listed fis_below fis_order fis_turn fcontrary fis_odd fspace_of f_block_of f_joining_of f_goes_both_ways frenamed f_renamed_block f_renamed_joining fmet_at fturn_sign fcorners_of fedges_of ffaces_of f_faces_met fcounted fborder fparts_of fturning f_law_reel f_law_draw f_law_turns f_law_back f_law_set f_law_any f_law_ball f_law_doubled f_law_blocks f_law_shut f_law_is_odd f_law_called f_law_either f_law_turning_right flaw : Addr} (X : K.In h) (G : h.Ns mainGlobals mg) (hfa : mg "law" = some (.ref fa))
    {odrows_of anrows_of od_reached an_reached odsigns_of ansigns_of od_spread an_spread odis_whole anis_whole odis_listed anis_listed odis_below anis_below odis_order anis_order odis_turn anis_turn odcontrary ancontrary odis_odd anis_odd odspace_of anspace_of od_block_of an_block_of od_joining_of an_joining_of od_goes_both_ways an_goes_both_ways odrenamed anrenamed od_renamed_block an_renamed_block od_renamed_joining an_renamed_joining odmet_at anmet_at odturn_sign anturn_sign odcorners_of ancorners_of odedges_of anedges_of odfaces_of anfaces_of od_faces_met an_faces_met odcounted ancounted odborder anborder odparts_of anparts_of odturning anturning od_law_reel an_law_reel od_law_draw an_law_draw od_law_turns an_law_turns od_law_back an_law_back od_law_set an_law_set od_law_any an_law_any od_law_ball an_law_ball od_law_doubled an_law_doubled od_law_blocks an_law_blocks od_law_shut an_law_shut od_law_is_odd an_law_is_odd od_law_called an_law_called od_law_either an_law_either od_law_turning_right an_law_turning_right odlaw anlaw : Option Addr} {slrows_of sl_reached slsigns_of sl_spread slis_whole slis_listed slis_below slis_order slis_turn slcontrary slis_odd slspace_of sl_block_of sl_joining_of sl_goes_both_ways slrenamed sl_renamed_block sl_renamed_joining slmet_at slturn_sign slcorners_of sledges_of slfaces_of sl_faces_met slcounted slborder slparts_of slturning sl_law_reel sl_law_draw sl_law_turns sl_law_back sl_law_set sl_law_any sl_law_ball sl_law_doubled sl_law_blocks sl_law_shut sl_law_is_odd sl_law_called sl_law_either sl_law_turning_right sllaw : Array (Option Value)} {ocrows_of kVrows_of dcrows_of pmrows_of cdrows_of ctrows_of oc_reached kV_reached dc_reached pm_reached cd_reached ct_reached ocsigns_of kVsigns_of dcsigns_of pmsigns_of cdsigns_of ctsigns_of oc_spread kV_spread dc_spread pm_spread cd_spread ct_spread ocis_whole kVis_whole dcis_whole pmis_whole cdis_whole ctis_whole ocis_listed kVis_listed dcis_listed pmis_listed cdis_listed ctis_listed ocis_below kVis_below dcis_below pmis_below cdis_below ctis_below ocis_order kVis_order dcis_order pmis_order cdis_order ctis_order ocis_turn kVis_turn dcis_turn pmis_turn cdis_turn ctis_turn occontrary kVcontrary dccontrary pmcontrary cdcontrary ctcontrary ocis_odd kVis_odd dcis_odd pmis_odd cdis_odd ctis_odd ocspace_of kVspace_of dcspace_of pmspace_of cdspace_of ctspace_of oc_block_of kV_block_of dc_block_of pm_block_of cd_block_of ct_block_of oc_joining_of kV_joining_of dc_joining_of pm_joining_of cd_joining_of ct_joining_of oc_goes_both_ways kV_goes_both_ways dc_goes_both_ways pm_goes_both_ways cd_goes_both_ways ct_goes_both_ways ocrenamed kVrenamed dcrenamed pmrenamed cdrenamed ctrenamed oc_renamed_block kV_renamed_block dc_renamed_block pm_renamed_block cd_renamed_block ct_renamed_block oc_renamed_joining kV_renamed_joining dc_renamed_joining pm_renamed_joining cd_renamed_joining ct_renamed_joining ocmet_at kVmet_at dcmet_at pmmet_at cdmet_at ctmet_at octurn_sign kVturn_sign dcturn_sign pmturn_sign cdturn_sign ctturn_sign occorners_of kVcorners_of dccorners_of pmcorners_of cdcorners_of ctcorners_of ocedges_of kVedges_of dcedges_of pmedges_of cdedges_of ctedges_of ocfaces_of kVfaces_of dcfaces_of pmfaces_of cdfaces_of ctfaces_of oc_faces_met kV_faces_met dc_faces_met pm_faces_met cd_faces_met ct_faces_met occounted kVcounted dccounted pmcounted cdcounted ctcounted ocborder kVborder dcborder pmborder cdborder ctborder ocparts_of kVparts_of dcparts_of pmparts_of cdparts_of ctparts_of octurning kVturning dcturning pmturning cdturning ctturning oc_law_reel kV_law_reel dc_law_reel pm_law_reel cd_law_reel ct_law_reel oc_law_draw kV_law_draw dc_law_draw pm_law_draw cd_law_draw ct_law_draw oc_law_turns kV_law_turns dc_law_turns pm_law_turns cd_law_turns ct_law_turns oc_law_back kV_law_back dc_law_back pm_law_back cd_law_back ct_law_back oc_law_set kV_law_set dc_law_set pm_law_set cd_law_set ct_law_set oc_law_any kV_law_any dc_law_any pm_law_any cd_law_any ct_law_any oc_law_ball kV_law_ball dc_law_ball pm_law_ball cd_law_ball ct_law_ball oc_law_doubled kV_law_doubled dc_law_doubled pm_law_doubled cd_law_doubled ct_law_doubled oc_law_blocks kV_law_blocks dc_law_blocks pm_law_blocks cd_law_blocks ct_law_blocks oc_law_shut kV_law_shut dc_law_shut pm_law_shut cd_law_shut ct_law_shut oc_law_is_odd kV_law_is_odd dc_law_is_odd pm_law_is_odd cd_law_is_odd ct_law_is_odd oc_law_called kV_law_called dc_law_called pm_law_called cd_law_called ct_law_called oc_law_either kV_law_either dc_law_either pm_law_either cd_law_either ct_law_either oc_law_turning_right kV_law_turning_right dc_law_turning_right pm_law_turning_right cd_law_turning_right ct_law_turning_right oclaw kVlaw dclaw pmlaw cdlaw ctlaw : Value}
    (arows_of : PySem.W.nsIn K mainGlobals "rows_of" = some (some (.ref frows_of))) (lrows_of : K.lookup frows_of = some ⟨ocrows_of, odrows_of, .func (PySem.W.fnOf "rows_of" "rows_of" (defArgs srows_of) (defBody srows_of) (defScope srows_of) .none kVrows_of dcrows_of pmrows_of anrows_of cdrows_of ctrows_of), slrows_of⟩) (crows_of : PySem.W.codeIn K cdrows_of "rows_of" = true) (krows_of : PySem.W.keepIn K (.ref frows_of) = true)
    (a_reached : PySem.W.nsIn K mainGlobals "_reached" = some (some (.ref f_reached))) (l_reached : K.lookup f_reached = some ⟨oc_reached, od_reached, .func (PySem.W.fnOf "_reached" "_reached" (defArgs s_reached) (defBody s_reached) (defScope s_reached) .none kV_reached dc_reached pm_reached an_reached cd_reached ct_reached), sl_reached⟩) (c_reached : PySem.W.codeIn K cd_reached "_reached" = true) (k_reached : PySem.W.keepIn K (.ref f_reached) = true)
    (asigns_of : PySem.W.nsIn K mainGlobals "signs_of" = some (some (.ref fsigns_of))) (lsigns_of : K.lookup fsigns_of = some ⟨ocsigns_of, odsigns_of, .func (PySem.W.fnOf "signs_of" "signs_of" (defArgs ssigns_of) (defBody ssigns_of) (defScope ssigns_of) .none kVsigns_of dcsigns_of pmsigns_of ansigns_of cdsigns_of ctsigns_of), slsigns_of⟩) (csigns_of : PySem.W.codeIn K cdsigns_of "signs_of" = true) (ksigns_of : PySem.W.keepIn K (.ref fsigns_of) = true)
    (a_spread : PySem.W.nsIn K mainGlobals "_spread" = some (some (.ref f_spread))) (l_spread : K.lookup f_spread = some ⟨oc_spread, od_spread, .func (PySem.W.fnOf "_spread" "_spread" (defArgs s_spread) (defBody s_spread) (defScope s_spread) .none kV_spread dc_spread pm_spread an_spread cd_spread ct_spread), sl_spread⟩) (c_spread : PySem.W.codeIn K cd_spread "_spread" = true) (k_spread : PySem.W.keepIn K (.ref f_spread) = true)
    (ais_whole : PySem.W.nsIn K mainGlobals "is_whole" = some (some (.ref fis_whole))) (lis_whole : K.lookup fis_whole = some ⟨ocis_whole, odis_whole, .func (PySem.W.fnOf "is_whole" "is_whole" (defArgs sis_whole) (defBody sis_whole) (defScope sis_whole) .none kVis_whole dcis_whole pmis_whole anis_whole cdis_whole ctis_whole), slis_whole⟩) (cis_whole : PySem.W.codeIn K cdis_whole "is_whole" = true) (kis_whole : PySem.W.keepIn K (.ref fis_whole) = true)
    (ais_listed : PySem.W.nsIn K mainGlobals "is_listed" = some (some (.ref fis_listed))) (lis_listed : K.lookup fis_listed = some ⟨ocis_listed, odis_listed, .func (PySem.W.fnOf "is_listed" "is_listed" (defArgs sis_listed) (defBody sis_listed) (defScope sis_listed) .none kVis_listed dcis_listed pmis_listed anis_listed cdis_listed ctis_listed), slis_listed⟩) (cis_listed : PySem.W.codeIn K cdis_listed "is_listed" = true) (kis_listed : PySem.W.keepIn K (.ref fis_listed) = true)
    (ais_below : PySem.W.nsIn K mainGlobals "is_below" = some (some (.ref fis_below))) (lis_below : K.lookup fis_below = some ⟨ocis_below, odis_below, .func (PySem.W.fnOf "is_below" "is_below" (defArgs sis_below) (defBody sis_below) (defScope sis_below) .none kVis_below dcis_below pmis_below anis_below cdis_below ctis_below), slis_below⟩) (cis_below : PySem.W.codeIn K cdis_below "is_below" = true) (kis_below : PySem.W.keepIn K (.ref fis_below) = true)
    (ais_order : PySem.W.nsIn K mainGlobals "is_order" = some (some (.ref fis_order))) (lis_order : K.lookup fis_order = some ⟨ocis_order, odis_order, .func (PySem.W.fnOf "is_order" "is_order" (defArgs sis_order) (defBody sis_order) (defScope sis_order) .none kVis_order dcis_order pmis_order anis_order cdis_order ctis_order), slis_order⟩) (cis_order : PySem.W.codeIn K cdis_order "is_order" = true) (kis_order : PySem.W.keepIn K (.ref fis_order) = true)
    (ais_turn : PySem.W.nsIn K mainGlobals "is_turn" = some (some (.ref fis_turn))) (lis_turn : K.lookup fis_turn = some ⟨ocis_turn, odis_turn, .func (PySem.W.fnOf "is_turn" "is_turn" (defArgs sis_turn) (defBody sis_turn) (defScope sis_turn) .none kVis_turn dcis_turn pmis_turn anis_turn cdis_turn ctis_turn), slis_turn⟩) (cis_turn : PySem.W.codeIn K cdis_turn "is_turn" = true) (kis_turn : PySem.W.keepIn K (.ref fis_turn) = true)
    (acontrary : PySem.W.nsIn K mainGlobals "contrary" = some (some (.ref fcontrary))) (lcontrary : K.lookup fcontrary = some ⟨occontrary, odcontrary, .func (PySem.W.fnOf "contrary" "contrary" (defArgs scontrary) (defBody scontrary) (defScope scontrary) .none kVcontrary dccontrary pmcontrary ancontrary cdcontrary ctcontrary), slcontrary⟩) (ccontrary : PySem.W.codeIn K cdcontrary "contrary" = true) (kcontrary : PySem.W.keepIn K (.ref fcontrary) = true)
    (ais_odd : PySem.W.nsIn K mainGlobals "is_odd" = some (some (.ref fis_odd))) (lis_odd : K.lookup fis_odd = some ⟨ocis_odd, odis_odd, .func (PySem.W.fnOf "is_odd" "is_odd" (defArgs sis_odd) (defBody sis_odd) (defScope sis_odd) .none kVis_odd dcis_odd pmis_odd anis_odd cdis_odd ctis_odd), slis_odd⟩) (cis_odd : PySem.W.codeIn K cdis_odd "is_odd" = true) (kis_odd : PySem.W.keepIn K (.ref fis_odd) = true)
    (aspace_of : PySem.W.nsIn K mainGlobals "space_of" = some (some (.ref fspace_of))) (lspace_of : K.lookup fspace_of = some ⟨ocspace_of, odspace_of, .func (PySem.W.fnOf "space_of" "space_of" (defArgs sspace_of) (defBody sspace_of) (defScope sspace_of) .none kVspace_of dcspace_of pmspace_of anspace_of cdspace_of ctspace_of), slspace_of⟩) (cspace_of : PySem.W.codeIn K cdspace_of "space_of" = true) (kspace_of : PySem.W.keepIn K (.ref fspace_of) = true)
    (a_block_of : PySem.W.nsIn K mainGlobals "_block_of" = some (some (.ref f_block_of))) (l_block_of : K.lookup f_block_of = some ⟨oc_block_of, od_block_of, .func (PySem.W.fnOf "_block_of" "_block_of" (defArgs s_block_of) (defBody s_block_of) (defScope s_block_of) .none kV_block_of dc_block_of pm_block_of an_block_of cd_block_of ct_block_of), sl_block_of⟩) (c_block_of : PySem.W.codeIn K cd_block_of "_block_of" = true) (k_block_of : PySem.W.keepIn K (.ref f_block_of) = true)
    (a_joining_of : PySem.W.nsIn K mainGlobals "_joining_of" = some (some (.ref f_joining_of))) (l_joining_of : K.lookup f_joining_of = some ⟨oc_joining_of, od_joining_of, .func (PySem.W.fnOf "_joining_of" "_joining_of" (defArgs s_joining_of) (defBody s_joining_of) (defScope s_joining_of) .none kV_joining_of dc_joining_of pm_joining_of an_joining_of cd_joining_of ct_joining_of), sl_joining_of⟩) (c_joining_of : PySem.W.codeIn K cd_joining_of "_joining_of" = true) (k_joining_of : PySem.W.keepIn K (.ref f_joining_of) = true)
    (a_goes_both_ways : PySem.W.nsIn K mainGlobals "_goes_both_ways" = some (some (.ref f_goes_both_ways))) (l_goes_both_ways : K.lookup f_goes_both_ways = some ⟨oc_goes_both_ways, od_goes_both_ways, .func (PySem.W.fnOf "_goes_both_ways" "_goes_both_ways" (defArgs s_goes_both_ways) (defBody s_goes_both_ways) (defScope s_goes_both_ways) .none kV_goes_both_ways dc_goes_both_ways pm_goes_both_ways an_goes_both_ways cd_goes_both_ways ct_goes_both_ways), sl_goes_both_ways⟩) (c_goes_both_ways : PySem.W.codeIn K cd_goes_both_ways "_goes_both_ways" = true) (k_goes_both_ways : PySem.W.keepIn K (.ref f_goes_both_ways) = true)
    (arenamed : PySem.W.nsIn K mainGlobals "renamed" = some (some (.ref frenamed))) (lrenamed : K.lookup frenamed = some ⟨ocrenamed, odrenamed, .func (PySem.W.fnOf "renamed" "renamed" (defArgs srenamed) (defBody srenamed) (defScope srenamed) .none kVrenamed dcrenamed pmrenamed anrenamed cdrenamed ctrenamed), slrenamed⟩) (crenamed : PySem.W.codeIn K cdrenamed "renamed" = true) (krenamed : PySem.W.keepIn K (.ref frenamed) = true)
    (a_renamed_block : PySem.W.nsIn K mainGlobals "_renamed_block" = some (some (.ref f_renamed_block))) (l_renamed_block : K.lookup f_renamed_block = some ⟨oc_renamed_block, od_renamed_block, .func (PySem.W.fnOf "_renamed_block" "_renamed_block" (defArgs s_renamed_block) (defBody s_renamed_block) (defScope s_renamed_block) .none kV_renamed_block dc_renamed_block pm_renamed_block an_renamed_block cd_renamed_block ct_renamed_block), sl_renamed_block⟩) (c_renamed_block : PySem.W.codeIn K cd_renamed_block "_renamed_block" = true) (k_renamed_block : PySem.W.keepIn K (.ref f_renamed_block) = true)
    (a_renamed_joining : PySem.W.nsIn K mainGlobals "_renamed_joining" = some (some (.ref f_renamed_joining))) (l_renamed_joining : K.lookup f_renamed_joining = some ⟨oc_renamed_joining, od_renamed_joining, .func (PySem.W.fnOf "_renamed_joining" "_renamed_joining" (defArgs s_renamed_joining) (defBody s_renamed_joining) (defScope s_renamed_joining) .none kV_renamed_joining dc_renamed_joining pm_renamed_joining an_renamed_joining cd_renamed_joining ct_renamed_joining), sl_renamed_joining⟩) (c_renamed_joining : PySem.W.codeIn K cd_renamed_joining "_renamed_joining" = true) (k_renamed_joining : PySem.W.keepIn K (.ref f_renamed_joining) = true)
    (amet_at : PySem.W.nsIn K mainGlobals "met_at" = some (some (.ref fmet_at))) (lmet_at : K.lookup fmet_at = some ⟨ocmet_at, odmet_at, .func (PySem.W.fnOf "met_at" "met_at" (defArgs smet_at) (defBody smet_at) (defScope smet_at) .none kVmet_at dcmet_at pmmet_at anmet_at cdmet_at ctmet_at), slmet_at⟩) (cmet_at : PySem.W.codeIn K cdmet_at "met_at" = true) (kmet_at : PySem.W.keepIn K (.ref fmet_at) = true)
    (aturn_sign : PySem.W.nsIn K mainGlobals "turn_sign" = some (some (.ref fturn_sign))) (lturn_sign : K.lookup fturn_sign = some ⟨octurn_sign, odturn_sign, .func (PySem.W.fnOf "turn_sign" "turn_sign" (defArgs sturn_sign) (defBody sturn_sign) (defScope sturn_sign) .none kVturn_sign dcturn_sign pmturn_sign anturn_sign cdturn_sign ctturn_sign), slturn_sign⟩) (cturn_sign : PySem.W.codeIn K cdturn_sign "turn_sign" = true) (kturn_sign : PySem.W.keepIn K (.ref fturn_sign) = true)
    (acorners_of : PySem.W.nsIn K mainGlobals "corners_of" = some (some (.ref fcorners_of))) (lcorners_of : K.lookup fcorners_of = some ⟨occorners_of, odcorners_of, .func (PySem.W.fnOf "corners_of" "corners_of" (defArgs scorners_of) (defBody scorners_of) (defScope scorners_of) .none kVcorners_of dccorners_of pmcorners_of ancorners_of cdcorners_of ctcorners_of), slcorners_of⟩) (ccorners_of : PySem.W.codeIn K cdcorners_of "corners_of" = true) (kcorners_of : PySem.W.keepIn K (.ref fcorners_of) = true)
    (aedges_of : PySem.W.nsIn K mainGlobals "edges_of" = some (some (.ref fedges_of))) (ledges_of : K.lookup fedges_of = some ⟨ocedges_of, odedges_of, .func (PySem.W.fnOf "edges_of" "edges_of" (defArgs sedges_of) (defBody sedges_of) (defScope sedges_of) .none kVedges_of dcedges_of pmedges_of anedges_of cdedges_of ctedges_of), sledges_of⟩) (cedges_of : PySem.W.codeIn K cdedges_of "edges_of" = true) (kedges_of : PySem.W.keepIn K (.ref fedges_of) = true)
    (afaces_of : PySem.W.nsIn K mainGlobals "faces_of" = some (some (.ref ffaces_of))) (lfaces_of : K.lookup ffaces_of = some ⟨ocfaces_of, odfaces_of, .func (PySem.W.fnOf "faces_of" "faces_of" (defArgs sfaces_of) (defBody sfaces_of) (defScope sfaces_of) .none kVfaces_of dcfaces_of pmfaces_of anfaces_of cdfaces_of ctfaces_of), slfaces_of⟩) (cfaces_of : PySem.W.codeIn K cdfaces_of "faces_of" = true) (kfaces_of : PySem.W.keepIn K (.ref ffaces_of) = true)
    (a_faces_met : PySem.W.nsIn K mainGlobals "_faces_met" = some (some (.ref f_faces_met))) (l_faces_met : K.lookup f_faces_met = some ⟨oc_faces_met, od_faces_met, .func (PySem.W.fnOf "_faces_met" "_faces_met" (defArgs s_faces_met) (defBody s_faces_met) (defScope s_faces_met) .none kV_faces_met dc_faces_met pm_faces_met an_faces_met cd_faces_met ct_faces_met), sl_faces_met⟩) (c_faces_met : PySem.W.codeIn K cd_faces_met "_faces_met" = true) (k_faces_met : PySem.W.keepIn K (.ref f_faces_met) = true)
    (acounted : PySem.W.nsIn K mainGlobals "counted" = some (some (.ref fcounted))) (lcounted : K.lookup fcounted = some ⟨occounted, odcounted, .func (PySem.W.fnOf "counted" "counted" (defArgs scounted) (defBody scounted) (defScope scounted) .none kVcounted dccounted pmcounted ancounted cdcounted ctcounted), slcounted⟩) (ccounted : PySem.W.codeIn K cdcounted "counted" = true) (kcounted : PySem.W.keepIn K (.ref fcounted) = true)
    (aborder : PySem.W.nsIn K mainGlobals "border" = some (some (.ref fborder))) (lborder : K.lookup fborder = some ⟨ocborder, odborder, .func (PySem.W.fnOf "border" "border" (defArgs sborder) (defBody sborder) (defScope sborder) .none kVborder dcborder pmborder anborder cdborder ctborder), slborder⟩) (cborder : PySem.W.codeIn K cdborder "border" = true) (kborder : PySem.W.keepIn K (.ref fborder) = true)
    (aparts_of : PySem.W.nsIn K mainGlobals "parts_of" = some (some (.ref fparts_of))) (lparts_of : K.lookup fparts_of = some ⟨ocparts_of, odparts_of, .func (PySem.W.fnOf "parts_of" "parts_of" (defArgs sparts_of) (defBody sparts_of) (defScope sparts_of) .none kVparts_of dcparts_of pmparts_of anparts_of cdparts_of ctparts_of), slparts_of⟩) (cparts_of : PySem.W.codeIn K cdparts_of "parts_of" = true) (kparts_of : PySem.W.keepIn K (.ref fparts_of) = true)
    (aturning : PySem.W.nsIn K mainGlobals "turning" = some (some (.ref fturning))) (lturning : K.lookup fturning = some ⟨octurning, odturning, .func (PySem.W.fnOf "turning" "turning" (defArgs sturning) (defBody sturning) (defScope sturning) .none kVturning dcturning pmturning anturning cdturning ctturning), slturning⟩) (cturning : PySem.W.codeIn K cdturning "turning" = true) (kturning : PySem.W.keepIn K (.ref fturning) = true)
    (a_law_reel : PySem.W.nsIn K mainGlobals "_law_reel" = some (some (.ref f_law_reel))) (l_law_reel : K.lookup f_law_reel = some ⟨oc_law_reel, od_law_reel, .func (PySem.W.fnOf "_law_reel" "_law_reel" (defArgs s_law_reel) (defBody s_law_reel) (defScope s_law_reel) .none kV_law_reel dc_law_reel pm_law_reel an_law_reel cd_law_reel ct_law_reel), sl_law_reel⟩) (c_law_reel : PySem.W.codeIn K cd_law_reel "_law_reel" = true) (k_law_reel : PySem.W.keepIn K (.ref f_law_reel) = true)
    (a_law_draw : PySem.W.nsIn K mainGlobals "_law_draw" = some (some (.ref f_law_draw))) (l_law_draw : K.lookup f_law_draw = some ⟨oc_law_draw, od_law_draw, .func (PySem.W.fnOf "_law_draw" "_law_draw" (defArgs s_law_draw) (defBody s_law_draw) (defScope s_law_draw) .none kV_law_draw dc_law_draw pm_law_draw an_law_draw cd_law_draw ct_law_draw), sl_law_draw⟩) (c_law_draw : PySem.W.codeIn K cd_law_draw "_law_draw" = true) (k_law_draw : PySem.W.keepIn K (.ref f_law_draw) = true)
    (a_law_turns : PySem.W.nsIn K mainGlobals "_law_turns" = some (some (.ref f_law_turns))) (l_law_turns : K.lookup f_law_turns = some ⟨oc_law_turns, od_law_turns, .func (PySem.W.fnOf "_law_turns" "_law_turns" (defArgs s_law_turns) (defBody s_law_turns) (defScope s_law_turns) .none kV_law_turns dc_law_turns pm_law_turns an_law_turns cd_law_turns ct_law_turns), sl_law_turns⟩) (c_law_turns : PySem.W.codeIn K cd_law_turns "_law_turns" = true) (k_law_turns : PySem.W.keepIn K (.ref f_law_turns) = true)
    (a_law_back : PySem.W.nsIn K mainGlobals "_law_back" = some (some (.ref f_law_back))) (l_law_back : K.lookup f_law_back = some ⟨oc_law_back, od_law_back, .func (PySem.W.fnOf "_law_back" "_law_back" (defArgs s_law_back) (defBody s_law_back) (defScope s_law_back) .none kV_law_back dc_law_back pm_law_back an_law_back cd_law_back ct_law_back), sl_law_back⟩) (c_law_back : PySem.W.codeIn K cd_law_back "_law_back" = true) (k_law_back : PySem.W.keepIn K (.ref f_law_back) = true)
    (a_law_set : PySem.W.nsIn K mainGlobals "_law_set" = some (some (.ref f_law_set))) (l_law_set : K.lookup f_law_set = some ⟨oc_law_set, od_law_set, .func (PySem.W.fnOf "_law_set" "_law_set" (defArgs s_law_set) (defBody s_law_set) (defScope s_law_set) .none kV_law_set dc_law_set pm_law_set an_law_set cd_law_set ct_law_set), sl_law_set⟩) (c_law_set : PySem.W.codeIn K cd_law_set "_law_set" = true) (k_law_set : PySem.W.keepIn K (.ref f_law_set) = true)
    (a_law_any : PySem.W.nsIn K mainGlobals "_law_any" = some (some (.ref f_law_any))) (l_law_any : K.lookup f_law_any = some ⟨oc_law_any, od_law_any, .func (PySem.W.fnOf "_law_any" "_law_any" (defArgs s_law_any) (defBody s_law_any) (defScope s_law_any) .none kV_law_any dc_law_any pm_law_any an_law_any cd_law_any ct_law_any), sl_law_any⟩) (c_law_any : PySem.W.codeIn K cd_law_any "_law_any" = true) (k_law_any : PySem.W.keepIn K (.ref f_law_any) = true)
    (a_law_ball : PySem.W.nsIn K mainGlobals "_law_ball" = some (some (.ref f_law_ball))) (l_law_ball : K.lookup f_law_ball = some ⟨oc_law_ball, od_law_ball, .func (PySem.W.fnOf "_law_ball" "_law_ball" (defArgs s_law_ball) (defBody s_law_ball) (defScope s_law_ball) .none kV_law_ball dc_law_ball pm_law_ball an_law_ball cd_law_ball ct_law_ball), sl_law_ball⟩) (c_law_ball : PySem.W.codeIn K cd_law_ball "_law_ball" = true) (k_law_ball : PySem.W.keepIn K (.ref f_law_ball) = true)
    (a_law_doubled : PySem.W.nsIn K mainGlobals "_law_doubled" = some (some (.ref f_law_doubled))) (l_law_doubled : K.lookup f_law_doubled = some ⟨oc_law_doubled, od_law_doubled, .func (PySem.W.fnOf "_law_doubled" "_law_doubled" (defArgs s_law_doubled) (defBody s_law_doubled) (defScope s_law_doubled) .none kV_law_doubled dc_law_doubled pm_law_doubled an_law_doubled cd_law_doubled ct_law_doubled), sl_law_doubled⟩) (c_law_doubled : PySem.W.codeIn K cd_law_doubled "_law_doubled" = true) (k_law_doubled : PySem.W.keepIn K (.ref f_law_doubled) = true)
    (a_law_blocks : PySem.W.nsIn K mainGlobals "_law_blocks" = some (some (.ref f_law_blocks))) (l_law_blocks : K.lookup f_law_blocks = some ⟨oc_law_blocks, od_law_blocks, .func (PySem.W.fnOf "_law_blocks" "_law_blocks" (defArgs s_law_blocks) (defBody s_law_blocks) (defScope s_law_blocks) .none kV_law_blocks dc_law_blocks pm_law_blocks an_law_blocks cd_law_blocks ct_law_blocks), sl_law_blocks⟩) (c_law_blocks : PySem.W.codeIn K cd_law_blocks "_law_blocks" = true) (k_law_blocks : PySem.W.keepIn K (.ref f_law_blocks) = true)
    (a_law_shut : PySem.W.nsIn K mainGlobals "_law_shut" = some (some (.ref f_law_shut))) (l_law_shut : K.lookup f_law_shut = some ⟨oc_law_shut, od_law_shut, .func (PySem.W.fnOf "_law_shut" "_law_shut" (defArgs s_law_shut) (defBody s_law_shut) (defScope s_law_shut) .none kV_law_shut dc_law_shut pm_law_shut an_law_shut cd_law_shut ct_law_shut), sl_law_shut⟩) (c_law_shut : PySem.W.codeIn K cd_law_shut "_law_shut" = true) (k_law_shut : PySem.W.keepIn K (.ref f_law_shut) = true)
    (a_law_is_odd : PySem.W.nsIn K mainGlobals "_law_is_odd" = some (some (.ref f_law_is_odd))) (l_law_is_odd : K.lookup f_law_is_odd = some ⟨oc_law_is_odd, od_law_is_odd, .func (PySem.W.fnOf "_law_is_odd" "_law_is_odd" (defArgs s_law_is_odd) (defBody s_law_is_odd) (defScope s_law_is_odd) .none kV_law_is_odd dc_law_is_odd pm_law_is_odd an_law_is_odd cd_law_is_odd ct_law_is_odd), sl_law_is_odd⟩) (c_law_is_odd : PySem.W.codeIn K cd_law_is_odd "_law_is_odd" = true) (k_law_is_odd : PySem.W.keepIn K (.ref f_law_is_odd) = true)
    (a_law_called : PySem.W.nsIn K mainGlobals "_law_called" = some (some (.ref f_law_called))) (l_law_called : K.lookup f_law_called = some ⟨oc_law_called, od_law_called, .func (PySem.W.fnOf "_law_called" "_law_called" (defArgs s_law_called) (defBody s_law_called) (defScope s_law_called) .none kV_law_called dc_law_called pm_law_called an_law_called cd_law_called ct_law_called), sl_law_called⟩) (c_law_called : PySem.W.codeIn K cd_law_called "_law_called" = true) (k_law_called : PySem.W.keepIn K (.ref f_law_called) = true)
    (a_law_either : PySem.W.nsIn K mainGlobals "_law_either" = some (some (.ref f_law_either))) (l_law_either : K.lookup f_law_either = some ⟨oc_law_either, od_law_either, .func (PySem.W.fnOf "_law_either" "_law_either" (defArgs s_law_either) (defBody s_law_either) (defScope s_law_either) .none kV_law_either dc_law_either pm_law_either an_law_either cd_law_either ct_law_either), sl_law_either⟩) (c_law_either : PySem.W.codeIn K cd_law_either "_law_either" = true) (k_law_either : PySem.W.keepIn K (.ref f_law_either) = true)
    (a_law_turning_right : PySem.W.nsIn K mainGlobals "_law_turning_right" = some (some (.ref f_law_turning_right))) (l_law_turning_right : K.lookup f_law_turning_right = some ⟨oc_law_turning_right, od_law_turning_right, .func (PySem.W.fnOf "_law_turning_right" "_law_turning_right" (defArgs s_law_turning_right) (defBody s_law_turning_right) (defScope s_law_turning_right) .none kV_law_turning_right dc_law_turning_right pm_law_turning_right an_law_turning_right cd_law_turning_right ct_law_turning_right), sl_law_turning_right⟩) (c_law_turning_right : PySem.W.codeIn K cd_law_turning_right "_law_turning_right" = true) (k_law_turning_right : PySem.W.keepIn K (.ref f_law_turning_right) = true)
    (alaw : PySem.W.nsIn K mainGlobals "law" = some (some (.ref flaw))) (llaw : K.lookup flaw = some ⟨oclaw, odlaw, .func (PySem.W.fnOf "law" "law" (defArgs slaw) (defBody slaw) (defScope slaw) .none kVlaw dclaw pmlaw anlaw cdlaw ctlaw), sllaw⟩) (claw : PySem.W.codeIn K cdlaw "law" = true) (klaw : PySem.W.keepIn K (.ref flaw) = true)
    (zall : PySem.W.nsIn K mainGlobals "all" = some none)
    (zbool : PySem.W.nsIn K mainGlobals "bool" = some none)
    (zint : PySem.W.nsIn K mainGlobals "int" = some none)
    (zisinstance : PySem.W.nsIn K mainGlobals "isinstance" = some none)
    (zlen : PySem.W.nsIn K mainGlobals "len" = some none)
    (zlist : PySem.W.nsIn K mainGlobals "list" = some none)
    (zmin : PySem.W.nsIn K mainGlobals "min" = some none)
    (zrange : PySem.W.nsIn K mainGlobals "range" = some none)
    (zset : PySem.W.nsIn K mainGlobals "set" = some none)
    (zsorted : PySem.W.nsIn K mainGlobals "sorted" = some none)
    (ztuple : PySem.W.nsIn K mainGlobals "tuple" = some none)
    : ∃ fd : FuncData, (∀ (s : Shared) (v : Value), BindsTo s fd ⟨[v], []⟩ [("script", v)]) ∧ ∀ base : Heap, K.In base → base.Ns mainGlobals mg → FnG l.prog w K mg base 9 fa fd ["script"] (spLaw K) := by
  have e := hfa.symm.trans (PySem.W.mg_of X G alaw)
  cases e
  have Frows_of := fun_mk (st := srows_of) lrows_of crows_of krows_of
  have brows_of := Frows_of.binds (ps := ["links"]) fun _ _ _ _ _ _ us hl => match us, hl with | [_], _ => rfl
  have grows_of := PySem.W.mg_of X G arows_of
  have F_reached := fun_mk (st := s_reached) l_reached c_reached k_reached
  have b_reached := F_reached.binds (ps := ["first", "links"]) fun _ _ _ _ _ _ us hl => match us, hl with | [_, _], _ => rfl
  have g_reached := PySem.W.mg_of X G a_reached
  have Fsigns_of := fun_mk (st := ssigns_of) lsigns_of csigns_of ksigns_of
  have bsigns_of := Fsigns_of.binds (ps := ["ties"]) fun _ _ _ _ _ _ us hl => match us, hl with | [_], _ => rfl
  have gsigns_of := PySem.W.mg_of X G asigns_of
  have F_spread := fun_mk (st := s_spread) l_spread c_spread k_spread
  have b_spread := F_spread.binds (ps := ["first", "ties", "signs"]) fun _ _ _ _ _ _ us hl => match us, hl with | [_, _, _], _ => rfl
  have g_spread := PySem.W.mg_of X G a_spread
  have Fis_whole := fun_mk (st := sis_whole) lis_whole cis_whole kis_whole
  have bis_whole := Fis_whole.binds (ps := ["thing"]) fun _ _ _ _ _ _ us hl => match us, hl with | [_], _ => rfl
  have gis_whole := PySem.W.mg_of X G ais_whole
  have Fis_listed := fun_mk (st := sis_listed) lis_listed cis_listed kis_listed
  have bis_listed := Fis_listed.binds (ps := ["thing"]) fun _ _ _ _ _ _ us hl => match us, hl with | [_], _ => rfl
  have gis_listed := PySem.W.mg_of X G ais_listed
  have Fis_below := fun_mk (st := sis_below) lis_below cis_below kis_below
  have bis_below := Fis_below.binds (ps := ["thing", "many"]) fun _ _ _ _ _ _ us hl => match us, hl with | [_, _], _ => rfl
  have gis_below := PySem.W.mg_of X G ais_below
  have Fis_order := fun_mk (st := sis_order) lis_order cis_order kis_order
  have bis_order := Fis_order.binds (ps := ["thing", "many"]) fun _ _ _ _ _ _ us hl => match us, hl with | [_, _], _ => rfl
  have gis_order := PySem.W.mg_of X G ais_order
  have Fis_turn := fun_mk (st := sis_turn) lis_turn cis_turn kis_turn
  have bis_turn := Fis_turn.binds (ps := ["thing"]) fun _ _ _ _ _ _ us hl => match us, hl with | [_], _ => rfl
  have gis_turn := PySem.W.mg_of X G ais_turn
  have Fcontrary := fun_mk (st := scontrary) lcontrary ccontrary kcontrary
  have bcontrary := Fcontrary.binds (ps := ["turn"]) fun _ _ _ _ _ _ us hl => match us, hl with | [_], _ => rfl
  have gcontrary := PySem.W.mg_of X G acontrary
  have Fis_odd := fun_mk (st := sis_odd) lis_odd cis_odd kis_odd
  have bis_odd := Fis_odd.binds (ps := ["turn"]) fun _ _ _ _ _ _ us hl => match us, hl with | [_], _ => rfl
  have gis_odd := PySem.W.mg_of X G ais_odd
  have Fspace_of := fun_mk (st := sspace_of) lspace_of cspace_of kspace_of
  have bspace_of := Fspace_of.binds (ps := ["blocks"]) fun _ _ _ _ _ _ us hl => match us, hl with | [_], _ => rfl
  have gspace_of := PySem.W.mg_of X G aspace_of
  have F_block_of := fun_mk (st := s_block_of) l_block_of c_block_of k_block_of
  have b_block_of := F_block_of.binds (ps := ["faces", "many"]) fun _ _ _ _ _ _ us hl => match us, hl with | [_, _], _ => rfl
  have g_block_of := PySem.W.mg_of X G a_block_of
  have F_joining_of := fun_mk (st := s_joining_of) l_joining_of c_joining_of k_joining_of
  have b_joining_of := F_joining_of.binds (ps := ["joining", "many"]) fun _ _ _ _ _ _ us hl => match us, hl with | [_, _], _ => rfl
  have g_joining_of := PySem.W.mg_of X G a_joining_of
  have F_goes_both_ways := fun_mk (st := s_goes_both_ways) l_goes_both_ways c_goes_both_ways k_goes_both_ways
  have b_goes_both_ways := F_goes_both_ways.binds (ps := ["space", "block", "face"]) fun _ _ _ _ _ _ us hl => match us, hl with | [_, _, _], _ => rfl
  have g_goes_both_ways := PySem.W.mg_of X G a_goes_both_ways
  have Frenamed := fun_mk (st := srenamed) lrenamed crenamed krenamed
  have brenamed := Frenamed.binds (ps := ["space", "order", "turns"]) fun _ _ _ _ _ _ us hl => match us, hl with | [_, _, _], _ => rfl
  have grenamed := PySem.W.mg_of X G arenamed
  have F_renamed_block := fun_mk (st := s_renamed_block) l_renamed_block c_renamed_block k_renamed_block
  have b_renamed_block := F_renamed_block.binds (ps := ["space", "order", "turns", "place"]) fun _ _ _ _ _ _ us hl => match us, hl with | [_, _, _, _], _ => rfl
  have g_renamed_block := PySem.W.mg_of X G a_renamed_block
  have F_renamed_joining := fun_mk (st := s_renamed_joining) l_renamed_joining c_renamed_joining k_renamed_joining
  have b_renamed_joining := F_renamed_joining.binds (ps := ["joining", "order", "turns", "back"]) fun _ _ _ _ _ _ us hl => match us, hl with | [_, _, _, _], _ => rfl
  have g_renamed_joining := PySem.W.mg_of X G a_renamed_joining
  have Fmet_at := fun_mk (st := smet_at) lmet_at cmet_at kmet_at
  have bmet_at := Fmet_at.binds (ps := ["space", "block", "spots"]) fun _ _ _ _ _ _ us hl => match us, hl with | [_, _, _], _ => rfl
  have gmet_at := PySem.W.mg_of X G amet_at
  have Fturn_sign := fun_mk (st := sturn_sign) lturn_sign cturn_sign kturn_sign
  have bturn_sign := Fturn_sign.binds (ps := ["turn"]) fun _ _ _ _ _ _ us hl => match us, hl with | [_], _ => rfl
  have gturn_sign := PySem.W.mg_of X G aturn_sign
  have Fcorners_of := fun_mk (st := scorners_of) lcorners_of ccorners_of kcorners_of
  have bcorners_of := Fcorners_of.binds (ps := ["space"]) fun _ _ _ _ _ _ us hl => match us, hl with | [_], _ => rfl
  have gcorners_of := PySem.W.mg_of X G acorners_of
  have Fedges_of := fun_mk (st := sedges_of) ledges_of cedges_of kedges_of
  have bedges_of := Fedges_of.binds (ps := ["space"]) fun _ _ _ _ _ _ us hl => match us, hl with | [_], _ => rfl
  have gedges_of := PySem.W.mg_of X G aedges_of
  have Ffaces_of := fun_mk (st := sfaces_of) lfaces_of cfaces_of kfaces_of
  have bfaces_of := Ffaces_of.binds (ps := ["space"]) fun _ _ _ _ _ _ us hl => match us, hl with | [_], _ => rfl
  have gfaces_of := PySem.W.mg_of X G afaces_of
  have F_faces_met := fun_mk (st := s_faces_met) l_faces_met c_faces_met k_faces_met
  have b_faces_met := F_faces_met.binds (ps := ["joining", "face"]) fun _ _ _ _ _ _ us hl => match us, hl with | [_, _], _ => rfl
  have g_faces_met := PySem.W.mg_of X G a_faces_met
  have Fcounted := fun_mk (st := scounted) lcounted ccounted kcounted
  have bcounted := Fcounted.binds (ps := ["space"]) fun _ _ _ _ _ _ us hl => match us, hl with | [_], _ => rfl
  have gcounted := PySem.W.mg_of X G acounted
  have Fborder := fun_mk (st := sborder) lborder cborder kborder
  have bborder := Fborder.binds (ps := ["space"]) fun _ _ _ _ _ _ us hl => match us, hl with | [_], _ => rfl
  have gborder := PySem.W.mg_of X G aborder
  have Fparts_of := fun_mk (st := sparts_of) lparts_of cparts_of kparts_of
  have bparts_of := Fparts_of.binds (ps := ["space"]) fun _ _ _ _ _ _ us hl => match us, hl with | [_], _ => rfl
  have gparts_of := PySem.W.mg_of X G aparts_of
  have Fturning := fun_mk (st := sturning) lturning cturning kturning
  have bturning := Fturning.binds (ps := ["space"]) fun _ _ _ _ _ _ us hl => match us, hl with | [_], _ => rfl
  have gturning := PySem.W.mg_of X G aturning
  have F_law_reel := fun_mk (st := s_law_reel) l_law_reel c_law_reel k_law_reel
  have b_law_reel := F_law_reel.binds (ps := ["script"]) fun _ _ _ _ _ _ us hl => match us, hl with | [_], _ => rfl
  have g_law_reel := PySem.W.mg_of X G a_law_reel
  have F_law_draw := fun_mk (st := s_law_draw) l_law_draw c_law_draw k_law_draw
  have b_law_draw := F_law_draw.binds (ps := ["reel", "many"]) fun _ _ _ _ _ _ us hl => match us, hl with | [_, _], _ => rfl
  have g_law_draw := PySem.W.mg_of X G a_law_draw
  have F_law_turns := fun_mk (st := s_law_turns) l_law_turns c_law_turns k_law_turns
  have b_law_turns := F_law_turns.binds (ps := []) fun _ _ _ _ _ _ us hl => match us, hl with | [], _ => rfl
  have g_law_turns := PySem.W.mg_of X G a_law_turns
  have F_law_back := fun_mk (st := s_law_back) l_law_back c_law_back k_law_back
  have b_law_back := F_law_back.binds (ps := ["turn"]) fun _ _ _ _ _ _ us hl => match us, hl with | [_], _ => rfl
  have g_law_back := PySem.W.mg_of X G a_law_back
  have F_law_set := fun_mk (st := s_law_set) l_law_set c_law_set k_law_set
  have b_law_set := F_law_set.binds (ps := ["blocks", "block", "face", "other", "turn"]) fun _ _ _ _ _ _ us hl => match us, hl with | [_, _, _, _, _], _ => rfl
  have g_law_set := PySem.W.mg_of X G a_law_set
  have F_law_any := fun_mk (st := s_law_any) l_law_any c_law_any k_law_any
  have b_law_any := F_law_any.binds (ps := ["reel", "many"]) fun _ _ _ _ _ _ us hl => match us, hl with | [_, _], _ => rfl
  have g_law_any := PySem.W.mg_of X G a_law_any
  have F_law_ball := fun_mk (st := s_law_ball) l_law_ball c_law_ball k_law_ball
  have b_law_ball := F_law_ball.binds (ps := ["reel", "many"]) fun _ _ _ _ _ _ us hl => match us, hl with | [_, _], _ => rfl
  have g_law_ball := PySem.W.mg_of X G a_law_ball
  have F_law_doubled := fun_mk (st := s_law_doubled) l_law_doubled c_law_doubled k_law_doubled
  have b_law_doubled := F_law_doubled.binds (ps := ["blocks"]) fun _ _ _ _ _ _ us hl => match us, hl with | [_], _ => rfl
  have g_law_doubled := PySem.W.mg_of X G a_law_doubled
  have F_law_blocks := fun_mk (st := s_law_blocks) l_law_blocks c_law_blocks k_law_blocks
  have b_law_blocks := F_law_blocks.binds (ps := ["reel", "most"]) fun _ _ _ _ _ _ us hl => match us, hl with | [_, _], _ => rfl
  have g_law_blocks := PySem.W.mg_of X G a_law_blocks
  have F_law_shut := fun_mk (st := s_law_shut) l_law_shut c_law_shut k_law_shut
  have b_law_shut := F_law_shut.binds (ps := ["blocks"]) fun _ _ _ _ _ _ us hl => match us, hl with | [_], _ => rfl
  have g_law_shut := PySem.W.mg_of X G a_law_shut
  have F_law_is_odd := fun_mk (st := s_law_is_odd) l_law_is_odd c_law_is_odd k_law_is_odd
  have b_law_is_odd := F_law_is_odd.binds (ps := ["turn"]) fun _ _ _ _ _ _ us hl => match us, hl with | [_], _ => rfl
  have g_law_is_odd := PySem.W.mg_of X G a_law_is_odd
  have F_law_called := fun_mk (st := s_law_called) l_law_called c_law_called k_law_called
  have b_law_called := F_law_called.binds (ps := ["rows", "places", "turns"]) fun _ _ _ _ _ _ us hl => match us, hl with | [_, _, _], _ => rfl
  have g_law_called := PySem.W.mg_of X G a_law_called
  have F_law_either := fun_mk (st := s_law_either) l_law_either c_law_either k_law_either
  have b_law_either := F_law_either.binds (ps := ["rows"]) fun _ _ _ _ _ _ us hl => match us, hl with | [_], _ => rfl
  have g_law_either := PySem.W.mg_of X G a_law_either
  have F_law_turning_right := fun_mk (st := s_law_turning_right) l_law_turning_right c_law_turning_right k_law_turning_right
  have b_law_turning_right := F_law_turning_right.binds (ps := ["space", "other", "names"]) fun _ _ _ _ _ _ us hl => match us, hl with | [_, _, _], _ => rfl
  have g_law_turning_right := PySem.W.mg_of X G a_law_turning_right
  have Flaw := fun_mk (st := slaw) llaw claw klaw
  have glaw := PySem.W.mg_of X G alaw
  have m_all := PySem.W.mg_none_of X G zall
  have m_bool := PySem.W.mg_none_of X G zbool
  have m_int := PySem.W.mg_none_of X G zint
  have m_isinstance := PySem.W.mg_none_of X G zisinstance
  have m_len := PySem.W.mg_none_of X G zlen
  have m_list := PySem.W.mg_none_of X G zlist
  have m_min := PySem.W.mg_none_of X G zmin
  have m_range := PySem.W.mg_none_of X G zrange
  have m_set := PySem.W.mg_none_of X G zset
  have m_sorted := PySem.W.mg_none_of X G zsorted
  have m_tuple := PySem.W.mg_none_of X G ztuple
  refine ⟨PySem.W.fnOf "law" "law" (defArgs slaw) (defBody slaw) (defScope slaw) .none kVlaw dclaw pmlaw anlaw cdlaw ctlaw, fun s v => .of_eq rfl, fun base _ _ => ?_⟩
  have Gis_whole := okis_whole (P := l.prog) (w := w) (K := K) (mg := mg) (base := base) Fis_whole m_isinstance m_int m_bool
  have Gis_listed := okis_listed (P := l.prog) (w := w) (K := K) (mg := mg) (base := base) Fis_listed m_isinstance m_list m_tuple
  have Gis_below := okis_below (P := l.prog) (w := w) (K := K) (mg := mg) (base := base) Fis_below Fis_whole gis_whole bis_whole Gis_whole
  have Gis_order := okis_order (P := l.prog) (w := w) (K := K) (mg := mg) (base := base) Fis_order Fis_whole gis_whole bis_whole Gis_whole Fis_listed gis_listed bis_listed Gis_listed m_all m_sorted m_list m_range
  have Gis_turn := okis_turn (P := l.prog) (w := w) (K := K) (mg := mg) (base := base) Fis_turn Fis_order gis_order bis_order Gis_order
  have Gcontrary := okcontrary (P := l.prog) (w := w) (K := K) (mg := mg) (base := base) Fcontrary m_range m_tuple
  have G_joining_of := ok_joining_of (P := l.prog) (w := w) (K := K) (mg := mg) (base := base) F_joining_of Fis_listed gis_listed bis_listed Gis_listed Fis_below gis_below bis_below Gis_below Fis_turn gis_turn bis_turn Gis_turn m_len m_tuple
  have G_block_of := ok_block_of (P := l.prog) (w := w) (K := K) (mg := mg) (base := base) F_block_of Fis_listed gis_listed bis_listed Gis_listed F_joining_of g_joining_of b_joining_of G_joining_of m_len m_tuple
  have G_goes_both_ways := ok_goes_both_ways (P := l.prog) (w := w) (K := K) (mg := mg) (base := base) F_goes_both_ways Fcontrary gcontrary bcontrary Gcontrary
  have Gspace_of := okspace_of (P := l.prog) (w := w) (K := K) (mg := mg) (base := base) Fspace_of Fis_listed gis_listed bis_listed Gis_listed F_block_of g_block_of b_block_of G_block_of F_goes_both_ways g_goes_both_ways b_goes_both_ways G_goes_both_ways m_len m_tuple m_range
  have Gcontrary := fn_or Gcontrary (okcontraryL (P := l.prog) (w := w) (base := base) Fcontrary m_range m_tuple)
  have G_renamed_joining := ok_renamed_joining (P := l.prog) (w := w) (K := K) (mg := mg) (base := base) F_renamed_joining m_tuple
  have G_renamed_block := ok_renamed_block (P := l.prog) (w := w) (K := K) (mg := mg) (base := base) F_renamed_block Fcontrary gcontrary bcontrary Gcontrary F_renamed_joining g_renamed_joining b_renamed_joining G_renamed_joining m_tuple
  have Grenamed := okrenamed (P := l.prog) (w := w) (K := K) (mg := mg) (base := base) Frenamed Fspace_of gspace_of bspace_of Gspace_of Fis_order gis_order bis_order Gis_order Fis_listed gis_listed bis_listed Gis_listed Fis_turn gis_turn bis_turn Gis_turn F_renamed_block g_renamed_block b_renamed_block G_renamed_block m_len m_tuple m_all m_range
  have Gis_odd := okis_odd (P := l.prog) (w := w) (K := K) (mg := mg) (base := base) Fis_odd m_range m_len
  have Gturn_sign := okturn_sign (P := l.prog) (w := w) (K := K) (mg := mg) (base := base) Fturn_sign Fis_odd gis_odd bis_odd Gis_odd
  have G_reached := ok_reached (P := l.prog) (w := w) (K := K) (mg := mg) (base := base) (moT_rules 1000 K) F_reached m_list
  have G_reachedQ := ok_reached (P := l.prog) (w := w) (K := K) (mg := mg) (base := base) (moQ_rules 1000 K) F_reached m_list
  have G_reachedI := ok_reached (P := l.prog) (w := w) (K := K) (mg := mg) (base := base) (moI_rules 64 K) F_reached m_list
  have Grows_of := okrows_of (P := l.prog) (w := w) (K := K) (mg := mg) (base := base) (moT_rules 1000 K) Frows_of F_reached g_reached b_reached G_reached m_sorted
  have Grows_ofQ := okrows_of (P := l.prog) (w := w) (K := K) (mg := mg) (base := base) (moQ_rules 1000 K) Frows_of F_reached g_reached b_reached G_reachedQ m_sorted
  have Grows_ofI := okrows_of (P := l.prog) (w := w) (K := K) (mg := mg) (base := base) (moI_rules 64 K) Frows_of F_reached g_reached b_reached G_reachedI m_sorted
  have Gmet_at := okmet_at (P := l.prog) (w := w) (K := K) (mg := mg) (base := base) Fmet_at m_range m_tuple
  have Gmet_at2 := okmet_at2 (P := l.prog) (w := w) (K := K) (mg := mg) (base := base) Fmet_at m_range m_tuple
  have Gcorners_of := okcorners_of (P := l.prog) (w := w) (K := K) (mg := mg) (base := base) Fcorners_of Fspace_of gspace_of bspace_of Gspace_of Frows_of grows_of brows_of Grows_of Fmet_at gmet_at bmet_at Gmet_at m_range m_len
  have G_faces_met := ok_faces_met (P := l.prog) (w := w) (K := K) (mg := mg) (base := base) F_faces_met
  have Gfaces_of := okfaces_of (P := l.prog) (w := w) (K := K) (mg := mg) (base := base) Ffaces_of Fspace_of gspace_of bspace_of Gspace_of Frows_of grows_of brows_of Grows_of F_faces_met g_faces_met b_faces_met G_faces_met m_range m_len
  have Gedges_of := okedges_of (P := l.prog) (w := w) (K := K) (mg := mg) (base := base) Fedges_of Fspace_of gspace_of bspace_of Gspace_of Frows_of grows_of brows_of Grows_ofQ Fmet_at gmet_at bmet_at Gmet_at2 m_range m_len m_set
  have Gcounted := okcounted (P := l.prog) (w := w) (K := K) (mg := mg) (base := base) Fcounted Fspace_of gspace_of bspace_of Gspace_of Fcorners_of gcorners_of bcorners_of Gcorners_of Fedges_of gedges_of bedges_of Gedges_of Ffaces_of gfaces_of bfaces_of Gfaces_of m_len
  have Gborder := okborder (P := l.prog) (w := w) (K := K) (mg := mg) (base := base) Fborder Fspace_of gspace_of bspace_of Gspace_of m_range m_len
  have Gparts_of := okparts_of (P := l.prog) (w := w) (K := K) (mg := mg) (base := base) Fparts_of Fspace_of gspace_of bspace_of Gspace_of Frows_of grows_of brows_of Grows_ofI m_range m_len
  have G_spread := ok_spread (P := l.prog) (w := w) (K := K) (mg := mg) (base := base) F_spread
  have Gsigns_of := oksigns_of (P := l.prog) (w := w) (K := K) (mg := mg) (base := base) Fsigns_of F_spread g_spread b_spread G_spread m_sorted
  have Gturning := okturning (P := l.prog) (w := w) (K := K) (mg := mg) (base := base) Fturning Fspace_of gspace_of bspace_of Gspace_of Fsigns_of gsigns_of bsigns_of Gsigns_of Fturn_sign gturn_sign bturn_sign Gturn_sign m_range m_len
  have G_law_reel := ok_law_reel (P := l.prog) (w := w) (K := K) (mg := mg) (base := base) F_law_reel
  have G_law_draw := ok_law_draw (P := l.prog) (w := w) (K := K) (mg := mg) (base := base) F_law_draw m_len m_int
  have G_law_turns := ok_law_turns (P := l.prog) (w := w) (K := K) (mg := mg) (base := base) F_law_turns m_range
  have G_law_back := ok_law_back (P := l.prog) (w := w) (K := K) (mg := mg) (base := base) F_law_back m_range m_tuple
  have G_law_set := ok_law_set (P := l.prog) (w := w) (K := K) (mg := mg) (base := base) F_law_set F_law_back g_law_back b_law_back m_range m_tuple
  have G_law_any := ok_law_any (P := l.prog) (w := w) (K := K) (mg := mg) (base := base) F_law_any F_law_draw g_law_draw b_law_draw F_law_turns g_law_turns b_law_turns F_law_back g_law_back b_law_back F_law_set g_law_set b_law_set m_range m_tuple m_len m_int
  have G_law_ball := ok_law_ball (P := l.prog) (w := w) (K := K) (mg := mg) (base := base) F_law_ball F_law_draw g_law_draw b_law_draw F_law_turns g_law_turns b_law_turns F_law_back g_law_back b_law_back F_law_set g_law_set b_law_set m_range m_tuple m_len m_int
  have G_law_doubled := ok_law_doubled (P := l.prog) (w := w) (K := K) (mg := mg) (base := base) F_law_doubled F_law_back g_law_back b_law_back F_law_set g_law_set b_law_set m_range m_tuple m_len m_list
  have G_law_blocks := ok_law_blocks (P := l.prog) (w := w) (K := K) (mg := mg) (base := base) F_law_blocks F_law_draw g_law_draw b_law_draw F_law_any g_law_any b_law_any F_law_ball g_law_ball b_law_ball F_law_doubled g_law_doubled b_law_doubled G_law_draw G_law_any G_law_ball G_law_doubled m_min
  have G_law_shut := ok_law_shut (P := l.prog) (w := w) (K := K) (mg := mg) (base := base) F_law_shut m_tuple
  have G_law_is_odd := ok_law_is_odd (P := l.prog) (w := w) (K := K) (mg := mg) (base := base) F_law_is_odd m_range m_int
  have G_law_turning_right := ok_law_turning_right (P := l.prog) (w := w) (K := K) (mg := mg) (base := base) F_law_turning_right Fturning gturning bturning Gturning Fparts_of gparts_of bparts_of Gparts_of F_law_is_odd g_law_is_odd b_law_is_odd G_law_is_odd m_len m_set
  have G_law_called := ok_law_called (P := l.prog) (w := w) (K := K) (mg := mg) (base := base) F_law_called m_tuple m_sorted
  have G_law_either := ok_law_either (P := l.prog) (w := w) (K := K) (mg := mg) (base := base) F_law_either m_min m_sorted
  exact ok_law Flaw F_law_reel g_law_reel b_law_reel G_law_reel F_law_draw g_law_draw b_law_draw G_law_draw F_law_blocks g_law_blocks b_law_blocks G_law_blocks F_law_shut g_law_shut b_law_shut G_law_shut F_law_turns g_law_turns b_law_turns G_law_turns Frenamed grenamed brenamed Grenamed Fcounted gcounted bcounted Gcounted F_law_turning_right g_law_turning_right b_law_turning_right G_law_turning_right Fcorners_of gcorners_of bcorners_of Gcorners_of F_law_called g_law_called b_law_called G_law_called Ffaces_of gfaces_of bfaces_of Gfaces_of Fborder gborder bborder Gborder Fparts_of gparts_of bparts_of Gparts_of F_law_either g_law_either b_law_either G_law_either Fedges_of gedges_of bedges_of Gedges_of m_range m_len m_min m_int m_list m_sorted
end Bk
open PySem PySem.W PyProof.Rows
set_option maxHeartbeats 0 in
theorem PySem.Challenge.cw_blockrooms_k20_whole_renamed_holds : PySem.Challenge.rw_blockrooms_k20_whole_renamed.Holds := by
  w_on; o_law; k_head; (case hw => w_witness2)
  k_fill
  refine Bk.walk_G (l := PySem.Challenge.rw_blockrooms_k20_whole_renamed) (n := 63) (k := 9) (x := "script") (sp := Bk.spLaw) rfl (by decide) rfl ⟨rfl, by decide, by decide⟩ (fun w h Y => PySem.W.kIn_of Y) ?F (fun _ _ a ns hl _ hS => ⟨a, ns, rfl, hS, hl, fun _ => rfl⟩)
  case F =>
    intro w mg fa h KX G hmg
    refine' Bk.all_mk KX G hmg ?arows_of ?lrows_of ?crows_of ?krows_of ?a_reached ?l_reached ?c_reached ?k_reached ?asigns_of ?lsigns_of ?csigns_of ?ksigns_of ?a_spread ?l_spread ?c_spread ?k_spread ?ais_whole ?lis_whole ?cis_whole ?kis_whole ?ais_listed ?lis_listed ?cis_listed ?kis_listed ?ais_below ?lis_below ?cis_below ?kis_below ?ais_order ?lis_order ?cis_order ?kis_order ?ais_turn ?lis_turn ?cis_turn ?kis_turn ?acontrary ?lcontrary ?ccontrary ?kcontrary ?ais_odd ?lis_odd ?cis_odd ?kis_odd ?aspace_of ?lspace_of ?cspace_of ?kspace_of ?a_block_of ?l_block_of ?c_block_of ?k_block_of ?a_joining_of ?l_joining_of ?c_joining_of ?k_joining_of ?a_goes_both_ways ?l_goes_both_ways ?c_goes_both_ways ?k_goes_both_ways ?arenamed ?lrenamed ?crenamed ?krenamed ?a_renamed_block ?l_renamed_block ?c_renamed_block ?k_renamed_block ?a_renamed_joining ?l_renamed_joining ?c_renamed_joining ?k_renamed_joining ?amet_at ?lmet_at ?cmet_at ?kmet_at ?aturn_sign ?lturn_sign ?cturn_sign ?kturn_sign ?acorners_of ?lcorners_of ?ccorners_of ?kcorners_of ?aedges_of ?ledges_of ?cedges_of ?kedges_of ?afaces_of ?lfaces_of ?cfaces_of ?kfaces_of ?a_faces_met ?l_faces_met ?c_faces_met ?k_faces_met ?acounted ?lcounted ?ccounted ?kcounted ?aborder ?lborder ?cborder ?kborder ?aparts_of ?lparts_of ?cparts_of ?kparts_of ?aturning ?lturning ?cturning ?kturning ?a_law_reel ?l_law_reel ?c_law_reel ?k_law_reel ?a_law_draw ?l_law_draw ?c_law_draw ?k_law_draw ?a_law_turns ?l_law_turns ?c_law_turns ?k_law_turns ?a_law_back ?l_law_back ?c_law_back ?k_law_back ?a_law_set ?l_law_set ?c_law_set ?k_law_set ?a_law_any ?l_law_any ?c_law_any ?k_law_any ?a_law_ball ?l_law_ball ?c_law_ball ?k_law_ball ?a_law_doubled ?l_law_doubled ?c_law_doubled ?k_law_doubled ?a_law_blocks ?l_law_blocks ?c_law_blocks ?k_law_blocks ?a_law_shut ?l_law_shut ?c_law_shut ?k_law_shut ?a_law_is_odd ?l_law_is_odd ?c_law_is_odd ?k_law_is_odd ?a_law_called ?l_law_called ?c_law_called ?k_law_called ?a_law_either ?l_law_either ?c_law_either ?k_law_either ?a_law_turning_right ?l_law_turning_right ?c_law_turning_right ?k_law_turning_right ?alaw ?llaw ?claw ?klaw ?zall ?zbool ?zint ?zisinstance ?zlen ?zlist ?zmin ?zrange ?zset ?zsorted ?ztuple
    (case arows_of => k_is); (case lrows_of => k_is); (case crows_of => k_is); (case krows_of => k_is); (case a_reached => k_is); (case l_reached => k_is); (case c_reached => k_is); (case k_reached => k_is); (case asigns_of => k_is); (case lsigns_of => k_is); (case csigns_of => k_is); (case ksigns_of => k_is); (case a_spread => k_is); (case l_spread => k_is); (case c_spread => k_is); (case k_spread => k_is); (case ais_whole => k_is); (case lis_whole => k_is); (case cis_whole => k_is); (case kis_whole => k_is); (case ais_listed => k_is); (case lis_listed => k_is); (case cis_listed => k_is); (case kis_listed => k_is); (case ais_below => k_is); (case lis_below => k_is); (case cis_below => k_is); (case kis_below => k_is); (case ais_order => k_is); (case lis_order => k_is); (case cis_order => k_is); (case kis_order => k_is); (case ais_turn => k_is); (case lis_turn => k_is); (case cis_turn => k_is); (case kis_turn => k_is); (case acontrary => k_is); (case lcontrary => k_is); (case ccontrary => k_is); (case kcontrary => k_is); (case ais_odd => k_is); (case lis_odd => k_is); (case cis_odd => k_is); (case kis_odd => k_is); (case aspace_of => k_is); (case lspace_of => k_is); (case cspace_of => k_is); (case kspace_of => k_is); (case a_block_of => k_is); (case l_block_of => k_is); (case c_block_of => k_is); (case k_block_of => k_is); (case a_joining_of => k_is); (case l_joining_of => k_is); (case c_joining_of => k_is); (case k_joining_of => k_is); (case a_goes_both_ways => k_is); (case l_goes_both_ways => k_is); (case c_goes_both_ways => k_is); (case k_goes_both_ways => k_is); (case arenamed => k_is); (case lrenamed => k_is); (case crenamed => k_is); (case krenamed => k_is); (case a_renamed_block => k_is); (case l_renamed_block => k_is); (case c_renamed_block => k_is); (case k_renamed_block => k_is); (case a_renamed_joining => k_is); (case l_renamed_joining => k_is); (case c_renamed_joining => k_is); (case k_renamed_joining => k_is); (case amet_at => k_is); (case lmet_at => k_is); (case cmet_at => k_is); (case kmet_at => k_is); (case aturn_sign => k_is); (case lturn_sign => k_is); (case cturn_sign => k_is); (case kturn_sign => k_is); (case acorners_of => k_is); (case lcorners_of => k_is); (case ccorners_of => k_is); (case kcorners_of => k_is); (case aedges_of => k_is); (case ledges_of => k_is); (case cedges_of => k_is); (case kedges_of => k_is); (case afaces_of => k_is); (case lfaces_of => k_is); (case cfaces_of => k_is); (case kfaces_of => k_is); (case a_faces_met => k_is); (case l_faces_met => k_is); (case c_faces_met => k_is); (case k_faces_met => k_is); (case acounted => k_is); (case lcounted => k_is); (case ccounted => k_is); (case kcounted => k_is); (case aborder => k_is); (case lborder => k_is); (case cborder => k_is); (case kborder => k_is); (case aparts_of => k_is); (case lparts_of => k_is); (case cparts_of => k_is); (case kparts_of => k_is); (case aturning => k_is); (case lturning => k_is); (case cturning => k_is); (case kturning => k_is); (case a_law_reel => k_is); (case l_law_reel => k_is); (case c_law_reel => k_is); (case k_law_reel => k_is); (case a_law_draw => k_is); (case l_law_draw => k_is); (case c_law_draw => k_is); (case k_law_draw => k_is); (case a_law_turns => k_is); (case l_law_turns => k_is); (case c_law_turns => k_is); (case k_law_turns => k_is); (case a_law_back => k_is); (case l_law_back => k_is); (case c_law_back => k_is); (case k_law_back => k_is); (case a_law_set => k_is); (case l_law_set => k_is); (case c_law_set => k_is); (case k_law_set => k_is); (case a_law_any => k_is); (case l_law_any => k_is); (case c_law_any => k_is); (case k_law_any => k_is); (case a_law_ball => k_is); (case l_law_ball => k_is); (case c_law_ball => k_is); (case k_law_ball => k_is); (case a_law_doubled => k_is); (case l_law_doubled => k_is); (case c_law_doubled => k_is); (case k_law_doubled => k_is); (case a_law_blocks => k_is); (case l_law_blocks => k_is); (case c_law_blocks => k_is); (case k_law_blocks => k_is); (case a_law_shut => k_is); (case l_law_shut => k_is); (case c_law_shut => k_is); (case k_law_shut => k_is); (case a_law_is_odd => k_is); (case l_law_is_odd => k_is); (case c_law_is_odd => k_is); (case k_law_is_odd => k_is); (case a_law_called => k_is); (case l_law_called => k_is); (case c_law_called => k_is); (case k_law_called => k_is); (case a_law_either => k_is); (case l_law_either => k_is); (case c_law_either => k_is); (case k_law_either => k_is); (case a_law_turning_right => k_is); (case l_law_turning_right => k_is); (case c_law_turning_right => k_is); (case k_law_turning_right => k_is); (case alaw => k_is); (case llaw => k_is); (case claw => k_is); (case klaw => k_is); (case zall => k_is); (case zbool => k_is); (case zint => k_is); (case zisinstance => k_is); (case zlen => k_is); (case zlist => k_is); (case zmin => k_is); (case zrange => k_is); (case zset => k_is); (case zsorted => k_is); (case ztuple => k_is)

