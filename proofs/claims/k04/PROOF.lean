import PyProof.Rows.All
import Wide.All
import OpenK.AllK
import Wide.FinOn
import HandS.ForMost
import HandS.Exc
import HandS.TryOnly
import HandS.ExcOwn
import HandS.WordsExc
import HandS.IsInst
import HandS.Defaults
import HandS.ExcIs
import HandS.Zip
import HandS.Walk
import HandS.Conv
import HandS.Style
import HandS.Property
import HandS.TupMul
import HandS.TupAny
import PySem.Challenge.RW_barswoven_k04_sums_and_blocks
set_option Elab.async false
set_option linter.all false
set_option maxRecDepth 100000
set_option maxHeartbeats 4000000
namespace Bw
open PySem PySem.Spec PyProof.Rows L2

abbrev vI (ns : List Int) : List V := ns.map V.int
/-- all that was tracked stays, but for what stands at d -/
def KeepBut (d : Addr) (H H' : Hp) : Prop := ∀ b o, b ≠ d → H b = some o → H' b = some o
theorem KeepBut.trans {d : Addr} {H H1 H2 : Hp} (a : KeepBut d H H1) (b : KeepBut d H1 H2) : KeepBut d H H2 := fun c o n h => b c o n (a c o n h)
theorem KeepBut.refl (d : Addr) (H : Hp) : KeepBut d H H := fun _ _ _ h => h
theorem KeepBut.of {d : Addr} {H H' : Hp} (s : Same H H') : KeepBut d H H' := fun c o _ h => s c o h
theorem KeepBut.same {d : Addr} {H0 H H' : Hp} (k : KeepBut d H H') (s : Same H0 H) (f : H0 d = none) : Same H0 H' := fun c o h => k c o (ne_of_none h f) (s c o h)
/-- the heap behind a new object -/
theorem same_new {H : Hp} {p : Addr} {o : HO} (h : H p = none) : Same H (upd H p o) := fun b u e => by
  rw [upd_ne (ne_of_none e h)]
  exact e
theorem Same.add {H0 H : Hp} {p : Addr} {o : HO} (s : Same H0 H) (h : H p = none) : Same H0 (upd H p o) := s.trans (same_new h)
theorem Same.at {H H' : Hp} (s : Same H H') {b : Addr} {o : HO} (h : H b = some o) : H' b = some o := s b o h
/-- draws as the law makes them: at d a list of a list at r and of the number of draws so far -/
def Dr (H : Hp) (d r : Addr) (c : Nat) : Prop := r ≠ d ∧ H d = some (.lst [.ref r, .int (c : Int)]) ∧ ∃ ns : List Int, H r = some (.lst (vI ns)) ∧ ns.length ≤ 1000
theorem Dr.same {H H' : Hp} {d r : Addr} {c : Nat} (h : Dr H d r c) (s : Same H H') : Dr H' d r c := by
  obtain ⟨n, h1, ns, h2, l⟩ := h
  exact ⟨n, s _ _ h1, ns, s _ _ h2, l⟩
theorem Dr.some {H : Hp} {d r : Addr} {c : Nat} (h : Dr H d r c) : ∃ o, H d = Option.some o := ⟨_, h.2.1⟩
theorem Dr.ne {H : Hp} {d r D : Addr} {c : Nat} (h : Dr H d r c) (e : H D = none) : D ≠ d ∧ D ≠ r := by
  obtain ⟨n, h1, ns, h2, l⟩ := h
  exact ⟨fun z => (by rw [z, h1] at e; cases e), fun z => (by rw [z, h2] at e; cases e)⟩
/-- another object changed -/
theorem Dr.put {H : Hp} {d r D : Addr} {c : Nat} {o : HO} (h : Dr H d r c) (n : D ≠ d ∧ D ≠ r) : Dr (upd H D o) d r c := by
  obtain ⟨m, h1, ns, h2, l⟩ := h
  exact ⟨m, by rw [upd_ne n.1.symm]; exact h1, ns, by rw [upd_ne n.2.symm]; exact h2, l⟩
/-- what is new behind a step that changed d alone was free ahead of it -/
theorem KeepBut.free {d p : Addr} {H H' : Hp} {o : HO} (k : KeepBut d H H') (hd : H' d = some o) (h : H' p = none) : H p = none := by
  cases q : H p with
  | none => rfl
  | some u =>
    have n : p ≠ d := fun e => by
      rw [e, hd] at h
      cases h
    rw [k p u n q] at h
    cases h
theorem SqL.keep {K : PySem.W.Frag} {d a : Addr} {H H' : Hp} {xs : List V} (k : KeepBut d H H') (n : a ≠ d) (h : SqL K H a xs) : SqL K H' a xs := by
  rcases h with (h | ⟨o, h⟩) | h
  · exact .inl (.inl (k _ _ n h))
  · exact .inl (.inr ⟨o, k _ _ n h⟩)
  · exact .inr h
theorem SqT.keep {K : PySem.W.Frag} {d a : Addr} {H H' : Hp} {xs : List V} (k : KeepBut d H H') (n : a ≠ d) (h : SqT K H a xs) : SqT K H' a xs := by
  rcases h with (h | ⟨o, h⟩) | h
  · exact .inl (.inl (k _ _ n h))
  · exact .inl (.inr ⟨o, k _ _ n h⟩)
  · exact .inr h
theorem SqT.same {K : PySem.W.Frag} {a : Addr} {H H' : Hp} {xs : List V} (k : Same H H') (h : SqT K H a xs) : SqT K H' a xs := by
  rcases h with (h | ⟨o, h⟩) | h
  · exact .inl (.inl (k _ _ h))
  · exact .inl (.inr ⟨o, k _ _ h⟩)
  · exact .inr h
/-- the built-ins' names are the built-ins' still -/
structure BI (mg : Str → Option Value) : Prop where
  len : mg "len" = none
  int : mg "int" = none
  abs : mg "abs" = none
  range : mg "range" = none
  isi : mg "isinstance" = none
  tuple : mg "tuple" = none
  list : mg "list" = none
  bool : mg "bool" = none
  str : mg "str" = none
  sum : mg "sum" = none
  zip : mg "zip" = none
  all : mg "all" = none
  any : mg "any" = none
  repr : mg "repr" = none
  verr : mg "ValueError" = none
/-- the turn's item of a list of vI -/
theorem item_int {ns : List Int} {i : Nat} {y : V} (hi : (vI ns)[i]? = some y) : ∃ z, ns[i]? = some z ∧ y = V.int z := by
  rw [List.getElem?_map] at hi
  cases e : ns[i]? with
  | none =>
    rw [e] at hi
    cases hi
  | some z =>
    rw [e] at hi
    exact ⟨z, rfl, (Option.some.inj hi).symm⟩
theorem ints_at {ns : List Int} {j : Nat} (h : j < ns.length) : (vI ns)[j]? = some (V.int ns[j]) := by
  rw [List.getElem?_map, List.getElem?_eq_getElem h]
  rfl
theorem if_t {c : Bool} {A B : Prop} (hc : c = true) (h : A) : if c = true then A else B := by
  rw [if_pos hc]
  exact h
theorem if_f {c : Bool} {A B : Prop} (hc : c = false) (h : B) : if c = true then A else B := by
  rw [hc, if_neg Bool.false_ne_true]
  exact h
theorem line_of {n : Nat} (h : n ≤ 16777216) : n ≤ sizeLine := by
  rw [sizeLine_eq]
  exact h
theorem line_lt {n : Nat} (h : n < 16777216) : n < sizeLine := by
  rw [sizeLine_eq]
  exact h
/-- a comprehension without ifs -/
theorem lc_yes {σ : L2.St} {H : Hp} {T N : Hp → Prop} (h : T H) : tYes σ H fun b H3 => if b = true then T H3 else N H3 := by
  show (if true = true then T H else N H)
  rw [if_pos rfl]
  exact h
theorem take_succ {α : Type} {l : List α} {i : Nat} {x : α} (h : l[i]? = some x) : l.take (i + 1) = l.take i ++ [x] := by
  rw [List.take_add_one, h]
  rfl
/-- data of ints: a list's, a tuple's items -/
def dI (ns : List Int) : List PyData := ns.map PyData.int
theorem dp_ints {K : PySem.W.Frag} {H : Hp} : ∀ ns : List Int, DpAll K H (vI ns) (dI ns)
  | [] => .nil
  | n :: ns => .cons (.int n) (dp_ints ns)
theorem lay_map {α : Type} (f : α → PyData) (h : ∀ x, (f x).canLay0 = true) : ∀ xs : List α, PyData.canLayAll0 (xs.map f) = true
  | [] => by simp [PyData.canLayAll0]
  | x :: xs => by
    have e := lay_map f h xs
    show PyData.canLayAll0 (f x :: xs.map f) = true
    simp [PyData.canLayAll0, h x, e]
theorem dep_map {α : Type} (f : α → PyData) (n : Nat) (h : ∀ x, (f x).depth ≤ n) : ∀ xs : List α, PyData.depthAll (xs.map f) ≤ n
  | [] => by simp [PyData.depthAll]
  | x :: xs => by
    have e := dep_map f n h xs
    show PyData.depthAll (f x :: xs.map f) ≤ n
    simp only [PyData.depthAll]
    exact Nat.max_le.mpr ⟨h x, e⟩
theorem lay_list {ds : List PyData} (h : PyData.canLayAll0 ds = true) : (PyData.list ds).canLay0 = true := by simpa [PyData.canLay0] using h
theorem lay_tuple {ds : List PyData} (h : PyData.canLayAll0 ds = true) : (PyData.tuple ds).canLay0 = true := by simpa [PyData.canLay0] using h
theorem dep_list {ds : List PyData} {n : Nat} (h : PyData.depthAll ds ≤ n) : (PyData.list ds).depth ≤ n + 1 := by
  simp only [PyData.depth]
  omega
theorem dep_tuple {ds : List PyData} {n : Nat} (h : PyData.depthAll ds ≤ n) : (PyData.tuple ds).depth ≤ n + 1 := by
  simp only [PyData.depth]
  omega
theorem lay_ints (ns : List Int) : PyData.canLayAll0 (dI ns) = true := lay_map _ (fun x => by simp [PyData.canLay0]) ns
theorem dep_ints (ns : List Int) : PyData.depthAll (dI ns) ≤ 0 := dep_map _ 0 (fun x => by simp [PyData.depth]) ns
theorem shaped_of {d : PyData} (h : d.canLay0 = true) (n : d.depth ≤ 64) : SeqAt.shaped d = true := Bool.and_eq_true_iff.mpr ⟨h, decide_eq_true n⟩
/-! the layer's rules with the written part told (within a comprehension) -/
section
variable {X : Cx} {K : PySem.W.Frag}
theorem ix_listK (e : X.K = K) : IxR X (rIxL K) := e ▸ ix_list
theorem ix_tupK (e : X.K = K) : IxR X (rIxT K) := e ▸ ix_tup
theorem ix_seqK (e : X.K = K) : IxR X (rIx K) := e ▸ ix_seq
theorem call_lenK (e : X.K = K) : CallR X (.builtin "len") (fun xs H Q => ∃ p ys, xs = [.ref p] ∧ (SqL K H p ys ∨ SqT K H p ys) ∧ Q (.int ys.length) H) := e ▸ call_len_seq
theorem call_listK (e : X.K = K) : CallR X (.type "list") (fun xs H Q => ∃ p ys, xs = [.ref p] ∧ (SqL K H p ys ∨ SqT K H p ys) ∧ ∀ l, H l = none → Q (.ref l) (upd H l (.lst ys))) := e ▸ call_list_of
theorem call_tupleK (e : X.K = K) : CallR X (.type "tuple") (fun xs H Q => ∃ p ys, xs = [.ref p] ∧ ((SqL K H p ys ∧ ∀ l, H l = none → Q (.ref l) (upd H l (.tup ys))) ∨ (SqT K H p ys ∧ Q (.ref p) H))) := e ▸ call_tuple_of
theorem call_sumK (c : X.calm = true) (e : X.K = K) : CallR X (.builtin "sum") (rSum K) := e ▸ cr_sum c
theorem pi_listK {tg l : Expr} {tl : TE} (e : X.K = K) (hl : PE X l tl) : PI X tg l (iList K tl) := e ▸ pi_list hl
theorem pi_tupK {tg l : Expr} {tl : TE} (e : X.K = K) (hl : PE X l tl) : PI X tg l (iTup K tl) := e ▸ pi_tup hl
end
section
variable {P : Program} {w : World} {K : PySem.W.Frag} {mg : Str → Option Value} {base : Heap}
/-! ### zip of two sequences, each a list or a tuple -/
def nmS (k : Bool) : String := if k = true then "list" else "tuple"
def nmI (k : Bool) : String := if k = true then "list_iterator" else "tuple_iterator"
/-- a list (k true) or tuple (k false) of these items stands at l -/
def SeqB (k : Bool) (h : Heap) (l : Addr) (its : Array Value) : Prop := match k with
  | true => h.IsList l its
  | false => h.IsTuple l its
def IterB (k : Bool) (h : Heap) (it l : Addr) (i : Nat) : Prop := match k with
  | true => h.IsListIter it l i
  | false => h.IsTupleIter it l i
def SqB (K : PySem.W.Frag) (k : Bool) (H : Hp) (a : Addr) (xs : List V) : Prop := match k with
  | true => SqL K H a xs
  | false => SqT K H a xs
theorem SeqB.over {k : Bool} {h h' : Heap} {a b : Addr} {its : Array Value} (x : SeqB k h a its) (e : Heap.ExtBut b h h') (n : a ≠ b) : SeqB k h' a its := by
  cases k
  · exact Heap.IsTuple.extBut x e n
  · exact Heap.IsList.extBut x e n
theorem IterB.over {k : Bool} {h h' : Heap} {a b l : Addr} {i : Nat} (x : IterB k h a l i) (e : Heap.ExtBut b h h') (n : a ≠ b) : IterB k h' a l i := by
  cases k
  · exact Heap.IsTupleIter.extBut x e n
  · exact Heap.IsListIter.extBut x e n
theorem IterB.to {k : Bool} {h h' : Heap} {a l : Addr} {i : Nat} (x : IterB k h a l i) (e : ∀ o, h.get? a = some o → h'.get? a = some o) : IterB k h' a l i := by
  cases k
  · exact Heap.IsTupleIter.at x e
  · exact Heap.IsListIter.at x e
theorem IterB.obj {k : Bool} {h : Heap} {a l : Addr} {i : Nat} (x : IterB k h a l i) : ∃ o, h.get? a = some o ∧ o.data = .fields #[.ref l, .int i 0] := by
  cases k
  · obtain ⟨o, e1, _, e2⟩ := (show Heap.IsTupleIter h a l i from x)
    exact ⟨o, e1, e2⟩
  · obtain ⟨o, e1, _, e2⟩ := (show Heap.IsListIter h a l i from x)
    exact ⟨o, e1, e2⟩
theorem SeqB.lt {k : Bool} {h : Heap} {a : Addr} {its : Array Value} (x : SeqB k h a its) : a < h.objs.size := by
  cases k
  · obtain ⟨o, e, _⟩ := (show Heap.IsTuple h a its from x)
    exact Heap.lt_size e
  · obtain ⟨o, e, _⟩ := (show Heap.IsList h a its from x)
    exact Heap.lt_size e
section
variable {prog : Program} {A : Around} {E : Value → Shared → Prop} {s : Shared}
theorem next_of {k : Bool} {it l : Addr} {i : Nat} {its : Array Value} {x : Value} {Q : Value → Shared → Prop} (c : IterB k s.heap it l i) (d : SeqB k s.heap l its) (e : its[i]? = some x)
    (q : ∀ h', IterB k h' it l (i + 1) → Heap.SameBut it s.heap h' → Q x { s with heap := h' }) : wpAny (model prog w) A (Builtin.SmallTypes.nextOf (.ref it)) Q E s := by
  cases k
  · exact RZ.nextOf_tuple_item c d e q
  · exact wpAny_nextOf_list_item c d e q
theorem next_no {k : Bool} {it l : Addr} {i : Nat} {its : Array Value} {Q : Value → Shared → Prop} (hh : A.handled = none) (c : IterB k s.heap it l i) (d : SeqB k s.heap l its) (e : its[i]? = none)
    (q : ∀ h' u, Heap.ExtBut it s.heap h' → (∃ o, h'.get? u = some o ∧ o.cls = .type "StopIteration") → E (.ref u) { s with heap := h' }) : wpAny (model prog w) A (Builtin.SmallTypes.nextOf (.ref it)) Q E s := by
  cases k
  · exact RZ.nextOf_tuple_end hh c d e q
  · exact wpAny_nextOf_list_end hh c d e q
/-- one turn: both have an item -/
theorem turn_item {k1 k2 : Bool} {zo ti to j1 j2 a1 a2 : Addr} {i : Nat} {xs ys : Array Value} {x y u v : Value} {Q : Value → Shared → Prop} (D : ZipApart zo ti to j1 j2 a1 a2)
    (cz : IsZip s.heap zo ti to .none) (ci : IsPair s.heap ti (.ref j1) (.ref j2)) (co : IsPair s.heap to u v)
    (c1 : IterB k1 s.heap j1 a1 i) (c2 : IterB k2 s.heap j2 a2 i) (d1 : SeqB k1 s.heap a1 xs) (d2 : SeqB k2 s.heap a2 ys) (ex : xs[i]? = some x) (ey : ys[i]? = some y)
    (q : ∀ h', IsZip h' zo ti to (rawInt s.heap.objs.size) → IsPair h' to x y → IterB k1 h' j1 a1 (i + 1) → IterB k2 h' j2 a2 (i + 1) → IsPair h' s.heap.objs.size x y → h'.objs.size = s.heap.objs.size + 1 →
      (∀ c o, c ≠ zo → c ≠ to → c ≠ j1 → c ≠ j2 → s.heap.get? c = some o → h'.get? c = some o) → Q (.ref s.heap.objs.size) { s with heap := h' }) :
    wpAny (model prog w) A (Builtin.«zip.__next__» ⟨[.ref zo], []⟩) (fun fin st => ∃ r, fin = .done (.ret r) ∧ Q r st) E s := by
  show wpAny _ _ (field (.ref zo) 2 >>= _) _ _ _
  refine wpAny_bind (wpAny_field cz rfl (x := .bool false) rfl ?_); show wpAny _ _ (field (.ref zo) 3 >>= _) _ _ _
  refine wpAny_bind (wpAny_field cz rfl (x := .ref ti) rfl ?_)
  refine wpAny_bind (wpAny_seqItems ci rfl ?_); show wpAny _ _ (Builtin.SmallTypes.ownedTupleIsFree (.ref zo) >>= _) _ _ _
  refine wpAny_bind ?_; unfold Builtin.SmallTypes.ownedTupleIsFree
  refine wpAny_bind (wpAny_field cz rfl (x := .none) rfl (wpAny_pure ?_)); simp only [if_true]
  refine wpAny_bind (wpAny_rule ?_); refine wpAny_bind (wpAny_field cz rfl (x := .ref to) rfl ?_)
  refine wpAny_bind (wpAny_setField_rec cz (by simp) fun g1 z1 s1 => ?_)
  replace z1 : IsZip g1 zo ti to .ellipsis := z1
  refine wpAny_bind ?_; simp only [List.forIn_cons, List.forIn_nil, List.zipIdx_cons, List.zipIdx_nil]
  refine wpAny_bind (wpAny_bind (wpAny_onRaise ?_)); show wpAny _ _ (Builtin.SmallTypes.nextOf (.ref j1) >>= _) _ _ _
  refine wpAny_bind (next_of (c1.over s1.extBut D.i1z) (d1.over s1.extBut D.l1z) ex fun g2 i1 s2 => wpAny_pure ?_)
  have o2 : IsPair g2 to u v := s2.extBut _ _ D.TOi1 (s1.extBut _ _ D.TOz co)
  refine wpAny_bind (wpAny_seqItems o2 rfl ?_); refine wpAny_bind (wpAny_updateSeq_pair o2 fun g3 o3 s3 => ?_)
  replace o3 : IsPair g3 to x v := o3
  refine wpAny_bind (wpAny_letGo (wpAny_pure ?_)); refine wpAny_bind (wpAny_bind (wpAny_onRaise ?_))
  show wpAny _ _ (Builtin.SmallTypes.nextOf (.ref j2) >>= _) _ _ _
  refine wpAny_bind (next_of (((c2.over s1.extBut D.i2z).over s2.extBut D.i12.symm).over s3.extBut D.TOi2.symm) (((d2.over s1.extBut D.l2z).over s2.extBut D.l2i1).over s3.extBut D.l2TO) ey fun g4 i2 s4 => wpAny_pure ?_)
  have o4 : IsPair g4 to x v := s4.extBut _ _ D.TOi2 o3
  refine wpAny_bind (wpAny_seqItems o4 rfl ?_); refine wpAny_bind (wpAny_updateSeq_pair o4 fun g5 o5 s5 => ?_)
  replace o5 : IsPair g5 to x y := o5
  refine wpAny_bind (wpAny_letGo (wpAny_pure (wpAny_pure ?_))); refine wpAny_bind (wpAny_seqItems o5 rfl ?_); refine wpAny_bind (wpAny_newTuple ?_)
  have sz : g5.objs.size = s.heap.objs.size := by rw [s5.1, s4.1, s3.1, s2.1, s1.1]
  have z5 : IsZip g5 zo ti to .ellipsis := s5.extBut _ _ D.TOz.symm (s4.extBut _ _ D.i2z.symm (s3.extBut _ _ D.TOz.symm (s2.extBut _ _ D.i1z.symm z1)))
  have old : ∀ c o, c ≠ zo → c ≠ to → c ≠ j1 → c ≠ j2 → s.heap.get? c = some o → g5.get? c = some o := fun c o n1 n2 n3 n4 e =>
    s5.extBut _ _ n2 (s4.extBut _ _ n4 (s3.extBut _ _ n2 (s2.extBut _ _ n3 (s1.extBut _ _ n1 e))))
  have i5 : IterB k1 g5 j1 a1 (i + 1) := ((i1.over s3.extBut D.TOi1.symm).over s4.extBut D.i12).over s5.extBut D.TOi1.symm
  have i6 : IterB k2 g5 j2 a2 (i + 1) := i2.over s5.extBut D.TOi2.symm
  have lz : zo < g5.objs.size := Heap.lt_size z5
  show wpAny _ _ (Builtin.SmallTypes.ownedTupleHandOut (.ref zo) (.ref g5.objs.size) >>= _) _ _ _
  refine wpAny_bind ?_; unfold Builtin.SmallTypes.ownedTupleHandOut
  have z6 : IsZip (g5.push { cls := .type "tuple", data := .seq #[x, y] }) zo ti to .ellipsis := Heap.get?_push_of_some _ z5
  refine wpAny_bind (wpAny_setField_rec z6 (by simp) fun g7 z7 s7 => ?_)
  replace z7 : IsZip g7 zo ti to (rawInt g5.objs.size) := z7
  refine wpAny_setField_rec z7 (by simp) fun g8 z8 s8 => ?_
  replace z8 : IsZip g8 zo ti to (rawInt g5.objs.size) := z8
  have up : ∀ c o, c ≠ zo → g5.get? c = some o → g8.get? c = some o := fun c o n e => s8.extBut _ _ n (s7.extBut _ _ n (Heap.get?_push_of_some _ e))
  have t8 : IsPair g8 g5.objs.size x y := s8.extBut _ _ (Nat.ne_of_gt lz) (s7.extBut _ _ (Nat.ne_of_gt lz) (Heap.get?_push_size _ rfl))
  have w8 : g8.objs.size = g5.objs.size + 1 := by rw [s8.1, s7.1, Heap.size_push]
  rw [sz] at z8 t8 w8
  refine wpAny_pure ⟨_, rfl, ?_⟩; show Q (.ref g5.objs.size) _
  rw [sz]
  exact q g8 z8 (up _ _ D.TOz o5) (i5.to fun o e => up _ o D.i1z e) (i6.to fun o e => up _ o D.i2z e) t8 w8 fun c o n1 n2 n3 n4 e => up c o n1 (old c o n1 n2 n3 n4 e)
/-- the turn at which one of the two is at its end -/
theorem turn_end {k1 k2 : Bool} {zo ti to j1 j2 a1 a2 : Addr} {i : Nat} {xs ys : Array Value} {u v : Value} {Q : Fin → Shared → Prop} (hh : A.handled = none) (D : ZipApart zo ti to j1 j2 a1 a2)
    (cz : IsZip s.heap zo ti to .none) (ci : IsPair s.heap ti (.ref j1) (.ref j2)) (co : IsPair s.heap to u v)
    (c1 : IterB k1 s.heap j1 a1 i) (c2 : IterB k2 s.heap j2 a2 i) (d1 : SeqB k1 s.heap a1 xs) (d2 : SeqB k2 s.heap a2 ys) (fin : xs[i]? = none ∨ ys[i]? = none)
    (q : ∀ h' r, (∀ c o, c ≠ zo → c ≠ to → c ≠ j1 → c ≠ j2 → s.heap.get? c = some o → h'.get? c = some o) → (∃ o, h'.get? r = some o ∧ o.cls = .type "StopIteration") → E (.ref r) { s with heap := h' }) :
    wpAny (model prog w) A (Builtin.«zip.__next__» ⟨[.ref zo], []⟩) Q E s := by
  show wpAny _ _ (field (.ref zo) 2 >>= _) _ _ _
  refine wpAny_bind (wpAny_field cz rfl (x := .bool false) rfl ?_); show wpAny _ _ (field (.ref zo) 3 >>= _) _ _ _
  refine wpAny_bind (wpAny_field cz rfl (x := .ref ti) rfl ?_)
  refine wpAny_bind (wpAny_seqItems ci rfl ?_); show wpAny _ _ (Builtin.SmallTypes.ownedTupleIsFree (.ref zo) >>= _) _ _ _
  refine wpAny_bind ?_; unfold Builtin.SmallTypes.ownedTupleIsFree
  refine wpAny_bind (wpAny_field cz rfl (x := .none) rfl (wpAny_pure ?_)); simp only [if_true]
  refine wpAny_bind (wpAny_rule ?_); refine wpAny_bind (wpAny_field cz rfl (x := .ref to) rfl ?_)
  refine wpAny_bind (wpAny_setField_rec cz (by simp) fun g1 z1 s1 => ?_)
  replace z1 : IsZip g1 zo ti to .ellipsis := z1
  refine wpAny_bind ?_; simp only [List.forIn_cons, List.forIn_nil, List.zipIdx_cons, List.zipIdx_nil]
  refine wpAny_bind (wpAny_bind (wpAny_onRaise ?_)); show wpAny _ _ (Builtin.SmallTypes.nextOf (.ref j1) >>= _) _ _ _
  cases ex : xs[i]? with
  | none =>
    refine wpAny_bind (next_no hh (c1.over s1.extBut D.i1z) (d1.over s1.extBut D.l1z) ex fun g2 r s2 hr => ?_)
    obtain ⟨or, h1, h2⟩ := hr
    have z2 : IsZip g2 zo ti to .ellipsis := s2 _ _ D.i1z.symm z1
    have n : r ≠ zo := fun e => by
      rw [e, z2] at h1
      cases h1
      simp at h2
    exact wpAny_setField_rec z2 (by simp) fun g3 _ s3 => q g3 r (fun c o n1 _ n3 _ e => s3.extBut _ _ n1 (s2 _ _ n3 (s1.extBut _ _ n1 e))) ⟨or, s3.extBut _ _ n h1, h2⟩
  | some x =>
    have ey : ys[i]? = none := by
      rcases fin with e | e
      · rw [ex] at e; cases e
      · exact e
    refine wpAny_bind (next_of (c1.over s1.extBut D.i1z) (d1.over s1.extBut D.l1z) ex fun g2 i1 s2 => wpAny_pure ?_)
    have o2 : IsPair g2 to u v := s2.extBut _ _ D.TOi1 (s1.extBut _ _ D.TOz co)
    refine wpAny_bind (wpAny_seqItems o2 rfl ?_); refine wpAny_bind (wpAny_updateSeq_pair o2 fun g3 o3 s3 => ?_)
    refine wpAny_bind (wpAny_letGo (wpAny_pure ?_)); refine wpAny_bind (wpAny_bind (wpAny_onRaise ?_))
    show wpAny _ _ (Builtin.SmallTypes.nextOf (.ref j2) >>= _) _ _ _
    refine wpAny_bind (next_no hh (((c2.over s1.extBut D.i2z).over s2.extBut D.i12.symm).over s3.extBut D.TOi2.symm) (((d2.over s1.extBut D.l2z).over s2.extBut D.l2i1).over s3.extBut D.l2TO) ey fun g4 r s4 hr => ?_)
    obtain ⟨or, h1, h2⟩ := hr
    have z4 : IsZip g4 zo ti to .ellipsis := s4 _ _ D.i2z.symm (s3.extBut _ _ D.TOz.symm (s2.extBut _ _ D.i1z.symm z1))
    have n : r ≠ zo := fun e => by
      rw [e, z4] at h1
      cases h1
      simp at h2
    exact wpAny_setField_rec z4 (by simp) fun g5 _ s5 => q g5 r (fun c o n1 n2 n3 n4 e => s5.extBut _ _ n1 (s4 _ _ n4 (s3.extBut _ _ n2 (s2.extBut _ _ n3 (s1.extBut _ _ n1 e))))) ⟨or, s5.extBut _ _ n h1, h2⟩
/-! the zip object made -/
abbrev hz1 (k1 : Bool) (h : Heap) (a1 : Addr) : Heap := h.push { cls := .type (nmI k1), data := .fields #[.ref a1, .int 0 0] }
abbrev hz2 (k1 k2 : Bool) (h : Heap) (a1 a2 : Addr) : Heap := (hz1 k1 h a1).push { cls := .type (nmI k2), data := .fields #[.ref a2, .int 0 0] }
abbrev hz3 (k1 k2 : Bool) (h : Heap) (a1 a2 : Addr) : Heap := (hz2 k1 k2 h a1 a2).push { cls := .type "tuple", data := .seq #[.ref h.objs.size, .ref (hz1 k1 h a1).objs.size] }
abbrev hz4 (k1 k2 : Bool) (h : Heap) (a1 a2 : Addr) : Heap := (hz3 k1 k2 h a1 a2).push { cls := .type "tuple", data := .seq #[.none, .none] }
abbrev hz5 (k1 k2 : Bool) (h : Heap) (a1 a2 : Addr) : Heap := (hz4 k1 k2 h a1 a2).push { cls := .type "zip", data := .fields #[.none, .bool false, .bool false, .ref (hz2 k1 k2 h a1 a2).objs.size, .ref (hz3 k1 k2 h a1 a2).objs.size] }
theorem new_zip (k1 k2 : Bool) (a1 a2 : Addr) (xs ys : Array Value) :
    Meets (Builtin.«zip.__new__» ⟨[.type "zip", .ref a1, .ref a2], []⟩) (fun _ R s => SeqB k1 s.heap a1 xs ∧ SeqB k2 s.heap a2 ys ∧ R (.ok (.ret (.ref (hz4 k1 k2 s.heap a1 a2).objs.size))) { s with heap := hz5 k1 k2 s.heap a1 a2 }) :=
  .of_wp fun prog w A R s hyp => by
    obtain ⟨hp, gs, dr, tk, os⟩ := s
    obtain ⟨e1, e2, fin⟩ := hyp
    have issub := sub_zip
    cases k1 <;> cases k2
    · have f1 : Heap.IsTuple (Shared.heap ⟨hp, gs, dr, tk, os⟩) a1 xs := e1
      have f2 : Heap.IsTuple (Shared.heap ⟨hp.push { cls := .type "tuple_iterator", data := .fields #[.ref a1, .int 0 0] }, gs, dr, tk, os⟩) a2 ys := Heap.IsTuple.push e2 _
      wp_walk using wpAny_pyIter_tuple f1, wpAny_pyIter_tuple f2
      exact ⟨_, rfl, fin⟩
    · have f1 : Heap.IsTuple (Shared.heap ⟨hp, gs, dr, tk, os⟩) a1 xs := e1
      have f2 : Heap.IsList (Shared.heap ⟨hp.push { cls := .type "tuple_iterator", data := .fields #[.ref a1, .int 0 0] }, gs, dr, tk, os⟩) a2 ys := Heap.IsList.push e2 _
      wp_walk using wpAny_pyIter_tuple f1, wpAny_pyIter_list f2
      exact ⟨_, rfl, fin⟩
    · have f1 : Heap.IsList (Shared.heap ⟨hp, gs, dr, tk, os⟩) a1 xs := e1
      have f2 : Heap.IsTuple (Shared.heap ⟨hp.push { cls := .type "list_iterator", data := .fields #[.ref a1, .int 0 0] }, gs, dr, tk, os⟩) a2 ys := Heap.IsTuple.push e2 _
      wp_walk using wpAny_pyIter_list f1, wpAny_pyIter_tuple f2
      exact ⟨_, rfl, fin⟩
    · have f1 : Heap.IsList (Shared.heap ⟨hp, gs, dr, tk, os⟩) a1 xs := e1
      have f2 : Heap.IsList (Shared.heap ⟨hp.push { cls := .type "list_iterator", data := .fields #[.ref a1, .int 0 0] }, gs, dr, tk, os⟩) a2 ys := Heap.IsList.push e2 _
      wp_walk using wpAny_pyIter_list f1, wpAny_pyIter_list f2
      exact ⟨_, rfl, fin⟩
theorem IterB.mk {k : Bool} {h : Heap} {it l : Addr} (e : h.get? it = some { cls := .type (nmI k), data := .fields #[.ref l, .int 0 0] }) : IterB k h it l 0 := by
  cases k
  · exact ⟨_, e, rfl, rfl⟩
  · exact ⟨_, e, rfl, rfl⟩
theorem call_zipB {k1 k2 : Bool} {a1 a2 : Addr} {xs ys : Array Value} {Q : Value → Shared → Prop} (e1 : SeqB k1 s.heap a1 xs) (e2 : SeqB k2 s.heap a2 ys)
    (q : ∀ h', IsZip h' (s.heap.objs.size + 4) (s.heap.objs.size + 2) (s.heap.objs.size + 3) .none → IsPair h' (s.heap.objs.size + 2) (.ref s.heap.objs.size) (.ref (s.heap.objs.size + 1)) → IsPair h' (s.heap.objs.size + 3) .none .none →
      IterB k1 h' s.heap.objs.size a1 0 → IterB k2 h' (s.heap.objs.size + 1) a2 0 → h'.objs.size = s.heap.objs.size + 5 → (∀ c o, s.heap.get? c = some o → h'.get? c = some o) → Q (.ref (s.heap.objs.size + 4)) { s with heap := h' }) :
    wpAny (model prog w) A (call (.type "zip") [.ref a1, .ref a2]) Q E s := by
  refine callType_new F.called_zip (by decide) (F.typeCall_zip_2 _ _) (F.newCall_zip_2 _ _) (fun ob => F.args_object_init_3 ob _ _) F.entry_zip_new (new_zip k1 k2 a1 a2 xs ys) ⟨e1, e2, ?_⟩
  have w1 : (hz1 k1 s.heap a1).objs.size = s.heap.objs.size + 1 := Heap.size_push ..
  have w2 : (hz2 k1 k2 s.heap a1 a2).objs.size = s.heap.objs.size + 2 := by rw [Heap.size_push, w1]
  have w3 : (hz3 k1 k2 s.heap a1 a2).objs.size = s.heap.objs.size + 3 := by rw [Heap.size_push, w2]
  have w4 : (hz4 k1 k2 s.heap a1 a2).objs.size = s.heap.objs.size + 4 := by rw [Heap.size_push, w3]
  have w5 : (hz5 k1 k2 s.heap a1 a2).objs.size = s.heap.objs.size + 5 := by rw [Heap.size_push, w4]
  have g5 : (hz5 k1 k2 s.heap a1 a2).get? (hz4 k1 k2 s.heap a1 a2).objs.size = some _ := Heap.get?_push_size _ rfl
  have g4 : (hz5 k1 k2 s.heap a1 a2).get? (hz3 k1 k2 s.heap a1 a2).objs.size = some _ := Heap.get?_push_of_some _ (Heap.get?_push_size _ rfl)
  have g3 : (hz5 k1 k2 s.heap a1 a2).get? (hz2 k1 k2 s.heap a1 a2).objs.size = some _ := Heap.get?_push_of_some _ (Heap.get?_push_of_some _ (Heap.get?_push_size _ rfl))
  have g2 : (hz5 k1 k2 s.heap a1 a2).get? (hz1 k1 s.heap a1).objs.size = some _ := Heap.get?_push_of_some _ (Heap.get?_push_of_some _ (Heap.get?_push_of_some _ (Heap.get?_push_size _ rfl)))
  have g1 : (hz5 k1 k2 s.heap a1 a2).get? s.heap.objs.size = some _ := Heap.get?_push_of_some _ (Heap.get?_push_of_some _ (Heap.get?_push_of_some _ (Heap.get?_push_of_some _ (Heap.get?_push_size _ rfl))))
  show _ ∧ _
  rw [w2, w3, w4] at g5
  rw [w1, w2] at g3
  rw [w3] at g4
  rw [w1] at g2
  rw [w4]
  exact ⟨⟨_, g5, rfl⟩, q _ g5 g3 g4 (IterB.mk g1) (IterB.mk g2) w5 fun c o e => Heap.get?_push_of_some _ (Heap.get?_push_of_some _ (Heap.get?_push_of_some _ (Heap.get?_push_of_some _ (Heap.get?_push_of_some _ e))))⟩
end
/-! the walk over it -/
theorem seqB_of {X : Cx} {pins : List (Addr × Obj)} {σ : L2.St} {H : Hp} {s : Shared} {k : Bool} {a : Addr} {xs : List V} (I : Inv X pins σ H s) (h : SqB X.K k H a xs) : ∃ its : List Value, Vals xs its ∧ SeqB k s.heap a its.toArray := by
  cases k
  · obtain ⟨its, r, p, _⟩ := I.tuple h
    exact ⟨its, r, p⟩
  · obtain ⟨its, r, p, _⟩ := I.list h
    exact ⟨its, r, p.isList⟩
theorem seqB_one {X : Cx} {pins : List (Addr × Obj)} {σ : L2.St} {H : Hp} {s : Shared} {k : Bool} {a : Addr} {xs ys : List V} (I : Inv X pins σ H s) (h : SqB X.K k H a xs) (h' : SqB X.K k H a ys) : xs = ys := by
  cases k
  · exact I.tuple_inj h h'
  · exact I.list_inj h h'
/-- the sequences at a and b as they stand at each turn, their items in new pairs -/
def ItzB (K : PySem.W.Frag) (k1 k2 : Bool) (a b : Addr) : It :=
  ⟨fun i H => ∃ (xs ys : List V) (x y : V), SqB K k1 H a xs ∧ SqB K k2 H b ys ∧ xs[i]? = some x ∧ ys[i]? = some y,
    fun i H v H' => ∃ T x y, v = .ref T ∧ H T = none ∧ H' = upd H T (.tup [x, y]) ∧ (∀ xs, SqB K k1 H a xs → xs[i]? = some x) ∧ ∀ ys, SqB K k2 H b ys → ys[i]? = some y,
    fun i H => ∃ xs ys : List V, SqB K k1 H a xs ∧ SqB K k2 H b ys ∧ (xs.length ≤ i ∨ ys.length ≤ i)⟩
theorem turn_zipB {k1 k2 : Bool} {elts : List Expr} {kk : Nat} {tpos : Pos} {a b zo ti to j1 j2 : Addr} (D : ZipApart zo ti to j1 j2 a b) :
    Turn P w K (.Tuple elts kk tpos) (ItzB K k1 k2 a b) [zo, ti, to, j1, j2] zo (fun i h => IsZip h zo ti to .none ∧ IsPair h ti (.ref j1) (.ref j2) ∧ (∃ x y, IsPair h to x y) ∧ IterB k1 h j1 a i ∧ IterB k2 h j2 b i) where
  mem := by simp
  obj := fun i h ⟨cz, ci, ⟨x, y, co⟩, c1, c2⟩ c hc => by
    have e : c = zo ∨ c = ti ∨ c = to ∨ c = j1 ∨ c = j2 := by simpa using hc
    rcases e with e | e | e | e | e
    · rw [e]; exact ⟨_, cz, fun v z => nomatch z⟩
    · rw [e]; exact ⟨_, ci, fun v z => nomatch z⟩
    · rw [e]; exact ⟨_, co, fun v z => nomatch z⟩
    · obtain ⟨o, e1, e2⟩ := c1.obj
      exact ⟨o, e ▸ e1, fun v z => by rw [e2] at z; cases z⟩
    · obtain ⟨o, e1, e2⟩ := c2.obj
      exact ⟨o, e ▸ e1, fun v z => by rw [e2] at z; cases z⟩
  keep := fun i h h' ⟨cz, ci, ⟨x, y, co⟩, c1, c2⟩ kp =>
    ⟨kp zo (by simp) _ cz, kp ti (by simp) _ ci, ⟨x, y, kp to (by simp) _ co⟩, c1.to fun o z => kp j1 (by simp) o z, c2.to fun o z => kp j2 (by simp) o z⟩
  item := by
    intro X e1 e2 e3 calm i pins s σ H E I free st go
    subst e1 e2 e3
    obtain ⟨cz, ci, ⟨x0, y0, co⟩, c1, c2⟩ := st
    obtain ⟨xs, ys, x, y, qx, qy, hx, hy⟩ := go
    obtain ⟨its, rv, p⟩ := seqB_of I qx
    obtain ⟨jts, rv2, p2⟩ := seqB_of I qy
    obtain ⟨u, hu, ru⟩ := rv.get hx
    obtain ⟨v, hv, rv'⟩ := rv2.get hy
    have lz : zo < s.heap.objs.size := Heap.lt_size cz
    have typ : s.TypeIs (.ref zo) "zip" := ⟨_, cz, rfl⟩
    unfold pyNext
    refine wpAny_bind (wpAny_attempt (wpAny_callSpecial?_slot (name := Str.ofString "__next__") typ F.slot_zip_next (wpAny_call_entry F.slot_zip_next typ F.entry_zip_next (turn_item D cz ci co c1 c2 p p2 (x := u) (y := v) (by simpa using hu) (by simpa using hv) fun g z' o' i1 i2 pr sz kp => wpAny_pure ?_) (F.args_zip_next_1 _))))
    refine ⟨_, rfl, wpAny_letOwnedTupleGo_zip (s := { s with heap := g }) z' fun g' z'' sb => ?_⟩
    have pr2 : g'.get? s.heap.objs.size = some { cls := .type "tuple", data := .seq #[u, v] } := (sb.2 _ (Nat.ne_of_gt lz)).trans pr
    have fresh : ObjOk X.prog X.w (upd H s.heap.objs.size (.tup [x, y])) g' s.heap.objs.size (.tup [x, y]) := ⟨by show 2 ≤ sizeLine; decide, [u, v], .cons ru (.cons rv' .nil), ⟨_, pr2, rfl, _, rfl⟩⟩
    have J : Inv X pins σ (upd H s.heap.objs.size (.tup [x, y])) { s with heap := g' } :=
      I.turnedNew (t' := s.toks) (ch := [zo, ti, to, j1, j2]) (fun c o n e => by
        simp only [List.mem_cons, List.not_mem_nil, or_false, not_or] at n
        exact (sb.2 c n.1).trans (kp c o n.1 n.2.2.1 n.2.2.2.1 n.2.2.2.2 e)) free (Nat.le_refl _) fresh
    refine ⟨.ref s.heap.objs.size, _, J, rfl, ⟨_, x, y, rfl, I.hok.fresh (Nat.le_refl _), rfl, fun l hl => by rw [seqB_one I hl qx]; exact hx, fun l hl => by rw [seqB_one I hl qy]; exact hy⟩,
      ⟨z'', (sb.2 _ D.TIz).trans (kp _ _ D.TIz D.TITO D.TIi1 D.TIi2 ci), ⟨u, v, (sb.2 _ D.TOz).trans o'⟩, i1.to fun o z => (sb.2 _ D.i1z).trans z, i2.to fun o z => (sb.2 _ D.i2z).trans z⟩, fun c hc => ?_⟩
    have lc : c < s.heap.objs.size := by
      have e : c = zo ∨ c = ti ∨ c = to ∨ c = j1 ∨ c = j2 := by simpa using hc
      rcases e with e | e | e | e | e
      · exact e ▸ lz
      · exact e ▸ Heap.lt_size ci
      · exact e ▸ Heap.lt_size co
      · obtain ⟨o, z, _⟩ := c1.obj
        exact e ▸ Heap.lt_size z
      · obtain ⟨o, z, _⟩ := c2.obj
        exact e ▸ Heap.lt_size z
    rw [upd_ne (Nat.ne_of_lt lc)]
    exact (free c hc).1
  done := by
    intro X e1 e2 e3 calm i pins s σ H E I free st stop
    subst e1 e2 e3
    obtain ⟨cz, ci, ⟨x0, y0, co⟩, c1, c2⟩ := st
    obtain ⟨xs, ys, qx, qy, fin⟩ := stop
    obtain ⟨its, rv, p⟩ := seqB_of I qx
    obtain ⟨jts, rv2, p2⟩ := seqB_of I qy
    have n1 := rv.length
    have n2 := rv2.length
    have fin2 : its.toArray[i]? = none ∨ jts.toArray[i]? = none := by
      rcases fin with e | e
      · exact .inl (by simp; omega)
      · exact .inr (by simp; omega)
    have typ : s.TypeIs (.ref zo) "zip" := ⟨_, cz, rfl⟩
    unfold pyNext
    refine wpAny_bind (wpAny_attempt (wpAny_callSpecial?_slot (name := Str.ofString "__next__") typ F.slot_zip_next (wpAny_call_entry F.slot_zip_next typ F.entry_zip_next (turn_end (I.ok.hd calm) D cz ci co c1 c2 p p2 fin2 fun g r kp hr => ?_) (F.args_zip_next_1 _))))
    obtain ⟨o, h1, h2⟩ := hr
    refine wpAny_bind (wpAny_isInstance (T := "StopIteration") (b := true) ⟨o, h1, h2⟩ isSubtype_stop ?_)
    refine wpAny_pure ⟨rfl, I.turnedL (t' := s.toks) (ch := [zo, ti, to, j1, j2]) (fun c o n e => ?_) free⟩
    simp only [List.mem_cons, List.not_mem_nil, or_false, not_or] at n
    exact kp c o n.1 n.2.2.1 n.2.2.2.1 n.2.2.2.2 e
  self := fun A i s Q E st h => wpAny_pyIter_zip st.1 h
def iZipB (K : PySem.W.Frag) (ta : TA) : TI := fun σ H R => ta σ H fun vs H1 => ∃ (k1 k2 : Bool) (a b : Addr) (xs ys : List V), vs = [.ref a, .ref b] ∧ SqB K k1 H1 a xs ∧ SqB K k2 H1 b ys ∧ R (ItzB K k1 k2 a b) H1
theorem pi_zipB {X : Cx} {e e2 : Expr} {ta : TA} {p pos tpos : Pos} {elts : List Expr} {kk : Nat} (gl : Gl X "zip") (no : X.mg "zip" = none) (pa : PA X [e, e2] ta)
    (h1 : starEach [e, e2] X.env = (false, eval e X.env) :: starEach [e2] X.env := by rfl) (h2 : (backTo pos (starEach [e2] X.env)).any (·.1) = false := by rfl) : PI X (.Tuple elts kk tpos) (.Call (.Name "zip" p) [e, e2] [] pos) (iZipB X.K ta) := by
  constructor
  intro pins s σ H R I h
  refine Call_ (ld_blt I gl no PyProof.Rows.boot_zip (PyProof.Rows.callWith_type1 (thn (pa.run pos pins s σ H _ I h) fun us st z => ?_) h1 h2))
  obtain ⟨vs, H1, J, rel, k1, k2, a, b, xs, ys, rfl, qx, qy, fin⟩ := z
  obtain ⟨u1, u2, rfl, ra, rb⟩ := vals2 rel
  cases ra
  cases rb
  obtain ⟨its, rv, p1⟩ := seqB_of J qx
  obtain ⟨jts, rv2, p2⟩ := seqB_of J qy
  refine call_zipB p1 p2 fun g cz ci co c1 c2 sz kp => wpAny_pyIter_zip cz ?_
  have J2 : Inv X pins σ H1 { st with heap := g } := J.kept (t' := st.toks) kp
  refine ⟨st.heap.objs.size + 4, [st.heap.objs.size + 4, st.heap.objs.size + 2, st.heap.objs.size + 3, st.heap.objs.size, st.heap.objs.size + 1], _, _, H1, rfl, J2, turn_zipB (PySem.W.ktu_apart st.heap.objs.size a b p1.lt p2.lt), ⟨cz, ci, ⟨_, _, co⟩, c1, c2⟩, fun c hc => ?_, fin⟩
  have le : st.heap.objs.size ≤ c := by
    simp only [List.mem_cons, List.not_mem_nil, or_false] at hc
    rcases hc with e | e | e | e | e <;> (rw [e]; first | exact Nat.le_add_right _ _ | exact Nat.le_refl _)
  exact J.fpOk le (J.hok.fresh le)
theorem walk_zipB {k1 k2 : Bool} {a b : Addr} {xs ys : List V} {n : Nat} (hn : n = min xs.length ys.length) : Walk (ItzB K k1 k2 a b) n (fun H => SqB K k1 H a xs ∧ SqB K k2 H b ys) (YPair (fun i => xs[i]?) (fun i => ys[i]?)) where
  goes := fun i H hi q => by
    have l1 : i < xs.length := by omega
    have l2 : i < ys.length := by omega
    exact ⟨xs, ys, xs[i], ys[i], q.1, q.2, List.getElem?_eq_getElem l1, List.getElem?_eq_getElem l2⟩
  stops := fun H q => ⟨xs, ys, q.1, q.2, by omega⟩
  yields := fun i H v H' _ q y => by
    obtain ⟨T, x, z, h1, h2, h3, h4, h5⟩ := y
    exact ⟨T, x, z, h1, h2, h3, h4 xs q.1, h5 ys q.2⟩
end
section
variable {P : Program} {w : World} {K : PySem.W.Frag} {mg : Str → Option Value} {base : Heap}
/-! ### zip within a comprehension -/
theorem pi_zipBK {X : Cx} {e e2 : Expr} {ta : TA} {p pos tpos : Pos} {elts : List Expr} {kk : Nat} (q : X.K = K) (gl : Gl X "zip") (no : X.mg "zip" = none) (pa : PA X [e, e2] ta)
    (h1 : starEach [e, e2] X.env = (false, eval e X.env) :: starEach [e2] X.env := by rfl) (h2 : (backTo pos (starEach [e2] X.env)).any (·.1) = false := by rfl) : PI X (.Tuple elts kk tpos) (.Call (.Name "zip" p) [e, e2] [] pos) (iZipB K ta) := q ▸ pi_zipB gl no pa h1 h2
end
section
variable {P : Program} {w : World} {K : PySem.W.Frag} {mg : Str → Option Value} {base : Heap}
/-! ### own errors: facts of a class, isinstance of a caught one, calls with keywords that may raise -/
/-- what stands of an own error class at C, over ValueError -/
structure XC (K : PySem.W.Frag) (C : Addr) : Prop where
  x : PySem.W.excIn K C [.type "ValueError", .type "Exception", .type "BaseException", .type "object"] "ValueError.__new__" = true
  k : PySem.W.keepIn K (.ref C) = true
  t : PySem.W.typeIn K (.ref C) = some (.type "type")
  cl : PySem.W.isClsIn K C = true
  s : PySem.W.subIn K (.ref C) (.ref C) = some true
  v : PySem.W.subIn K (.ref C) (.type "ValueError") = some true
  hg : PySem.W.findIn K (.ref C) "__getattribute__" = some (some (.builtin "BaseException.__getattribute__"))
  hk : PySem.W.findIn K (.ref C) "__getattr__" = some none
  hs : PySem.W.subIn K (.ref C) (.type "BaseException") = some true
  hd : PySem.W.hasDictIn K C = true
  ha : PySem.W.findIn K (.ref C) "__class__" = some (some (.builtin "object.__class__"))
  hn : PySem.W.specialIn K (.builtin "object.__class__") "__get__" = some (some (.builtin "getset_descriptor.__get__"))
  ht : PySem.W.takesIn K (.builtin "object.__class__") = some true
  hm : PySem.W.mroIn K C (.type "object") = some true
theorem XC.ec {C : Addr} (x : XC K C) : ExcC K C := ⟨x.hg, x.hk, x.hs, x.hd, x.ha, x.hn, x.ht, x.hm⟩
theorem XC.exm {C D : Addr} {b : Bool} (x : XC K C) (h : PySem.W.subIn K (.ref D) (.ref C) = some b) : PySem.W.exmOne K (.ref D) (.ref C) = some b := PySem.W.exm_ref x.hs x.hd x.t h
theorem XC.kit {C : Addr} {t : Value} {b : Bool} (x : XC K C) (h : PySem.W.subIn K t (.ref C) = some b) : PySem.W.kitOne K t (.ref C) = some b := by
  unfold PySem.W.kitOne
  by_cases e : (t == .ref C) = true
  · rw [if_pos e]
    have e2 := beq_iff_eq.mp e
    rw [e2, x.s] at h
    exact h
  · rw [if_neg e]
    have h2 : (PySem.W.clsIn K C).isSome = true := x.cl
    have h3 : ((PySem.W.clsIn K C).isSome && PySem.W.typeIn K (.ref C) == some (.type "type")) = true := by
      rw [h2, x.t]
      rfl
    show (if ((PySem.W.clsIn K C).isSome && PySem.W.typeIn K (.ref C) == some (.type "type")) = true then PySem.W.subIn K t (.ref C) else none) = some b
    rw [if_pos h3]
    exact h
theorem XC.kitV {C : Addr} (x : XC K C) : PySem.W.kitOne K (.ref C) (.type "ValueError") = some true := by
  unfold PySem.W.kitOne
  rw [if_neg (by simp)]
  show (if PySem.W.kitMeta "ValueError" = true then PySem.W.subIn K (.ref C) (.type "ValueError") else none) = some true
  rw [if_pos (by decide +kernel)]
  exact x.v
/-- isinstance of the error that the suite holds, its class told in the reading -/
def rIsX (K : PySem.W.Frag) (cls : Value) (d : Option Addr) (a : Addr) : List V → Hp → VK → Prop := fun xs H Q => ∃ (D : Addr) (c : V) (cv : Value) (b : Bool), cls = .ref D ∧ d = none ∧ XC K D ∧ xs = [.ref a, c] ∧ ClsV c cv ∧ PySem.W.kitOne K (.ref D) cv = some b ∧ Q (.bl b) H
theorem call_isX {X : Cx} {a : Addr} {oe : Obj} {pn : List (Addr × Obj)} {cls : Value} {d : Option Addr} (hz : Zc cls d oe) (hf : ∃ vs, oe.data = .fields vs) : CallR (X.suite a ((a, oe) :: pn)) (.builtin "isinstance") (rIsX X.K cls d a) := by
  intro pins st σ H xs us Q inv rel ⟨D, c, cv, b, e1, e2, C, e3, cc, e4, q⟩
  subst e1 e2
  exact call_isE C.ec hz hf pins st σ H xs us Q inv rel ⟨c, cv, b, e3, fun u r => cc.eq r, e4, q⟩
/-- f(e, .., k = v, ..), what is raised wished for at the caller's slots -/
def tKwS (n m : Nat) (sp : Sp) (gV : List V → List V → List V) (E : L2.St → XK) (t tk : TA) : TE := fun σ H Q => t σ H fun vs H1 => tk σ H1 fun zs H2 => vs.length = n ∧ zs.length = m ∧ sp (gV vs zs) H2 Q (E σ)
theorem pe_kwS {X : Cx} {CX : CXT} {k n : Nat} {f : Addr} {fd : FuncData} {ps ks : List Str} {sp : Sp} {E : L2.St → XK} {x : Str} {p pos : Pos} {e : Expr} {es : List Expr} {kws : List Keyword} {t tk : TA} {g : List Value → List Value → List Value} {gV : List V → List V → List V}
    (G : FnOk X.prog X.w X.K X.mg X.base CX k f fd ps sp) (room : Room k X.A) (gl : Gl X x) (gm : X.mg x = some (.ref f)) (kp : PySem.W.keepIn X.K (.ref f) = true) (kb : KBn X.K fd ps n ks g gV) (out : ∀ σ, PassesAt CX X σ (E σ))
    (pa : PA X (e :: es) t) (pk : PK X kws tk) (h1 : (backToKw pos (keywordEach kws X.env)).all (·.1.isSome) = true := by rfl) (h2 : (backToKw pos (keywordEach kws X.env)).filterMap (·.1) = ks := by rfl)
    (h3 : (x == ("__debug__" : Str)) = false := by decide) (h4 : starEach (e :: es) X.env = (false, eval e X.env) :: starEach es X.env := by rfl)
    (h5 : ((backTo pos (starEach (e :: es) X.env)).any (·.1) || (backToKw pos (keywordEach kws X.env)).any (·.1.isNone)) = false := by rfl) :
    PE X (.Call (.Name x p) (e :: es) kws pos) (tKwS n ks.length sp gV E t tk) := by
  constructor
  intro pins st σ H Q inv z
  refine wpAny_Call_Name_kw (ld_glob inv gl gm ?_ h3)
  refine PySem.W.callWith_KW (h₀ := X.base) inv.ok.mod.kin kp h1 (thn (pa.run pos pins st σ H _ inv z) fun us s1 z1 => ?_) h5 h4
  obtain ⟨vs, H1, inv1, r1, z2⟩ := z1
  refine thn (pk.run pos pins s1 σ H1 _ inv1 z2) fun ws s2 z3 => ?_
  obtain ⟨zs, H2, inv2, r2, l1, l2, z4⟩ := z3
  refine ⟨inv2.kIn, ?_⟩
  rw [h2]
  have b := kb.to s2 us ws inv2.kIn (r1.length.symm.trans l1) (r2.length.symm.trans l2)
  refine wpAny_call (codeAny_mono (G.run X.A X.stack s2 H2 ⟨us, ks.zip ws⟩ (g us ws) (gV vs zs) Q (E σ) room inv2.env0 b (kb.rel r1 r2) z4) fun res st3 fin => ?_)
  rcases res with err | flow
  · exact out σ pins H2 s2 err st3 inv2 fin
  · rcases flow with _ | u | _ | _
    all_goals first | exact False.elim fin | exact inv2.after fin
end
section
variable {P : Program} {w : World} {K : PySem.W.Frag} {mg : Str → Option Value} {base : Heap}
/-! ### own classes: methods and operators that may raise, wished for at the caller's slots -/
/-- what isinstance asks of a class of the text -/
structure CC (K : PySem.W.Frag) (C : Addr) : Prop where
  k : PySem.W.keepIn K (.ref C) = true
  t : PySem.W.typeIn K (.ref C) = some (.type "type")
  cl : PySem.W.isClsIn K C = true
  sf : PySem.W.selfFirst K C = true
  ha : PySem.W.findIn K (.ref C) "__class__" = some (some (.builtin "object.__class__"))
  hn : PySem.W.specialIn K (.builtin "object.__class__") "__get__" = some (some (.builtin "getset_descriptor.__get__"))
  ht : PySem.W.takesIn K (.builtin "object.__class__") = some true
  hm : PySem.W.mroIn K C (.type "object") = some true
theorem CC.ty {C a dx : Addr} {H : Hp} {fs : List (Str × V)} (c : CC K C) (k : Cls K C) (h : H a = some (.ins C dx fs)) : TyX K H (.ref a) (.ref C) := .base (.ins h k c.ha c.hn c.ht c.hm)
theorem CC.kit {C : Addr} : PySem.W.kitOne K (.ref C) (.ref C) = some true := by
  unfold PySem.W.kitOne
  rw [if_pos (beq_self_eq_true _)]
theorem rel_ni {v : V} {u : Value} (r : RelV v u) : u ≠ .notImplemented := by
  intro e
  subst e
  cases v <;> first | (obtain ⟨t, z⟩ := r; cases z; done) | (cases r; done)
section
variable {X : Cx} {CX : CXT} {k : Nat} {f C : Addr} {fd : FuncData} {ps : List Str} {sp : Sp} {E : L2.St → XK} {m : Str} {pos apos : Pos} {e o : Expr} {es : List Expr} {ta tb : TE} {t : TA} {op : Operator}
def tMethX (C : Addr) (m : Str) (sp : Sp) (E : L2.St → XK) (ta : TE) (t : TA) : TE := fun σ H Q => ta σ H fun x H1 => ∃ a dx fs, x = .ref a ∧ H1 a = some (.ins C dx fs) ∧ fs.lookup m = none ∧ t σ H1 fun vs H2 => sp (x :: vs) H2 Q (E σ)
theorem pe_methX {pl : Sem Bool} (po : PE X o ta) (c : Cls X.K C) (M : Meth X.K C m f) (G : FnOk X.prog X.w X.K X.mg X.base CX k f fd ps sp) (room : Room k X.A) (bi : Binds X.K fd ps []) (out : ∀ σ, PassesAt CX X σ (E σ)) (pa : PA X (e :: es) t)
    (h1 : starEach (e :: es) X.env = (false, eval e X.env) :: starEach es X.env := by rfl) (h2 : (backTo pos (starEach es X.env)).any (·.1) = false := by rfl)
    (h3 : eval (.Call (.Attribute o m apos) (e :: es) [] pos) X.env = (do
      let ov ← eval o X.env
      standAt apos.atName
      let (g, first) ← holding [ov] (getMethod ov m pl)
      callWith pos g first (backTo pos (starEach (e :: es) X.env)) (backToKw pos (keywordEach [] X.env))) := by rfl) :
    PE X (.Call (.Attribute o m apos) (e :: es) [] pos) (tMethX C m sp E ta t) := by
  constructor
  intro pins s σ H Q inv z
  refine PySem.W.methodCall_KW (pl := pl) (thn (po.run pins s σ H _ inv z) fun u s1 z1 => ?_) h3
  obtain ⟨x, H1, inv1, rx, a, dx, fs, rfl, ea, el, z2⟩ := z1
  obtain rfl : u = Value.ref a := rx
  refine getmeth_ok inv1 ea c M el ?_
  refine PySem.W.callWith_K (first := [.ref a]) (h₀ := X.base) inv.ok.mod.kin M.kp (thn (pa.run pos pins s1 σ H1 _ inv1 z2) fun us s2 z3 => ?_) h1 h2
  obtain ⟨vs, H2, inv2, r, z4⟩ := z3
  exact ⟨inv2.kIn, run_fnS (us := .ref a :: us) (vs := .ref a :: vs) G room bi (out σ) inv2 (.cons rfl r) z4⟩
/-- a op b, both of the class at C, by its own method -/
def tOwnX (C : Addr) (sp : Sp) (E : L2.St → XK) (ta tb : TE) : TE := fun σ H Q => ta σ H fun x H1 => tb σ H1 fun y H2 => ∃ a b dx dy fs gs, x = .ref a ∧ y = .ref b ∧ H2 a = some (.ins C dx fs) ∧ H2 b = some (.ins C dy gs) ∧ sp [x, y] H2 Q (E σ)
theorem pe_ownX {a b : Expr} (M : PySem.W.findIn X.K (.ref C) (PySem.dunder op.info.2) = some (some (.ref f))) (isf : PySem.W.isFn X.K (.ref f) = true) (sf : PySem.W.selfFirst X.K C = true) (G : FnOk X.prog X.w X.K X.mg X.base CX k f fd ps sp) (room : Room k X.A) (bi : Binds X.K fd ps []) (out : ∀ σ, PassesAt CX X σ (E σ))
    (pa : PE X a ta) (pb : PE X b tb) : PE X (.BinOp a op b pos) (tOwnX C sp E ta tb) := by
  constructor
  intro pins s σ H Q inv z
  refine wpAny_BinOp (binT pa pb inv z fun v u s2 x y H2 inv2 rx ry q => ?_)
  obtain ⟨a, b, dx, dy, fs, gs, rfl, rfl, ha, hb, q⟩ := q
  obtain rfl : v = Value.ref a := rx
  obtain rfl : u = Value.ref b := ry
  obtain ⟨mA, JA, _⟩ := ins_get inv2.hok ha
  obtain ⟨mB, JB, _⟩ := ins_get inv2.hok hb
  obtain ⟨oa, JA, _⟩ := JA.look
  obtain ⟨ob, JB, _⟩ := JB.look
  obtain ⟨m, fr⟩ := inv2.fr
  refine PySem.W.binop_K fr inv2.ok.mod.kin JA JB.type sf M isf ?_
  refine wpAny_mono (run_fnS (us := [.ref a, .ref b]) (vs := [.ref a, .ref b]) G room bi (out σ) inv2 (.cons rfl (.cons rfl .nil)) q) (fun r s3 h3 => ?_) fun _ _ h => h
  obtain ⟨v, H3, inv3, r3, q3⟩ := h3
  have n := rel_ni r3
  unfold PySem.W.CmpBack
  split
  · exact absurd rfl n
  · exact ⟨v, H3, inv3, r3, q3⟩
theorem pe_fldK {K : PySem.W.Frag} {n : Str} (q : X.K = K) (pa : PE X e ta) (hb : attributeBase e n X.env (eval e X.env) = eval e X.env) : PE X (.Attribute e n pos) (tFld K ta n) := q ▸ pe_fld pa hb
theorem passZ {σ : L2.St} : PassesAt (L2.CX X.prog X.w) X σ E0 := fun _ _ _ _ _ _ h => by
  obtain ⟨_, _, _, _, _, _, _, _, _, _, _, _, z⟩ := h
  exact z.elim
/-- C(e, ..), what is raised wished for at the caller's slots -/
def tMakeX (C : Addr) (sp : Sp) (E : L2.St → XK) (t : TA) : TE := fun σ H Q => t σ H fun vs H1 => ∀ x dx, H1 x = none → H1 dx = none → dx ≠ x → sp (.ref x :: vs) (upd (upd H1 dx (.own x)) x (.ins C dx [])) (fun v H2 => v = .non ∧ Q (.ref x) H2) (E σ)
theorem pe_makeX {x : Str} {p : Pos} (M : Mk X.K C f) (G : FnOk X.prog X.w X.K X.mg X.base CX k f fd ps sp) (room : Room (k + 1) X.A) (gl : Gl X x) (gm : X.mg x = some (.ref C)) (bi : Binds X.K fd ps []) (out : ∀ σ, PassesAt CX X σ (E σ))
    (pa : PA X (e :: es) t) (h1 : (x == ("__debug__" : Str)) = false := by decide) (h2 : starEach (e :: es) X.env = (false, eval e X.env) :: starEach es X.env := by rfl) (h3 : (backTo pos (starEach es X.env)).any (·.1) = false := by rfl) :
    PE X (.Call (.Name x p) (e :: es) [] pos) (tMakeX C sp E t) := by
  constructor
  intro pins s σ H Q inv z
  refine wpAny_Call_Name_kw (ld_glob inv gl gm ?_ h1)
  refine PySem.W.callWith_K (h₀ := X.base) inv.ok.mod.kin M.kp (thn (pa.run pos pins s σ H _ inv z) fun us s1 z1 => ?_) h2 h3
  obtain ⟨vs, H1, inv1, r1, z2⟩ := z1
  refine ⟨inv1.kIn, ?_⟩
  have hyp := z2 (s1.heap.objs.size + 1) s1.heap.objs.size (inv1.hok.fresh (Nat.le_succ _)) (inv1.hok.fresh (Nat.le_refl _)) (Nat.ne_of_lt (Nat.lt_succ_self _))
  have inv2 := Inv.made (C := C) inv1
  have r2 : Vals (V.ref (s1.heap.objs.size + 1) :: vs) (Value.ref (s1.heap.objs.size + 1) :: us) := .cons rfl r1
  have bl := bi s1 (Value.ref (s1.heap.objs.size + 1) :: us) inv1.kIn (by
    rw [List.append_nil, ← r2.length]
    exact G.len _ _ _ _ hyp)
  have bl2 := bi _ (Value.ref (s1.heap.objs.size + 1) :: us) inv2.kIn (by
    rw [List.append_nil, ← r2.length]
    exact G.len _ _ _ _ hyp)
  rw [List.append_nil] at bl2
  refine wpAny_call (make_map (f := f) inv1.kIn M.makes M.init (beq_iff_eq.mp M.fn) (codeAny_mono (G.run _ X.stack _ _ ⟨Value.ref (s1.heap.objs.size + 1) :: us, []⟩ _ _ _ (E σ) (room.make C us []) (inv2.env0.make C us []) bl2 r2 hyp) fun res st3 fin => ?_))
  rcases res with err | flow
  · exact out σ pins _ _ err st3 inv2 fin
  · rcases flow with _ | u | _ | _
    all_goals first | exact False.elim fin | skip
    obtain ⟨v, H', inv3, rv, ev, q3⟩ := inv2.after fin
    subst ev
    exact ⟨rv, ⟨V.ref (s1.heap.objs.size + 1), H', inv3, rfl, q3⟩⟩
end
end
section
variable {P : Program} {w : World} {K : PySem.W.Frag} {mg : Str → Option Value} {base : Heap}
/-! ### tuple * int, for 0 and 1, too -/
theorem mul_one (l : Addr) (items : Array Value) (n : Nat) (dd : Option Addr) (sl : Array (Option Value)) (u : Tok) :
    Meets (Builtin.«tuple.__mul__» ⟨[.ref l, .int 1 u], []⟩) (fun _ R s => s.heap.get? l = some { cls := .type "tuple", dict := dd, data := .seq items n, slots := sl } ∧ R (.ok (.ret (Value.ref l))) s) :=
  .of_wp fun prog w A R s hyp => by
    obtain ⟨hp, gs, dr, tk, os⟩ := s
    obtain ⟨e, fin⟩ := hyp
    have ix := AutoSeq1.idx_int
    wp_walk using wpAny_loadPart' e
    exact ⟨_, rfl, fin⟩
theorem mul_zero (l : Addr) (items : Array Value) (n : Nat) (dd : Option Addr) (sl : Array (Option Value)) (u : Tok) (ne : items.isEmpty = false) :
    Meets (Builtin.«tuple.__mul__» ⟨[.ref l, .int 0 u], []⟩) (fun _ R s => s.heap.get? l = some { cls := .type "tuple", dict := dd, data := .seq items n, slots := sl } ∧
      R (.ok (.ret (Value.ref s.heap.objs.size))) { s with heap := s.heap.push { cls := Value.type "tuple", data := Data.seq #[] }, toks := s.toks }) :=
  .of_wp fun prog w A R s hyp => by
    obtain ⟨hp, gs, dr, tk, os⟩ := s
    obtain ⟨e, fin⟩ := hyp
    have ix := AutoSeq1.idx_int
    wp_walk using wpAny_loadPart' e
    exact ⟨_, rfl, fin⟩
/-- t * k, t not empty, k from 0 on -/
def rRepA (K : PySem.W.Frag) : R2 := fun x y H Q => ∃ l k xs, x = .ref l ∧ y = .int k ∧ SqT K H l xs ∧ xs ≠ [] ∧ 0 ≤ k ∧ k ≤ 1000 ∧ xs.length ≤ 1000 ∧ (k = 1 → Q (.ref l) H) ∧ (k ≠ 1 → ∀ p, H p = none → Q (.ref p) (upd H p (.tup (List.replicate k.toNat xs).flatten)))
theorem op_repA {X : Cx} : OpR X (binaryOp .Mult) (rRepA X.K) := by
  intro pins st σ H x y v u Q inv rx ry hyp
  obtain ⟨l, k, xs, rfl, rfl, hT, ne, k0, k1, hz, q1, q2⟩ := hyp
  by_cases c2 : 2 ≤ k
  · exact op_repT pins st σ H _ _ v u Q inv rx ry ⟨l, k, xs, rfl, rfl, hT, ne, c2, k1, hz, q2 (by omega)⟩
  obtain rfl : v = Value.ref l := rx
  obtain ⟨t, rfl⟩ := ry
  obtain ⟨its, r, ⟨⟨cls, dd, data, sl⟩, ho, hc, n, hd⟩, hs⟩ := inv.tuple hT
  simp only at hc hd
  subst hc hd
  have hi : its.toArray.isEmpty = false := by
    cases its with
    | nil =>
      cases r
      exact absurd rfl ne
    | cons a b => rfl
  by_cases c1 : k = 1
  · subst c1
    refine wpAny_binaryOp_repeat_ref (T := "tuple") (U := "int") (by decide) ⟨_, ho, rfl⟩ (fun s' => typeIs_int s' 1 t) noFill_tuple_mul F.fills_int_mul F.slot_int_rmul repeat_tuple F.slot_int_index.lookup ?_
    exact call_meets F.slot_int_rmul (typeIs_int st 1 t) F.entry_int_rmul (F.args_int_rmul_2 _ _) (int_rmul_tuple 1 t l its.toArray n dd sl) ⟨ho, rfl, ⟨_, ho, rfl⟩, call_meets F.slot_tuple_mul ⟨_, ho, rfl⟩ F.entry_tuple_mul (F.args_tuple_mul_2 _ _) (mul_one l its.toArray n dd sl t) ⟨ho, ⟨.ref l, H, inv, rfl, q1 rfl⟩⟩⟩
  · have c0 : k = 0 := by omega
    subst c0
    refine wpAny_binaryOp_repeat_ref (T := "tuple") (U := "int") (by decide) ⟨_, ho, rfl⟩ (fun s' => typeIs_int s' 0 t) noFill_tuple_mul F.fills_int_mul F.slot_int_rmul repeat_tuple F.slot_int_index.lookup ?_
    refine call_meets F.slot_int_rmul (typeIs_int st 0 t) F.entry_int_rmul (F.args_int_rmul_2 _ _) (int_rmul_tuple 0 t l its.toArray n dd sl) ⟨ho, rfl, ⟨_, ho, rfl⟩, call_meets F.slot_tuple_mul ⟨_, ho, rfl⟩ F.entry_tuple_mul (F.args_tuple_mul_2 _ _) (mul_zero l its.toArray n dd sl t hi) ⟨ho, ?_⟩⟩
    refine ⟨.ref st.heap.objs.size, _, inv.laid (t' := st.toks) (o := .tup []) (fun b ob z => Heap.get?_push_of_some _ z) (Nat.le_refl _) ?_, rfl, q2 (by omega) _ (inv.hok.fresh (Nat.le_refl _))⟩
    exact ⟨Nat.zero_le _, [], .nil, IsTup.new _ _⟩
end

/-! The program's text by places, and what its top leaves. -/
def topS (i : Nat) : Stmt := PySem.Challenge.pw_barswoven_k04_sums_and_blocks.main.body.getD i (.Pass ⟨0, 0, 0, 0⟩)
abbrev s_wall : Stmt := topS 0
abbrev s_is_base : Stmt := topS 6
abbrev s_Matrix_init : Stmt := inClass (topS 8) 0
abbrev s_Matrix_height : Stmt := inClass (topS 8) 4
abbrev s_Matrix_column : Stmt := inClass (topS 8) 6
abbrev s_Matrix_scaled : Stmt := inClass (topS 8) 10
abbrev s_Matrix_mul : Stmt := inClass (topS 8) 11
abbrev s_Matrix_add : Stmt := inClass (topS 8) 12
abbrev s_Matrix_sub : Stmt := inClass (topS 8) 13
abbrev s_Matrix_eq : Stmt := inClass (topS 8) 14
abbrev s_block : Stmt := topS 9
abbrev s_is_vector : Stmt := topS 10
abbrev s_check_bases : Stmt := topS 11
abbrev s_packed : Stmt := topS 12
abbrev s_residues_of : Stmt := topS 13
abbrev s_plus_times : Stmt := topS 14
abbrev s_law_cell : Stmt := topS 16
abbrev s_law_draws : Stmt := topS 17
abbrev s_law_next : Stmt := topS 18
abbrev s_law_is_prime : Stmt := topS 19
abbrev s_law_prime : Stmt := topS 20
abbrev s_law_same : Stmt := topS 21
abbrev s_law_drawn : Stmt := topS 22
abbrev s_law_is_matrix : Stmt := topS 23
abbrev s_law_fails : Stmt := topS 24
abbrev s_law : Stmt := topS 25
abbrev i_wall : Nat := 0
abbrev i_WovenError : Nat := 1
abbrev i_InvalidMatrix : Nat := 2
abbrev i_BASES : Nat := 3
abbrev i_is_base : Nat := 4
abbrev i_Matrix : Nat := 5
abbrev i_Matrix_init : Nat := 6
abbrev i_Matrix_height : Nat := 7
abbrev i_Matrix_column : Nat := 8
abbrev i_Matrix_scaled : Nat := 9
abbrev i_Matrix_mul : Nat := 10
abbrev i_Matrix_add : Nat := 11
abbrev i_Matrix_sub : Nat := 12
abbrev i_Matrix_eq : Nat := 13
abbrev i_block : Nat := 14
abbrev i_is_vector : Nat := 15
abbrev i_check_bases : Nat := 16
abbrev i_packed : Nat := 17
abbrev i_residues_of : Nat := 18
abbrev i_plus_times : Nat := 19
abbrev i_law_cell : Nat := 20
abbrev i_law_draws : Nat := 21
abbrev i_law_next : Nat := 22
abbrev i_law_is_prime : Nat := 23
abbrev i_law_prime : Nat := 24
abbrev i_law_same : Nat := 25
abbrev i_law_drawn : Nat := 26
abbrev i_law_is_matrix : Nat := 27
abbrev i_law_fails : Nat := 28
abbrev i_law : Nat := 29
structure TX (K : PySem.W.Frag) (mg : Str → Option Value) (a : Nat → Addr) (d : Nat → FuncData) : Prop where
  B : BI mg
  F_wall : Fun K "_wall" "_wall" s_wall (a 0) (d 0)
  g_wall : mg "_wall" = some (.ref (a 0))
  b_wall : Binds K (d 0) ["k"] []
  g_WovenError : mg "WovenError" = some (.ref (a 1))
  x_WovenError : XC K (a 1)
  g_InvalidMatrix : mg "InvalidMatrix" = some (.ref (a 2))
  x_InvalidMatrix : XC K (a 2)
  g_BASES : mg "BASES" = some (.ref (a 3))
  h_BASES : ∀ H, SqT K H (a 3) (vI ([2, 3, 5, 7, 11, 13, 17, 19, 23, 29, 31, 37, 41, 43, 47, 53, 59, 61, 67, 71, 73, 79, 83, 89, 97] : List Int))
  F_is_base : Fun K "is_base" "is_base" s_is_base (a 4) (d 4)
  g_is_base : mg "is_base" = some (.ref (a 4))
  b_is_base : Binds K (d 4) ["number"] []
  g_Matrix : mg "Matrix" = some (.ref (a 5))
  c_Matrix : Cls K (a 5)
  cc_Matrix : CC K (a 5)
  n_Matrix_base : NoAttr K (a 5) "base"
  n_Matrix_width : NoAttr K (a 5) "width"
  n_Matrix_rows : NoAttr K (a 5) "rows"
  F_Matrix_init : Fun K "__init__" "Matrix.__init__" s_Matrix_init (a 6) (d 6)
  b_Matrix_init : Binds K (d 6) ["self", "base", "width", "rows"] []
  mk_Matrix : Mk K (a 5) (a 6)
  F_Matrix_height : Fun K "height" "Matrix.height" s_Matrix_height (a 7) (d 7)
  b_Matrix_height : Binds K (d 7) ["self"] []
  p_Matrix_height : ∃ p : Addr, PropOf K (a 5) "height" p (a 7)
  F_Matrix_column : Fun K "column" "Matrix.column" s_Matrix_column (a 8) (d 8)
  b_Matrix_column : Binds K (d 8) ["self", "place"] []
  m_Matrix_column : Meth K (a 5) "column" (a 8)
  F_Matrix_scaled : Fun K "scaled" "Matrix.scaled" s_Matrix_scaled (a 9) (d 9)
  b_Matrix_scaled : Binds K (d 9) ["self", "factor"] []
  m_Matrix_scaled : Meth K (a 5) "scaled" (a 9)
  F_Matrix_mul : Fun K "__mul__" "Matrix.__mul__" s_Matrix_mul (a 10) (d 10)
  b_Matrix_mul : Binds K (d 10) ["self", "other"] []
  m_Matrix_mul : Meth K (a 5) "__mul__" (a 10)
  F_Matrix_add : Fun K "__add__" "Matrix.__add__" s_Matrix_add (a 11) (d 11)
  b_Matrix_add : Binds K (d 11) ["self", "other"] []
  m_Matrix_add : Meth K (a 5) "__add__" (a 11)
  F_Matrix_sub : Fun K "__sub__" "Matrix.__sub__" s_Matrix_sub (a 12) (d 12)
  b_Matrix_sub : Binds K (d 12) ["self", "other"] []
  m_Matrix_sub : Meth K (a 5) "__sub__" (a 12)
  F_Matrix_eq : Fun K "__eq__" "Matrix.__eq__" s_Matrix_eq (a 13) (d 13)
  b_Matrix_eq : Binds K (d 13) ["self", "other"] []
  m_Matrix_eq : Meth K (a 5) "__eq__" (a 13)
  F_block : Fun K "block" "block" s_block (a 14) (d 14)
  g_block : mg "block" = some (.ref (a 14))
  b_block : Binds K (d 14) ["first", "second"] []
  F_is_vector : Fun K "_is_vector" "_is_vector" s_is_vector (a 15) (d 15)
  g_is_vector : mg "_is_vector" = some (.ref (a 15))
  b_is_vector : Binds K (d 15) ["entries", "length", "base"] []
  F_check_bases : Fun K "_check_bases" "_check_bases" s_check_bases (a 16) (d 16)
  g_check_bases : mg "_check_bases" = some (.ref (a 16))
  b_check_bases : Binds K (d 16) ["first", "second"] []
  F_packed : Fun K "_packed" "_packed" s_packed (a 17) (d 17)
  g_packed : mg "_packed" = some (.ref (a 17))
  b_packed : Binds K (d 17) ["row", "bits"] []
  F_residues_of : Fun K "_residues_of" "_residues_of" s_residues_of (a 18) (d 18)
  g_residues_of : mg "_residues_of" = some (.ref (a 18))
  b_residues_of : Binds K (d 18) ["number", "bits", "length", "base"] []
  F_plus_times : Fun K "_plus_times" "_plus_times" s_plus_times (a 19) (d 19)
  g_plus_times : mg "_plus_times" = some (.ref (a 19))
  b_plus_times : Binds K (d 19) ["first", "factor", "second"] []
  F_law_cell : Fun K "_law_cell" "_law_cell" s_law_cell (a 20) (d 20)
  g_law_cell : mg "_law_cell" = some (.ref (a 20))
  b_law_cell : Binds K (d 20) ["script", "k"] []
  F_law_draws : Fun K "_law_draws" "_law_draws" s_law_draws (a 21) (d 21)
  g_law_draws : mg "_law_draws" = some (.ref (a 21))
  b_law_draws : Binds K (d 21) ["cell"] []
  F_law_next : Fun K "_law_next" "_law_next" s_law_next (a 22) (d 22)
  g_law_next : mg "_law_next" = some (.ref (a 22))
  b_law_next : Binds K (d 22) ["draws", "many"] []
  F_law_is_prime : Fun K "_law_is_prime" "_law_is_prime" s_law_is_prime (a 23) (d 23)
  g_law_is_prime : mg "_law_is_prime" = some (.ref (a 23))
  b_law_is_prime : Binds K (d 23) ["number"] []
  F_law_prime : Fun K "_law_prime" "_law_prime" s_law_prime (a 24) (d 24)
  g_law_prime : mg "_law_prime" = some (.ref (a 24))
  b_law_prime : Binds K (d 24) ["draws"] []
  F_law_same : Fun K "_law_same" "_law_same" s_law_same (a 25) (d 25)
  g_law_same : mg "_law_same" = some (.ref (a 25))
  b_law_same : Binds K (d 25) ["actual", "expected"] []
  F_law_drawn : Fun K "_law_drawn" "_law_drawn" s_law_drawn (a 26) (d 26)
  g_law_drawn : mg "_law_drawn" = some (.ref (a 26))
  b_law_drawn : Binds K (d 26) ["draws", "base", "height", "width"] []
  F_law_is_matrix : Fun K "_law_is_matrix" "_law_is_matrix" s_law_is_matrix (a 27) (d 27)
  g_law_is_matrix : mg "_law_is_matrix" = some (.ref (a 27))
  b_law_is_matrix : Binds K (d 27) ["actual", "base", "width", "rows"] []
  F_law_fails : Fun K "_law_fails" "_law_fails" s_law_fails (a 28) (d 28)
  g_law_fails : mg "_law_fails" = some (.ref (a 28))
  b_law_fails : Binds K (d 28) ["pick", "left", "right"] []
  F_law : Fun K "law" "law" s_law (a 29) (d 29)
  g_law : mg "law" = some (.ref (a 29))
  b_law : Binds K (d 29) ["script"] []
  s_WovenError_InvalidMatrix : PySem.W.subIn K (.ref (a 1)) (.ref (a 2)) = some false
  s_InvalidMatrix_WovenError : PySem.W.subIn K (.ref (a 2)) (.ref (a 1)) = some true
section
variable {P : Program} {w : World} {K : PySem.W.Frag} {mg : Str → Option Value} {base : Heap}
/-! ### _law_cell -/
def spCell (K : PySem.W.Frag) : Sp := fun vs H Q _ => ∃ (a : Addr) (ns : List Int) (k : Nat), vs = [.ref a, .int (k : Int)] ∧ SqL K H a (vI ns) ∧ ∀ z : Int, Q (.int z) H
theorem sc_cell : FnScope ["script", "k"] ["script", "k"] (defScope s_law_cell) := ⟨rfl, rfl, rfl, by decide +kernel, rfl, by decide +kernel, by decide +kernel⟩
theorem ok_cell {f : Addr} {fd : FuncData} (F : Fun K "_law_cell" "_law_cell" s_law_cell f fd) (B : BI mg) : FnOk P w K mg base CX0 1 f fd ["script", "k"] (spCell K) := by
  refine F.ok sc_cell (fun vs H Q E h => ?_) (fun cdv A outer s H vs Q E hr h => ?_)
  · obtain ⟨a, ns, k, rfl, _⟩ := h
    rfl
  · obtain ⟨a, ns, k, rfl, hS, q⟩ := h
    refine ⟨_, pss_cons (ps_if (pt_cmpR op_lt (pv 1) (pe_callB call_len_seq (by rfl) B.len PySem.boot_len (pa_cons (pv 0) pa_nil)) (nomark _)) (pss_one (ps_ret (pe_ix ix_list (pv 0) (pv 1) (fun _ _ => rfl)))) pss_nil)
      (pss_one (ps_ret pe_int)), ?_⟩
    refine ⟨_, rfl, _, rfl, a, _, rfl, .inl hS, _, _, rfl, rfl, _, rfl, ?_⟩
    refine ite2 (fun c => ?_) (fun _ => q 0)
    have c1 : k < ns.length := by
      have z := of_decide_eq_true c
      rw [List.length_map] at z
      omega
    exact ⟨_, rfl, _, rfl, a, _, _, _, rfl, rfl, hS, atI_nat (ints_at c1), q _⟩
end
section
variable {P : Program} {w : World} {K : PySem.W.Frag} {mg : Str → Option Value} {base : Heap}
/-! ### _law_next -/
def spNext : Sp := fun vs H Q _ => ∃ (d r : Addr) (c : Nat) (many : Int), vs = [.ref d, .int many] ∧ Dr H d r c ∧ c ≤ 100000 ∧ 0 < many ∧
  ∀ (z : Int) (H' : Hp), 0 ≤ z → z < many → KeepBut d H H' → Dr H' d r (c + 1) → Q (.int z) H'
theorem sc_next : FnScope ["draws", "many", "row", "at"] ["draws", "many"] (defScope s_law_next) := ⟨rfl, rfl, rfl, by decide +kernel, rfl, by decide +kernel, by decide +kernel⟩
theorem ok_next {f : Addr} {fd : FuncData} (F : Fun K "_law_next" "_law_next" s_law_next f fd) (B : BI mg) : FnOk P w K mg base CX0 1 f fd ["draws", "many"] spNext := by
  refine F.ok sc_next (fun vs H Q E h => ?_) (fun cdv A outer s H vs Q E hr h => ?_)
  · obtain ⟨d, r, c, many, rfl, _⟩ := h
    rfl
  · obtain ⟨d, r, c, many, rfl, ⟨hne, hd, ns, hrow, hlen⟩, hc, hm, q⟩ := h
    refine ⟨_, pss_cons (ps_set (i := 2) sc_next.nd rfl (Or.inl rfl) (pe_ix ix_list (pv 0) pe_int (fun _ _ => rfl)))
      (pss_cons (ps_set (i := 3) sc_next.nd rfl (Or.inl rfl) (pe_ix ix_list (pv 0) pe_int (fun _ _ => rfl)))
      (pss_cons (ps_asg (pe_op op_add (pv 3) pe_int) (pg_sub (pv 0) pe_int set_list))
      (pss_cons (ps_if (pt_cmpR op_lt (pv 3) (pe_callB call_len_seq (by rfl) B.len PySem.boot_len (pa_cons (pv 2) pa_nil)) (nomark _))
        (pss_one (ps_ret (pe_op op_mod (pe_callTy call_int1 (by rfl) B.int (by decide +kernel) (pa_cons (pe_ix ix_list (pv 2) (pv 3) (fun _ _ => rfl)) pa_nil)) (pv 1)))) pss_nil)
      (pss_one (ps_ret (pe_op op_mod (pe_callTy call_int1 (by rfl) B.int (by decide +kernel) (pa_cons (pe_op op_add (pe_op op_mul (pe_op op_mul (pv 3) (pv 3)) pe_int) (pv 3)) pa_nil)) (pv 1))))))), ?_⟩
    have k1 : KeepBut d H (upd H d (.lst [.ref r, .int ((c : Int) + 1)])) := fun b o n e => by
      rw [upd_ne n]
      exact e
    have d1 : Dr (upd H d (.lst [.ref r, .int ((c : Int) + 1)])) d r (c + 1) := ⟨hne, upd_same, ns, by rw [upd_ne hne]; exact hrow, hlen⟩
    have hrow1 : (upd H d (.lst [.ref r, .int ((c : Int) + 1)])) r = some (.lst (vI ns)) := by
      rw [upd_ne hne]
      exact hrow
    have fin : ∀ z : Int, Q (.int (z % many)) (upd H d (.lst [.ref r, .int ((c : Int) + 1)])) := fun z =>
      q _ _ (Int.emod_nonneg z (Int.ne_of_gt hm)) (Int.emod_lt_of_pos z hm) k1 d1
    refine ⟨_, rfl, d, _, _, _, rfl, rfl, SqL.of hd, atI_nat (j := 0) rfl, ?_⟩
    refine ⟨_, rfl, d, _, _, _, rfl, rfl, SqL.of hd, atI_nat (j := 1) rfl, ?_⟩
    refine ⟨_, rfl, _, _, rfl, rfl, _, rfl, d, _, 1, 1, rfl, rfl, hd, rfl, ?_⟩
    refine ⟨_, rfl, _, rfl, r, _, rfl, .inl (SqL.of hrow1), _, _, rfl, rfl, _, rfl, ?_⟩
    refine ite2 (fun e => ?_) (fun _ => ?_)
    · have c1 : c < ns.length := by
        have z := of_decide_eq_true e
        rw [List.length_map] at z
        omega
      exact ⟨_, rfl, _, rfl, r, _, _, _, rfl, rfl, SqL.of hrow1, atI_nat (ints_at c1), .inl ⟨_, rfl, _, rfl, _, _, rfl, rfl, hm, fin _⟩⟩
    · refine ⟨_, rfl, _, rfl, _, _, rfl, rfl, .inl ⟨by omega, by omega⟩, _, _, rfl, rfl, .inr (by decide), _, rfl, _, _, rfl, rfl, .inl ⟨_, rfl, _, rfl, _, _, rfl, rfl, hm, fin _⟩⟩
end
section
variable {P : Program} {w : World} {K : PySem.W.Frag} {mg : Str → Option Value} {base : Heap}
/-! ### _law_draws -/
def spDraws : Sp := fun vs H Q _ => ∃ z : Int, vs = [.int z] ∧ ∀ (H' : Hp) (d r : Addr), Same H H' → H d = none → Dr H' d r 0 → Q (.ref d) H'
theorem sc_draws : FnScope ["cell", "row", "rest", "mixed", "is_great", "k"] ["cell"] (defScope s_law_draws) := ⟨rfl, rfl, rfl, by decide +kernel, rfl, by decide +kernel, by decide +kernel⟩
theorem ok_draws {f : Addr} {fd : FuncData} (F : Fun K "_law_draws" "_law_draws" s_law_draws f fd) (B : BI mg) : FnOk P w K mg base CX0 1 f fd ["cell"] spDraws := by
  refine F.ok sc_draws (fun vs H Q E h => ?_) (fun cdv A outer s H vs Q E hr h => ?_)
  · obtain ⟨z, rfl, _⟩ := h
    rfl
  · obtain ⟨z, rfl, q⟩ := h
    refine ⟨_, pss_cons (ps_set (i := 1) sc_draws.nd rfl (Or.inl rfl) (pe_lst pa_nil))
      (pss_cons (ps_set (i := 2) sc_draws.nd rfl (Or.inl rfl) (pe_callB call_abs (by rfl) B.abs (by decide +kernel) (pa_cons (pv 0) pa_nil)))
      (pss_cons (ps_set (i := 3) sc_draws.nd rfl (Or.inl rfl) (pe_op op_mod (pe_callTy call_int1 (by rfl) B.int (by decide +kernel) (pa_cons (pv 2) pa_nil)) pe_int))
      (pss_cons (ps_set (i := 4) sc_draws.nd rfl (Or.inl rfl) (pe_cmpR op_ge (pv 2) (pe_op op_pow pe_int pe_int) (nomark _)))
      (pss_cons (ps_for PassesOwn.never rfl (pi_range1 (by rfl) B.range (pa_cons pe_int pa_nil)) (pg_name (i := 5) sc_draws.nd rfl (Or.inl rfl))
        (pss_one (ps_if (PW.pt (pw_and (pt_val (pv 4)) (pw_and1 (pt_cmpR op_gt (pv 2) pe_int (nomark _)))))
          (pss_cons (ps_expr (pe_bm PySem.F.plainAttrs_list PySem.F.slot_list_append PySem.F.type_list_append mt_append (pv 1) (pa_cons (pe_op op_mod (pe_callTy call_int1 (by rfl) B.int (by decide +kernel) (pa_cons (pv 2) pa_nil)) pe_int) pa_nil)))
          (pss_one (ps_set (i := 2) sc_draws.nd rfl (Or.inl rfl) (pe_op op_fdiv (pv 2) pe_int))))
          (pss_cons (ps_set (i := 3) sc_draws.nd rfl (Or.inl rfl) (pe_op op_mod (pe_callTy call_int1 (by rfl) B.int (by decide +kernel) (pa_cons (pe_op op_add (pe_op op_mul (pv 3) pe_int) pe_int) pa_nil)) pe_int))
          (pss_one (ps_expr (pe_bm PySem.F.plainAttrs_list PySem.F.slot_list_append PySem.F.type_list_append mt_append (pv 1) (pa_cons (pe_op op_fdiv (pe_op op_mod (pe_callTy call_int1 (by rfl) B.int (by decide +kernel) (pa_cons (pe_op op_add (pe_op op_mul (pv 3) pe_int) pe_int) pa_nil)) pe_int) pe_int) pa_nil))))))))
      (pss_one (ps_ret (pe_lst (pa_cons (pv 1) (pa_cons pe_int pa_nil))))))))), ?_⟩
    refine ⟨Nat.zero_le _, fun r hr0 => ?_⟩
    refine ⟨_, rfl, _, rfl, ?_⟩
    refine ⟨_, rfl, .inl ⟨_, rfl, _, _, rfl, rfl, (by show (0 : Int) < 2147483647; decide), ?_⟩⟩
    refine ⟨_, rfl, _, _, rfl, rfl, ⟨by decide, by decide, by decide⟩, _, _, rfl, rfl, ?_⟩
    refine ⟨200, rfl, by decide, by decide, for_range (lo := 0) (n := 200) (fun i σ H' => ∃ (rest mixed : Int) (g : Bool) (v : Option V) (ns : List Int), σ = [some (.int z), some (.ref r), some (.int rest), some (.int mixed), some (.bl g), v] ∧ 0 ≤ mixed ∧ mixed < 2147483647 ∧ H' r = some (.lst (vI ns)) ∧ ns.length = i ∧ ∀ b o, H b = some o → H' b = some o)
      ⟨_, _, _, none, [], rfl, Int.emod_nonneg _ (by decide), Int.emod_lt_of_pos _ (by decide), upd_same, rfl, same_new hr0⟩ ?_ ?_⟩
    · rintro i σ H' hi ⟨rest, mixed, g, v, ns, rfl, m0, m1, hrow, hl, hs⟩
      have put : ∀ y : Int, ∀ b o, H b = some o → (upd H' r (.lst (vI ns ++ [V.int y]))) b = some o := fun y b o e => by
        rw [upd_ne (ne_of_none e hr0)]
        exact hs b o e
      have row : ∀ y : Int, (upd H' r (.lst (vI ns ++ [V.int y]))) r = some (.lst (vI (ns ++ [y]))) := fun y => by
        rw [upd_same]
        simp [vI]
      have len : ∀ y : Int, (ns ++ [y]).length = i + 1 := fun y => by
        rw [List.length_append, hl]
        rfl
      have small : (vI ns).length < sizeLine := by
        rw [List.length_map, hl]
        exact line_lt (by omega)
      refine ⟨_, rfl, g, rfl, ?_⟩
      cases g with
      | true =>
        refine iteT ⟨_, rfl, _, _, rfl, rfl, _, rfl, ite2 (fun _ => ?_) (fun _ => ?_)⟩
        · refine ⟨_, rfl, .inl ⟨rfl, _, SqL.of hrow⟩, _, rfl, .inl ⟨_, rfl, _, _, rfl, rfl, (by show (0 : Int) < 1000; decide), r, _, _, rfl, rfl, hrow, small, ?_⟩⟩
          refine ⟨_, rfl, _, _, rfl, rfl, ⟨by decide, by decide⟩, ?_⟩
          exact ⟨_, _, _, _, _, rfl, m0, m1, row _, len _, put _⟩
        · refine ⟨_, rfl, _, _, rfl, rfl, .inl ⟨by omega, by omega⟩, _, _, rfl, rfl, .inl ⟨_, rfl, _, _, rfl, rfl, (by show (0 : Int) < 2147483647; decide), ?_⟩⟩
          refine ⟨_, rfl, .inl ⟨rfl, _, SqL.of hrow⟩, _, rfl, _, _, rfl, rfl, .inl ⟨by have := Int.emod_nonneg (mixed * 48271 + 7919) (show (2147483647 : Int) ≠ 0 by decide); omega, by have := Int.emod_lt_of_pos (mixed * 48271 + 7919) (show (0 : Int) < 2147483647 by decide); omega⟩, _, _, rfl, rfl, .inl ⟨_, rfl, _, _, rfl, rfl, (by show (0 : Int) < 2147483629; decide), _, _, rfl, rfl, ⟨by decide, by decide⟩, r, _, _, rfl, rfl, hrow, small, ?_⟩⟩
          exact ⟨_, _, _, _, _, rfl, Int.emod_nonneg _ (by decide), Int.emod_lt_of_pos _ (by decide), row _, len _, put _⟩
      | false =>
        refine iteF ?_
        refine ⟨_, rfl, _, _, rfl, rfl, .inl ⟨by omega, by omega⟩, _, _, rfl, rfl, .inl ⟨_, rfl, _, _, rfl, rfl, (by show (0 : Int) < 2147483647; decide), ?_⟩⟩
        refine ⟨_, rfl, .inl ⟨rfl, _, SqL.of hrow⟩, _, rfl, _, _, rfl, rfl, .inl ⟨by have := Int.emod_nonneg (mixed * 48271 + 7919) (show (2147483647 : Int) ≠ 0 by decide); omega, by have := Int.emod_lt_of_pos (mixed * 48271 + 7919) (show (0 : Int) < 2147483647 by decide); omega⟩, _, _, rfl, rfl, .inl ⟨_, rfl, _, _, rfl, rfl, (by show (0 : Int) < 2147483629; decide), _, _, rfl, rfl, ⟨by decide, by decide⟩, r, _, _, rfl, rfl, hrow, small, ?_⟩⟩
        exact ⟨_, _, _, _, _, rfl, Int.emod_nonneg _ (by decide), Int.emod_lt_of_pos _ (by decide), row _, len _, put _⟩
    · rintro σ H' ⟨rest, mixed, g, v, ns, rfl, m0, m1, hrow, hl, hs⟩
      refine ⟨_, rfl, (by show 2 ≤ sizeLine; decide), fun d hd => ?_⟩
      have nrd : r ≠ d := ne_of_none hrow hd
      refine q _ d r (fun b o e => ?_) ?_ ⟨nrd, upd_same, ns, by rw [upd_ne nrd]; exact hrow, by omega⟩
      · rw [upd_ne (ne_of_none (hs b o e) hd)]
        exact hs b o e
      · cases e : H d with
        | none => rfl
        | some o =>
          rw [hs d o e] at hd
          cases hd
end
section
variable {P : Program} {w : World} {K : PySem.W.Frag} {mg : Str → Option Value} {base : Heap}
/-! ### _law_same: what it is asked of is always the same data -/
/-- x and y hold the same data, of depth at most n -/
def Eqd (K : PySem.W.Frag) : Nat → Hp → V → V → Prop
  | 0, _, x, y => x = y ∧ ((∃ i, x = .int i) ∨ (∃ b, x = .bl b) ∨ x = .non ∨ ∃ z, x = .str z)
  | n + 1, H, x, y => (x = y ∧ ((∃ i, x = .int i) ∨ (∃ b, x = .bl b) ∨ x = .non ∨ ∃ z, x = .str z)) ∨
      ∃ (a b : Addr) (xs ys : List V), x = .ref a ∧ y = .ref b ∧ ((SqL K H a xs ∧ SqL K H b ys) ∨ (SqT K H a xs ∧ SqT K H b ys)) ∧ xs.length = ys.length ∧ ys.length ≤ 1000 ∧
        ∀ (i : Nat) (u v : V), xs[i]? = some u → ys[i]? = some v → Eqd K n H u v
theorem Eqd.same : ∀ {n : Nat} {H H' : Hp} {x y : V}, Same H H' → Eqd K n H x y → Eqd K n H' x y
  | 0, _, _, _, _, _, h => h
  | n + 1, _, _, _, _, s, h => by
    rcases h with h | ⟨a, b, xs, ys, e1, e2, hs, l1, l2, al⟩
    · exact .inl h
    · refine .inr ⟨a, b, xs, ys, e1, e2, ?_, l1, l2, fun i u v h1 h2 => Eqd.same s (al i u v h1 h2)⟩
      rcases hs with ⟨h1, h2⟩ | ⟨h1, h2⟩
      · exact .inl ⟨s.seq h1, s.seq h2⟩
      · exact .inr ⟨SqT.same s h1, SqT.same s h2⟩
theorem Eqd.scal {H : Hp} {x y : V} : ∀ {n : Nat}, Eqd K 0 H x y → Eqd K n H x y
  | 0, h => h
  | n + 1, h => .inl h
theorem Eqd.split : ∀ {n : Nat} {H : Hp} {x y : V}, Eqd K n H x y → (x = y ∧ ((∃ i, x = .int i) ∨ (∃ b, x = .bl b) ∨ x = .non ∨ ∃ z, x = .str z)) ∨
    ∃ (m : Nat) (a b : Addr) (xs ys : List V), n = m + 1 ∧ x = .ref a ∧ y = .ref b ∧ ((SqL K H a xs ∧ SqL K H b ys) ∨ (SqT K H a xs ∧ SqT K H b ys)) ∧ xs.length = ys.length ∧ ys.length ≤ 1000 ∧
        ∀ (i : Nat) (u v : V), xs[i]? = some u → ys[i]? = some v → Eqd K m H u v
  | 0, _, _, _, h => .inl h
  | n + 1, _, _, _, h => by
    rcases h with h | ⟨a, b, xs, ys, h⟩
    · exact .inl h
    · exact .inr ⟨n, a, b, xs, ys, rfl, h⟩
theorem Eqd.int (n : Nat) (H : Hp) (i : Int) : Eqd K n H (.int i) (.int i) := Eqd.scal ⟨rfl, .inl ⟨i, rfl⟩⟩
theorem Eqd.bl (n : Nat) (H : Hp) (b : Bool) : Eqd K n H (.bl b) (.bl b) := Eqd.scal ⟨rfl, .inr (.inl ⟨b, rfl⟩)⟩
theorem tyx_list {H : Hp} {a : Addr} {xs : List V} (h : SqL K H a xs) : TyX K H (.ref a) (.type "list") := by
  rcases h with (h | ⟨o, h⟩) | ⟨o, its, n, h1, h2, _⟩
  · exact .base (.lst h)
  · exact .base (.frz h)
  · exact .kList h1 h2
theorem tyx_tup {H : Hp} {a : Addr} {xs : List V} (h : SqT K H a xs) : TyX K H (.ref a) (.type "tuple") := by
  rcases h with (h | ⟨o, h⟩) | ⟨o, its, n, h1, h2, _⟩
  · exact .base (.tup h)
  · exact .fTuple h
  · exact .kTuple h1 h2
theorem kit2 {t a b : String} {r1 r2 : Bool} (h1 : kitB t a = some r1) (h2 : kitB t b = some r2) : PySem.W.kitAny K (.type t) [.type a, .type b] = some (r1 || r2) :=
  kitAny_cons (kit_ty h1) (fun e => kitAny_cons (kit_ty h2) (fun e2 => by rw [e, e2]; exact kitAny_nil) (fun e2 => by rw [e2, Bool.or_true])) (fun e => by rw [e, Bool.true_or])
/-- isinstance of the value in slot i and of one built-in class -/
theorem rd_isi {σ : L2.St} {H : Hp} {Q : VK} {i : Nat} {x : V} {t T : String} {b : Bool} (h : σ[i]? = some (some x)) (ty : TyX K H x (.type t)) (e : kitB t T = some b) (q : Q (.bl b) H) :
    tCB (rIsi K) (tCons (tVar i) (tCons (tC (.ty T)) tNil)) σ H Q := ⟨x, h, x, .ty T, .type t, .type T, b, rfl, .ty T, ty, kit_ty e, q⟩
/-- .. and of the pair of tuple and list -/
theorem rd_isiT {σ : L2.St} {H : Hp} {Q : VK} {i : Nat} {x : V} {t : String} {r1 r2 : Bool} (h : σ[i]? = some (some x)) (ty : ∀ H', Same H H' → TyX K H' x (.type t)) (h1 : kitB t "tuple" = some r1) (h2 : kitB t "list" = some r2)
    (q : ∀ H', Same H H' → Q (.bl (r1 || r2)) H') : tCB (rIsiT K) (tCons (tVar i) (tCons (tTup (tCons (tC (.ty "tuple")) (tCons (tC (.ty "list")) tNil))) tNil)) σ H Q :=
  ⟨x, h, (by show 2 ≤ sizeLine; decide), fun p hp => ⟨x, p, [.ty "tuple", .ty "list"], .type t, [.type "tuple", .type "list"], _, rfl, upd_same, .cons (.ty "tuple") (.cons (.ty "list") .nil), ty _ (same_new hp), kit2 h1 h2, q _ (same_new hp)⟩⟩
def spSame (K : PySem.W.Frag) (n : Nat) : Sp := fun vs H Q _ => ∃ x y : V, vs = [x, y] ∧ Eqd K n H x y ∧ ∀ H', Same H H' → Q (.bl true) H'
def spSameLt (K : PySem.W.Frag) : Nat → Sp
  | 0 => fun _ _ _ _ => False
  | n + 1 => spSame K n
theorem sc_same : FnScope ["actual", "expected", "k"] ["actual", "expected"] (defScope s_law_same) := ⟨rfl, rfl, rfl, by decide +kernel, rfl, by decide +kernel, by decide +kernel⟩
theorem ok_same_step {f : Addr} {fd : FuncData} (n : Nat) (F : Fun K "_law_same" "_law_same" s_law_same f fd) (B : BI mg) (gS : mg "_law_same" = some (.ref f)) (bS : Binds K fd ["actual", "expected"] [])
    (G : FnOk P w K mg base CX0 n f fd ["actual", "expected"] (spSameLt K n)) : FnOk P w K mg base CX0 (n + 1) f fd ["actual", "expected"] (spSame K n) := by
  refine F.ok sc_same (fun vs H Q E h => ?_) (fun cdv A outer s H vs Q E hr h => ?_)
  · obtain ⟨x, y, rfl, _⟩ := h
    rfl
  · obtain ⟨x, y, rfl, he, q⟩ := h
    refine ⟨_, pss_cons (ps_if (pt_val (pe_callB call_isiT (by rfl) B.isi (by decide +kernel) (pa_cons (pv 1) (pa_cons (pe_tup (pa_cons (pe_bltn (v := .ty "tuple") (by rfl) B.tuple (by decide +kernel) rfl) (pa_cons (pe_bltn (v := .ty "list") (by rfl) B.list (by decide +kernel) rfl) pa_nil))) pa_nil))))
        (pss_cons (ps_if (PW.pt (pw_or
            (pt_cmpR op_ne (pe_callB call_isi (by rfl) B.isi (by decide +kernel) (pa_cons (pv 0) (pa_cons (pe_bltn (v := .ty "tuple") (by rfl) B.tuple (by decide +kernel) rfl) pa_nil))) (pe_callB call_isi (by rfl) B.isi (by decide +kernel) (pa_cons (pv 1) (pa_cons (pe_bltn (v := .ty "tuple") (by rfl) B.tuple (by decide +kernel) rfl) pa_nil))) (nomark _))
            (pw_or1 (pt_cmpR op_ne (pe_callB call_isi (by rfl) B.isi (by decide +kernel) (pa_cons (pv 0) (pa_cons (pe_bltn (v := .ty "list") (by rfl) B.list (by decide +kernel) rfl) pa_nil))) (pe_callB call_isi (by rfl) B.isi (by decide +kernel) (pa_cons (pv 1) (pa_cons (pe_bltn (v := .ty "list") (by rfl) B.list (by decide +kernel) rfl) pa_nil))) (nomark _)))))
          (pss_one (ps_ret pe_bl)) pss_nil)
        (pss_cons (ps_if (pt_cmpR op_ne (pe_callB call_len_seq (by rfl) B.len PySem.boot_len (pa_cons (pv 0) pa_nil)) (pe_callB call_len_seq (by rfl) B.len PySem.boot_len (pa_cons (pv 1) pa_nil)) (nomark _)) (pss_one (ps_ret pe_bl)) pss_nil)
        (pss_cons (ps_for PassesOwn.never rfl (pi_range1 (by rfl) B.range (pa_cons (pe_callB call_len_seq (by rfl) B.len PySem.boot_len (pa_cons (pv 1) pa_nil)) pa_nil)) (pg_name (i := 2) sc_same.nd rfl (Or.inl rfl))
          (pss_one (ps_if (pt_not (pt_val (pe_call G hr rfl gS F.kp bS .nil pass0 (pa_cons (pe_ix ix_seq (pv 0) (pv 2) (fun _ _ => rfl)) (pa_cons (pe_ix ix_seq (pv 1) (pv 2) (fun _ _ => rfl)) pa_nil))))) (pss_one (ps_ret pe_bl)) pss_nil)))
        (pss_one (ps_ret pe_bl))))) pss_nil)
      (pss_cons (ps_if (PW.pt (pw_or (pt_val (pe_callB call_isi (by rfl) B.isi (by decide +kernel) (pa_cons (pv 1) (pa_cons (pe_bltn (v := .ty "bool") (by rfl) B.bool (by decide +kernel) rfl) pa_nil))))
          (pw_or1 (pt_val (pe_callB call_isi (by rfl) B.isi (by decide +kernel) (pa_cons (pv 0) (pa_cons (pe_bltn (v := .ty "bool") (by rfl) B.bool (by decide +kernel) rfl) pa_nil)))))))
        (pss_one (ps_ret (pe_and (pe_callB call_isi (by rfl) B.isi (by decide +kernel) (pa_cons (pv 0) (pa_cons (pe_bltn (v := .ty "bool") (by rfl) B.bool (by decide +kernel) rfl) pa_nil)))
          (pe_and (pe_callB call_isi (by rfl) B.isi (by decide +kernel) (pa_cons (pv 1) (pa_cons (pe_bltn (v := .ty "bool") (by rfl) B.bool (by decide +kernel) rfl) pa_nil)))
          (pe_one (pe_cmpR op_eq (pv 0) (pv 1) (nomark _))))))) pss_nil)
      (pss_cons (ps_if (pt_cmpR op_isN (pv 1) pe_non (nomark _)) (pss_one (ps_ret (pe_cmpR op_isN (pv 0) pe_non (nomark _)))) pss_nil)
      (pss_cons (ps_if (pt_val (pe_callB call_isi (by rfl) B.isi (by decide +kernel) (pa_cons (pv 1) (pa_cons (pe_bltn (v := .ty "int") (by rfl) B.int (by decide +kernel) rfl) pa_nil))))
        (pss_one (ps_ret (pe_and (pe_callB call_isi (by rfl) B.isi (by decide +kernel) (pa_cons (pv 0) (pa_cons (pe_bltn (v := .ty "int") (by rfl) B.int (by decide +kernel) rfl) pa_nil))) (pe_one (pe_cmpR op_eq (pv 0) (pv 1) (nomark _)))))) pss_nil)
      (pss_one (ps_ret (pe_and (pe_callB call_isi (by rfl) B.isi (by decide +kernel) (pa_cons (pv 0) (pa_cons (pe_bltn (v := .ty "str") (by rfl) B.str (by decide +kernel) rfl) pa_nil))) (pe_one (pe_cmpR op_eq (pv 0) (pv 1) (nomark _))))))))), ?_⟩
    have self : ∀ (z : V) (H' : Hp), Same H H' → Q (.bl (decide (z = z))) H' := fun z H' s => by
      rw [decide_eq_true rfl]
      exact q H' s
    -- a value that is no list and no tuple
    rcases Eqd.split he with he | ⟨m, a, b, xs, ys, rfl, rfl, rfl, hs, hl, hl2, al⟩
    rotate_left
    · have hty : ∃ t r1 r2, (∀ H', Same H H' → TyX K H' (.ref a) (.type t)) ∧ (∀ H', Same H H' → TyX K H' (.ref b) (.type t)) ∧ kitB t "tuple" = some r1 ∧ kitB t "list" = some r2 ∧ (r1 || r2) = true := by
        rcases hs with ⟨h1, h2⟩ | ⟨h1, h2⟩
        · exact ⟨"list", false, true, fun H' s => tyx_list (s.seq h1), fun H' s => tyx_list (s.seq h2), by decide +kernel, by decide +kernel, rfl⟩
        · exact ⟨"tuple", true, false, fun H' s => tyx_tup (SqT.same s h1), fun H' s => tyx_tup (SqT.same s h2), by decide +kernel, by decide +kernel, rfl⟩
      obtain ⟨t, r1, r2, ta, tb, k1, k2, kk⟩ := hty
      refine rd_isiT rfl tb k1 k2 fun H1 s1 => ⟨_, rfl, ?_⟩
      rw [kk]
      refine iteT ?_
      refine rd_isi rfl (ta _ s1) k1 (rd_isi rfl (tb _ s1) k1 ⟨rfl, _, rfl, ?_⟩)
      refine if_f (by simp) ?_
      refine rd_isi rfl (ta _ s1) k2 (rd_isi rfl (tb _ s1) k2 ⟨rfl, _, rfl, ?_⟩)
      refine if_f (by simp) ?_
      have ls : ∀ H', Same H H' → (SqL K H' a xs ∨ SqT K H' a xs) ∧ (SqL K H' b ys ∨ SqT K H' b ys) := fun H' s => by
        rcases hs with ⟨h1, h2⟩ | ⟨h1, h2⟩
        · exact ⟨.inl (s.seq h1), .inl (s.seq h2)⟩
        · exact ⟨.inr (SqT.same s h1), .inr (SqT.same s h2)⟩
      have ixs : ∀ (H' : Hp) (i : Nat) (u : V) (R : VK), Same H H' → xs[i]? = some u → R u H' → rIx K (.ref a) (.int (0 + (i : Int))) H' R := fun H' i u R s hu r => by
        have e := atI_nat hu
        rw [← Int.zero_add (i : Int)] at e
        rcases hs with ⟨h1, h2⟩ | ⟨h1, h2⟩
        · exact .inl ⟨a, xs, _, u, rfl, rfl, s.seq h1, e, r⟩
        · exact .inr (.inl ⟨a, xs, _, u, rfl, rfl, SqT.same s h1, e, r⟩)
      have iys : ∀ (H' : Hp) (i : Nat) (u : V) (R : VK), Same H H' → ys[i]? = some u → R u H' → rIx K (.ref b) (.int (0 + (i : Int))) H' R := fun H' i u R s hu r => by
        have e := atI_nat hu
        rw [← Int.zero_add (i : Int)] at e
        rcases hs with ⟨h1, h2⟩ | ⟨h1, h2⟩
        · exact .inl ⟨b, ys, _, u, rfl, rfl, s.seq h2, e, r⟩
        · exact .inr (.inl ⟨b, ys, _, u, rfl, rfl, SqT.same s h2, e, r⟩)
      refine ⟨_, rfl, a, xs, rfl, (ls _ s1).1, _, rfl, b, ys, rfl, (ls _ s1).2, rfl, _, rfl, ?_⟩
      refine if_f (by rw [hl]; simp) ?_
      refine ⟨_, rfl, b, ys, rfl, (ls _ s1).2, (ys.length : Int), rfl, by omega, by omega, for_range (lo := 0) (n := ys.length) (fun i σ H' => (∃ v, σ = [some (.ref a), some (.ref b), v]) ∧ Same H H') ⟨⟨_, rfl⟩, s1⟩ ?_ ?_⟩
      · rintro i σ H' hi ⟨⟨v, rfl⟩, s2⟩
        have hx : xs[i]? = some xs[i] := List.getElem?_eq_getElem (by omega)
        have hy : ys[i]? = some ys[i] := List.getElem?_eq_getElem hi
        refine ⟨_, rfl, _, rfl, ixs _ i _ _ s2 hx ⟨_, rfl, _, rfl, iys _ i _ _ s2 hy ?_⟩⟩
        refine ⟨_, _, rfl, Eqd.same s2 (al i _ _ hx hy), fun H3 s3 => ⟨_, rfl, ?_⟩⟩
        exact iteF ⟨⟨_, rfl⟩, s2.trans s3⟩
      · rintro σ H' ⟨⟨v, rfl⟩, s2⟩
        exact q _ s2
    · obtain ⟨rfl, hh⟩ := he
      rcases hh with ⟨i, rfl⟩ | ⟨b, rfl⟩ | rfl | ⟨z, rfl⟩
      · refine rd_isiT (t := "int") (r1 := false) (r2 := false) rfl (fun _ _ => .base (.int i)) (by decide +kernel) (by decide +kernel) fun H1 s1 => ⟨_, rfl, iteF ?_⟩
        refine rd_isi (t := "int") (b := false) rfl (.base (.int i)) (by decide +kernel) ⟨_, rfl, iteF ?_⟩
        refine rd_isi (t := "int") (b := false) rfl (.base (.int i)) (by decide +kernel) ⟨_, rfl, iteF ?_⟩
        refine ⟨_, rfl, rfl, _, rfl, if_f (by simp) ?_⟩
        refine rd_isi (t := "int") (b := true) rfl (.base (.int i)) (by decide +kernel) ⟨_, rfl, iteT ?_⟩
        refine rd_isi (t := "int") (b := true) rfl (.base (.int i)) (by decide +kernel) ⟨_, rfl, iteT ?_⟩
        exact ⟨_, rfl, _, rfl, rfl, self _ _ s1⟩
      · refine rd_isiT (t := "bool") (r1 := false) (r2 := false) rfl (fun _ _ => .base (.bl b)) (by decide +kernel) (by decide +kernel) fun H1 s1 => ⟨_, rfl, iteF ?_⟩
        refine rd_isi (t := "bool") (b := true) rfl (.base (.bl b)) (by decide +kernel) ⟨_, rfl, iteT ?_⟩
        refine rd_isi (t := "bool") (b := true) rfl (.base (.bl b)) (by decide +kernel) ⟨_, rfl, iteT ?_⟩
        refine rd_isi (t := "bool") (b := true) rfl (.base (.bl b)) (by decide +kernel) ⟨_, rfl, iteT ?_⟩
        exact ⟨_, rfl, _, rfl, rfl, self _ _ s1⟩
      · refine rd_isiT (t := "NoneType") (r1 := false) (r2 := false) rfl (fun _ _ => .base .non) (by decide +kernel) (by decide +kernel) fun H1 s1 => ⟨_, rfl, iteF ?_⟩
        refine rd_isi (t := "NoneType") (b := false) rfl (.base .non) (by decide +kernel) ⟨_, rfl, iteF ?_⟩
        refine rd_isi (t := "NoneType") (b := false) rfl (.base .non) (by decide +kernel) ⟨_, rfl, iteF ?_⟩
        refine ⟨_, rfl, rfl, _, rfl, if_t (by simp) ?_⟩
        exact ⟨_, rfl, rfl, self _ _ s1⟩
      · refine rd_isiT (t := "str") (r1 := false) (r2 := false) rfl (fun _ _ => .base (.str z)) (by decide +kernel) (by decide +kernel) fun H1 s1 => ⟨_, rfl, iteF ?_⟩
        refine rd_isi (t := "str") (b := false) rfl (.base (.str z)) (by decide +kernel) ⟨_, rfl, iteF ?_⟩
        refine rd_isi (t := "str") (b := false) rfl (.base (.str z)) (by decide +kernel) ⟨_, rfl, iteF ?_⟩
        refine ⟨_, rfl, rfl, _, rfl, if_f (by simp) ?_⟩
        refine rd_isi (t := "str") (b := false) rfl (.base (.str z)) (by decide +kernel) ⟨_, rfl, iteF ?_⟩
        refine rd_isi (t := "str") (b := true) rfl (.base (.str z)) (by decide +kernel) ⟨_, rfl, iteT ?_⟩
        exact ⟨_, rfl, _, rfl, rfl, self _ _ s1⟩
theorem ok_same {f : Addr} {fd : FuncData} (F : Fun K "_law_same" "_law_same" s_law_same f fd) (B : BI mg) (gS : mg "_law_same" = some (.ref f)) (bS : Binds K fd ["actual", "expected"] []) :
    ∀ n : Nat, FnOk P w K mg base CX0 (n + 1) f fd ["actual", "expected"] (spSame K n)
  | 0 => ok_same_step 0 F B gS bS ⟨fun _ _ _ _ h => h.elim, fun _ _ _ _ _ _ _ _ _ _ _ _ _ h => h.elim⟩
  | n + 1 => ok_same_step (n + 1) F B gS bS (ok_same F B gS bS n)
end
section
variable {P : Program} {w : World} {K : PySem.W.Frag} {mg : Str → Option Value} {base : Heap}
/-! ### _law_is_prime, _law_prime -/
def isP (n : Int) : Bool := decide (1 < n) && (List.range (n - 2).toNat).all fun j => !decide (n.fmod (2 + (j : Int)) = 0)
def stepP (n : Int) : Int := if isP n = true then n else n + 1
def iterP : Nat → Int → Int
  | 0, n => n
  | k + 1, n => stepP (iterP k n)
def primes : List Int := [2, 3, 5, 7, 11, 13, 17, 19, 23, 29, 31, 37, 41, 43, 47, 53, 59, 61, 67, 71, 73, 79, 83, 89, 97]
theorem iterP_in : ∀ n ∈ (List.range 96).map (fun j : Nat => (2 : Int) + j), iterP 20 n ∈ primes := by decide +kernel
theorem iterP_low : ∀ (k : Nat) (n : Int), n ≤ iterP k n ∧ iterP k n ≤ n + k
  | 0, n => ⟨Int.le_refl _, by simp [iterP]⟩
  | k + 1, n => by
    have ih := iterP_low k n
    show n ≤ stepP (iterP k n) ∧ stepP (iterP k n) ≤ n + ((k + 1 : Nat) : Int)
    unfold stepP
    split <;> omega
theorem primes_bd : ∀ p ∈ primes, 2 ≤ p ∧ p ≤ 97 := by decide +kernel
def spIsPrime : Sp := fun vs H Q _ => ∃ n : Int, vs = [.int n] ∧ -1000 ≤ n ∧ n ≤ 100000 ∧ Q (.bl (isP n)) H
theorem sc_is_prime : FnScope ["number", "k"] ["number"] (defScope s_law_is_prime) := ⟨rfl, rfl, rfl, by decide +kernel, rfl, by decide +kernel, by decide +kernel⟩
theorem ok_is_prime {f : Addr} {fd : FuncData} (F : Fun K "_law_is_prime" "_law_is_prime" s_law_is_prime f fd) (B : BI mg) : FnOk P w K mg base CX0 1 f fd ["number"] spIsPrime := by
  refine F.ok sc_is_prime (fun vs H Q E h => ?_) (fun cdv A outer s H vs Q E hr h => ?_)
  · obtain ⟨n, rfl, _⟩ := h
    rfl
  · obtain ⟨n, rfl, lo, hi, q⟩ := h
    refine ⟨_, pss_cons (ps_for PassesOwn.never rfl (pi_range2 (by rfl) B.range (pa_cons pe_int (pa_cons (pv 0) pa_nil))) (pg_name (i := 1) sc_is_prime.nd rfl (Or.inl rfl))
        (pss_one (ps_if (pt_cmpR op_eq (pe_op op_modN (pv 0) (pv 1)) pe_int (nomark _)) (pss_one (ps_ret pe_bl)) pss_nil)))
      (pss_one (ps_ret (pe_cmpR op_gt (pv 0) pe_int (nomark _)))), ?_⟩
    refine ⟨_, rfl, 2, n, rfl, ⟨by decide, by decide, by omega, by omega⟩, for_range (lo := 2) (n := (n - 2).toNat) (fun i σ H' => (∃ v, σ = [some (.int n), v]) ∧ H' = H ∧ ∀ j : Nat, j < i → n.fmod (2 + (j : Int)) ≠ 0)
      ⟨⟨_, rfl⟩, rfl, fun j hj => absurd hj (Nat.not_lt_zero j)⟩ ?_ ?_⟩
    · rintro i σ H' hi ⟨⟨v, rfl⟩, rfl, al⟩
      refine ⟨_, rfl, _, rfl, _, _, rfl, rfl, by omega, rfl, _, rfl, ?_⟩
      refine ite2 (fun e => ?_) (fun e => ?_)
      · have e1 : n.fmod (2 + (i : Int)) = 0 := by
          have z := of_decide_eq_true e
          exact V.int.inj z
        have e2 : isP n = false := by
          unfold isP
          rw [Bool.and_eq_false_iff]
          refine .inr (List.all_eq_false.mpr ⟨i, List.mem_range.mpr hi, ?_⟩)
          rw [decide_eq_true e1]
          decide
        rw [e2] at q
        exact q
      · refine ⟨⟨_, rfl⟩, rfl, fun j hj => ?_⟩
        by_cases ej : j = i
        · rw [ej]
          intro z
          exact e (decide_eq_true (congrArg V.int z))
        · exact al j (by omega)
    · rintro σ H' ⟨⟨v, rfl⟩, rfl, al⟩
      have e2 : isP n = decide (1 < n) := by
        unfold isP
        have z : ((List.range (n - 2).toNat).all fun j => !decide (n.fmod (2 + (j : Int)) = 0)) = true := by
          rw [List.all_eq_true]
          intro j hj
          rw [decide_eq_false (al j (List.mem_range.mp hj))]
          rfl
        rw [z, Bool.and_true]
      rw [e2] at q
      exact ⟨_, rfl, _, _, rfl, rfl, q⟩
def spPrime : Sp := fun vs H Q _ => ∃ (d r : Addr) (c : Nat), vs = [.ref d] ∧ Dr H d r c ∧ c ≤ 10000 ∧
  ∀ (p : Int) (H' : Hp) (c' : Nat), c' ≤ c + 2 → p ∈ primes → KeepBut d H H' → Dr H' d r c' → Q (.int p) H'
theorem sc_prime : FnScope ["draws", "pick", "number", "k"] ["draws"] (defScope s_law_prime) := ⟨rfl, rfl, rfl, by decide +kernel, rfl, by decide +kernel, by decide +kernel⟩
theorem ok_prime {f fN fI : Addr} {fd fdN fdI : FuncData} (F : Fun K "_law_prime" "_law_prime" s_law_prime f fd) (B : BI mg)
    (FN : Fun K "_law_next" "_law_next" s_law_next fN fdN) (gN : mg "_law_next" = some (.ref fN)) (bN : Binds K fdN ["draws", "many"] [])
    (FI : Fun K "_law_is_prime" "_law_is_prime" s_law_is_prime fI fdI) (gI : mg "_law_is_prime" = some (.ref fI)) (bI : Binds K fdI ["number"] []) : FnOk P w K mg base CX0 2 f fd ["draws"] spPrime := by
  have GN : FnOk P w K mg base CX0 1 fN fdN ["draws", "many"] spNext := ok_next FN B
  have GI : FnOk P w K mg base CX0 1 fI fdI ["number"] spIsPrime := ok_is_prime FI B
  refine F.ok sc_prime (fun vs H Q E h => ?_) (fun cdv A outer s H vs Q E hr h => ?_)
  · obtain ⟨d, r, c, rfl, _⟩ := h
    rfl
  · obtain ⟨d, r, c, rfl, hd, hc, q⟩ := h
    refine ⟨_, pss_cons (ps_set (i := 1) sc_prime.nd rfl (Or.inl rfl) (pe_call GN hr rfl gN FN.kp bN .nil pass0 (pa_cons (pv 0) (pa_cons pe_int pa_nil))))
      (pss_cons (ps_if (pt_cmpR op_lt (pv 1) pe_int (nomark _)) (pss_one (ps_ret (pe_op op_add pe_int (pv 1)))) pss_nil)
      (pss_cons (ps_set (i := 2) sc_prime.nd rfl (Or.inl rfl) (pe_op op_add pe_int (pe_call GN hr rfl gN FN.kp bN .nil pass0 (pa_cons (pv 0) (pa_cons pe_int pa_nil)))))
      (pss_cons (ps_for PassesOwn.never rfl (pi_range1 (by rfl) B.range (pa_cons pe_int pa_nil)) (pg_name (i := 3) sc_prime.nd rfl (Or.inl rfl))
        (pss_one (ps_if (pt_not (pt_val (pe_call GI hr rfl gI FI.kp bI .nil pass0 (pa_cons (pv 2) pa_nil)))) (pss_one (ps_set (i := 2) sc_prime.nd rfl (Or.inl rfl) (pe_op op_add (pv 2) pe_int))) pss_nil)))
      (pss_one (ps_ret (pv 2)))))), ?_⟩
    refine ⟨_, rfl, d, r, c, 4, rfl, hd, by omega, by decide, fun z H1 z0 z4 k1 d1 => ?_⟩
    refine ⟨_, rfl, _, _, rfl, rfl, _, rfl, ?_⟩
    refine ite2 (fun e => ?_) (fun _ => ?_)
    · have e1 : z < 2 := of_decide_eq_true e
      refine ⟨_, rfl, _, _, rfl, rfl, q _ _ _ (Nat.le_succ _) ?_ k1 d1⟩
      have e2 : z = 0 ∨ z = 1 := by omega
      rcases e2 with rfl | rfl <;> decide +kernel
    · refine ⟨_, rfl, d, r, c + 1, 96, rfl, d1, by omega, by decide, fun y H2 y0 y4 k2 d2 => ⟨_, _, rfl, rfl, ?_⟩⟩
      refine ⟨20, rfl, by decide, by decide, for_range (lo := 0) (n := 20) (fun i σ H' => (∃ v, σ = [some (.ref d), some (.int z), some (.int (iterP i (2 + y))), v]) ∧ H' = H2) ⟨⟨_, rfl⟩, rfl⟩ ?_ ?_⟩
      · rintro i σ H' hi ⟨⟨v, rfl⟩, rfl⟩
        have b1 := iterP_low i (2 + y)
        refine ⟨_, rfl, _, rfl, by omega, by omega, _, rfl, ?_⟩
        cases e : isP (iterP i (2 + y)) with
        | true =>
          refine iteF ⟨⟨some (.int (0 + (i : Int))), ?_⟩, rfl⟩
          show _ = [_, _, some (V.int (stepP (iterP i (2 + y)))), _]
          unfold stepP
          rw [if_pos e]
          rfl
        | false =>
          refine iteT ⟨_, rfl, _, _, rfl, rfl, ⟨some (.int (0 + (i : Int))), ?_⟩, rfl⟩
          show _ = [_, _, some (V.int (stepP (iterP i (2 + y)))), _]
          unfold stepP
          rw [if_neg (by rw [e]; decide)]
          rfl
      · rintro σ H' ⟨⟨v, rfl⟩, rfl⟩
        refine ⟨_, rfl, q _ _ _ (Nat.le_refl _) (iterP_in _ ?_) (k1.trans k2) d2⟩
        rw [List.mem_map]
        exact ⟨y.toNat, List.mem_range.mpr (by omega), by omega⟩
end
section
variable {P : Program} {w : World} {K : PySem.W.Frag} {mg : Str → Option Value} {base : Heap}
/-! ### is_base -/
theorem in_ints (n : Int) : ∀ ns : List Int, inV (.int n) (vI ns) = decide (n ∈ ns)
  | [] => rfl
  | m :: ns => by
    have ih := in_ints n ns
    show (eqV (.int m) (.int n) || inV (.int n) (vI ns)) = _
    rw [ih]
    show ((m == n) || decide (n ∈ ns)) = _
    by_cases e : m = n
    · subst e
      simp
    · have e2 : ¬ n = m := fun z => e z.symm
      simp [e, e2]
theorem flat_ints : ∀ ns : List Int, (vI ns).all flatV = true
  | [] => rfl
  | _ :: ns => flat_ints ns
def spIsBase : Sp := fun vs H Q _ => ∃ n : Int, vs = [.int n] ∧ Q (.bl (decide (n ∈ primes))) H
theorem sc_is_base : FnScope ["number"] ["number"] (defScope s_is_base) := ⟨rfl, rfl, rfl, by decide +kernel, rfl, by decide +kernel, by decide +kernel⟩
theorem ok_is_base {f aB : Addr} {fd : FuncData} (F : Fun K "is_base" "is_base" s_is_base f fd) (gB : mg "BASES" = some (.ref aB)) (hB : ∀ H, SqT K H aB (vI primes)) : FnOk P w K mg base CX0 1 f fd ["number"] spIsBase := by
  refine F.ok sc_is_base (fun vs H Q E h => ?_) (fun cdv A outer s H vs Q E hr h => ?_)
  · obtain ⟨n, rfl, _⟩ := h
    rfl
  · obtain ⟨n, rfl, q⟩ := h
    refine ⟨_, pss_one (ps_ret (pe_cmpR op_in_seq (pv 0) (pe_glob (v := .ref aB) rfl gB rfl) (by rfl))), ?_⟩
    refine ⟨_, rfl, aB, _, rfl, .inr (hB _), rfl, flat_ints _, ?_⟩
    show Q (.bl (inV (.int n) (vI primes))) H
    rw [in_ints]
    exact q
end
section
variable {P : Program} {w : World} {K : PySem.W.Frag} {mg : Str → Option Value} {base : Heap}
/-! ### Matrix: what stands of one; _is_vector, __init__ -/
def mF (p w : Int) (T : Addr) : List (Str × V) := [("base", .int p), ("width", .int w), ("rows", .ref T)]
theorem nWB : (("width" : Str) == "base") = false := by decide +kernel
theorem nRB : (("rows" : Str) == "base") = false := by decide +kernel
theorem nRW : (("rows" : Str) == "width") = false := by decide +kernel
theorem mF_put (p w : Int) (T : Addr) : putF "rows" (.ref T) (putF "width" (.int w) (putF "base" (.int p) [])) = mF p w T := by
  have e1 : putF "width" (.int w) (putF "base" (.int p) []) = [(("base" : Str), V.int p), ("width", .int w)] := by
    show (if ("base" : Str) = "width" then _ else (("base" : Str), V.int p) :: putF "width" (V.int w) []) = _
    rw [if_neg (by decide +kernel)]
    rfl
  rw [e1]
  show (if ("base" : Str) = "rows" then _ else (("base" : Str), V.int p) :: (if ("width" : Str) = "rows" then _ else (("width" : Str), V.int w) :: putF "rows" (V.ref T) [])) = _
  rw [if_neg (by decide +kernel), if_neg (by decide +kernel)]
  rfl
theorem mF_base (p w : Int) (T : Addr) : (mF p w T).lookup ("base" : Str) = some (.int p) := by simp [mF, List.lookup]
theorem mF_width (p w : Int) (T : Addr) : (mF p w T).lookup ("width" : Str) = some (.int w) := by simp [mF, List.lookup, nWB]
theorem mF_rows (p w : Int) (T : Addr) : (mF p w T).lookup ("rows" : Str) = some (.ref T) := by simp [mF, List.lookup, nRB, nRW]
theorem mF_no (p w : Int) (T : Addr) {m : Str} (h1 : (m == "base") = false) (h2 : (m == "width") = false) (h3 : (m == "rows") = false) : (mF p w T).lookup m = none := by simp [mF, List.lookup, h1, h2, h3]
/-- at the i-th of ts stands the i-th of rows -/
def Refs (mk : List V → HO) (H : Hp) (ts : List Addr) (rows : List (List Int)) : Prop := ts.length = rows.length ∧ ∀ (i : Nat) (t : Addr) (r : List Int), ts[i]? = some t → rows[i]? = some r → H t = some (mk (vI r))
def RowsL (H : Hp) (a : Addr) (rows : List (List Int)) : Prop := ∃ ts : List Addr, H a = some (.lst (ts.map V.ref)) ∧ Refs .lst H ts rows
def RowsT (H : Hp) (a : Addr) (rows : List (List Int)) : Prop := ∃ ts : List Addr, H a = some (.tup (ts.map V.ref)) ∧ Refs .tup H ts rows
theorem Refs.same {mk : List V → HO} {H H' : Hp} {ts : List Addr} {rows : List (List Int)} (s : Same H H') (h : Refs mk H ts rows) : Refs mk H' ts rows := ⟨h.1, fun i t r h1 h2 => s _ _ (h.2 i t r h1 h2)⟩
theorem RowsL.same {H H' : Hp} {a : Addr} {rows : List (List Int)} (s : Same H H') (h : RowsL H a rows) : RowsL H' a rows := by
  obtain ⟨ts, h1, h2⟩ := h
  exact ⟨ts, s _ _ h1, h2.same s⟩
theorem RowsT.same {H H' : Hp} {a : Addr} {rows : List (List Int)} (s : Same H H') (h : RowsT H a rows) : RowsT H' a rows := by
  obtain ⟨ts, h1, h2⟩ := h
  exact ⟨ts, s _ _ h1, h2.same s⟩
theorem refs_at {ts : List Addr} {i : Nat} {y : V} (h : (ts.map V.ref)[i]? = some y) : ∃ t, ts[i]? = some t ∧ y = .ref t := by
  rw [List.getElem?_map] at h
  cases e : ts[i]? with
  | none => rw [e] at h; cases h
  | some t => rw [e] at h; exact ⟨t, rfl, (Option.some.inj h).symm⟩
theorem Refs.row {mk : List V → HO} {H : Hp} {ts : List Addr} {rows : List (List Int)} (h : Refs mk H ts rows) {i : Nat} {t : Addr} (e : ts[i]? = some t) : ∃ r, rows[i]? = some r ∧ H t = some (mk (vI r)) := by
  have l : i < rows.length := by
    rw [← h.1]
    exact (List.getElem?_eq_some_iff.mp e).1
  exact ⟨rows[i], List.getElem?_eq_getElem l, h.2 i t _ e (List.getElem?_eq_getElem l)⟩
/-- one more -/
theorem Refs.snoc {mk : List V → HO} {H H' : Hp} {ts : List Addr} {rows : List (List Int)} {i : Nat} {u : Addr} {r : List Int} (h : Refs mk H ts (rows.take i)) (e : rows[i]? = some r) (s : ∀ t o, t ∈ ts → H t = some o → H' t = some o) (hu : H' u = some (mk (vI r))) :
    Refs mk H' (ts ++ [u]) (rows.take (i + 1)) := by
  rw [take_succ e]
  refine ⟨by rw [List.length_append, List.length_append, h.1]; rfl, fun j t r' h1 h2 => ?_⟩
  by_cases hj : j < ts.length
  · rw [List.getElem?_append_left hj] at h1
    rw [List.getElem?_append_left (by rw [← h.1]; exact hj)] at h2
    exact s _ _ (List.mem_of_getElem? h1) (h.2 j t r' h1 h2)
  · rw [List.getElem?_append_right (by omega)] at h1
    rw [List.getElem?_append_right (by rw [← h.1]; omega), ← h.1] at h2
    cases hz : j - ts.length with
    | zero =>
      rw [hz] at h1 h2
      cases h1
      cases h2
      exact hu
    | succ n =>
      rw [hz] at h1
      cases h1
theorem Refs.nil {mk : List V → HO} {H : Hp} {rows : List (List Int)} : Refs mk H [] (rows.take 0) := ⟨by simp, fun i t r h => by simp at h⟩
/-- a row of w residues of p -/
def isVec (p w : Int) (r : List Int) : Bool := decide ((r.length : Int) = w) && r.all fun e => decide (0 ≤ e) && decide (e < p)
def good (p w : Int) (rows : List (List Int)) : Prop := p ∈ primes ∧ 0 ≤ w ∧ rows.all (isVec p w) = true
/-- a Matrix stands at x -/
def MatAt (C : Addr) (H : Hp) (x : Addr) (p w : Int) (rows : List (List Int)) : Prop := ∃ dx T, H x = some (.ins C dx (mF p w T)) ∧ RowsT H T rows
theorem MatAt.same {C : Addr} {H H' : Hp} {x : Addr} {p w : Int} {rows : List (List Int)} (s : Same H H') (h : MatAt C H x p w rows) : MatAt C H' x p w rows := by
  obtain ⟨dx, T, h1, h2⟩ := h
  exact ⟨dx, T, s _ _ h1, h2.same s⟩
def spIsVec (K : PySem.W.Frag) : Sp := fun vs H Q _ => ∃ (t : Addr) (r : List Int) (w p : Int), vs = [.ref t, .int w, .int p] ∧ H t = some (.tup (vI r)) ∧ r.length ≤ 1000 ∧ ∀ H', Same H H' → Q (.bl (isVec p w r)) H'
theorem sc_is_vector : FnScope ["entries", "length", "base", "entry"] ["entries", "length", "base"] (defScope s_is_vector) := ⟨rfl, rfl, rfl, by decide +kernel, rfl, by decide +kernel, by decide +kernel⟩
theorem ok_is_vector {f : Addr} {fd : FuncData} (F : Fun K "_is_vector" "_is_vector" s_is_vector f fd) (B : BI mg) : FnOk P w K mg base CX0 1 f fd ["entries", "length", "base"] (spIsVec K) := by
  refine F.ok sc_is_vector (fun vs H Q E h => ?_) (fun cdv A outer s H vs Q E hr h => ?_)
  · obtain ⟨t, r, w, p, rfl, _⟩ := h
    rfl
  · obtain ⟨t, r, w, p, rfl, ht, hl, q⟩ := h
    refine ⟨_, pss_one (ps_ret (pe_and (pe_cmpR op_eq (pe_callB call_len_seq (by rfl) B.len (by decide +kernel) (pa_cons (pv 0) pa_nil)) (pv 1) (nomark _)) (pe_one (pe_callB (cr_all rfl) (by rfl) B.all (by decide +kernel) (pa_cons (pe_lc (own := [("entry", 3)]) (g := gName 3) (tt := tYes) rfl sc_is_vector.nd (pi_tup (pv 0)) (blkOk_by (N := ["entries", "length", "base", "entry"]) (sc := (defScope s_is_vector)) (by decide +kernel)) (fun _ _ _ _ _ => (pg_name (i := 3) sc_is_vector.nd rfl (Or.inl rfl))) (fun _ _ _ _ _ => pts_nil) (fun _ _ _ _ _ => (pe_chain op_le op_lt pe_int (pv 3) (pv 2)))) pa_nil))))), ?_⟩
    refine ⟨_, rfl, t, _, rfl, .inr (SqT.of ht), _, rfl, rfl, _, rfl, ?_⟩
    by_cases c : (r.length : Int) = w
    · refine if_t (by show decide (V.int ((vI r).length : Int) = V.int w) = true; rw [List.length_map]; exact decide_eq_true (congrArg V.int c)) ?_
      refine ⟨_, rfl, t, rfl, ⟨_, SqT.of ht⟩, fun D hD => lc_it walk_tup (fun i H' => Same H H' ∧ H' D = some (.lst (((r.take i).map fun e => decide (0 ≤ e) && decide (e < p)).map V.bl))) ⟨same_new hD, upd_same⟩ (fun i H' _ ⟨s1, _⟩ => SqT.of (s1 _ _ ht)) ?_ ?_⟩
      · rintro i u H1 H2 hi ⟨s1, hacc⟩ ⟨rfl, hu⟩
        obtain ⟨e, he, rfl⟩ := item_int hu
        refine ⟨rfl, lc_yes ⟨_, rfl, _, _, rfl, rfl, _, rfl, ?_⟩⟩
        have fin : ∀ b : Bool, b = (decide (0 ≤ e) && decide (e < p)) → ∃ acc, H2 D = some (HO.lst acc) ∧ acc.length < sizeLine ∧ Same H (upd H2 D (HO.lst (acc ++ [V.bl b]))) ∧ (upd H2 D (HO.lst (acc ++ [V.bl b]))) D = some (.lst (((r.take (i + 1)).map fun e => decide (0 ≤ e) && decide (e < p)).map V.bl)) := fun b hb => by
          refine ⟨_, hacc, ?_, ?_, ?_⟩
          · rw [List.length_map, List.length_map]
            refine line_lt ?_
            have : (r.take i).length ≤ i := List.length_take_le _ _
            rw [List.length_map] at hi
            omega
          · intro z o ez
            rw [upd_ne (ne_of_none ez hD)]
            exact s1 _ _ ez
          · rw [upd_same, take_succ he, hb]
            simp
        by_cases e0 : 0 ≤ e
        · refine if_t (decide_eq_true e0) ⟨_, rfl, _, _, rfl, rfl, fin _ ?_⟩
          rw [decide_eq_true e0]
          rfl
        · refine if_f (decide_eq_false e0) (fin _ ?_)
          rw [decide_eq_false e0]
          rfl
      · rintro H1 ⟨s1, hacc⟩
        have el : r.take (vI r).length = r := by
          rw [List.length_map]
          exact List.take_length
        rw [el] at hacc
        refine ⟨D, _, rfl, SqL.of hacc, ?_⟩
        have ev : ((r.map fun e => decide (0 ≤ e) && decide (e < p)).all id) = isVec p w r := by
          unfold isVec
          rw [decide_eq_true c, Bool.true_and, List.all_map]
          rfl
        rw [ev]
        exact q _ s1
    · refine if_f (by show decide (V.int ((vI r).length : Int) = V.int w) = false; rw [List.length_map]; exact decide_eq_false fun z => c (V.int.inj z)) ?_
      have ev : isVec p w r = false := by
        unfold isVec
        rw [decide_eq_false c]
        rfl
      rw [ev] at q
      exact q _ (Same.refl _)
end
section
variable {P : Program} {w : World} {K : PySem.W.Frag} {mg : Str → Option Value} {base : Heap}
/-! ### a list or a tuple, walked -/
def OrIt (K : PySem.W.Frag) (H : Hp) (a : Addr) (R : It → Hp → Prop) : Prop := ((∃ xs, SqL K H a xs) ∧ R (Itl K a) H) ∨ ((∃ xs, SqT K H a xs) ∧ R (Itt K a) H)
def iLT (K : PySem.W.Frag) (tl : TE) : TI := fun σ H R => tl σ H fun x H1 => ∃ a, x = .ref a ∧ OrIt K H1 a R
theorem pi_lt {X : Cx} {tg src : Expr} {te : TE} (hsrc : PE X src te) : PI X tg src (iLT X.K te) := by
  constructor
  intro pn st σ H R inv hyp
  refine thn (hsrc.run pn st σ H _ inv hyp) fun val st1 z => ?_
  obtain ⟨x, H1, inv1, rel, a, rfl, way⟩ := z
  cases rel
  have fresh := inv1.hok.fresh (Nat.le_refl st1.heap.objs.size)
  have keep : ∀ ob : Obj, Inv X pn σ H1 { st1 with heap := st1.heap.push ob } := fun ob => inv1.kept (t' := st1.toks) fun b o eb => Heap.get?_push_of_some _ eb
  have one : ∀ b ∈ [st1.heap.objs.size], b = st1.heap.objs.size := fun b hb => List.mem_singleton.mp hb
  rcases way with ⟨⟨xs, hq⟩, q⟩ | ⟨⟨xs, hq⟩, q⟩
  · obtain ⟨its, _, isl, _⟩ := inv1.list hq
    exact wpAny_pyIter_list isl.isList ⟨_, [st1.heap.objs.size], _, _, H1, rfl, keep _, turn_list a _, ⟨_, Heap.get?_push_size _ rfl, rfl, rfl⟩, fun b hb => by rw [one b hb]; exact inv1.fpOk (Nat.le_refl _) fresh, q⟩
  · obtain ⟨its, _, ist, _⟩ := inv1.tuple hq
    exact wpAny_pyIter_tuple (items := its.toArray) ist ⟨_, [st1.heap.objs.size], _, _, H1, rfl, keep _, turn_tuple a _, ⟨_, Heap.get?_push_size _ rfl, rfl, rfl⟩, fun b hb => by rw [one b hb]; exact inv1.fpOk (Nat.le_refl _) fresh, q⟩
theorem it_lt {K : PySem.W.Frag} {a : Addr} {xs : List V} {H : Hp} {R : It → Hp → Prop} (h : H a = some (.lst xs) ∨ H a = some (.tup xs)) (q : ∀ (J : It) (G : Hp → Prop), Walk J xs.length G (YAt xs) → (∀ H', Same H H' → G H') → R J H) : OrIt K H a R := by
  rcases h with h | h
  · exact .inl ⟨⟨_, SqL.of h⟩, q _ _ (walk_list (K := K)) fun H' s => SqL.of (s _ _ h)⟩
  · exact .inr ⟨⟨_, SqT.of h⟩, q _ _ (walk_tup (K := K)) fun H' s => SqT.of (s _ _ h)⟩
theorem cons_at {ta : TE} {tr : TA} {σ : L2.St} {H : Hp} {Q : List V → Hp → Prop} (h : ta σ H fun x H1 => tr σ H1 fun xs H2 => Q (x :: xs) H2) : tCons ta tr σ H Q := h
end
section
variable {P : Program} {w : World} {K : PySem.W.Frag} {mg : Str → Option Value} {base : Heap}
/-! ### Matrix.__init__: of a list of lists -/
variable {a : Nat → Addr} {d : Nat → FuncData}
/-- a list or a tuple of lists or tuples -/
def RowsK (H : Hp) (a : Addr) (rows : List (List Int)) : Prop := ∃ ts : List Addr, (H a = some (.lst (ts.map V.ref)) ∨ H a = some (.tup (ts.map V.ref))) ∧ ts.length = rows.length ∧ ∀ (i : Nat) (t : Addr) (r : List Int), ts[i]? = some t → rows[i]? = some r → H t = some (.lst (vI r)) ∨ H t = some (.tup (vI r))
theorem RowsL.k {H : Hp} {a : Addr} {rows : List (List Int)} (h : RowsL H a rows) : RowsK H a rows := by
  obtain ⟨ts, h1, h2, h3⟩ := h
  exact ⟨ts, .inl h1, h2, fun i t r e1 e2 => .inl (h3 i t r e1 e2)⟩
theorem RowsK.same {H H' : Hp} {a : Addr} {rows : List (List Int)} (s : Same H H') (h : RowsK H a rows) : RowsK H' a rows := by
  obtain ⟨ts, h1, h2, h3⟩ := h
  exact ⟨ts, h1.elim (fun z => .inl (s _ _ z)) (fun z => .inr (s _ _ z)), h2, fun i t r e1 e2 => (h3 i t r e1 e2).elim (fun z => .inl (s _ _ z)) fun z => .inr (s _ _ z)⟩
def spInit (C CM : Addr) : Sp := fun vs H Q E => ∃ (x0 dx ra : Addr) (p w : Int) (rows : List (List Int)), vs = [.ref x0, .int p, .int w, .ref ra] ∧ H x0 = some (.ins C dx []) ∧ RowsK H ra rows ∧ rows.length ≤ 1000 ∧ (∀ r ∈ rows, r.length ≤ 1000) ∧
  (good p w rows → ∀ H', KeepBut x0 H H' → MatAt C H' x0 p w rows → Q .non H') ∧ (¬ good p w rows → ∀ H', KeepBut x0 H H' → E (.ref CM) none H')
theorem sc_init : FnScope ["self", "base", "width", "rows", "kept", "row"] ["self", "base", "width", "rows"] (defScope s_Matrix_init) := ⟨rfl, rfl, rfl, by decide +kernel, rfl, by decide +kernel, by decide +kernel⟩
theorem ok_init (T : TX K mg a d) : FnOk P w K mg base (L2.CX P w) 2 (a i_Matrix_init) (d i_Matrix_init) ["self", "base", "width", "rows"] (spInit (a i_Matrix) (a i_InvalidMatrix)) := by
  have B := T.B
  have G_is_base := ok_is_base (P := P) (w := w) (base := base) T.F_is_base T.g_BASES T.h_BASES
  have G_is_vector := ok_is_vector (P := P) (w := w) (base := base) T.F_is_vector B
  refine T.F_Matrix_init.okX sc_init (fun vs H Q E h => ?_) (fun cdv A outer s H vs Q E hr h => ?_)
  · obtain ⟨x0, dx, ra, p, w, rows, rfl, _⟩ := h
    rfl
  · obtain ⟨x0, dx, ra, p, wd, rows, rfl, hx, ⟨ts, hts, hrl, href⟩, l1, l2, kG, kB⟩ := h
    refine ⟨_, pss_cons (ps_if (pt_not (pt_val (pe_call G_is_base (hr.mono (by decide)) rfl T.g_is_base T.F_is_base.kp T.b_is_base .nil pass0 (pa_cons (pv 1) pa_nil)))) (pss_one (ps_raise rfl (takes_of rfl rfl rfl rfl) (pmk_own PySem.F.excBase_ValueError T.x_InvalidMatrix.x T.g_InvalidMatrix T.x_InvalidMatrix.k (raises_own T.x_InvalidMatrix.hs T.x_InvalidMatrix.t) rfl))) pss_nil)
      (pss_cons (ps_if (pt_cmpR op_lt (pv 2) pe_int (nomark _)) (pss_one (ps_raise rfl (takes_of rfl rfl rfl rfl) (pmk_own PySem.F.excBase_ValueError T.x_InvalidMatrix.x T.g_InvalidMatrix T.x_InvalidMatrix.k (raises_own T.x_InvalidMatrix.hs T.x_InvalidMatrix.t) rfl))) pss_nil)
      (pss_cons (ps_set (i := 4) sc_init.nd rfl (Or.inl rfl) (pe_callTy call_tuple_of (by rfl) B.tuple (by decide +kernel) (pa_cons (pe_lc (own := [("row", 5)]) (g := gName 5) (tt := tYes) rfl sc_init.nd (pi_lt (pv 3)) (blkOk_by (N := ["self", "base", "width", "rows", "kept", "row"]) (sc := (defScope s_Matrix_init)) (by decide +kernel)) (fun _ _ _ _ _ => (pg_name (i := 5) sc_init.nd rfl (Or.inl rfl))) (fun _ _ _ _ _ => pts_nil) (fun _ _ _ _ _ => (pe_callTy (call_tupleK (K := K) rfl) (by rfl) B.tuple (by decide +kernel) (pa_cons (pv 5) pa_nil)))) pa_nil)))
      (pss_cons (ps_if (pt_not (pt_val (pe_callB (cr_all rfl) (by rfl) B.all (by decide +kernel) (pa_cons (pe_lc (own := [("row", 5)]) (g := gName 5) (tt := tYes) rfl sc_init.nd (pi_tup (pv 4)) (blkOk_by (N := ["self", "base", "width", "rows", "kept", "row"]) (sc := (defScope s_Matrix_init)) (by decide +kernel)) (fun _ _ _ _ _ => (pg_name (i := 5) sc_init.nd rfl (Or.inl rfl))) (fun _ _ _ _ _ => pts_nil) (fun _ _ _ _ _ => (pe_call G_is_vector (hr.mono (by decide)) rfl T.g_is_vector T.F_is_vector.kp T.b_is_vector .nil pass0 (pa_cons (pv 5) (pa_cons (pv 2) (pa_cons (pv 1) pa_nil)))))) pa_nil)))) (pss_one (ps_raise rfl (takes_of rfl rfl rfl rfl) (pmk_own PySem.F.excBase_ValueError T.x_InvalidMatrix.x T.g_InvalidMatrix T.x_InvalidMatrix.k (raises_own T.x_InvalidMatrix.hs T.x_InvalidMatrix.t) rfl))) pss_nil)
      (pss_cons (ps_fld (pv 0) (pv 1) rfl)
      (pss_cons (ps_fld (pv 0) (pv 2) rfl)
      (pss_one (ps_fld (pv 0) (pv 4) rfl))))))), ?_⟩
    refine ⟨_, rfl, p, rfl, _, rfl, ?_⟩
    by_cases hp : p ∈ primes
    case neg =>
      refine if_t (by rw [decide_eq_false hp]; rfl) ?_
      exact kB (fun z => hp z.1) _ (KeepBut.refl _ _)
    refine if_f (by rw [decide_eq_true hp]; rfl) ?_
    refine ⟨_, rfl, _, _, rfl, rfl, _, rfl, ?_⟩
    by_cases hw : wd < 0
    · refine if_t (decide_eq_true hw) ?_
      exact kB (fun z => by have := z.2.1; omega) _ (KeepBut.refl _ _)
    refine if_f (decide_eq_false hw) ?_
    -- kept
    refine ⟨_, rfl, ra, rfl, it_lt hts fun J G wk hG D hD => lc_it wk (fun i H' => Same H H' ∧ ∃ us : List Addr, H' D = some (.lst (us.map V.ref)) ∧ Refs .tup H' us (rows.take i) ∧ ∀ u ∈ us, u ≠ D) ⟨same_new hD, [], upd_same, Refs.nil, fun _ z => by cases z⟩ (fun i H' _ ⟨s1, _⟩ => hG _ s1) ?_ ?_⟩
    · rintro i u H1 H2 hi ⟨s1, us, hacc, hus, hne⟩ ⟨rfl, hu⟩
      obtain ⟨t, ht, rfl⟩ := refs_at hu
      have li : i < rows.length := by
        rw [← hrl]
        exact (List.getElem?_eq_some_iff.mp ht).1
      have hr' : rows[i]? = some rows[i] := List.getElem?_eq_getElem li
      have fin : ∀ (H3 : Hp) (l : Addr), Same H2 H3 → H3 l = some (.tup (vI rows[i])) → ∃ acc, H3 D = some (HO.lst acc) ∧ acc.length < sizeLine ∧ Same H (upd H3 D (.lst (acc ++ [V.ref l]))) ∧ ∃ us : List Addr, (upd H3 D (.lst (acc ++ [V.ref l]))) D = some (.lst (us.map V.ref)) ∧ Refs .tup (upd H3 D (.lst (acc ++ [V.ref l]))) us (rows.take (i + 1)) ∧ ∀ u ∈ us, u ≠ D := fun H3 l sl hl => by
        have lD : l ≠ D := fun z => by
          have := sl _ _ hacc
          rw [← z, hl] at this
          cases this
        refine ⟨_, sl _ _ hacc, ?_, ?_, us ++ [l], ?_, ?_, ?_⟩
        · rw [List.length_map, hus.1]
          refine line_lt ?_
          have : (rows.take i).length ≤ i := List.length_take_le _ _
          omega
        · intro z o ez
          rw [upd_ne (ne_of_none ez hD)]
          exact sl _ _ (s1 _ _ ez)
        · rw [upd_same]
          simp
        · refine hus.snoc hr' (fun t' o mt et => ?_) ?_
          · rw [upd_ne (hne _ mt)]
            exact sl _ _ et
          · rw [upd_ne lD]
            exact hl
        · intro z hz
          rcases List.mem_append.mp hz with hz | hz
          · exact hne z hz
          · rw [List.mem_singleton.mp hz]
            exact lD
      rcases href i t _ ht hr' with hr2 | hr2
      · exact ⟨rfl, lc_yes ⟨_, rfl, t, _, rfl, .inl ⟨SqL.of (s1 _ _ hr2), fun l hl => fin _ l (same_new hl) upd_same⟩⟩⟩
      · exact ⟨rfl, lc_yes ⟨_, rfl, t, _, rfl, .inr ⟨SqT.of (s1 _ _ hr2), fin _ t (Same.refl _) (s1 _ _ hr2)⟩⟩⟩
    rintro H1 ⟨s1, us, hus, hrefs, _⟩
    have el : rows.take (ts.map V.ref).length = rows := by
      rw [List.length_map, hrl]
      exact List.take_length
    rw [el] at hrefs
    refine ⟨D, _, rfl, .inl ⟨SqL.of hus, fun Tp hTp => ?_⟩⟩
    have s2 := same_new (o := .tup (us.map V.ref)) hTp
    have hT : (upd H1 Tp (.tup (us.map V.ref))) Tp = some (.tup (us.map V.ref)) := upd_same
    have hrefs2 := hrefs.same s2
    have s12 := s1.trans s2
    revert hT hrefs2 s12
    generalize upd H1 Tp (.tup (us.map V.ref)) = H2
    intro hT hrefs2 s12
    -- each row is a vector
    refine ⟨_, rfl, Tp, rfl, ⟨_, SqT.of hT⟩, fun D2 hD2 => lc_it walk_tup (fun i H' => Same H2 H' ∧ H' D2 = some (.lst (((rows.take i).map (isVec p wd)).map V.bl))) ⟨same_new hD2, upd_same⟩ (fun i H' _ ⟨s3, _⟩ => SqT.of (s3 _ _ hT)) ?_ ?_⟩
    · rintro i u H3 H4 hi ⟨s3, hacc⟩ ⟨rfl, hu⟩
      obtain ⟨t, ht, rfl⟩ := refs_at hu
      obtain ⟨r, hr', hr2⟩ := hrefs2.row ht
      refine ⟨rfl, lc_yes ⟨_, rfl, _, rfl, _, rfl, t, r, wd, p, rfl, s3 _ _ hr2, l2 _ (List.mem_of_getElem? hr'), fun H5 s5 => ⟨_, s5 _ _ hacc, ?_, ?_, ?_⟩⟩⟩
      · rw [List.length_map, List.length_map]
        refine line_lt ?_
        have : (rows.take i).length ≤ i := List.length_take_le _ _
        rw [List.length_map, hrefs2.1] at hi
        omega
      · intro z o ez
        rw [upd_ne (ne_of_none ez hD2)]
        exact s5 _ _ (s3 _ _ ez)
      · rw [upd_same, take_succ hr']
        simp
    rintro H3 ⟨s3, hacc⟩
    have el2 : rows.take (us.map V.ref).length = rows := by
      rw [List.length_map, hrefs.1]
      exact List.take_length
    rw [el2] at hacc
    have s13 := s12.trans s3
    refine ⟨D2, _, rfl, SqL.of hacc, _, rfl, ?_⟩
    have ea : ((rows.map (isVec p wd)).all id) = rows.all (isVec p wd) := by
      rw [List.all_map]
      rfl
    rw [ea]
    cases hg : rows.all (isVec p wd) with
    | false =>
      refine iteT ?_
      exact kB (fun z => by rw [z.2.2] at hg; cases hg) _ (KeepBut.of s13)
    | true =>
      refine iteF ?_
      have hx3 := s13 _ _ hx
      refine ⟨_, rfl, _, rfl, x0, a i_Matrix, dx, [], rfl, hx3, T.c_Matrix, T.n_Matrix_base, (by show 0 < 1000; decide), ?_⟩
      refine ⟨_, rfl, _, rfl, x0, a i_Matrix, dx, _, rfl, upd_same, T.c_Matrix, T.n_Matrix_width, (by show 1 < 1000; decide), ?_⟩
      refine ⟨_, rfl, _, rfl, x0, a i_Matrix, dx, _, rfl, upd_same, T.c_Matrix, T.n_Matrix_rows, ?_, ?_⟩
      · have e1 : (putF "width" (V.int wd) (putF "base" (.int p) [])).length ≤ 2 := by
          show (if ("base" : Str) = "width" then _ else (("base" : Str), V.int p) :: putF "width" (V.int wd) []).length ≤ 2
          rw [if_neg (by decide +kernel)]
          exact Nat.le_refl _
        exact Nat.lt_of_le_of_lt e1 (by decide)
      · refine kG ⟨hp, by omega, hg⟩ _ (fun b o nb e => ?_) ⟨dx, Tp, ?_, us, ?_, hrefs.1, fun i t r e1 e2 => ?_⟩
        · rw [upd_ne nb, upd_ne nb, upd_ne nb]
          exact s13 _ _ e
        · rw [upd_same, mF_put]
        · have n : Tp ≠ x0 := fun z => by
            rw [z] at hT
            have := s12 _ _ hx
            rw [hT] at this
            cases this
          rw [upd_ne n, upd_ne n, upd_ne n]
          exact s3 _ _ hT
        · have q1 := hrefs2.2 i t r e1 e2
          have n : t ≠ x0 := fun z => by
            rw [z] at q1
            have := s12 _ _ hx
            rw [q1] at this
            cases this
          rw [upd_ne n, upd_ne n, upd_ne n]
          exact s3 _ _ q1
end
section
variable {P : Program} {w : World} {K : PySem.W.Frag} {mg : Str → Option Value} {base : Heap}
/-! ### Matrix made; height, _check_bases -/
variable {a : Nat → Addr} {d : Nat → FuncData}
/-- Matrix(p, w, rows) of what is right -/
theorem rd_makeK {C CM : Addr} {H : Hp} {ra : Addr} {p wd : Int} {rows : List (List Int)} {R : Addr → VK} {E : XK} (hr : RowsK H ra rows) (l1 : rows.length ≤ 1000) (l2 : ∀ r ∈ rows, r.length ≤ 1000) (g : good p wd rows)
    (q : ∀ (x : Addr) (H' : Hp), Same H H' → H x = none → MatAt C H' x p wd rows → R x .non H') :
    ∀ x dx, H x = none → H dx = none → dx ≠ x → spInit C CM [.ref x, .int p, .int wd, .ref ra] (upd (upd H dx (.own x)) x (.ins C dx [])) (R x) E := by
  intro x dx nx ndx ne
  have s0 : Same H (upd (upd H dx (.own x)) x (.ins C dx [])) := fun b o e => by
    rw [upd_ne (ne_of_none e nx), upd_ne (ne_of_none e ndx)]
    exact e
  exact ⟨x, dx, ra, p, wd, rows, rfl, upd_same, hr.same s0, l1, l2, fun _ H' kb M => q x H' (fun b o e => kb _ _ (ne_of_none e nx) (s0 _ _ e)) nx M, fun z => absurd g z⟩
theorem rd_make {C CM : Addr} {H : Hp} {ra : Addr} {p wd : Int} {rows : List (List Int)} {R : Addr → VK} {E : XK} (hr : RowsL H ra rows) (l1 : rows.length ≤ 1000) (l2 : ∀ r ∈ rows, r.length ≤ 1000) (g : good p wd rows)
    (q : ∀ (x : Addr) (H' : Hp), Same H H' → H x = none → MatAt C H' x p wd rows → R x .non H') :
    ∀ x dx, H x = none → H dx = none → dx ≠ x → spInit C CM [.ref x, .int p, .int wd, .ref ra] (upd (upd H dx (.own x)) x (.ins C dx [])) (R x) E := rd_makeK hr.k l1 l2 g q
def spHeight (C : Addr) : Sp := fun vs H Q _ => ∃ (x : Addr) (p wd : Int) (rows : List (List Int)), vs = [.ref x] ∧ MatAt C H x p wd rows ∧ Q (.int (rows.length : Int)) H
theorem sc_height : FnScope ["self"] ["self"] (defScope s_Matrix_height) := ⟨rfl, rfl, rfl, by decide +kernel, rfl, by decide +kernel, by decide +kernel⟩
theorem ok_height (T : TX K mg a d) : FnOk P w K mg base CX0 1 (a i_Matrix_height) (d i_Matrix_height) ["self"] (spHeight (a i_Matrix)) := by
  have B := T.B
  refine T.F_Matrix_height.ok sc_height (fun vs H Q E h => ?_) (fun cdv A outer s H vs Q E hr h => ?_)
  · obtain ⟨x, p, wd, rows, rfl, _⟩ := h
    rfl
  · obtain ⟨x, p, wd, rows, rfl, ⟨dx, Tp, hx, ts, hT, href⟩, q⟩ := h
    refine ⟨_, pss_one (ps_ret (pe_callB call_len_seq (by rfl) B.len (by decide +kernel) (pa_cons (pe_fld (pv 0) rfl) pa_nil))), ?_⟩
    refine ⟨_, rfl, x, a i_Matrix, dx, _, _, rfl, hx, T.c_Matrix, T.n_Matrix_rows, mF_rows _ _ _, Tp, _, rfl, .inr (SqT.of hT), ?_⟩
    rw [List.length_map, href.1]
    exact q
def spCheck (C CM : Addr) : Sp := fun vs H Q E => ∃ (x y : Addr) (p wd p' wd' : Int) (rows rows' : List (List Int)), vs = [.ref x, .ref y] ∧ MatAt C H x p wd rows ∧ MatAt C H y p' wd' rows' ∧ (p = p' → Q .non H) ∧ (p ≠ p' → E (.ref CM) none H)
theorem sc_check : FnScope ["first", "second"] ["first", "second"] (defScope s_check_bases) := ⟨rfl, rfl, rfl, by decide +kernel, rfl, by decide +kernel, by decide +kernel⟩
theorem ok_check (T : TX K mg a d) : FnOk P w K mg base (L2.CX P w) 1 (a i_check_bases) (d i_check_bases) ["first", "second"] (spCheck (a i_Matrix) (a i_InvalidMatrix)) := by
  refine T.F_check_bases.okX sc_check (fun vs H Q E h => ?_) (fun cdv A outer s H vs Q E hr h => ?_)
  · obtain ⟨x, y, p, wd, p', wd', rows, rows', rfl, _⟩ := h
    rfl
  · obtain ⟨x, y, p, wd, p', wd', rows, rows', rfl, ⟨dx, Tp, hx, _⟩, ⟨dy, Tq, hy, _⟩, k1, k2⟩ := h
    refine ⟨_, pss_one (ps_if (pt_cmpR op_ne (pe_fld (pv 0) rfl) (pe_fld (pv 1) rfl) (nomark _)) (pss_one (ps_raise rfl (takes_of rfl rfl rfl rfl) (pmk_own PySem.F.excBase_ValueError T.x_InvalidMatrix.x T.g_InvalidMatrix T.x_InvalidMatrix.k (raises_own T.x_InvalidMatrix.hs T.x_InvalidMatrix.t) rfl))) pss_nil), ?_⟩
    refine ⟨_, rfl, x, a i_Matrix, dx, _, _, rfl, hx, T.c_Matrix, T.n_Matrix_base, mF_base _ _ _, _, rfl, y, a i_Matrix, dy, _, _, rfl, hy, T.c_Matrix, T.n_Matrix_base, mF_base _ _ _, rfl, _, rfl, ?_⟩
    by_cases c : p = p'
    · refine if_f (by rw [c]; simp) (k1 c)
    · refine if_t (by simp [c]) (k2 c)
theorem rep_one {α : Type} (v : α) : ∀ n : Nat, (List.replicate n [v]).flatten = List.replicate n v
  | 0 => rfl
  | n + 1 => by rw [List.replicate_succ, List.flatten_cons, rep_one v n]; rfl
/-- .. as a comprehension within it sees it: the def's own cells are cells -/
def relSc (s : Stmt) (sc : Scope) : Scope := { sc with names := sc.names.map fun y => if y.2 == .free && (defScope s).names.lookup y.1 == some .cell then (y.1, .cell) else y }
end
section
variable {P : Program} {w : World} {K : PySem.W.Frag} {mg : Str → Option Value} {base : Heap}
/-! ### a Matrix that is right -/
theorem good_row {p wd : Int} {rows : List (List Int)} (g : good p wd rows) {r : List Int} (hr : r ∈ rows) : (r.length : Int) = wd ∧ ∀ e ∈ r, 0 ≤ e ∧ e < p := by
  have h := List.all_eq_true.mp g.2.2 r hr
  unfold isVec at h
  rw [Bool.and_eq_true] at h
  refine ⟨of_decide_eq_true h.1, fun e he => ?_⟩
  have z := List.all_eq_true.mp h.2 e he
  rw [Bool.and_eq_true] at z
  exact ⟨of_decide_eq_true z.1, of_decide_eq_true z.2⟩
theorem good_of {p wd : Int} {rows : List (List Int)} (hp : p ∈ primes) (hw : 0 ≤ wd) (h : ∀ r ∈ rows, (r.length : Int) = wd ∧ ∀ e ∈ r, 0 ≤ e ∧ e < p) : good p wd rows := by
  refine ⟨hp, hw, List.all_eq_true.mpr fun r hr => ?_⟩
  obtain ⟨h1, h2⟩ := h r hr
  unfold isVec
  rw [decide_eq_true h1, Bool.true_and]
  refine List.all_eq_true.mpr fun e he => ?_
  obtain ⟨h3, h4⟩ := h2 e he
  rw [decide_eq_true h3, decide_eq_true h4]
  rfl
/-- a Matrix that is right stands at x -/
def MG (C : Addr) (H : Hp) (x : Addr) (p wd : Int) (rows : List (List Int)) : Prop := MatAt C H x p wd rows ∧ good p wd rows ∧ rows.length ≤ 100 ∧ wd ≤ 100
theorem MG.same {C : Addr} {H H' : Hp} {x : Addr} {p wd : Int} {rows : List (List Int)} (s : Same H H') (h : MG C H x p wd rows) : MG C H' x p wd rows := ⟨h.1.same s, h.2⟩
end
section
variable {P : Program} {w : World} {K : PySem.W.Frag} {mg : Str → Option Value} {base : Heap}
/-! ### _plus_times, __add__, __sub__, scaled -/
variable {a : Nat → Addr} {d : Nat → FuncData}
/-- the scope of the comprehension that the j-th row of a def assigns -/
def asgLc (s : Stmt) (j : Nat) : Scope := match (defBody s).getD j (.Pass ⟨0, 0, 0, 0⟩) with
  | .Assign _ (.ListComp _ _ sc _) _ => sc
  | _ => { kind := .function, names := [], isGenerator := false, isCoroutine := false }
def plusR (p f : Int) (r r' : List Int) : List Int := List.zipWith (fun x y => (x + f * y) % p) r r'
def plusRows (p f : Int) (rows rows' : List (List Int)) : List (List Int) := List.zipWith (plusR p f) rows rows'
theorem good_plus {p f wd : Int} {rows rows' : List (List Int)} (g : good p wd rows) (g' : good p wd rows') : good p wd (plusRows p f rows rows') := by
  have hp2 := primes_bd p g.1
  refine good_of g.1 g.2.1 fun r hr => ?_
  obtain ⟨i, hi, rfl⟩ := List.mem_iff_getElem.mp hr
  have hi2 := hi
  unfold plusRows at hi2
  rw [List.length_zipWith] at hi2
  have e : (plusRows p f rows rows')[i] = plusR p f (rows[i]'(by omega)) (rows'[i]'(by omega)) := by simp [plusRows]
  rw [e]
  have h1 := (good_row g (List.getElem_mem (h := (by omega : i < rows.length)))).1
  have h2 := (good_row g' (List.getElem_mem (h := (by omega : i < rows'.length)))).1
  refine ⟨by unfold plusR; rw [List.length_zipWith]; omega, fun z hz => ?_⟩
  obtain ⟨j, hj, rfl⟩ := List.mem_iff_getElem.mp hz
  have e2 : ∃ q : Int, (plusR p f (rows[i]'(by omega)) (rows'[i]'(by omega)))[j] = q % p := by simp [plusR]; exact ⟨_, rfl⟩
  obtain ⟨q, e2⟩ := e2
  rw [e2]
  exact ⟨Int.emod_nonneg _ (by omega), Int.emod_lt_of_pos _ (by omega)⟩
theorem len_plus (p f : Int) {rows rows' : List (List Int)} (h : rows.length = rows'.length) : (plusRows p f rows rows').length = rows.length := by
  unfold plusRows
  rw [List.length_zipWith]
  omega
def spPlus (C CM : Addr) : Sp := fun vs H Q E => ∃ (x y : Addr) (f p wd p' wd' : Int) (rows rows' : List (List Int)), vs = [.ref x, .int f, .ref y] ∧ MG C H x p wd rows ∧ MG C H y p' wd' rows' ∧ -1000 < f ∧ f < 1000 ∧
  (p = p' ∧ wd = wd' ∧ rows.length = rows'.length → ∀ (H' : Hp) (z : Addr), Same H H' → H z = none → MG C H' z p wd (plusRows p f rows rows') → Q (.ref z) H') ∧ (¬ (p = p' ∧ wd = wd' ∧ rows.length = rows'.length) → ∀ H', Same H H' → E (.ref CM) none H')
abbrev nPlus : List Str := ["first", "factor", "second", "rows", "row", "beside", "one", "other"]
theorem sc_plus : FnScope nPlus ["first", "factor", "second"] (defScope s_plus_times) := ⟨rfl, rfl, rfl, by decide +kernel, rfl, by decide +kernel, by decide +kernel⟩
theorem ok_plus (T : TX K mg a d) : FnOk P w K mg base (L2.CX P w) 4 (a i_plus_times) (d i_plus_times) ["first", "factor", "second"] (spPlus (a i_Matrix) (a i_InvalidMatrix)) := by
  have B := T.B
  have G_check_bases := ok_check (P := P) (w := w) (base := base) T
  have G_Matrix_height := ok_height (P := P) (w := w) (base := base) T
  have G_Matrix_init := ok_init (P := P) (w := w) (base := base) T
  obtain ⟨pH, hp_Matrix_height⟩ := T.p_Matrix_height
  refine T.F_plus_times.okX sc_plus (fun vs H Q E h => ?_) (fun cdv A outer s H vs Q E hr h => ?_)
  · obtain ⟨x, y, f, p, wd, p', wd', rows, rows', rfl, _⟩ := h
    rfl
  · obtain ⟨x, y, f, p, wd, p', wd', rows, rows', rfl, Mx, My, f0, f1, kG, kB⟩ := h
    refine ⟨_, pss_cons (ps_expr (pe_call G_check_bases (hr.mono (by decide)) rfl T.g_check_bases T.F_check_bases.kp T.b_check_bases .nil (passes_call (takes_of rfl rfl rfl rfl) (fun _ _ _ _ h => h)) (pa_cons (pv 0) (pa_cons (pv 2) pa_nil))))
      (pss_cons (ps_if (PW.pt (pw_or (pt_cmpR op_ne (pe_prop (pv 0) T.c_Matrix hp_Matrix_height G_Matrix_height (hr.mono (by decide)) T.b_Matrix_height .nil pass0 rfl) (pe_prop (pv 2) T.c_Matrix hp_Matrix_height G_Matrix_height (hr.mono (by decide)) T.b_Matrix_height .nil pass0 rfl) (nomark _)) (pw_or1 (pt_cmpR op_ne (pe_fld (pv 0) rfl) (pe_fld (pv 2) rfl) (nomark _))))) (pss_one (ps_raise rfl (takes_of rfl rfl rfl rfl) (pmk_own PySem.F.excBase_ValueError T.x_InvalidMatrix.x T.g_InvalidMatrix T.x_InvalidMatrix.k (raises_own T.x_InvalidMatrix.hs T.x_InvalidMatrix.t) rfl))) pss_nil)
      (pss_cons (ps_setLc (i := 3) (own := [("row", 4), ("beside", 5)]) (g := gTup K 2 (gCons (gName 4) (gCons (gName 5) gNil))) (tt := tYes) rfl sc_plus.nd rfl rfl (sw_true rfl rfl rfl (by decide +kernel)) (pi_zipB (by rfl) B.zip (pa_cons (pe_fld (pv 0) rfl) (pa_cons (pe_fld (pv 2) rfl) pa_nil))) (blkOk_by (N := nPlus) (sc := (defScope s_plus_times)) (by decide +kernel)) (fun _ _ _ _ _ => (pg_tup rfl (pgs_cons (pg_name (i := 4) sc_plus.nd rfl (Or.inl rfl)) (pgs_cons (pg_name (i := 5) sc_plus.nd rfl (Or.inl rfl)) pgs_nil)))) (fun _ _ _ _ _ => pts_nil) (fun _ _ _ _ _ => (pe_lc (own := [("one", 6), ("other", 7)]) (g := gTup K 2 (gCons (gName 6) (gCons (gName 7) gNil))) (tt := tYes) rfl sc_plus.nd (pi_zipBK (K := K) rfl (by rfl) B.zip (pa_cons (pv 4) (pa_cons (pv 5) pa_nil))) (blkOk_by (N := nPlus) (sc := (relSc s_plus_times (asgLc s_plus_times 2))) (by decide +kernel)) (fun _ _ _ _ _ => (pg_tup rfl (pgs_cons (pg_name (i := 6) sc_plus.nd rfl (Or.inl rfl)) (pgs_cons (pg_name (i := 7) sc_plus.nd rfl (Or.inl rfl)) pgs_nil)))) (fun _ _ _ _ _ => pts_nil) (fun _ _ _ _ _ => (pe_op op_mod (pe_op op_add (pv 6) (pe_op op_mul (pv 1) (pv 7))) (pe_fldK (K := K) rfl (pv 0) rfl))))))
      (pss_one (ps_ret (pe_make T.mk_Matrix G_Matrix_init (hr.mono (by decide)) rfl T.g_Matrix T.b_Matrix_init .nil (passes_call (takes_of rfl rfl rfl rfl) (fun _ _ _ _ h => h)) (pa_cons (pe_fld (pv 0) rfl) (pa_cons (pe_fld (pv 0) rfl) (pa_cons (pv 3) pa_nil)))))))), ?_⟩
    obtain ⟨Mx1, gx, lx, wx⟩ := id Mx
    obtain ⟨My1, gy, ly, wy⟩ := id My
    have hp2 := primes_bd p gx.1
    refine ⟨_, rfl, _, rfl, x, y, p, wd, p', _, rows, rows', rfl, Mx1, My1, fun ep => ?_, fun np => kB (fun z => np z.1) _ (Same.refl _)⟩
    subst ep
    obtain ⟨dx, Tp, hx, ts, hT, href⟩ := id Mx1
    obtain ⟨dy, Tq, hy, ts', hT', href'⟩ := id My1
    refine ⟨_, rfl, x, dx, _, rfl, hx, x, p, _, rows, rfl, Mx1, _, rfl, y, dy, _, rfl, hy, y, p, _, rows', rfl, My1, rfl, _, rfl, ?_⟩
    by_cases ch : rows.length = rows'.length
    case neg =>
      have n : ¬ ((rows.length : Int) = (rows'.length : Int)) := by omega
      exact if_t (by simp [n]) (if_t rfl (kB (fun z => ch z.2.2) _ (Same.refl _)))
    refine if_f (by rw [ch]; simp) ?_
    refine ⟨_, rfl, x, a i_Matrix, dx, _, _, rfl, hx, T.c_Matrix, T.n_Matrix_width, mF_width _ _ _, _, rfl, y, a i_Matrix, dy, _, _, rfl, hy, T.c_Matrix, T.n_Matrix_width, mF_width _ _ _, rfl, _, rfl, ?_⟩
    by_cases cw : wd = wd'
    case neg => exact if_t (by simp [cw]) (kB (fun z => cw z.2.1) _ (Same.refl _))
    subst cw
    refine if_f (by simp) ?_
    have lm := len_plus p f ch
    have hgi : ∀ (i : Nat) (r r' : List Int), rows[i]? = some r → rows'[i]? = some r' → (plusRows p f rows rows')[i]? = some (plusR p f r r') := fun i r r' h1 h2 => by
      unfold plusRows
      rw [List.getElem?_zipWith, h1, h2]
    refine ⟨_, rfl, x, a i_Matrix, dx, _, _, rfl, hx, T.c_Matrix, T.n_Matrix_rows, mF_rows _ _ _, _, rfl, y, a i_Matrix, dy, _, _, rfl, hy, T.c_Matrix, T.n_Matrix_rows, mF_rows _ _ _, false, false, Tp, Tq, _, _, rfl, SqT.of hT, SqT.of hT', fun D hD => ?_⟩
    refine lc_it (walk_zipB (n := rows.length) (by rw [List.length_map, List.length_map, href.1, href'.1, ← ch, Nat.min_self])) (fun i H' => Same H H' ∧ ∃ us : List Addr, H' D = some (.lst (us.map V.ref)) ∧ Refs .lst H' us ((plusRows p f rows rows').take i) ∧ ∀ u ∈ us, u ≠ D) ⟨same_new hD, [], upd_same, Refs.nil, fun _ z => (by cases z)⟩ (fun i H' _ ⟨s1, _⟩ => ⟨SqT.of (s1 _ _ hT), SqT.of (s1 _ _ hT')⟩) ?_ ?_
    · rintro i v H1 H2 hi ⟨s1, us, hacc, hus, hne⟩ ⟨Tz, x1, y1, rfl, hTz, rfl, hx1, hy1⟩
      obtain ⟨t, ht, rfl⟩ := refs_at hx1
      obtain ⟨t', ht', rfl⟩ := refs_at hy1
      obtain ⟨r, hr', hr2⟩ := href.row ht
      obtain ⟨r', hr1', hr2'⟩ := href'.row ht'
      obtain ⟨rl, rb⟩ := good_row gx (List.mem_of_getElem? hr')
      obtain ⟨rl', rb'⟩ := good_row gy (List.mem_of_getElem? hr1')
      have sz := same_new (o := .tup [.ref t, .ref t']) hTz
      have s2 := s1.trans sz
      refine ⟨Tz, _, rfl, SqT.of upd_same, rfl, _, _, rfl, _, _, rfl, rfl, rfl, lc_yes ?_⟩
      refine ⟨_, rfl, _, rfl, false, false, t, t', _, _, rfl, SqT.of (s2 _ _ hr2), SqT.of (s2 _ _ hr2'), fun D2 hD2 => ?_⟩
      have nD2 : D2 ≠ D := fun z => by
        rw [z, sz _ _ hacc] at hD2
        cases hD2
      refine lc_it (walk_zipB (n := r.length) (by rw [List.length_map, List.length_map]; omega)) (fun m H' => Same (upd H1 Tz (.tup [.ref t, .ref t'])) H' ∧ H' D2 = some (.lst (vI ((plusR p f r r').take m)))) ⟨same_new hD2, upd_same⟩ (fun m H' _ ⟨s3, _⟩ => ⟨SqT.of (s3 _ _ (s2 _ _ hr2)), SqT.of (s3 _ _ (s2 _ _ hr2'))⟩) ?_ ?_
      · rintro m v H3 H4 hm ⟨s3, hac2⟩ ⟨Ty, x2, y2, rfl, hTy, rfl, hx2, hy2⟩
        obtain ⟨n1, hn1, rfl⟩ := item_int hx2
        obtain ⟨n2, hn2, rfl⟩ := item_int hy2
        have nDT : D2 ≠ Ty := ne_of_none hac2 hTy
        have sy := same_new (o := .tup [.int n1, .int n2]) hTy
        have em : (plusR p f r r')[m]? = some ((n1 + f * n2) % p) := by
          unfold plusR
          rw [List.getElem?_zipWith, hn1, hn2]
        refine ⟨Ty, _, rfl, SqT.of upd_same, rfl, _, _, rfl, _, _, rfl, rfl, rfl, lc_yes ?_⟩
        refine ⟨_, rfl, _, rfl, _, rfl, _, _, rfl, rfl, .inl ⟨by omega, by omega⟩, _, _, rfl, rfl, _, rfl, x, a i_Matrix, dx, _, _, rfl, sy _ _ (s3 _ _ (s2 _ _ hx)), T.c_Matrix, T.n_Matrix_base, mF_base _ _ _, _, _, rfl, rfl, by omega, vI ((plusR p f r r').take m), ?_, ?_, ?_, ?_⟩
        · rw [upd_ne nDT]
          exact hac2
        · rw [List.length_map]
          refine line_lt ?_
          have : ((plusR p f r r').take m).length ≤ m := List.length_take_le _ _
          omega
        · intro c o e
          rw [upd_ne (ne_of_none e hD2)]
          exact sy _ _ (s3 _ _ e)
        · rw [upd_same, take_succ em]
          simp [vI]
      · rintro H3 ⟨s3, hac2⟩
        have full : (plusR p f r r').take r.length = plusR p f r r' := by
          rw [List.take_of_length_le]
          unfold plusR
          rw [List.length_zipWith]
          omega
        rw [full] at hac2
        refine ⟨_, s3 _ _ (sz _ _ hacc), ?_, ?_, us ++ [D2], ?_, ?_, ?_⟩
        · rw [List.length_map, hus.1]
          refine line_lt ?_
          have : ((plusRows p f rows rows').take i).length ≤ i := List.length_take_le _ _
          omega
        · intro z o ez
          rw [upd_ne (ne_of_none ez hD)]
          exact s3 _ _ (s2 _ _ ez)
        · rw [upd_same]
          simp
        · refine hus.snoc (hgi i r r' hr' hr1') (fun t' o mt et => ?_) ?_
          · rw [upd_ne (hne _ mt)]
            exact s3 _ _ (sz _ _ et)
          · rw [upd_ne nD2]
            exact hac2
        · intro z hz
          rcases List.mem_append.mp hz with hz | hz
          · exact hne z hz
          · rw [List.mem_singleton.mp hz]
            exact nD2
    rintro H1 ⟨s1, us, hus, hrefs, _⟩
    have el : (plusRows p f rows rows').take rows.length = plusRows p f rows rows' := by
      rw [← lm]
      exact List.take_length
    rw [el] at hrefs
    have gm : good p wd (plusRows p f rows rows') := good_plus gx gy
    refine ⟨_, rfl, x, a i_Matrix, dx, _, _, rfl, s1 _ _ hx, T.c_Matrix, T.n_Matrix_base, mF_base _ _ _, _, rfl, x, a i_Matrix, dx, _, _, rfl, s1 _ _ hx, T.c_Matrix, T.n_Matrix_width, mF_width _ _ _, _, rfl, ?_⟩
    exact rd_make ⟨us, hus, hrefs⟩ (by omega) (fun r hr => by have := (good_row gm hr).1; omega) gm fun z H' s2 fz Mz => ⟨rfl, kG ⟨rfl, rfl, ch⟩ H' z (s1.trans s2) (Same.free s1 fz) ⟨Mz, gm, by omega, wx⟩⟩
/-- what __add__ and __sub__ promise: f is 1, or -1 -/
def spPM (C CM : Addr) (f : Int) : Sp := fun vs H Q E => ∃ (x y : Addr) (p wd p' wd' : Int) (rows rows' : List (List Int)), vs = [.ref x, .ref y] ∧ MG C H x p wd rows ∧ MG C H y p' wd' rows' ∧
  (p = p' ∧ wd = wd' ∧ rows.length = rows'.length → ∀ (H' : Hp) (z : Addr), Same H H' → H z = none → MG C H' z p wd (plusRows p f rows rows') → Q (.ref z) H') ∧ (¬ (p = p' ∧ wd = wd' ∧ rows.length = rows'.length) → ∀ H', Same H H' → E (.ref CM) none H')
theorem sc_add : FnScope ["self", "other"] ["self", "other"] (defScope s_Matrix_add) := ⟨rfl, rfl, rfl, by decide +kernel, rfl, by decide +kernel, by decide +kernel⟩
theorem sc_sub : FnScope ["self", "other"] ["self", "other"] (defScope s_Matrix_sub) := ⟨rfl, rfl, rfl, by decide +kernel, rfl, by decide +kernel, by decide +kernel⟩
theorem ok_add (T : TX K mg a d) : FnOk P w K mg base (L2.CX P w) 5 (a i_Matrix_add) (d i_Matrix_add) ["self", "other"] (spPM (a i_Matrix) (a i_InvalidMatrix) 1) := by
  have G_plus_times := ok_plus (P := P) (w := w) (base := base) T
  refine T.F_Matrix_add.okX sc_add (fun vs H Q E h => ?_) (fun cdv A outer s H vs Q E hr h => ?_)
  · obtain ⟨x, y, p, wd, p', wd', rows, rows', rfl, _⟩ := h
    rfl
  · obtain ⟨x, y, p, wd, p', wd', rows, rows', rfl, Mx, My, kG, kB⟩ := h
    refine ⟨_, pss_one (ps_ret (pe_call G_plus_times (hr.mono (by decide)) rfl T.g_plus_times T.F_plus_times.kp T.b_plus_times .nil (passes_call (takes_of rfl rfl rfl rfl) (fun _ _ _ _ h => h)) (pa_cons (pv 0) (pa_cons pe_int (pa_cons (pv 1) pa_nil))))), ?_⟩
    exact ⟨_, rfl, _, rfl, x, y, 1, p, wd, p', wd', rows, rows', rfl, Mx, My, by decide, by decide, kG, kB⟩
theorem ok_sub (T : TX K mg a d) : FnOk P w K mg base (L2.CX P w) 5 (a i_Matrix_sub) (d i_Matrix_sub) ["self", "other"] (spPM (a i_Matrix) (a i_InvalidMatrix) (-1)) := by
  have G_plus_times := ok_plus (P := P) (w := w) (base := base) T
  refine T.F_Matrix_sub.okX sc_sub (fun vs H Q E h => ?_) (fun cdv A outer s H vs Q E hr h => ?_)
  · obtain ⟨x, y, p, wd, p', wd', rows, rows', rfl, _⟩ := h
    rfl
  · obtain ⟨x, y, p, wd, p', wd', rows, rows', rfl, Mx, My, kG, kB⟩ := h
    refine ⟨_, pss_one (ps_ret (pe_call G_plus_times (hr.mono (by decide)) rfl T.g_plus_times T.F_plus_times.kp T.b_plus_times .nil (passes_call (takes_of rfl rfl rfl rfl) (fun _ _ _ _ h => h)) (pa_cons (pv 0) (pa_cons (pe_un un_neg pe_int) (pa_cons (pv 1) pa_nil))))), ?_⟩
    exact ⟨_, rfl, _, rfl, _, rfl, x, y, -1, p, wd, p', wd', rows, rows', rfl, Mx, My, by decide, by decide, kG, kB⟩
end
section
variable {P : Program} {w : World} {K : PySem.W.Frag} {mg : Str → Option Value} {base : Heap}
/-! ### scaled, block -/
variable {a : Nat → Addr} {d : Nat → FuncData}
def scaleR (p f : Int) (r : List Int) : List Int := r.map fun e => f * e % p
def scaleRows (p f : Int) (rows : List (List Int)) : List (List Int) := rows.map (scaleR p f)
theorem good_scale {p f wd : Int} {rows : List (List Int)} (g : good p wd rows) : good p wd (scaleRows p f rows) := by
  have hp2 := primes_bd p g.1
  refine good_of g.1 g.2.1 fun r hr => ?_
  obtain ⟨r0, h0, rfl⟩ := List.mem_map.mp hr
  refine ⟨by unfold scaleR; rw [List.length_map]; exact (good_row g h0).1, fun e he => ?_⟩
  obtain ⟨j, _, rfl⟩ := List.mem_map.mp he
  exact ⟨Int.emod_nonneg _ (by omega), Int.emod_lt_of_pos _ (by omega)⟩
def spScaled (C : Addr) : Sp := fun vs H Q _ => ∃ (x : Addr) (f p wd : Int) (rows : List (List Int)), vs = [.ref x, .int f] ∧ MG C H x p wd rows ∧ -1000 < f ∧ f < 1000 ∧ ∀ (H' : Hp) (z : Addr), Same H H' → H z = none → MG C H' z p wd (scaleRows p f rows) → Q (.ref z) H'
theorem sc_scaled : FnScope ["self", "factor", "rows", "row", "entry"] ["self", "factor"] (defScope s_Matrix_scaled) := ⟨rfl, rfl, rfl, by decide +kernel, rfl, by decide +kernel, by decide +kernel⟩
theorem ok_scaled (T : TX K mg a d) : FnOk P w K mg base CX0 4 (a i_Matrix_scaled) (d i_Matrix_scaled) ["self", "factor"] (spScaled (a i_Matrix)) := by
  have B := T.B
  have G_Matrix_init := ok_init (P := P) (w := w) (base := base) T
  refine T.F_Matrix_scaled.ok sc_scaled (fun vs H Q E h => ?_) (fun cdv A outer s H vs Q E hr h => ?_)
  · obtain ⟨x, f, p, wd, rows, rfl, _⟩ := h
    rfl
  · obtain ⟨x, f, p, wd, rows, rfl, Mx, f0, f1, q⟩ := h
    refine ⟨_, pss_cons (ps_setLc (i := 2) (own := [("row", 3)]) (g := gName 3) (tt := tYes) rfl sc_scaled.nd rfl rfl (sw_true rfl rfl rfl (by decide +kernel)) (pi_tup (pe_fld (pv 0) rfl)) (blkOk_by (N := ["self", "factor", "rows", "row", "entry"]) (sc := (defScope s_Matrix_scaled)) (by decide +kernel)) (fun _ _ _ _ _ => (pg_name (i := 3) sc_scaled.nd rfl (Or.inl rfl))) (fun _ _ _ _ _ => pts_nil) (fun _ _ _ _ _ => (pe_lc (own := [("entry", 4)]) (g := gName 4) (tt := tYes) rfl sc_scaled.nd (pi_tupK (K := K) rfl (pv 3)) (blkOk_by (N := ["self", "factor", "rows", "row", "entry"]) (sc := (relSc s_Matrix_scaled (asgLc s_Matrix_scaled 0))) (by decide +kernel)) (fun _ _ _ _ _ => (pg_name (i := 4) sc_scaled.nd rfl (Or.inl rfl))) (fun _ _ _ _ _ => pts_nil) (fun _ _ _ _ _ => (pe_op op_mod (pe_op op_mul (pv 1) (pv 4)) (pe_fldK (K := K) rfl (pv 0) rfl))))))
      (pss_one (ps_ret (pe_make T.mk_Matrix G_Matrix_init (hr.mono (by decide)) rfl T.g_Matrix T.b_Matrix_init .nil passL (pa_cons (pe_fld (pv 0) rfl) (pa_cons (pe_fld (pv 0) rfl) (pa_cons (pv 2) pa_nil)))))), ?_⟩
    obtain ⟨Mx1, gx, lx, wx⟩ := id Mx
    have hp2 := primes_bd p gx.1
    obtain ⟨dx, Tp, hx, ts, hT, href⟩ := id Mx1
    refine ⟨_, rfl, x, a i_Matrix, dx, _, _, rfl, hx, T.c_Matrix, T.n_Matrix_rows, mF_rows _ _ _, Tp, rfl, ⟨_, SqT.of hT⟩, fun D hD => lc_it walk_tup (fun i H' => Same H H' ∧ ∃ us : List Addr, H' D = some (.lst (us.map V.ref)) ∧ Refs .lst H' us ((scaleRows p f rows).take i) ∧ ∀ u ∈ us, u ≠ D) ⟨same_new hD, [], upd_same, Refs.nil, fun _ z => (by cases z)⟩ (fun i H' _ ⟨s1, _⟩ => SqT.of (s1 _ _ hT)) ?_ ?_⟩
    · rintro i u H1 H2 hi ⟨s1, us, hacc, hus, hne⟩ ⟨rfl, hu⟩
      obtain ⟨t, ht, rfl⟩ := refs_at hu
      obtain ⟨r, hr', hr2⟩ := href.row ht
      obtain ⟨rl, rb⟩ := good_row gx (List.mem_of_getElem? hr')
      have em : (scaleRows p f rows)[i]? = some (scaleR p f r) := by
        unfold scaleRows
        rw [List.getElem?_map, hr']
        rfl
      refine ⟨rfl, lc_yes ⟨_, rfl, t, rfl, ⟨_, SqT.of (s1 _ _ hr2)⟩, fun D2 hD2 => ?_⟩⟩
      have nD2 : D2 ≠ D := fun z => by
        rw [z, hacc] at hD2
        cases hD2
      refine lc_it walk_tup (fun m H' => Same H2 H' ∧ H' D2 = some (.lst (vI ((scaleR p f r).take m)))) ⟨same_new hD2, upd_same⟩ (fun m H' _ ⟨s3, _⟩ => SqT.of (s3 _ _ (s1 _ _ hr2))) ?_ ?_
      · rintro m v H3 H4 hm ⟨s3, hac2⟩ ⟨rfl, hv⟩
        obtain ⟨n1, hn1, rfl⟩ := item_int hv
        have e2 : (scaleR p f r)[m]? = some (f * n1 % p) := by
          unfold scaleR
          rw [List.getElem?_map, hn1]
          rfl
        refine ⟨rfl, lc_yes ⟨_, rfl, _, rfl, _, _, rfl, rfl, .inl ⟨by omega, by omega⟩, _, rfl, x, a i_Matrix, dx, _, _, rfl, s3 _ _ (s1 _ _ hx), T.c_Matrix, T.n_Matrix_base, mF_base _ _ _, _, _, rfl, rfl, by omega, _, hac2, ?_, ?_, ?_⟩⟩
        · rw [List.length_map]
          refine line_lt ?_
          have : ((scaleR p f r).take m).length ≤ m := List.length_take_le _ _
          rw [List.length_map] at hm
          omega
        · intro c o e
          rw [upd_ne (ne_of_none e hD2)]
          exact s3 _ _ e
        · rw [upd_same, take_succ e2]
          simp [vI]
      · rintro H3 ⟨s3, hac2⟩
        have full : (scaleR p f r).take (vI r).length = scaleR p f r := by
          rw [List.take_of_length_le]
          simp [scaleR]
        rw [full] at hac2
        refine ⟨_, s3 _ _ hacc, ?_, ?_, us ++ [D2], ?_, ?_, ?_⟩
        · rw [List.length_map, hus.1]
          refine line_lt ?_
          have : ((scaleRows p f rows).take i).length ≤ i := List.length_take_le _ _
          rw [List.length_map, href.1] at hi
          omega
        · intro z o ez
          rw [upd_ne (ne_of_none ez hD)]
          exact s3 _ _ (s1 _ _ ez)
        · rw [upd_same]
          simp
        · refine hus.snoc em (fun t' o mt et => ?_) ?_
          · rw [upd_ne (hne _ mt)]
            exact s3 _ _ et
          · rw [upd_ne nD2]
            exact hac2
        · intro z hz
          rcases List.mem_append.mp hz with hz | hz
          · exact hne z hz
          · rw [List.mem_singleton.mp hz]
            exact nD2
    rintro H1 ⟨s1, us, hus, hrefs, _⟩
    have el : (scaleRows p f rows).take (ts.map V.ref).length = scaleRows p f rows := by
      rw [List.take_of_length_le]
      rw [List.length_map, href.1]
      simp [scaleRows]
    rw [el] at hrefs
    have gm : good p wd (scaleRows p f rows) := good_scale gx
    have lm : (scaleRows p f rows).length = rows.length := by simp [scaleRows]
    refine ⟨_, rfl, x, a i_Matrix, dx, _, _, rfl, s1 _ _ hx, T.c_Matrix, T.n_Matrix_base, mF_base _ _ _, _, rfl, x, a i_Matrix, dx, _, _, rfl, s1 _ _ hx, T.c_Matrix, T.n_Matrix_width, mF_width _ _ _, _, rfl, ?_⟩
    exact rd_make ⟨us, hus, hrefs⟩ (by omega) (fun r hr => by have := (good_row gm hr).1; omega) gm fun z H' s2 fz Mz => ⟨rfl, q H' z (s1.trans s2) (Same.free s1 fz) ⟨Mz, gm, by omega, wx⟩⟩
/-! block -/
theorem op_catAK {X : Cx} (e : X.K = K) : OpR X (binaryOp .Add) (rCatA K) := e ▸ op_catA
theorem rd_rep {H : Hp} {l : Addr} {k : Int} {Q : VK} (hT : H l = some (.tup [.int 0])) (k0 : 0 ≤ k) (k1 : k ≤ 1000) (q : ∀ (H' : Hp) (b : Addr), Same H H' → H' b = some (.tup (vI (List.replicate k.toNat 0))) → Q (.ref b) H') : rRepA K (.ref l) (.int k) H Q := by
  refine ⟨l, k, _, rfl, rfl, SqT.of hT, by simp, k0, k1, by decide, fun e => ?_, fun _ b hb => ?_⟩
  · subst e
    exact q H l (Same.refl _) hT
  · refine q _ b (same_new hb) ?_
    rw [upd_same, rep_one]
    show _ = some (HO.tup ((List.replicate k.toNat (0 : Int)).map V.int))
    rw [List.map_replicate]
theorem rd_cat {H : Hp} {x y : Addr} {r z : List Int} {Q : VK} (hx : H x = some (.tup (vI r))) (hy : H y = some (.tup (vI z))) (l : r.length + z.length ≤ 1000) (q : ∀ (H' : Hp) (b : Addr), Same H H' → H' b = some (.tup (vI (r ++ z))) → Q (.ref b) H') : rCatA K (.ref x) (.ref y) H Q := by
  refine ⟨x, y, _, _, rfl, rfl, SqT.of hx, SqT.of hy, line_of (by rw [List.length_map, List.length_map]; omega), fun e => ?_, fun _ e => ?_, fun _ _ b hb => ?_⟩
  · have e2 : r = [] := by simpa using e
    subst e2
    exact q H y (Same.refl _) hy
  · have e2 : z = [] := by simpa using e
    subst e2
    refine q H x (Same.refl _) ?_
    rw [List.append_nil]
    exact hx
  · refine q _ b (same_new hb) ?_
    rw [upd_same]
    simp [vI]
def blockRows (w1 w2 : Nat) (rows rows' : List (List Int)) : List (List Int) := rows.map (· ++ List.replicate w2 0) ++ rows'.map (List.replicate w1 0 ++ ·)
theorem good_block {p : Int} {w1 w2 : Nat} {rows rows' : List (List Int)} (g : good p (w1 : Int) rows) (g' : good p (w2 : Int) rows') : good p ((w1 : Int) + (w2 : Int)) (blockRows w1 w2 rows rows') := by
  have hp2 := primes_bd p g.1
  refine good_of g.1 (by omega) fun r hr => ?_
  have z0 : ∀ n : Nat, ∀ e ∈ List.replicate n (0 : Int), 0 ≤ e ∧ e < p := fun n e he => by
    rw [(List.mem_replicate.mp he).2]
    omega
  rcases List.mem_append.mp hr with h | h
  · obtain ⟨r0, h0, rfl⟩ := List.mem_map.mp h
    obtain ⟨l0, b0⟩ := good_row g h0
    refine ⟨by simp; omega, fun e he => ?_⟩
    rcases List.mem_append.mp he with he | he
    · exact b0 e he
    · exact z0 _ e he
  · obtain ⟨r0, h0, rfl⟩ := List.mem_map.mp h
    obtain ⟨l0, b0⟩ := good_row g' h0
    refine ⟨by simp; omega, fun e he => ?_⟩
    rcases List.mem_append.mp he with he | he
    · exact z0 _ e he
    · exact b0 e he
def spBlock (C CM : Addr) : Sp := fun vs H Q E => ∃ (x y : Addr) (p p' : Int) (w1 w2 : Nat) (rows rows' : List (List Int)), vs = [.ref x, .ref y] ∧ MG C H x p (w1 : Int) rows ∧ MG C H y p' (w2 : Int) rows' ∧
  (p = p' → rows.length + rows'.length ≤ 100 ∧ w1 + w2 ≤ 100 ∧ ∀ (H' : Hp) (z : Addr), Same H H' → H z = none → MG C H' z p ((w1 : Int) + (w2 : Int)) (blockRows w1 w2 rows rows') → Q (.ref z) H') ∧ (p ≠ p' → E (.ref CM) none H)
theorem sc_block : FnScope ["first", "second", "before", "behind", "upper", "row", "lower"] ["first", "second"] (defScope s_block) := ⟨rfl, rfl, rfl, by decide +kernel, rfl, by decide +kernel, by decide +kernel⟩
/-- rows with something put ahead or behind, one more -/
theorem tups_snoc {H0 H H3 : Hp} {D l : Addr} {us : List Addr} {L : List (List Int)} {i : Nat} {r : List Int} (hD : H0 D = none) (s1 : Same H0 H) (hacc : H D = some (.lst (us.map V.ref))) (hus : Refs .tup H us (L.take i)) (hne : ∀ u ∈ us, u ≠ D) (em : L[i]? = some r) (li : i < 1000) (sl : Same H H3) (hl : H3 l = some (.tup (vI r))) :
    ∃ acc, H3 D = some (HO.lst acc) ∧ acc.length < sizeLine ∧ Same H0 (upd H3 D (.lst (acc ++ [V.ref l]))) ∧ ∃ us : List Addr, (upd H3 D (.lst (acc ++ [V.ref l]))) D = some (.lst (us.map V.ref)) ∧ Refs .tup (upd H3 D (.lst (acc ++ [V.ref l]))) us (L.take (i + 1)) ∧ ∀ u ∈ us, u ≠ D := by
  have lD : l ≠ D := fun z => by
    have := sl _ _ hacc
    rw [← z, hl] at this
    cases this
  refine ⟨_, sl _ _ hacc, ?_, ?_, us ++ [l], ?_, ?_, ?_⟩
  · rw [List.length_map, hus.1]
    refine line_lt ?_
    have : (L.take i).length ≤ i := List.length_take_le _ _
    omega
  · intro z o ez
    rw [upd_ne (ne_of_none ez hD)]
    exact sl _ _ (s1 _ _ ez)
  · rw [upd_same]
    simp
  · refine hus.snoc em (fun t' o mt et => ?_) ?_
    · rw [upd_ne (hne _ mt)]
      exact sl _ _ et
    · rw [upd_ne lD]
      exact hl
  · intro z hz
    rcases List.mem_append.mp hz with hz | hz
    · exact hne z hz
    · rw [List.mem_singleton.mp hz]
      exact lD
theorem ok_block (T : TX K mg a d) : FnOk P w K mg base (L2.CX P w) 4 (a i_block) (d i_block) ["first", "second"] (spBlock (a i_Matrix) (a i_InvalidMatrix)) := by
  have B := T.B
  have G_check_bases := ok_check (P := P) (w := w) (base := base) T
  have G_Matrix_init := ok_init (P := P) (w := w) (base := base) T
  refine T.F_block.okX sc_block (fun vs H Q E h => ?_) (fun cdv A outer s H vs Q E hr h => ?_)
  · obtain ⟨x, y, p, p', w1, w2, rows, rows', rfl, _⟩ := h
    rfl
  · obtain ⟨x, y, p, p', w1, w2, rows, rows', rfl, Mx, My, kG, kB⟩ := h
    refine ⟨_, pss_cons (ps_expr (pe_call G_check_bases (hr.mono (by decide)) rfl T.g_check_bases T.F_check_bases.kp T.b_check_bases .nil (passes_call (takes_of rfl rfl rfl rfl) (fun _ _ _ _ h => h)) (pa_cons (pv 0) (pa_cons (pv 1) pa_nil))))
      (pss_cons (ps_set (i := 2) sc_block.nd rfl (Or.inr rfl) (pe_op op_repA (pe_tup (pa_cons pe_int pa_nil)) (pe_fld (pv 0) rfl)))
      (pss_cons (ps_set (i := 3) sc_block.nd rfl (Or.inr rfl) (pe_op op_repA (pe_tup (pa_cons pe_int pa_nil)) (pe_fld (pv 1) rfl)))
      (pss_cons (ps_setLc (i := 4) (own := [("row", 5)]) (g := gName 5) (tt := tYes) rfl sc_block.nd rfl rfl (sw_true rfl rfl rfl (by decide +kernel)) (pi_tup (pe_fld (pv 0) rfl)) (blkOk_by (N := ["first", "second", "before", "behind", "upper", "row", "lower"]) (sc := (defScope s_block)) (by decide +kernel)) (fun _ _ _ _ _ => (pg_name (i := 5) sc_block.nd rfl (Or.inl rfl))) (fun _ _ _ _ _ => pts_nil) (fun _ _ _ _ _ => (pe_op (op_catAK (K := K) rfl) (pv 5) (pv 3))))
      (pss_cons (ps_setLc (i := 6) (own := [("row", 5)]) (g := gName 5) (tt := tYes) rfl sc_block.nd rfl rfl (sw_true rfl rfl rfl (by decide +kernel)) (pi_tup (pe_fld (pv 1) rfl)) (blkOk_by (N := ["first", "second", "before", "behind", "upper", "row", "lower"]) (sc := (defScope s_block)) (by decide +kernel)) (fun _ _ _ _ _ => (pg_name (i := 5) sc_block.nd rfl (Or.inl rfl))) (fun _ _ _ _ _ => pts_nil) (fun _ _ _ _ _ => (pe_op (op_catAK (K := K) rfl) (pv 2) (pv 5))))
      (pss_one (ps_ret (pe_make T.mk_Matrix G_Matrix_init (hr.mono (by decide)) rfl T.g_Matrix T.b_Matrix_init .nil (passes_call (takes_of rfl rfl rfl rfl) (fun _ _ _ _ h => h)) (pa_cons (pe_fld (pv 0) rfl) (pa_cons (pe_op op_add (pe_fld (pv 0) rfl) (pe_fld (pv 1) rfl)) (pa_cons (pe_op op_cat (pv 4) (pv 6)) pa_nil)))))))))), ?_⟩
    obtain ⟨Mx1, gx, lx, wx⟩ := id Mx
    obtain ⟨My1, gy, ly, wy⟩ := id My
    refine ⟨_, rfl, _, rfl, x, y, p, _, p', _, rows, rows', rfl, Mx1, My1, fun ep => ?_, fun np => kB np⟩
    subst ep
    obtain ⟨ln, wn, kG⟩ := kG rfl
    have hp2 := primes_bd p gx.1
    obtain ⟨dx, Tp, hx, ts, hT, href⟩ := id Mx1
    obtain ⟨dy, Tq, hy, ts', hT', href'⟩ := id My1
    -- before, behind
    refine ⟨(by show 1 ≤ sizeLine; decide), fun l1 hl1 => ?_⟩
    have s1 := same_new (o := .tup [.int 0]) hl1
    refine ⟨_, rfl, x, a i_Matrix, dx, _, _, rfl, s1 _ _ hx, T.c_Matrix, T.n_Matrix_width, mF_width _ _ _, rd_rep upd_same (by omega) (by omega) fun H2 b1 s2 hb1 => ?_⟩
    have s02 := s1.trans s2
    refine ⟨(by show 1 ≤ sizeLine; decide), fun l2 hl2 => ?_⟩
    have s3 := same_new (o := .tup [.int 0]) hl2
    refine ⟨_, rfl, y, a i_Matrix, dy, _, _, rfl, s3 _ _ (s02 _ _ hy), T.c_Matrix, T.n_Matrix_width, mF_width _ _ _, rd_rep upd_same (by omega) (by omega) fun H4 b2 s4 hb2 => ?_⟩
    have s04 := s02.trans (s3.trans s4)
    have hb1' := (s3.trans s4) _ _ hb1
    rw [Int.toNat_natCast] at hb1' hb2
    -- upper
    refine ⟨_, rfl, x, a i_Matrix, dx, _, _, rfl, s04 _ _ hx, T.c_Matrix, T.n_Matrix_rows, mF_rows _ _ _, Tp, rfl, ⟨_, SqT.of (s04 _ _ hT)⟩, fun D hD => lc_it walk_tup (fun i H' => Same H4 H' ∧ ∃ us : List Addr, H' D = some (.lst (us.map V.ref)) ∧ Refs .tup H' us ((rows.map (· ++ List.replicate w2 0)).take i) ∧ ∀ u ∈ us, u ≠ D) ⟨same_new hD, [], upd_same, Refs.nil, fun _ z => (by cases z)⟩ (fun i H' _ ⟨s5, _⟩ => SqT.of (s5 _ _ (s04 _ _ hT))) ?_ ?_⟩
    · rintro i u H5 H6 hi ⟨s5, us, hacc, hus, hne⟩ ⟨rfl, hu⟩
      obtain ⟨t, ht, rfl⟩ := refs_at hu
      obtain ⟨r, hr', hr2⟩ := href.row ht
      have rl := (good_row gx (List.mem_of_getElem? hr')).1
      have li : i < rows.length := (List.getElem?_eq_some_iff.mp hr').1
      refine ⟨rfl, lc_yes ⟨_, rfl, _, rfl, rd_cat (s5 _ _ (s04 _ _ hr2)) (s5 _ _ hb2) (by simp; omega) fun H7 b s7 hb => ?_⟩⟩
      exact tups_snoc hD s5 hacc hus hne (by rw [List.getElem?_map, hr']; rfl) (by omega) s7 hb
    rintro H5 ⟨s5, us, hus, hrefs, _⟩
    have el : (rows.map (· ++ List.replicate w2 0)).take (ts.map V.ref).length = rows.map (· ++ List.replicate w2 0) := by
      rw [List.take_of_length_le]
      rw [List.length_map, List.length_map, href.1]
      exact Nat.le_refl _
    rw [el] at hrefs
    have s05 := s04.trans s5
    -- lower
    refine ⟨_, rfl, y, a i_Matrix, dy, _, _, rfl, s05 _ _ hy, T.c_Matrix, T.n_Matrix_rows, mF_rows _ _ _, Tq, rfl, ⟨_, SqT.of (s05 _ _ hT')⟩, fun D2 hD2 => lc_it walk_tup (fun i H' => Same H5 H' ∧ ∃ us : List Addr, H' D2 = some (.lst (us.map V.ref)) ∧ Refs .tup H' us ((rows'.map (List.replicate w1 0 ++ ·)).take i) ∧ ∀ u ∈ us, u ≠ D2) ⟨same_new hD2, [], upd_same, Refs.nil, fun _ z => (by cases z)⟩ (fun i H' _ ⟨s6, _⟩ => SqT.of (s6 _ _ (s05 _ _ hT'))) ?_ ?_⟩
    · rintro i u H6 H7 hi ⟨s6, vs, hacc, hvs, hne⟩ ⟨rfl, hu⟩
      obtain ⟨t, ht, rfl⟩ := refs_at hu
      obtain ⟨r, hr', hr2⟩ := href'.row ht
      have rl := (good_row gy (List.mem_of_getElem? hr')).1
      have li : i < rows'.length := (List.getElem?_eq_some_iff.mp hr').1
      refine ⟨rfl, lc_yes ⟨_, rfl, _, rfl, rd_cat (s6 _ _ (s5 _ _ hb1')) (s6 _ _ (s05 _ _ hr2)) (by simp; omega) fun H8 b s8 hb => ?_⟩⟩
      exact tups_snoc hD2 s6 hacc hvs hne (by rw [List.getElem?_map, hr']; rfl) (by omega) s8 hb
    rintro H6 ⟨s6, vs, hvs, hrefs', _⟩
    have el' : (rows'.map (List.replicate w1 0 ++ ·)).take (ts'.map V.ref).length = rows'.map (List.replicate w1 0 ++ ·) := by
      rw [List.take_of_length_le]
      rw [List.length_map, List.length_map, href'.1]
      exact Nat.le_refl _
    rw [el'] at hrefs'
    have s06 := s05.trans s6
    refine ⟨_, rfl, x, a i_Matrix, dx, _, _, rfl, s06 _ _ hx, T.c_Matrix, T.n_Matrix_base, mF_base _ _ _, _, rfl, x, a i_Matrix, dx, _, _, rfl, s06 _ _ hx, T.c_Matrix, T.n_Matrix_width, mF_width _ _ _, _, rfl, y, a i_Matrix, dy, _, _, rfl, s06 _ _ hy, T.c_Matrix, T.n_Matrix_width, mF_width _ _ _, _, _, rfl, rfl, ?_⟩
    have l1' : us.length = rows.length := by rw [hrefs.1, List.length_map]
    have l2' : vs.length = rows'.length := by rw [hrefs'.1, List.length_map]
    refine ⟨_, rfl, _, rfl, D, D2, _, _, rfl, rfl, s6 _ _ hus, hvs, line_of (by rw [List.length_map, List.length_map]; omega), fun D3 hD3 => ?_⟩
    have s7 := same_new (o := .lst (us.map V.ref ++ vs.map V.ref)) hD3
    have gb : good p ((w1 : Int) + (w2 : Int)) (blockRows w1 w2 rows rows') := good_block gx gy
    have lb : (blockRows w1 w2 rows rows').length = rows.length + rows'.length := by simp [blockRows]
    refine rd_makeK ⟨us ++ vs, by rw [upd_same]; simp, by rw [List.length_append, lb]; omega, fun i t r e1 e2 => .inr ?_⟩ (by omega) (fun r hr => by have := (good_row gb hr).1; omega) gb fun z H' s8 fz Mz => ⟨rfl, kG H' z ((s06.trans s7).trans s8) (Same.free (s06.trans s7) fz) ⟨Mz, gb, by omega, by omega⟩⟩
    unfold blockRows at e2
    by_cases hi : i < us.length
    · rw [List.getElem?_append_left hi] at e1
      rw [List.getElem?_append_left (by rw [List.length_map]; omega)] at e2
      exact s7 _ _ (s6 _ _ (hrefs.2 i t r e1 e2))
    · rw [List.getElem?_append_right (by omega)] at e1
      rw [List.getElem?_append_right (by rw [List.length_map]; omega), List.length_map, ← l1'] at e2
      exact s7 _ _ (hrefs'.2 _ t r e1 e2)
end
section
variable {P : Program} {w : World} {K : PySem.W.Frag} {mg : Str → Option Value} {base : Heap}
/-! ### _law_fails: sums and blocks that do not fit -/
variable {a : Nat → Addr} {d : Nat → FuncData}
def spFails (C : Addr) : Sp := fun vs H Q _ => ∃ (pick : Int) (x y : Addr) (p p' : Int) (w1 w2 : Nat) (rows rows' : List (List Int)), vs = [.int pick, .ref x, .ref y] ∧ MG C H x p (w1 : Int) rows ∧ MG C H y p' (w2 : Int) rows' ∧
  (((pick = 0 ∨ pick = 1) ∧ ¬ (p = p' ∧ (w1 : Int) = (w2 : Int) ∧ rows.length = rows'.length)) ∨ (pick = 2 ∧ p ≠ p')) ∧ ∀ H', Same H H' → Q (.bl true) H'
theorem sc_fails : FnScope ["pick", "left", "right", "made", "e"] ["pick", "left", "right"] (defScope s_law_fails) := ⟨rfl, rfl, rfl, by decide +kernel, rfl, by decide +kernel, by decide +kernel⟩
theorem ok_fails (T : TX K mg a d) : FnOk P w K mg base CX0 6 (a i_law_fails) (d i_law_fails) ["pick", "left", "right"] (spFails (a i_Matrix)) := by
  have B := T.B
  have G_add := ok_add (P := P) (w := w) (base := base) T
  have G_sub := ok_sub (P := P) (w := w) (base := base) T
  have G_block := ok_block (P := P) (w := w) (base := base) T
  refine T.F_law_fails.ok sc_fails (fun vs H Q E h => ?_) (fun cdv A outer s H vs Q E hr h => ?_)
  · obtain ⟨pick, x, y, p, p', w1, w2, rows, rows', rfl, _⟩ := h
    rfl
  · obtain ⟨pick, x, y, p, p', w1, w2, rows, rows', rfl, Mx, My, way, q⟩ := h
    refine ⟨_, pss_cons (ps_try_as (i := 4) (Wout := fun _ _ _ _ => False) rfl rfl sc_fails.nd rfl rfl ⟨rfl, by decide, .inl T.g_WovenError⟩ takes0
        (fun W pn xe tk _ => pss_one (ps_if (pt_cmpR op_eq (pv 0) pe_int (nomark _)) (pss_one (ps_set (i := 3) sc_fails.nd rfl (Or.inl rfl) (pe_ownX (E := WE W) T.m_Matrix_add.at_ T.m_Matrix_add.fn T.cc_Matrix.sf G_add (hr.mono (by decide)) T.b_Matrix_add (fun σ => passAt tk σ) (pv 1) (pv 2))))
          (pss_one (ps_if (pt_cmpR op_eq (pv 0) pe_int (nomark _)) (pss_one (ps_set (i := 3) sc_fails.nd rfl (Or.inl rfl) (pe_ownX (E := WE W) T.m_Matrix_sub.at_ T.m_Matrix_sub.fn T.cc_Matrix.sf G_sub (hr.mono (by decide)) T.b_Matrix_sub (fun σ => passAt tk σ) (pv 1) (pv 2))))
            (pss_one (ps_set (i := 3) sc_fails.nd rfl (Or.inl rfl) (pe_callS (E := WE W) G_block (hr.mono (by decide)) rfl T.g_block T.F_block.kp T.b_block (fun σ => passAt tk σ) (pa_cons (pv 1) (pa_cons (pv 2) pa_nil)))))))))
        (fun a0 oe cls dd pn hz hf => pss_one (ps_ret (pe_and (pe_callB (call_isX hz hf) (by rfl) B.isi (by decide +kernel) (pa_cons (pv 4) (pa_cons (pe_glob (v := .ref (a i_InvalidMatrix)) rfl T.g_InvalidMatrix rfl) pa_nil)))
          (pe_one (pe_callB (call_isX hz hf) (by rfl) B.isi (by decide +kernel) (pa_cons (pv 4) (pa_cons (pe_bltn (v := .ty "ValueError") (by rfl) B.verr (by decide +kernel) rfl) pa_nil))))))))
      (pss_one (ps_ret pe_bl)), ?_⟩
    have xM := T.x_InvalidMatrix
    obtain ⟨dx, Tp, hx, hT⟩ := id Mx.1
    obtain ⟨dy, Tq, hy, hTq⟩ := id My.1
    refine ⟨_, rfl, rfl, _, rfl, ?_⟩
    rcases way with ⟨pk | pk, no⟩ | ⟨pk, no⟩
    · subst pk
      refine if_t (by simp) ⟨_, rfl, _, rfl, x, y, dx, dy, _, _, rfl, rfl, hx, hy, x, y, p, _, p', _, rows, rows', rfl, Mx, My, fun z => absurd z no, fun _ H1 s1 => ?_⟩
      refine ⟨true, T.x_WovenError.exm T.s_InvalidMatrix_WovenError, fun _ a0 ha0 => ?_, fun z => Bool.noConfusion z⟩
      refine ⟨_, rfl, a i_InvalidMatrix, _, _, true, rfl, rfl, xM, rfl, .own _, xM.kit xM.s, true, rfl, iteT ?_⟩
      exact ⟨_, rfl, a i_InvalidMatrix, _, _, true, rfl, rfl, xM, rfl, .ty "ValueError", xM.kitV, q _ s1⟩
    · subst pk
      refine if_f (by simp) ⟨_, rfl, rfl, _, rfl, if_t (by simp) ⟨_, rfl, _, rfl, x, y, dx, dy, _, _, rfl, rfl, hx, hy, x, y, p, _, p', _, rows, rows', rfl, Mx, My, fun z => absurd z no, fun _ H1 s1 => ?_⟩⟩
      refine ⟨true, T.x_WovenError.exm T.s_InvalidMatrix_WovenError, fun _ a0 ha0 => ?_, fun z => Bool.noConfusion z⟩
      refine ⟨_, rfl, a i_InvalidMatrix, _, _, true, rfl, rfl, xM, rfl, .own _, xM.kit xM.s, true, rfl, iteT ?_⟩
      exact ⟨_, rfl, a i_InvalidMatrix, _, _, true, rfl, rfl, xM, rfl, .ty "ValueError", xM.kitV, q _ s1⟩
    · subst pk
      refine if_f (by simp) ⟨_, rfl, rfl, _, rfl, if_f (by simp) ⟨_, rfl, _, rfl, x, y, p, p', w1, w2, rows, rows', rfl, Mx, My, fun z => absurd z no, fun _ => ?_⟩⟩
      refine ⟨true, T.x_WovenError.exm T.s_InvalidMatrix_WovenError, fun _ a0 ha0 => ?_, fun z => Bool.noConfusion z⟩
      refine ⟨_, rfl, a i_InvalidMatrix, _, _, true, rfl, rfl, xM, rfl, .own _, xM.kit xM.s, true, rfl, iteT ?_⟩
      exact ⟨_, rfl, a i_InvalidMatrix, _, _, true, rfl, rfl, xM, rfl, .ty "ValueError", xM.kitV, q _ (Same.refl _)⟩
end
section
variable {P : Program} {w : World} {K : PySem.W.Frag} {mg : Str → Option Value} {base : Heap}
/-! ### _law_is_matrix -/
variable {a : Nat → Addr} {d : Nat → FuncData}
theorem Eqd.rows {H : Hp} {x y : Addr} {rows : List (List Int)} (l1 : rows.length ≤ 1000) (l2 : ∀ r ∈ rows, r.length ≤ 1000) (hx : RowsT H x rows) (hy : RowsT H y rows) : Eqd K 2 H (.ref x) (.ref y) := by
  obtain ⟨ts, h1, r1⟩ := hx
  obtain ⟨us, h2, r2⟩ := hy
  refine .inr ⟨x, y, _, _, rfl, rfl, .inr ⟨SqT.of h1, SqT.of h2⟩, by rw [List.length_map, List.length_map, r1.1, r2.1], by rw [List.length_map, r2.1]; exact l1, fun i u v hu hv => ?_⟩
  obtain ⟨t, ht, rfl⟩ := refs_at hu
  obtain ⟨t', ht', rfl⟩ := refs_at hv
  obtain ⟨r, hr, e1⟩ := r1.row ht
  have e2 := r2.2 i t' r ht' hr
  exact .inr ⟨t, t', _, _, rfl, rfl, .inr ⟨SqT.of e1, SqT.of e2⟩, rfl, by rw [List.length_map]; exact l2 r (List.mem_of_getElem? hr), fun j x y hx hy => by
    rw [hx] at hy
    cases hy
    obtain ⟨n, _, rfl⟩ := item_int hx
    exact Eqd.int 0 H n⟩
def spIsMat (C : Addr) : Sp := fun vs H Q _ => ∃ (x ra : Addr) (p wd : Int) (rows : List (List Int)), vs = [.ref x, .int p, .int wd, .ref ra] ∧ MatAt C H x p wd rows ∧ RowsL H ra rows ∧ rows.length ≤ 1000 ∧ (∀ r ∈ rows, r.length ≤ 1000) ∧ ∀ H', Same H H' → Q (.bl true) H'
theorem sc_ismat : FnScope ["actual", "base", "width", "rows", "row"] ["actual", "base", "width", "rows"] (defScope s_law_is_matrix) := ⟨rfl, rfl, rfl, by decide +kernel, rfl, by decide +kernel, by decide +kernel⟩
theorem ok_ismat (T : TX K mg a d) : FnOk P w K mg base CX0 4 (a i_law_is_matrix) (d i_law_is_matrix) ["actual", "base", "width", "rows"] (spIsMat (a i_Matrix)) := by
  have B := T.B
  have G_law_same := ok_same (P := P) (w := w) (base := base) T.F_law_same B T.g_law_same T.b_law_same 2
  refine T.F_law_is_matrix.ok sc_ismat (fun vs H Q E h => ?_) (fun cdv A outer s H vs Q E hr h => ?_)
  · obtain ⟨x, ra, p, wd, rows, rfl, _⟩ := h
    rfl
  · obtain ⟨x, ra, p, wd, rows, rfl, Mx, hra, l1, l2, q⟩ := h
    refine ⟨_, pss_cons (ps_if (PW.pt (pw_or (pt_not (pt_val (pe_callB call_isi (by rfl) B.isi (by decide +kernel) (pa_cons (pv 0) (pa_cons (pe_glob (v := .ref (a i_Matrix)) rfl T.g_Matrix rfl) pa_nil))))) (pw_or (pt_not (pt_val (pe_call G_law_same (hr.mono (by decide)) rfl T.g_law_same T.F_law_same.kp T.b_law_same .nil pass0 (pa_cons (pe_fld (pv 0) rfl) (pa_cons (pv 1) pa_nil))))) (pw_or1 (pt_not (pt_val (pe_call G_law_same (hr.mono (by decide)) rfl T.g_law_same T.F_law_same.kp T.b_law_same .nil pass0 (pa_cons (pe_fld (pv 0) rfl) (pa_cons (pv 2) pa_nil))))))))) (pss_one (ps_ret pe_bl)) pss_nil)
      (pss_one (ps_ret (pe_call G_law_same (hr.mono (by decide)) rfl T.g_law_same T.F_law_same.kp T.b_law_same .nil pass0 (pa_cons (pe_fld (pv 0) rfl) (pa_cons (pe_callTy call_tuple_of (by rfl) B.tuple (by decide +kernel) (pa_cons (pe_lc (own := [("row", 4)]) (g := gName 4) (tt := tYes) rfl sc_ismat.nd (pi_list (pv 3)) (blkOk_by (N := ["actual", "base", "width", "rows", "row"]) (sc := (defScope s_law_is_matrix)) (by decide +kernel)) (fun _ _ _ _ _ => (pg_name (i := 4) sc_ismat.nd rfl (Or.inl rfl))) (fun _ _ _ _ _ => pts_nil) (fun _ _ _ _ _ => (pe_callTy (call_tupleK (K := K) rfl) (by rfl) B.tuple (by decide +kernel) (pa_cons (pv 4) pa_nil)))) pa_nil)) pa_nil))))), ?_⟩
    obtain ⟨dx, Tp, hx, hT⟩ := id Mx
    refine ⟨_, rfl, _, _, _, _, true, rfl, .own (a i_Matrix), T.cc_Matrix.ty T.c_Matrix hx, CC.kit, _, rfl, iteF ?_⟩
    refine ⟨_, rfl, x, a i_Matrix, dx, _, _, rfl, hx, T.c_Matrix, T.n_Matrix_base, mF_base _ _ _, _, rfl, _, _, rfl, Eqd.int _ _ _, fun H1 s1 => ⟨_, rfl, iteF ?_⟩⟩
    refine ⟨_, rfl, x, a i_Matrix, dx, _, _, rfl, s1 _ _ hx, T.c_Matrix, T.n_Matrix_width, mF_width _ _ _, _, rfl, _, _, rfl, Eqd.int _ _ _, fun H2 s2 => ⟨_, rfl, iteF ?_⟩⟩
    have s12 := s1.trans s2
    obtain ⟨ts, hts, href⟩ := hra.same s12
    refine ⟨_, rfl, x, a i_Matrix, dx, _, _, rfl, s12 _ _ hx, T.c_Matrix, T.n_Matrix_rows, mF_rows _ _ _, _, rfl, ra, rfl, ⟨_, SqL.of hts⟩, fun D hD => lc_it walk_list (fun i H' => Same H2 H' ∧ ∃ us : List Addr, H' D = some (.lst (us.map V.ref)) ∧ Refs .tup H' us (rows.take i) ∧ ∀ u ∈ us, u ≠ D) ⟨same_new hD, [], upd_same, Refs.nil, fun _ z => (by cases z)⟩ (fun i H' _ ⟨s3, _⟩ => SqL.of (s3 _ _ hts)) ?_ ?_⟩
    · rintro i u H3 H4 hi ⟨s3, us, hacc, hus, hne⟩ ⟨rfl, hu⟩
      obtain ⟨t, ht, rfl⟩ := refs_at hu
      obtain ⟨r, hr', hr2⟩ := href.row ht
      refine ⟨rfl, lc_yes ⟨_, rfl, t, _, rfl, .inl ⟨SqL.of (s3 _ _ hr2), fun l hl => ?_⟩⟩⟩
      have sl := same_new (o := .tup (vI r)) hl
      have lD : l ≠ D := fun z => by
        rw [z, hacc] at hl
        cases hl
      refine ⟨_, sl _ _ hacc, ?_, ?_, us ++ [l], ?_, ?_, ?_⟩
      · rw [List.length_map, hus.1]
        refine line_lt ?_
        have : (rows.take i).length ≤ i := List.length_take_le _ _
        rw [List.length_map, href.1] at hi
        omega
      · intro z o ez
        rw [upd_ne (ne_of_none ez hD)]
        exact sl _ _ (s3 _ _ ez)
      · rw [upd_same]
        simp
      · refine hus.snoc hr' (fun t' o mt et => ?_) ?_
        · rw [upd_ne (hne _ mt)]
          exact sl _ _ et
        · rw [upd_ne lD]
          exact upd_same
      · intro z hz
        rcases List.mem_append.mp hz with hz | hz
        · exact hne z hz
        · rw [List.mem_singleton.mp hz]
          exact lD
    rintro H3 ⟨s3, us, hus, hrefs, _⟩
    have el : rows.take (ts.map V.ref).length = rows := by
      rw [List.length_map, href.1]
      exact List.take_length
    rw [el] at hrefs
    refine ⟨D, _, rfl, .inl ⟨SqL.of hus, fun Tz hTz => ?_⟩⟩
    have s4 := same_new (o := .tup (us.map V.ref)) hTz
    have s14 := (s12.trans s3).trans s4
    refine ⟨_, _, rfl, Eqd.rows l1 l2 (hT.same s14) ⟨us, upd_same, hrefs.same s4⟩, fun H5 s5 => q _ (s14.trans s5)⟩
end
section
variable {P : Program} {w : World} {K : PySem.W.Frag} {mg : Str → Option Value} {base : Heap}
/-! ### comprehensions of draws -/
/-- what a comprehension of draws has made behind i turns -/
def Drawn (Hs : Hp) (d r D : Addr) (p : Int) (c0 i : Nat) (H : Hp) : Prop := KeepBut d Hs H ∧ ∃ (ns : List Int) (c : Nat), H D = some (.lst (vI ns)) ∧ ns.length = i ∧ (∀ n ∈ ns, 0 ≤ n ∧ n < p) ∧ Dr H d r c ∧ c ≤ c0 + i
theorem drawn_0 {Hs : Hp} {d r D : Addr} {p : Int} {c0 : Nat} (hD : Hs D = none) (D0 : Dr Hs d r c0) : Drawn Hs d r D p c0 0 (upd Hs D (.lst [])) :=
  ⟨KeepBut.of (same_new hD), [], c0, upd_same, rfl, fun _ h => (by cases h), D0.same (same_new hD), Nat.le_refl _⟩
theorem drawn_next {Hs H : Hp} {d r D : Addr} {p : Int} {c0 i : Nat} (hD : Hs D = none) (D0 : Dr Hs d r c0) (hp : 0 < p) (hi : c0 + i ≤ 100000) (h : Drawn Hs d r D p c0 i H) :
    spNext [.ref d, .int p] H (fun y H4 => ∃ acc, H4 D = some (.lst acc) ∧ acc.length < sizeLine ∧ Drawn Hs d r D p c0 (i + 1) (upd H4 D (.lst (acc ++ [y])))) E0 := by
  have n := D0.ne hD
  obtain ⟨kb, ns, c, hL, hl, hb, Dd, hc⟩ := h
  refine ⟨d, r, c, p, rfl, Dd, by omega, hp, fun z H' z0 z1 k1 D1 => ⟨vI ns, k1 _ _ n.1 hL, ?_, ?_, ns ++ [z], c + 1, ?_, ?_, ?_, D1.put n, ?_⟩⟩
  · rw [List.length_map, hl]
    exact line_lt (by omega)
  · intro b o' nb e
    rw [upd_ne (ne_of_none e hD)]
    exact k1 _ _ nb (kb _ _ nb e)
  · rw [upd_same]
    simp [vI]
  · rw [List.length_append, hl]
    rfl
  · intro x hx
    rcases List.mem_append.mp hx with hx | hx
    · exact hb x hx
    · rw [List.mem_singleton.mp hx]
      exact ⟨z0, z1⟩
  · omega
end
section
variable {P : Program} {w : World} {K : PySem.W.Frag} {mg : Str → Option Value} {base : Heap}
/-! ### _law_drawn -/
theorem RowsL.keep {H H' : Hp} {dd rr z : Addr} {c : Nat} {rows : List (List Int)} (D : Dr H dd rr c) (k : KeepBut dd H H') (h : RowsL H z rows) : RowsL H' z rows := by
  obtain ⟨_, hd, _⟩ := D
  obtain ⟨ts, hz, hl, hr⟩ := h
  refine ⟨ts, k _ _ (fun e => ?_) hz, hl, fun i t r h1 h2 => k _ _ (fun e => ?_) (hr i t r h1 h2)⟩
  · rw [e, hd] at hz
    have q := HO.lst.inj (Option.some.inj hz)
    have : V.int (c : Int) ∈ ts.map V.ref := by rw [← q]; simp
    obtain ⟨t, _, ht⟩ := List.mem_map.mp this
    cases ht
  · have z := hr i t r h1 h2
    rw [e, hd] at z
    have q := HO.lst.inj (Option.some.inj z)
    have : V.ref rr ∈ vI r := by rw [← q]; simp
    obtain ⟨t, _, ht⟩ := List.mem_map.mp this
    cases ht
def spDrawnM : Sp := fun vs H Q _ => ∃ (dd rr : Addr) (c : Nat) (p : Int) (hn wn : Nat), vs = [.ref dd, .int p, .int (hn : Int), .int (wn : Int)] ∧ Dr H dd rr c ∧ c ≤ 10000 ∧ 0 < p ∧ hn ≤ 10 ∧ wn ≤ 10 ∧
  ∀ (H' : Hp) (z : Addr) (rows : List (List Int)) (c' : Nat), KeepBut dd H H' → H z = none → RowsL H' z rows → rows.length = hn → (∀ r ∈ rows, (r.length : Int) = (wn : Int) ∧ ∀ e ∈ r, 0 ≤ e ∧ e < p) → Dr H' dd rr c' → c' ≤ c + 101 → Q (.ref z) H'
abbrev nDrawn : List Str := ["draws", "base", "height", "width", "kind", "rows", "i", "row", "j", "entry"]
theorem sc_law_drawn : FnScope nDrawn ["draws", "base", "height", "width"] (defScope s_law_drawn) := ⟨rfl, rfl, rfl, by decide +kernel, rfl, by decide +kernel, by decide +kernel⟩
/-- behind i rows -/
def OutD (H0 : Hp) (dd rr R : Addr) (p : Int) (wn c0 i : Nat) (H' : Hp) : Prop := KeepBut dd H0 H' ∧ ∃ (us : List Addr) (rowsv : List (List Int)) (c : Nat), H' R = some (.lst (us.map V.ref)) ∧ Refs .lst H' us rowsv ∧ rowsv.length = i ∧
  (∀ r ∈ rowsv, (r.length : Int) = (wn : Int) ∧ ∀ e ∈ r, 0 ≤ e ∧ e < p) ∧ (∀ u ∈ us, u ≠ R ∧ u ≠ dd) ∧ Dr H' dd rr c ∧ c ≤ c0 + 10 * i
/-- behind j entries of a row at W -/
def InD (H1 : Hp) (dd rr W : Addr) (p : Int) (c1 j : Nat) (H' : Hp) : Prop := (∀ b o, b ≠ dd → b ≠ W → H1 b = some o → H' b = some o) ∧ ∃ (ent : List Int) (c : Nat), H' W = some (.lst (vI ent)) ∧ ent.length = j ∧ (∀ e ∈ ent, 0 ≤ e ∧ e < p) ∧ Dr H' dd rr c ∧ c ≤ c1 + j
theorem ok_law_drawn {f fN : Addr} {fd fdN : FuncData} (F : Fun K "_law_drawn" "_law_drawn" s_law_drawn f fd) (B : BI mg)
    (FN : Fun K "_law_next" "_law_next" s_law_next fN fdN) (gN : mg "_law_next" = some (.ref fN)) (bN : Binds K fdN ["draws", "many"] []) : FnOk P w K mg base CX0 2 f fd ["draws", "base", "height", "width"] spDrawnM := by
  have GN : FnOk P w K mg base CX0 1 fN fdN ["draws", "many"] spNext := ok_next FN B
  refine F.ok sc_law_drawn (fun vs H Q E h => ?_) (fun cdv A outer s H vs Q E hr h => ?_)
  · obtain ⟨dd, rr, c, p, hn, wn, rfl, _⟩ := h
    rfl
  · obtain ⟨dd, rr, c, p, hn, wn, rfl, D0, hc, hp, hh, hw, q⟩ := h
    refine ⟨_, pss_cons (ps_set (i := 4) sc_law_drawn.nd rfl (Or.inl rfl) (pe_call GN (hr.mono (by decide)) rfl gN FN.kp bN .nil pass0 (pa_cons (pv 0) (pa_cons pe_int pa_nil))))
      (pss_cons (ps_set (i := 5) sc_law_drawn.nd rfl (Or.inl rfl) (pe_lst pa_nil))
      (pss_cons (ps_for PassesOwn.never rfl (pi_range1 (by rfl) B.range (pa_cons (pv 2) pa_nil)) (pg_name (i := 6) sc_law_drawn.nd rfl (Or.inl rfl))
      (pss_cons (ps_set (i := 7) sc_law_drawn.nd rfl (Or.inl rfl) (pe_lst pa_nil))
      (pss_cons (ps_for PassesOwn.never rfl (pi_range1 (by rfl) B.range (pa_cons (pv 3) pa_nil)) (pg_name (i := 8) sc_law_drawn.nd rfl (Or.inl rfl))
      (pss_cons (ps_set (i := 9) sc_law_drawn.nd rfl (Or.inl rfl) (pe_call GN (hr.mono (by decide)) rfl gN FN.kp bN .nil pass0 (pa_cons (pv 0) (pa_cons pe_int pa_nil))))
      (pss_cons (ps_if (PW.pt (pw_and (pt_cmpR op_eq (pv 4) pe_int (nomark _)) (pw_and1 (pt_cmpR op_lt (pe_op op_fdiv (pv 9) pe_int) pe_int (nomark _))))) (pss_one (ps_set (i := 9) sc_law_drawn.nd rfl (Or.inl rfl) pe_int)) pss_nil)
      (pss_cons (ps_if (pt_cmpR op_eq (pv 4) pe_int (nomark _)) (pss_one (ps_set (i := 9) sc_law_drawn.nd rfl (Or.inl rfl) (pe_op op_fdiv (pv 9) pe_int))) pss_nil)
      (pss_one (ps_expr (pe_bm PySem.F.plainAttrs_list PySem.F.slot_list_append PySem.F.type_list_append mt_append (pv 7) (pa_cons (pe_op op_mod (pe_callTy call_int1 (by rfl) B.int (by decide +kernel) (pa_cons (pv 9) pa_nil)) (pv 1)) pa_nil))))))))
      (pss_one (ps_expr (pe_bm PySem.F.plainAttrs_list PySem.F.slot_list_append PySem.F.type_list_append mt_append (pv 5) (pa_cons (pv 7) pa_nil)))))))
      (pss_one (ps_ret (pv 5))))), ?_⟩
    refine ⟨_, rfl, dd, rr, c, 4, rfl, D0, by omega, by decide, fun kd H1 k0 k4 kb1 D1 => ?_⟩
    refine ⟨Nat.zero_le _, fun R hR => ?_⟩
    have nR := D1.ne hR
    have fR : H R = none := kb1.free D1.2.1 hR
    refine ⟨_, rfl, (hn : Int), rfl, by omega, by omega, for_range (lo := 0) (n := hn) (fun i σ H' => (∃ v1 v2 v3 v4 : Option V, σ = [some (.ref dd), some (.int p), some (.int (hn : Int)), some (.int (wn : Int)), some (.int kd), some (.ref R), v1, v2, v3, v4]) ∧ OutD H dd rr R p wn (c + 1) i H')
      ⟨⟨none, none, none, none, rfl⟩, kb1.trans (KeepBut.of (same_new hR)), [], [], c + 1, upd_same, ⟨rfl, fun i t r h => by simp at h⟩, rfl, fun _ z => (by cases z), fun _ z => (by cases z), D1.same (same_new hR), by omega⟩ ?_ ?_⟩
    · rintro i σ H2 hi ⟨⟨v1, v2, v3, v4, rfl⟩, kb2, us, rowsv, c2, hus, hrefs, hlen, hgood, hne, D2, hc2⟩
      refine ⟨Nat.zero_le _, fun W hW => ?_⟩
      have nW := D2.ne hW
      have nRW : R ≠ W := ne_of_none hus hW
      refine ⟨_, rfl, (wn : Int), rfl, by omega, by omega, for_range (lo := 0) (n := wn) (fun j σ H' => (∃ v3 v4 : Option V, σ = [some (.ref dd), some (.int p), some (.int (hn : Int)), some (.int (wn : Int)), some (.int kd), some (.ref R), some (.int (0 + (i : Int))), some (.ref W), v3, v4]) ∧ InD H2 dd rr W p c2 j H')
        ⟨⟨_, _, rfl⟩, fun b o _ n2 e => by rw [upd_ne n2]; exact e, [], c2, upd_same, rfl, fun _ z => (by cases z), D2.same (same_new hW), by omega⟩ ?_ ?_⟩
      · rintro j σ H3 hj ⟨⟨v3, v4, rfl⟩, kb3, ent, c3, hent, hel, heg, D3, hc3⟩
        refine ⟨_, rfl, dd, rr, c3, 1000, rfl, D3, by omega, by decide, fun en H4 e0 e1 kb4 D4 => ?_⟩
        have hW4 : H4 W = some (.lst (vI ent)) := kb4 _ _ nW.1 hent
        have small : (vI ent).length < sizeLine := by
          rw [List.length_map, hel]
          exact line_lt (by omega)
        have fin : ∀ (e : Int) (v4 : Option V), (∃ v3 v4' : Option V, [some (V.ref dd), some (.int p), some (.int (hn : Int)), some (.int (wn : Int)), some (.int kd), some (.ref R), some (.int (0 + (i : Int))), some (.ref W), some (.int (0 + (j : Int))), v4] = [some (.ref dd), some (.int p), some (.int (hn : Int)), some (.int (wn : Int)), some (.int kd), some (.ref R), some (.int (0 + (i : Int))), some (.ref W), v3, v4']) ∧
            InD H2 dd rr W p c2 (j + 1) (upd H4 W (.lst (vI ent ++ [V.int (e % p)]))) := fun e v4 => by
          refine ⟨⟨_, _, rfl⟩, fun b o n1 n2 eb => ?_, ent ++ [e % p], c3 + 1, ?_, ?_, ?_, D4.put nW, by omega⟩
          · rw [upd_ne n2]
            exact kb4 _ _ n1 (kb3 _ _ n1 n2 eb)
          · rw [upd_same]
            simp [vI]
          · rw [List.length_append, hel]
            rfl
          · intro x hx
            rcases List.mem_append.mp hx with hx | hx
            · exact heg x hx
            · rw [List.mem_singleton.mp hx]
              exact ⟨Int.emod_nonneg _ (by omega), Int.emod_lt_of_pos _ hp⟩
        refine ⟨_, rfl, rfl, _, rfl, ?_⟩
        refine ite2 (fun _ => ⟨_, rfl, _, _, rfl, rfl, ⟨by decide, by decide⟩, _, _, rfl, rfl, _, rfl, ite2 (fun _ => ?_) (fun _ => ?_)⟩) (fun _ => ?_)
        all_goals refine ⟨_, rfl, rfl, _, rfl, ite2 (fun _ => ⟨_, rfl, _, _, rfl, rfl, ⟨by decide, by decide⟩, ?_⟩) (fun _ => ?_)⟩
        all_goals exact ⟨_, rfl, .inl ⟨rfl, _, SqL.of hW4⟩, _, rfl, .inl ⟨_, rfl, _, rfl, _, _, rfl, rfl, hp, W, _, _, rfl, rfl, hW4, small, fin _ _⟩⟩
      · rintro σ H3 ⟨⟨v3, v4, rfl⟩, kb3, ent, c3, hent, hel, heg, D3, hc3⟩
        have hR3 : H3 R = some (.lst (us.map V.ref)) := kb3 _ _ nR.1 nRW hus
        have uW : ∀ u ∈ us, u ≠ W := fun u hu => by
          obtain ⟨k, hk, ek⟩ := List.mem_iff_getElem.mp hu
          have hk2 : us[k]? = some u := by rw [List.getElem?_eq_getElem hk, ek]
          obtain ⟨r, _, hr2⟩ := hrefs.row hk2
          exact ne_of_none hr2 hW
        have fW : H W = none := kb2.free D2.2.1 hW
        refine ⟨_, rfl, .inl ⟨rfl, _, SqL.of hR3⟩, _, rfl, R, _, _, rfl, rfl, hR3, ?_, ⟨_, _, _, _, rfl⟩, ?_, us ++ [W], rowsv ++ [ent], c3, ?_, ?_, ?_, ?_, ?_, D3.put nR, by omega⟩
        · rw [List.length_map, hrefs.1, hlen]
          exact line_lt (by omega)
        · intro b o nb e
          rw [upd_ne (ne_of_none e fR)]
          exact kb3 _ _ nb (ne_of_none e fW) (kb2 _ _ nb e)
        · rw [upd_same]
          simp
        · have et : rowsv = (rowsv ++ [ent]).take rowsv.length := by simp
          have e2 : (rowsv ++ [ent])[rowsv.length]? = some ent := by simp
          have h1 : Refs .lst H2 us ((rowsv ++ [ent]).take rowsv.length) := by rw [← et]; exact hrefs
          have h2 := h1.snoc (H' := upd H3 R (.lst (us.map V.ref ++ [V.ref W]))) (u := W) e2 (fun t o mt et' => ?_) ?_
          · have e3 : (rowsv ++ [ent]).take (rowsv.length + 1) = rowsv ++ [ent] := by
              rw [List.take_of_length_le]
              simp
            rw [e3] at h2
            exact h2
          · rw [upd_ne (hne t mt).1]
            exact kb3 _ _ (hne t mt).2 (uW t mt) et'
          · rw [upd_ne nRW.symm]
            exact hent
        · rw [List.length_append, hlen]
          rfl
        · intro r hr
          rcases List.mem_append.mp hr with hr | hr
          · exact hgood r hr
          · rw [List.mem_singleton.mp hr]
            exact ⟨by rw [hel], heg⟩
        · intro u hu
          rcases List.mem_append.mp hu with hu | hu
          · exact hne u hu
          · rw [List.mem_singleton.mp hu]
            exact ⟨nRW.symm, nW.1⟩
    · rintro σ H2 ⟨⟨v1, v2, v3, v4, rfl⟩, kb2, us, rowsv, c2, hus, hrefs, hlen, hgood, hne, D2, hc2⟩
      exact ⟨_, rfl, q H2 R rowsv c2 kb2 fR ⟨us, hus, hrefs⟩ hlen hgood D2 (by omega)⟩
end
section
variable {P : Program} {w : World} {K : PySem.W.Frag} {mg : Str → Option Value} {base : Heap}
/-! ### what stays while draws are drawn -/
theorem keepI {H H' : Hp} {dd rr z : Addr} {c : Nat} {ns : List Int} (D : Dr H dd rr c) (k : KeepBut dd H H') (h : H z = some (.lst (vI ns))) : H' z = some (.lst (vI ns)) := by
  obtain ⟨_, hd, _⟩ := D
  refine k _ _ (fun e => ?_) h
  rw [e, hd] at h
  have q := HO.lst.inj (Option.some.inj h)
  have : V.ref rr ∈ vI ns := by rw [← q]; simp
  obtain ⟨t, _, ht⟩ := List.mem_map.mp this
  cases ht
theorem MG.keep {C : Addr} {H H' : Hp} {dd rr x : Addr} {c : Nat} {p wd : Int} {rows : List (List Int)} (D : Dr H dd rr c) (k : KeepBut dd H H') (h : MG C H x p wd rows) : MG C H' x p wd rows := by
  obtain ⟨_, hd, _⟩ := D
  obtain ⟨⟨dx, T, hx, ts, hT, hl, hr⟩, g⟩ := h
  refine ⟨⟨dx, T, k _ _ (fun e => ?_) hx, ts, k _ _ (fun e => ?_) hT, hl, fun i t r h1 h2 => k _ _ (fun e => ?_) (hr i t r h1 h2)⟩, g⟩
  · rw [e, hd] at hx; cases hx
  · rw [e, hd] at hT; cases hT
  · have z := hr i t r h1 h2
    rw [e, hd] at z; cases z
theorem Eqd.tupI {H : Hp} {x y : Addr} {ns : List Int} {n : Nat} (l : ns.length ≤ 1000) (h1 : H x = some (.tup (vI ns))) (h2 : H y = some (.tup (vI ns))) : Eqd K (n + 1) H (.ref x) (.ref y) :=
  .inr ⟨x, y, _, _, rfl, rfl, .inr ⟨SqT.of h1, SqT.of h2⟩, rfl, by rw [List.length_map]; exact l, fun j u v hu hv => by
    rw [hu] at hv
    cases hv
    obtain ⟨n', _, rfl⟩ := item_int hu
    exact Eqd.int n H n'⟩
theorem zeros_eq (n : Nat) : (List.replicate n [V.int 0]).flatten = vI (List.replicate n 0) := by
  rw [rep_one]
  show List.replicate n (V.int 0) = (List.replicate n (0 : Int)).map V.int
  rw [List.map_replicate]
end
section
variable {P : Program} {w : World} {K : PySem.W.Frag} {mg : Str → Option Value} {base : Heap}
/-! ### rows of entries by two comprehensions; lists of lists put together -/
/-- behind a name's store; behind an if that is not taken: the next row -/
theorem asg_next {i : Nat} {v : V} {σ : L2.St} {H : Hp} {A B : TS} {D : Ends} (h : tSeq A B D (σ.set i (some v)) H) : gName i v σ H ({ D with nx := tSeq A B D } : Ends).nx := h
theorem next_next {σ : L2.St} {H : Hp} {A B : TS} {D : Ends} (h : tSeq A B D σ H) : tNext ({ D with nx := tSeq A B D } : Ends) σ H := h
theorem wipe_set (τ : L2.St) (i : Nat) (v : Option V) : wipe ((wipe τ [i]).set i v) [i] = wipe τ [i] := by
  show ((τ.set i none).set i v).set i none = τ.set i none
  rw [List.set_set, List.set_set]
/-- the words of an operation, of a built-in call with one argument, opened -/
theorem op_in {r : R2} {ta tb : TE} {σ : L2.St} {H : Hp} {Q : VK} (h : ta σ H fun x H1 => tb σ H1 fun y H2 => r x y H2 Q) : tOp r ta tb σ H Q := h
theorem cb1_in {r : List V → Hp → VK → Prop} {ta : TE} {σ : L2.St} {H : Hp} {Q : VK} (h : ta σ H fun x H1 => r [x] H1 Q) : tCB r (tCons ta tNil) σ H Q := h
theorem lsts_snoc {H0 H H3 : Hp} {D l : Addr} {us : List Addr} {L : List (List Int)} {i : Nat} {r : List Int} (hD : H0 D = none) (s1 : Same H0 H) (hacc : H D = some (.lst (us.map V.ref))) (hus : Refs .lst H us (L.take i)) (hne : ∀ u ∈ us, u ≠ D) (em : L[i]? = some r) (li : i < 1000) (sl : Same H H3) (lD : l ≠ D) (hl : H3 l = some (.lst (vI r))) :
    ∃ acc, H3 D = some (HO.lst acc) ∧ acc.length < sizeLine ∧ Same H0 (upd H3 D (.lst (acc ++ [V.ref l]))) ∧ ∃ us : List Addr, (upd H3 D (.lst (acc ++ [V.ref l]))) D = some (.lst (us.map V.ref)) ∧ Refs .lst (upd H3 D (.lst (acc ++ [V.ref l]))) us (L.take (i + 1)) ∧ ∀ u ∈ us, u ≠ D := by
  refine ⟨_, sl _ _ hacc, ?_, ?_, us ++ [l], ?_, ?_, ?_⟩
  · rw [List.length_map, hus.1]
    refine line_lt ?_
    have : (L.take i).length ≤ i := List.length_take_le _ _
    omega
  · intro z o ez
    rw [upd_ne (ne_of_none ez hD)]
    exact sl _ _ (s1 _ _ ez)
  · rw [upd_same]
    simp
  · refine hus.snoc em (fun t' o mt et => ?_) ?_
    · rw [upd_ne (hne _ mt)]
      exact sl _ _ et
    · rw [upd_ne lD]
      exact hl
  · intro z hz
    rcases List.mem_append.mp hz with hz | hz
    · exact hne z hz
    · rw [List.mem_singleton.mp hz]
      exact lD
/-- [[e for j in range(w)] for i in range(h)]: e is the entry of L at i, j -/
theorem rd_grid {Hs : Hp} {σ : L2.St} {si sj hh ww : Nat} {te tw th : TE} {L : List (List Int)} {Q : VK} (hL : L.length = hh) (hw : ∀ r ∈ L, r.length = ww) (b1 : hh ≤ 900) (b2 : ww ≤ 900) (hth : ∀ R : VK, R (.int (hh : Int)) Hs → th σ Hs R)
    (htw : ∀ (i : Nat) (H : Hp) (R : VK), R (.int (ww : Int)) H → tw ((wipe σ [si]).set si (some (.int (0 + (i : Int))))) H R)
    (elt : ∀ (i j : Nat) (r : List Int) (n : Int) (H : Hp) (R : VK), Same Hs H → L[i]? = some r → r[j]? = some n → R (.int n) H → te ((wipe ((wipe σ [si]).set si (some (.int (0 + (i : Int))))) [sj]).set sj (some (.int (0 + (j : Int))))) H R)
    (q : ∀ (D : Addr) (H' : Hp), Same Hs H' → Hs D = none → RowsL H' D L → Q (.ref D) H') :
    tLc (iRng1 (tCons th tNil)) (gName si) tYes (tLc (iRng1 (tCons tw tNil)) (gName sj) tYes te [sj]) [si] σ Hs Q := by
  refine hth _ ⟨(hh : Int), rfl, by omega, by omega, fun D hD => ?_⟩
  refine lc_it (walk_range (lo := 0)) (fun i H' => Same Hs H' ∧ ∃ us : List Addr, H' D = some (.lst (us.map V.ref)) ∧ Refs .lst H' us (L.take i) ∧ ∀ u ∈ us, u ≠ D) ⟨same_new hD, [], upd_same, Refs.nil, fun _ z => (by cases z)⟩ (fun _ _ _ _ => True.intro) ?_ ?_
  · rintro i u H1 H2 hi ⟨s1, us, hacc, hus, hne⟩ ⟨rfl, rfl⟩
    have hi' : i < L.length := by omega
    have em : L[i]? = some L[i] := List.getElem?_eq_getElem hi'
    have lr : (L[i]).length = ww := hw _ (List.getElem_mem hi')
    refine ⟨wipe_set _ _ _, lc_yes ?_⟩
    refine htw i _ _ ⟨(ww : Int), rfl, by omega, by omega, fun D2 hD2 => ?_⟩
    have nD2 : D2 ≠ D := fun z => by
      rw [z, hacc] at hD2
      cases hD2
    refine lc_it (walk_range (lo := 0)) (fun j H' => Same H2 H' ∧ H' D2 = some (.lst (vI ((L[i]).take j)))) ⟨same_new hD2, upd_same⟩ (fun _ _ _ _ => True.intro) ?_ ?_
    · rintro j v H3 H4 hj ⟨s3, hac2⟩ ⟨rfl, rfl⟩
      have hj' : j < (L[i]).length := by omega
      have e2 : (L[i])[j]? = some (L[i])[j] := List.getElem?_eq_getElem hj'
      refine ⟨wipe_set _ _ _, lc_yes (elt i j _ _ _ _ (s1.trans s3) em e2 ⟨_, hac2, ?_, ?_, ?_⟩)⟩
      · rw [List.length_map]
        refine line_lt ?_
        have : ((L[i]).take j).length ≤ j := List.length_take_le _ _
        omega
      · intro c o e
        rw [upd_ne (ne_of_none e hD2)]
        exact s3 _ _ e
      · rw [upd_same]
        refine congrArg (fun l => some (HO.lst l)) ?_
        show _ = ((L[i]).take (j + 1)).map V.int
        rw [take_succ e2, List.map_append]
        rfl
    · rintro H3 ⟨s3, hac2⟩
      have full : (L[i]).take ((ww : Int)).toNat = L[i] := by
        rw [List.take_of_length_le]
        omega
      rw [full] at hac2
      exact lsts_snoc hD s1 hacc hus hne em (by omega) s3 nD2 hac2
  · rintro H1 ⟨s1, us, hus, hrefs, _⟩
    have el : L.take ((hh : Int)).toNat = L := by
      rw [List.take_of_length_le]
      omega
    rw [el] at hrefs
    exact q D H1 s1 hD ⟨us, hus, hrefs⟩
/-- the same, kept by a name -/
theorem rd_gridS {k : Nat} {rest : TS} {E : Ends} {Hs : Hp} {σ : L2.St} {si sj hh ww : Nat} {te tw th : TE} {L : List (List Int)} (hL : L.length = hh) (hw : ∀ r ∈ L, r.length = ww) (b1 : hh ≤ 900) (b2 : ww ≤ 900) (hth : ∀ R : VK, R (.int (hh : Int)) Hs → th σ Hs R)
    (htw : ∀ (i : Nat) (H : Hp) (R : VK), R (.int (ww : Int)) H → tw ((wipe σ [si]).set si (some (.int (0 + (i : Int))))) H R)
    (elt : ∀ (i j : Nat) (r : List Int) (n : Int) (H : Hp) (R : VK), Same Hs H → L[i]? = some r → r[j]? = some n → R (.int n) H → te ((wipe ((wipe σ [si]).set si (some (.int (0 + (i : Int))))) [sj]).set sj (some (.int (0 + (j : Int))))) H R)
    (q : ∀ (D : Addr) (H' : Hp), Same Hs H' → Hs D = none → RowsL H' D L → rest E (σ.set k (some (.ref D))) H') :
    tSeq (tAsg (tLc (iRng1 (tCons th tNil)) (gName si) tYes (tLc (iRng1 (tCons tw tNil)) (gName sj) tYes te [sj]) [si]) (gName k)) rest E σ Hs := by
  unfold tSeq tAsg
  exact rd_grid hL hw b1 b2 hth htw elt fun D H' s n r => q D H' s n r
/-- rows[i][j] -/
theorem rd_ij {σ : L2.St} {H : Hp} {Q : VK} {sF si sj : Nat} {F : Addr} {rows : List (List Int)} {i j : Nat} {r : List Int} {n : Int} (h1 : σ[sF]? = some (some (.ref F))) (h2 : σ[si]? = some (some (.int (0 + (i : Int))))) (h3 : σ[sj]? = some (some (.int (0 + (j : Int)))))
    (R : RowsL H F rows) (e1 : rows[i]? = some r) (e2 : r[j]? = some n) (q : Q (.int n) H) : tOp (rIxL K) (tOp (rIxL K) (tVar sF) (tVar si)) (tVar sj) σ H Q := by
  obtain ⟨ts, hF, hl, hr⟩ := R
  have li : i < ts.length := by
    rw [hl]
    exact (List.getElem?_eq_some_iff.mp e1).1
  have et : ts[i]? = some ts[i] := List.getElem?_eq_getElem li
  have ht := hr i _ r et e1
  have a1 : atI (ts.map V.ref) (i : Int) = some (V.ref ts[i]) := atI_nat (by rw [List.getElem?_map, et]; rfl)
  have a2 : atI (vI r) (j : Int) = some (V.int n) := atI_nat (by rw [List.getElem?_map, e2]; rfl)
  rw [← Int.zero_add (i : Int)] at a1
  rw [← Int.zero_add (j : Int)] at a2
  exact ⟨_, h1, _, h2, F, _, _, _, rfl, rfl, SqL.of hF, a1, _, h3, ts[i], _, _, _, rfl, rfl, SqL.of ht, a2, q⟩
/-- two lists of lists behind one another -/
theorem RowsL.cat {H : Hp} {x y z : Addr} {L M : List (List Int)} {us vs : List Addr} (hu : Refs .lst H us L) (hv : Refs .lst H vs M) (hz : H z = some (.lst (us.map V.ref ++ vs.map V.ref))) : RowsL H z (L ++ M) := by
  refine ⟨us ++ vs, by rw [hz]; simp, by rw [List.length_append, List.length_append, hu.1, hv.1], fun i t r e1 e2 => ?_⟩
  by_cases hi : i < us.length
  · rw [List.getElem?_append_left hi] at e1
    rw [List.getElem?_append_left (by rw [← hu.1]; exact hi)] at e2
    exact hu.2 i t r e1 e2
  · rw [List.getElem?_append_right (by omega)] at e1
    rw [List.getElem?_append_right (by rw [← hu.1]; omega), ← hu.1] at e2
    exact hv.2 _ t r e1 e2
end
section
variable {P : Program} {w : World} {K : PySem.W.Frag} {mg : Str → Option Value} {base : Heap}
/-! ### [[0] * w] * h -/
theorem cons_in {ta : TE} {tr : TA} {σ : L2.St} {H : Hp} {Q : List V → Hp → Prop} (h : ta σ H fun x H1 => tr σ H1 fun xs H2 => Q (x :: xs) H2) : tCons ta tr σ H Q := h
/-- [[0] * w] * h -/
theorem rd_zeros {Hs : Hp} {σ : L2.St} {w' h' : Int} {ww hh : Nat} {tw th : TE} {Q : VK} (ew : w' = (ww : Int)) (eh : h' = (hh : Int)) (b1 : ww ≤ 900) (b2 : hh ≤ 900)
    (hw : ∀ (H : Hp) (R : VK), R (.int w') H → tw σ H R) (hth : ∀ (H : Hp) (R : VK), R (.int h') H → th σ H R)
    (q : ∀ (l : Addr) (H' : Hp), Same Hs H' → RowsL H' l (List.replicate hh (List.replicate ww 0)) → Q (.ref l) H') :
    tOp rRep (tLst (tCons (tOp rRep (tLst (tCons (tC (.int 0)) tNil)) tw) tNil)) th σ Hs Q := by
  subst ew eh
  refine ⟨(by show 1 ≤ sizeLine; decide), fun l1 hl1 => hw _ _ ⟨l1, _, _, rfl, rfl, upd_same, by omega, by omega, line_of (by show 1 * (ww : Int).toNat ≤ 16777216; omega), fun l2 hl2 => ?_⟩⟩
  rw [zeros_eq]
  refine ⟨(by show 1 ≤ sizeLine; decide), fun l3 hl3 => hth _ _ ⟨l3, _, _, rfl, rfl, upd_same, by omega, by omega, line_of (by show 1 * (hh : Int).toNat ≤ 16777216; omega), fun l4 hl4 => ?_⟩⟩
  have e4 : (List.replicate (hh : Int).toNat [V.ref l2]).flatten = (List.replicate hh l2).map V.ref := by
    rw [rep_one]
    show List.replicate hh (V.ref l2) = _
    rw [List.map_replicate]
  rw [e4]
  have s1 := same_new (o := .lst [.int 0]) hl1
  have s2 := same_new (o := .lst (vI (List.replicate (ww : Int).toNat 0))) hl2
  have s3 := same_new (o := .lst [.ref l2]) hl3
  have s4 := same_new (o := .lst ((List.replicate hh l2).map V.ref)) hl4
  refine q l4 _ (s1.trans (s2.trans (s3.trans s4))) ⟨List.replicate hh l2, upd_same, by simp, fun i t r h1 h2 => ?_⟩
  have i1 := List.mem_of_getElem? h1
  have i2 := List.mem_of_getElem? h2
  rw [List.mem_replicate] at i1 i2
  rw [i1.2, i2.2]
  exact s4 _ _ (s3 _ _ upd_same)
theorem len_zeros {hh ww : Nat} : ∀ r ∈ List.replicate hh (List.replicate ww (0 : Int)), r.length = ww := fun r hr => by
  rw [(List.mem_replicate.mp hr).2]
  simp
theorem good_zeros {p : Int} (hp : p ∈ primes) (hh ww : Nat) : good p (ww : Int) (List.replicate hh (List.replicate ww 0)) := by
  refine good_of hp (by omega) fun r hr => ⟨by rw [len_zeros r hr], fun e he => ?_⟩
  have ho2 := primes_bd p hp
  rw [(List.mem_replicate.mp hr).2] at he
  rw [(List.mem_replicate.mp he).2]
  omega
end
section
variable {P : Program} {w : World} {K : PySem.W.Frag} {mg : Str → Option Value} {base : Heap}
/-! ### the law of sums and blocks -/
variable {a : Nat → Addr} {d : Nat → FuncData}
structure All4 (C F S xl xr : Addr) (hh ww : Nat) (p : Int) (rows1 rows2 : List (List Int)) (H : Hp) : Prop where
  hF : RowsL H F rows1
  hS : RowsL H S rows2
  hl : MG C H xl p (ww : Int) rows1
  hr : MG C H xr p (ww : Int) rows2
theorem All4.same {C F S xl xr : Addr} {hh ww : Nat} {p : Int} {rows1 rows2 : List (List Int)} {H H' : Hp} (s : Same H H') (h : All4 C F S xl xr hh ww p rows1 rows2 H) : All4 C F S xl xr hh ww p rows1 rows2 H' := ⟨h.hF.same s, h.hS.same s, h.hl.same s, h.hr.same s⟩
theorem All4.keep {C F S xl xr : Addr} {hh ww : Nat} {p : Int} {rows1 rows2 : List (List Int)} {H H' : Hp} {dd rr : Addr} {c : Nat} (D : Dr H dd rr c) (k : KeepBut dd H H') (h : All4 C F S xl xr hh ww p rows1 rows2 H) : All4 C F S xl xr hh ww p rows1 rows2 H' :=
  ⟨h.hF.keep D k, h.hS.keep D k, h.hl.keep D k, h.hr.keep D k⟩
theorem plus_at {p f : Int} {rows rows' : List (List Int)} {i j : Nat} {r : List Int} {n : Int} (h1 : (plusRows p f rows rows')[i]? = some r) (h2 : r[j]? = some n) : ∃ (r1 r2 : List Int) (x y : Int), rows[i]? = some r1 ∧ rows'[i]? = some r2 ∧ r1[j]? = some x ∧ r2[j]? = some y ∧ n = (x + f * y) % p := by
  unfold plusRows at h1
  rw [List.getElem?_zipWith] at h1
  cases e1 : rows[i]? with
  | none => rw [e1] at h1; simp at h1
  | some r1 =>
    cases e2 : rows'[i]? with
    | none => rw [e1, e2] at h1; simp at h1
    | some r2 =>
      rw [e1, e2] at h1
      have q := Option.some.inj h1
      subst q
      unfold plusR at h2
      rw [List.getElem?_zipWith] at h2
      cases e3 : r1[j]? with
      | none => rw [e3] at h2; simp at h2
      | some x =>
        cases e4 : r2[j]? with
        | none => rw [e3, e4] at h2; simp at h2
        | some y =>
          rw [e3, e4] at h2
          exact ⟨r1, r2, x, y, rfl, rfl, e3, e4, (Option.some.inj h2).symm⟩
theorem scale_at {p f : Int} {rows : List (List Int)} {i j : Nat} {r : List Int} {n : Int} (h1 : (scaleRows p f rows)[i]? = some r) (h2 : r[j]? = some n) : ∃ (r1 : List Int) (x : Int), rows[i]? = some r1 ∧ r1[j]? = some x ∧ n = f * x % p := by
  unfold scaleRows at h1
  rw [List.getElem?_map] at h1
  cases e1 : rows[i]? with
  | none => rw [e1] at h1; simp at h1
  | some r1 =>
    rw [e1] at h1
    have q := Option.some.inj h1
    subst q
    unfold scaleR at h2
    rw [List.getElem?_map] at h2
    cases e3 : r1[j]? with
    | none => rw [e3] at h2; simp at h2
    | some x =>
      rw [e3] at h2
      exact ⟨r1, x, rfl, e3, (Option.some.inj h2).symm⟩
def spLaw (K : PySem.W.Frag) : Sp := fun vs H Q _ => ∃ (a : Addr) (ns : List Int), vs = [.ref a] ∧ SqL K H a (vI ns) ∧ ∀ H', Q (.bl true) H'
abbrev nLaw : List Str := ["script", "draws", "base", "height", "width", "first", "second", "others", "factor", "left", "right", "due", "j", "i", "more", "third", "row", "other", "moved", "strange"]
theorem re_state {A B : TS} {D : Ends} {σ σ' : L2.St} {H : Hp} (e : σ = σ') (h : tSeq A B D σ' H) : tSeq A B D σ H := e ▸ h
theorem st_law (v0 v1 v2 v3 v4 v5 v6 v7 v8 v9 v10 : V) : (List.set (List.set (List.set (List.set (List.set (List.set (List.set (List.set (List.set (List.set (L2.start nLaw [v0]) 1 (some v1)) 2 (some v2)) 3 (some v3)) 4 (some v4)) 5 (some v5)) 6 (some v6)) 7 (some v7)) 8 (some v8)) 9 (some v9)) 10 (some v10)) = [some v0, some v1, some v2, some v3, some v4, some v5, some v6, some v7, some v8, some v9, some v10, none, none, none, none, none, none, none, none, none] := rfl
theorem st_law2 (v0 v1 v2 v3 v4 v5 v6 v7 v8 v9 v10 u0 u1 u2 u3 u4 u5 u6 u7 : V) : (List.set (List.set (List.set (List.set (List.set (List.set (List.set (List.set [some v0, some v1, some v2, some v3, some v4, some v5, some v6, some v7, some v8, some v9, some v10, none, none, none, none, none, none, none, none, none] 11 (some u0)) 11 (some u1)) 11 (some u2)) 14 (some u3)) 15 (some u4)) 11 (some u5)) 17 (some u6)) 18 (some u7)) = [some v0, some v1, some v2, some v3, some v4, some v5, some v6, some v7, some v8, some v9, some v10, some u5, none, none, some u3, some u4, none, some u6, some u7, none] := rfl
/-- a matrix that does not fit -/
def Odd (C : Addr) (H : Hp) (p : Int) (ww hh : Nat) (v : V) : Prop := ∃ (y : Addr) (p' : Int) (w2 : Nat) (rows' : List (List Int)), v = .ref y ∧ MG C H y p' (w2 : Int) rows' ∧ ¬ (p = p' ∧ (ww : Int) = (w2 : Int) ∧ hh = rows'.length)
theorem Odd.same {C : Addr} {H H' : Hp} {p : Int} {ww hh : Nat} {v : V} (s : Same H H') (h : Odd C H p ww hh v) : Odd C H' p ww hh v := by
  obtain ⟨y, p', w2, rows', e, m, no⟩ := h
  exact ⟨y, p', w2, rows', e, m.same s, no⟩
theorem sc_law : FnScope nLaw ["script"] (defScope s_law) := ⟨rfl, rfl, rfl, by decide +kernel, rfl, by decide +kernel, by decide +kernel⟩
theorem ok_law (T : TX K mg a d) : FnOk P w K mg base CX0 7 (a i_law) (d i_law) ["script"] (spLaw K) := by
  have B := T.B
  have G_law_cell := ok_cell (P := P) (w := w) (base := base) T.F_law_cell B
  have G_law_draws := ok_draws (P := P) (w := w) (base := base) T.F_law_draws B
  have G_law_next := ok_next (P := P) (w := w) (base := base) T.F_law_next B
  have G_law_prime := ok_prime (P := P) (w := w) (base := base) T.F_law_prime B T.F_law_next T.g_law_next T.b_law_next T.F_law_is_prime T.g_law_is_prime T.b_law_is_prime
  have G_law_drawn := ok_law_drawn (P := P) (w := w) (base := base) T.F_law_drawn B T.F_law_next T.g_law_next T.b_law_next
  have G_law_is_matrix := ok_ismat (P := P) (w := w) (base := base) T
  have G_law_fails := ok_fails (P := P) (w := w) (base := base) T
  have G_Matrix_init := ok_init (P := P) (w := w) (base := base) T
  have G_Matrix_add := ok_add (P := P) (w := w) (base := base) T
  have G_Matrix_sub := ok_sub (P := P) (w := w) (base := base) T
  have G_Matrix_scaled := ok_scaled (P := P) (w := w) (base := base) T
  have G_block := ok_block (P := P) (w := w) (base := base) T
  refine T.F_law.ok sc_law (fun vs H Q E h => ?_) (fun cdv A outer s H vs Q E hr h => ?_)
  · obtain ⟨a, ns, rfl, _⟩ := h
    rfl
  · obtain ⟨sa, ns, rfl, hS, q⟩ := h
    refine ⟨_, pss_cons (ps_set (i := 1) sc_law.nd rfl (Or.inl rfl) (pe_call G_law_draws (hr.mono (by decide)) rfl T.g_law_draws T.F_law_draws.kp T.b_law_draws .nil pass0 (pa_cons (pe_call G_law_cell (hr.mono (by decide)) rfl T.g_law_cell T.F_law_cell.kp T.b_law_cell .nil pass0 (pa_cons (pv 0) (pa_cons pe_int pa_nil))) pa_nil)))
      (pss_cons (ps_set (i := 2) sc_law.nd rfl (Or.inr rfl) (pe_call G_law_prime (hr.mono (by decide)) rfl T.g_law_prime T.F_law_prime.kp T.b_law_prime .nil pass0 (pa_cons (pv 1) pa_nil)))
      (pss_cons (ps_set (i := 3) sc_law.nd rfl (Or.inl rfl) (pe_call G_law_next (hr.mono (by decide)) rfl T.g_law_next T.F_law_next.kp T.b_law_next .nil pass0 (pa_cons (pv 1) (pa_cons pe_int pa_nil))))
      (pss_cons (ps_set (i := 4) sc_law.nd rfl (Or.inr rfl) (pe_call G_law_next (hr.mono (by decide)) rfl T.g_law_next T.F_law_next.kp T.b_law_next .nil pass0 (pa_cons (pv 1) (pa_cons pe_int pa_nil))))
      (pss_cons (ps_set (i := 5) sc_law.nd rfl (Or.inr rfl) (pe_call G_law_drawn (hr.mono (by decide)) rfl T.g_law_drawn T.F_law_drawn.kp T.b_law_drawn .nil pass0 (pa_cons (pv 1) (pa_cons (pv 2) (pa_cons (pv 3) (pa_cons (pv 4) pa_nil))))))
      (pss_cons (ps_set (i := 6) sc_law.nd rfl (Or.inr rfl) (pe_call G_law_drawn (hr.mono (by decide)) rfl T.g_law_drawn T.F_law_drawn.kp T.b_law_drawn .nil pass0 (pa_cons (pe_call G_law_draws (hr.mono (by decide)) rfl T.g_law_draws T.F_law_draws.kp T.b_law_draws .nil pass0 (pa_cons (pe_call G_law_cell (hr.mono (by decide)) rfl T.g_law_cell T.F_law_cell.kp T.b_law_cell .nil pass0 (pa_cons (pv 0) (pa_cons pe_int pa_nil))) pa_nil)) (pa_cons (pv 2) (pa_cons (pv 3) (pa_cons (pv 4) pa_nil))))))
      (pss_cons (ps_set (i := 7) sc_law.nd rfl (Or.inl rfl) (pe_call G_law_draws (hr.mono (by decide)) rfl T.g_law_draws T.F_law_draws.kp T.b_law_draws .nil pass0 (pa_cons (pe_call G_law_cell (hr.mono (by decide)) rfl T.g_law_cell T.F_law_cell.kp T.b_law_cell .nil pass0 (pa_cons (pv 0) (pa_cons pe_int pa_nil))) pa_nil)))
      (pss_cons (ps_set (i := 8) sc_law.nd rfl (Or.inr rfl) (pe_op op_sub (pe_call G_law_next (hr.mono (by decide)) rfl T.g_law_next T.F_law_next.kp T.b_law_next .nil pass0 (pa_cons (pv 7) (pa_cons pe_int pa_nil))) pe_int))
      (pss_cons (ps_set (i := 9) sc_law.nd rfl (Or.inl rfl) (pe_make T.mk_Matrix G_Matrix_init (hr.mono (by decide)) rfl T.g_Matrix T.b_Matrix_init .nil passL (pa_cons (pv 2) (pa_cons (pv 4) (pa_cons (pv 5) pa_nil)))))
      (pss_cons (ps_set (i := 10) sc_law.nd rfl (Or.inl rfl) (pe_make T.mk_Matrix G_Matrix_init (hr.mono (by decide)) rfl T.g_Matrix T.b_Matrix_init .nil passL (pa_cons (pv 2) (pa_cons (pv 4) (pa_cons (pv 6) pa_nil)))))
      (pss_cons (ps_setLc (i := 11) (own := [("i", 13)]) (g := gName 13) (tt := tYes) rfl sc_law.nd rfl rfl (sw_true rfl rfl rfl (by decide +kernel)) (pi_range1 (by rfl) B.range (pa_cons (pv 3) pa_nil)) (blkOk_by (N := nLaw) (sc := (defScope s_law)) (by decide +kernel)) (fun _ _ _ _ _ => (pg_name (i := 13) sc_law.nd rfl (Or.inr rfl))) (fun _ _ _ _ _ => pts_nil) (fun _ _ _ _ _ => (pe_lc (own := [("j", 12)]) (g := gName 12) (tt := tYes) rfl sc_law.nd (pi_range1 (by rfl) B.range (pa_cons (pv 4) pa_nil)) (blkOk_by (N := nLaw) (sc := (relSc s_law (asgLc s_law 10))) (by decide +kernel)) (fun _ _ _ _ _ => (pg_name (i := 12) sc_law.nd rfl (Or.inl rfl))) (fun _ _ _ _ _ => pts_nil) (fun _ _ _ _ _ => (pe_op op_mod (pe_op op_add (pe_ix (ix_listK (K := K) rfl) (pe_ix (ix_listK (K := K) rfl) (pv 5) (pv 13) (fun _ _ => rfl)) (pv 12) (fun _ _ => rfl)) (pe_ix (ix_listK (K := K) rfl) (pe_ix (ix_listK (K := K) rfl) (pv 6) (pv 13) (fun _ _ => rfl)) (pv 12) (fun _ _ => rfl))) (pv 2))))))
      (pss_cons (ps_if (pt_not (pt_val (pe_call G_law_is_matrix (hr.mono (by decide)) rfl T.g_law_is_matrix T.F_law_is_matrix.kp T.b_law_is_matrix .nil pass0 (pa_cons (pe_ownX (E := fun _ => E0) T.m_Matrix_add.at_ T.m_Matrix_add.fn T.cc_Matrix.sf G_Matrix_add (hr.mono (by decide)) T.b_Matrix_add (fun _ => passZ) (pv 9) (pv 10)) (pa_cons (pv 2) (pa_cons (pv 4) (pa_cons (pv 11) pa_nil))))))) (pss_one (ps_ret pe_bl)) pss_nil)
      (pss_cons (ps_setLc (i := 11) (own := [("i", 13)]) (g := gName 13) (tt := tYes) rfl sc_law.nd rfl rfl (sw_true rfl rfl rfl (by decide +kernel)) (pi_range1 (by rfl) B.range (pa_cons (pv 3) pa_nil)) (blkOk_by (N := nLaw) (sc := (defScope s_law)) (by decide +kernel)) (fun _ _ _ _ _ => (pg_name (i := 13) sc_law.nd rfl (Or.inr rfl))) (fun _ _ _ _ _ => pts_nil) (fun _ _ _ _ _ => (pe_lc (own := [("j", 12)]) (g := gName 12) (tt := tYes) rfl sc_law.nd (pi_range1 (by rfl) B.range (pa_cons (pv 4) pa_nil)) (blkOk_by (N := nLaw) (sc := (relSc s_law (asgLc s_law 12))) (by decide +kernel)) (fun _ _ _ _ _ => (pg_name (i := 12) sc_law.nd rfl (Or.inl rfl))) (fun _ _ _ _ _ => pts_nil) (fun _ _ _ _ _ => (pe_op op_mod (pe_callTy call_int1 (by rfl) B.int (by decide +kernel) (pa_cons (pe_op op_sub (pe_ix (ix_listK (K := K) rfl) (pe_ix (ix_listK (K := K) rfl) (pv 5) (pv 13) (fun _ _ => rfl)) (pv 12) (fun _ _ => rfl)) (pe_ix (ix_listK (K := K) rfl) (pe_ix (ix_listK (K := K) rfl) (pv 6) (pv 13) (fun _ _ => rfl)) (pv 12) (fun _ _ => rfl))) pa_nil)) (pv 2))))))
      (pss_cons (ps_if (pt_not (pt_val (pe_call G_law_is_matrix (hr.mono (by decide)) rfl T.g_law_is_matrix T.F_law_is_matrix.kp T.b_law_is_matrix .nil pass0 (pa_cons (pe_ownX (E := fun _ => E0) T.m_Matrix_sub.at_ T.m_Matrix_sub.fn T.cc_Matrix.sf G_Matrix_sub (hr.mono (by decide)) T.b_Matrix_sub (fun _ => passZ) (pv 9) (pv 10)) (pa_cons (pv 2) (pa_cons (pv 4) (pa_cons (pv 11) pa_nil))))))) (pss_one (ps_ret pe_bl)) pss_nil)
      (pss_cons (ps_setLc (i := 11) (own := [("i", 13)]) (g := gName 13) (tt := tYes) rfl sc_law.nd rfl rfl (sw_true rfl rfl rfl (by decide +kernel)) (pi_range1 (by rfl) B.range (pa_cons (pv 3) pa_nil)) (blkOk_by (N := nLaw) (sc := (defScope s_law)) (by decide +kernel)) (fun _ _ _ _ _ => (pg_name (i := 13) sc_law.nd rfl (Or.inr rfl))) (fun _ _ _ _ _ => pts_nil) (fun _ _ _ _ _ => (pe_lc (own := [("j", 12)]) (g := gName 12) (tt := tYes) rfl sc_law.nd (pi_range1 (by rfl) B.range (pa_cons (pv 4) pa_nil)) (blkOk_by (N := nLaw) (sc := (relSc s_law (asgLc s_law 14))) (by decide +kernel)) (fun _ _ _ _ _ => (pg_name (i := 12) sc_law.nd rfl (Or.inl rfl))) (fun _ _ _ _ _ => pts_nil) (fun _ _ _ _ _ => (pe_op op_mod (pe_callTy call_int1 (by rfl) B.int (by decide +kernel) (pa_cons (pe_op op_mul (pe_ix (ix_listK (K := K) rfl) (pe_ix (ix_listK (K := K) rfl) (pv 5) (pv 13) (fun _ _ => rfl)) (pv 12) (fun _ _ => rfl)) (pv 8)) pa_nil)) (pv 2))))))
      (pss_cons (ps_if (pt_not (pt_val (pe_call G_law_is_matrix (hr.mono (by decide)) rfl T.g_law_is_matrix T.F_law_is_matrix.kp T.b_law_is_matrix .nil pass0 (pa_cons (pe_meth (pv 9) T.c_Matrix T.m_Matrix_scaled G_Matrix_scaled (hr.mono (by decide)) T.b_Matrix_scaled .nil pass0 (pa_cons (pv 8) pa_nil)) (pa_cons (pv 2) (pa_cons (pv 4) (pa_cons (pv 11) pa_nil))))))) (pss_one (ps_ret pe_bl)) pss_nil)
      (pss_cons (ps_set (i := 14) sc_law.nd rfl (Or.inr rfl) (pe_call G_law_next (hr.mono (by decide)) rfl T.g_law_next T.F_law_next.kp T.b_law_next .nil pass0 (pa_cons (pv 7) (pa_cons pe_int pa_nil))))
      (pss_cons (ps_set (i := 15) sc_law.nd rfl (Or.inl rfl) (pe_call G_law_drawn (hr.mono (by decide)) rfl T.g_law_drawn T.F_law_drawn.kp T.b_law_drawn .nil pass0 (pa_cons (pv 7) (pa_cons (pv 2) (pa_cons (pe_call G_law_next (hr.mono (by decide)) rfl T.g_law_next T.F_law_next.kp T.b_law_next .nil pass0 (pa_cons (pv 7) (pa_cons pe_int pa_nil))) (pa_cons (pv 14) pa_nil))))))
      (pss_cons (ps_set (i := 11) sc_law.nd rfl (Or.inl rfl) (pe_op op_cat (pe_lc (own := [("row", 16)]) (g := gName 16) (tt := tYes) rfl sc_law.nd (pi_list (pv 5)) (blkOk_by (N := nLaw) (sc := (defScope s_law)) (by decide +kernel)) (fun _ _ _ _ _ => (pg_name (i := 16) sc_law.nd rfl (Or.inl rfl))) (fun _ _ _ _ _ => pts_nil) (fun _ _ _ _ _ => (pe_op op_cat (pv 16) (pe_op op_rep (pe_lst (pa_cons pe_int pa_nil)) (pv 14))))) (pe_lc (own := [("row", 16)]) (g := gName 16) (tt := tYes) rfl sc_law.nd (pi_list (pv 15)) (blkOk_by (N := nLaw) (sc := (defScope s_law)) (by decide +kernel)) (fun _ _ _ _ _ => (pg_name (i := 16) sc_law.nd rfl (Or.inl rfl))) (fun _ _ _ _ _ => pts_nil) (fun _ _ _ _ _ => (pe_op op_cat (pe_op op_rep (pe_lst (pa_cons pe_int pa_nil)) (pv 4)) (pv 16))))))
      (pss_cons (ps_if (pt_not (pt_val (pe_call G_law_is_matrix (hr.mono (by decide)) rfl T.g_law_is_matrix T.F_law_is_matrix.kp T.b_law_is_matrix .nil pass0 (pa_cons (pe_call G_block (hr.mono (by decide)) rfl T.g_block T.F_block.kp T.b_block .nil passL (pa_cons (pv 9) (pa_cons (pe_make T.mk_Matrix G_Matrix_init (hr.mono (by decide)) rfl T.g_Matrix T.b_Matrix_init .nil passL (pa_cons (pv 2) (pa_cons (pv 14) (pa_cons (pv 15) pa_nil)))) pa_nil))) (pa_cons (pv 2) (pa_cons (pe_op op_add (pv 4) (pv 14)) (pa_cons (pv 11) pa_nil))))))) (pss_one (ps_ret pe_bl)) pss_nil)
      (pss_cons (ps_set (i := 17) sc_law.nd rfl (Or.inl rfl) (pe_ix ix_list (pe_lst (pa_cons pe_int (pa_cons pe_int pa_nil))) (pe_callTy call_int1 (by rfl) B.int (by decide +kernel) (pa_cons (pe_cmpR op_eq (pv 2) pe_int (nomark _)) pa_nil)) (fun _ _ => rfl)))
      (pss_cons (ps_set (i := 18) sc_law.nd rfl (Or.inl rfl) (pe_make T.mk_Matrix G_Matrix_init (hr.mono (by decide)) rfl T.g_Matrix T.b_Matrix_init .nil passL (pa_cons (pv 17) (pa_cons (pv 4) (pa_cons (pe_op op_rep (pe_lst (pa_cons (pe_op op_rep (pe_lst (pa_cons pe_int pa_nil)) (pv 4)) pa_nil)) (pv 3)) pa_nil)))))
      (pss_cons (ps_for PassesOwn.never rfl (pi_list (pe_lst (pa_cons (pv 18) (pa_cons (pe_make T.mk_Matrix G_Matrix_init (hr.mono (by decide)) rfl T.g_Matrix T.b_Matrix_init .nil passL (pa_cons (pv 2) (pa_cons (pe_op op_add (pv 4) pe_int) (pa_cons (pe_op op_rep (pe_lst (pa_cons (pe_op op_rep (pe_lst (pa_cons pe_int pa_nil)) (pe_op op_add (pv 4) pe_int)) pa_nil)) (pv 3)) pa_nil)))) (pa_cons (pe_make T.mk_Matrix G_Matrix_init (hr.mono (by decide)) rfl T.g_Matrix T.b_Matrix_init .nil passL (pa_cons (pv 2) (pa_cons (pv 4) (pa_cons (pe_op op_cat (pv 5) (pe_lst (pa_cons (pe_op op_rep (pe_lst (pa_cons pe_int pa_nil)) (pv 4)) pa_nil))) pa_nil)))) pa_nil))))) (pg_name (i := 19) sc_law.nd rfl (Or.inl rfl))
      (pss_one (ps_if (PW.pt (pw_or (pt_not (pt_val (pe_call G_law_fails (hr.mono (by decide)) rfl T.g_law_fails T.F_law_fails.kp T.b_law_fails .nil pass0 (pa_cons pe_int (pa_cons (pv 9) (pa_cons (pv 19) pa_nil)))))) (pw_or1 (pt_not (pt_val (pe_call G_law_fails (hr.mono (by decide)) rfl T.g_law_fails T.F_law_fails.kp T.b_law_fails .nil pass0 (pa_cons pe_int (pa_cons (pv 9) (pa_cons (pv 19) pa_nil))))))))) (pss_one (ps_ret pe_bl)) pss_nil)))
      (pss_one (ps_ret (pe_and (pe_call G_law_fails (hr.mono (by decide)) rfl T.g_law_fails T.F_law_fails.kp T.b_law_fails .nil pass0 (pa_cons pe_int (pa_cons (pv 9) (pa_cons (pv 18) pa_nil)))) (pe_and (pe_call G_law_is_matrix (hr.mono (by decide)) rfl T.g_law_is_matrix T.F_law_is_matrix.kp T.b_law_is_matrix .nil pass0 (pa_cons (pv 9) (pa_cons (pv 2) (pa_cons (pv 4) (pa_cons (pv 5) pa_nil))))) (pe_one (pe_call G_law_is_matrix (hr.mono (by decide)) rfl T.g_law_is_matrix T.F_law_is_matrix.kp T.b_law_is_matrix .nil pass0 (pa_cons (pv 10) (pa_cons (pv 2) (pa_cons (pv 4) (pa_cons (pv 6) pa_nil)))))))))))))))))))))))))))))))), ?_⟩
    -- draws, base, height, width
    refine ⟨_, rfl, sa, ns, 0, rfl, hS, fun z => ⟨z, rfl, fun H1 dr rr s1 f1 D1 => ?_⟩⟩
    refine ⟨_, rfl, dr, rr, 0, rfl, D1, by omega, fun p H2 c2 hc2 hp k2 D2 => ?_⟩
    have hp2 := primes_bd p hp
    refine ⟨_, rfl, dr, rr, c2, 6, rfl, D2, by omega, by decide, fun n0 H3 b0 b0' k3 D3 => ?_⟩
    refine ⟨_, rfl, dr, rr, c2 + 1, 6, rfl, D3, by omega, by decide, fun n1 H4 b1 b1' k4 D4 => ?_⟩
    obtain ⟨hh, rfl⟩ : ∃ m : Nat, n0 = (m : Int) := ⟨n0.toNat, by omega⟩
    obtain ⟨ww, rfl⟩ : ∃ m : Nat, n1 = (m : Int) := ⟨n1.toNat, by omega⟩
    -- first
    refine ⟨_, rfl, _, rfl, _, rfl, _, rfl, dr, rr, c2 + 1 + 1, p, hh, ww, rfl, D4, by omega, by omega, by omega, by omega, fun H5 F rows1 c5 k5 fF hF5 lf1 gf1 D5 hc5 => ?_⟩
    have kk : ∀ b o, b ≠ dr → H b = some o → H5 b = some o := fun b o n e => k5 _ _ n (k4 _ _ n (k3 _ _ n (k2 _ _ n (s1 _ _ e))))
    have hS5 : SqL K H5 sa (vI ns) := by
      rcases hS with (h | ⟨o, h⟩) | h
      · exact .inl (.inl (kk _ _ (ne_of_none h f1) h))
      · exact .inl (.inr ⟨o, kk _ _ (ne_of_none h f1) h⟩)
      · exact .inr h
    -- second
    refine ⟨_, rfl, sa, ns, 1, rfl, hS5, fun z => ⟨z, rfl, fun H6 d2 r2 s6 f6 D6 => ?_⟩⟩
    refine ⟨_, rfl, _, rfl, _, rfl, d2, r2, 0, p, hh, ww, rfl, D6, by omega, by omega, by omega, by omega, fun H7 S rows2 c7 k7 fS hS7 lf2 gf2 D7 hc7 => ?_⟩
    have hF7 := (hF5.same s6).keep D6 k7
    have hSc7 : SqL K H7 sa (vI ns) := by
      have h6 := s6.seq hS5
      rcases hS5 with (h | ⟨o, h⟩) | h
      · exact .inl (.inl (k7 _ _ (ne_of_none h f6) (s6 _ _ h)))
      · exact .inl (.inr ⟨o, k7 _ _ (ne_of_none h f6) (s6 _ _ h)⟩)
      · exact .inr h
    -- others, factor
    refine ⟨_, rfl, sa, ns, 2, rfl, hSc7, fun z => ⟨z, rfl, fun H8 d3 r3 s8 f8 D8 => ?_⟩⟩
    refine ⟨_, rfl, d3, r3, 0, 401, rfl, D8, by omega, by decide, fun fc H9 fc0 fc1 k9 D9 => ⟨_, _, rfl, rfl, ?_⟩⟩
    have hF9 := (hF7.same s8).keep D8 k9
    have hS9 := (hS7.same s8).keep D8 k9
    have g1 : good p (ww : Int) rows1 := good_of hp (by omega) gf1
    have g2 : good p (ww : Int) rows2 := good_of hp (by omega) gf2
    refine ⟨_, rfl, _, rfl, _, rfl, rd_make hF9 (by omega) (fun r hr => by have := (gf1 r hr).1; omega) g1 fun xl H10 s10 _ Ml => ⟨rfl, ?_⟩⟩
    refine ⟨_, rfl, _, rfl, _, rfl, rd_make (hS9.same s10) (by omega) (fun r hr => by have := (gf2 r hr).1; omega) g2 fun xr H11 s11 _ Mr => ⟨rfl, ?_⟩⟩
    have A11 : All4 (a i_Matrix) F S xl xr hh ww p rows1 rows2 H11 := ⟨(hF9.same s10).same s11, (hS9.same s10).same s11, ⟨Ml.same s11, g1, by omega, by omega⟩, ⟨Mr, g2, by omega, by omega⟩⟩
    have D11 := (D9.same s10).same s11
    clear hS hS5 hSc7 hF5 hF7 hF9 hS7 hS9 Ml Mr D1 D2 D3 D4 D5 D6 D7 D8 D9 k2 k3 k4 k5 k7 k9 s1 s6 s8 s10 s11 kk
    have lr1 : ∀ r ∈ rows1, r.length = ww := fun r hr => by have := (gf1 r hr).1; omega
    have lr2 : ∀ r ∈ rows2, r.length = ww := fun r hr => by have := (gf2 r hr).1; omega
    have lp : ∀ f : Int, (plusRows p f rows1 rows2).length = hh := fun f => by rw [len_plus p f (by omega)]; exact lf1
    have lpr : ∀ f : Int, ∀ r ∈ plusRows p f rows1 rows2, r.length = ww := fun f r hr => by have := (good_row (good_plus (f := f) g1 g2) hr).1; omega
    -- the sums
    refine asg_next (re_state (st_law _ _ _ _ _ _ _ _ _ _ _) ?_)
    refine rd_gridS (L := plusRows p 1 rows1 rows2) (lp 1) (lpr 1) (by omega) (by omega) (fun R r => ⟨_, rfl, r⟩) (fun i H R r => ⟨_, rfl, r⟩) (fun i j r n Hg R sg e1 e2 q1 => ?_) fun Du H12 s12 _ hDu => ?_
    · obtain ⟨ra, rb, x, y, ha, hb, hx, hy, rfl⟩ := plus_at e1 e2
      rw [Int.one_mul] at q1
      exact op_in (op_in (rd_ij rfl rfl rfl (A11.hF.same sg) ha hx (rd_ij rfl rfl rfl (A11.hS.same sg) hb hy ⟨_, _, rfl, rfl, _, rfl, _, _, rfl, rfl, by omega, q1⟩)))
    have A12 := A11.same s12
    obtain ⟨dxl, Tl, hxl, _⟩ := id A12.hl.1
    obtain ⟨dxr, Tr, hxr, _⟩ := id A12.hr.1
    refine ⟨_, rfl, _, rfl, xl, xr, dxl, dxr, _, _, rfl, rfl, hxl, hxr, xl, xr, p, _, p, _, rows1, rows2, rfl, A12.hl, A12.hr, fun _ H13 z s13 _ Mz => ?_, fun no => absurd ⟨rfl, rfl, by omega⟩ no⟩
    refine ⟨_, rfl, _, rfl, _, rfl, z, Du, p, _, _, rfl, Mz.1, hDu.same s13, by rw [lp]; omega, fun r hr => by have := lpr 1 r hr; omega, fun H14 s14 => ⟨_, rfl, iteF ?_⟩⟩
    have s24 := s12.trans (s13.trans s14)
    have A14 := A11.same s24
    have D14 := D11.same s24
    clear hDu Mz A12 hxl hxr
    -- the differences
    refine next_next ?_
    refine rd_gridS (L := plusRows p (-1) rows1 rows2) (lp (-1)) (lpr (-1)) (by omega) (by omega) (fun R r => ⟨_, rfl, r⟩) (fun i H R r => ⟨_, rfl, r⟩) (fun i j r n Hg R sg e1 e2 q1 => ?_) fun Du2 H15 s15 _ hDu2 => ?_
    · obtain ⟨ra, rb, x, y, ha, hb, hx, hy, rfl⟩ := plus_at e1 e2
      have ex : x + -1 * y = x - y := by omega
      rw [ex] at q1
      exact op_in (cb1_in (op_in (rd_ij rfl rfl rfl (A14.hF.same sg) ha hx (rd_ij rfl rfl rfl (A14.hS.same sg) hb hy ⟨_, _, rfl, rfl, .inl ⟨_, rfl, _, rfl, _, _, rfl, rfl, by omega, q1⟩⟩))))
    have A15 := A14.same s15
    obtain ⟨dxl, Tl, hxl, _⟩ := id A15.hl.1
    obtain ⟨dxr, Tr, hxr, _⟩ := id A15.hr.1
    refine ⟨_, rfl, _, rfl, xl, xr, dxl, dxr, _, _, rfl, rfl, hxl, hxr, xl, xr, p, _, p, _, rows1, rows2, rfl, A15.hl, A15.hr, fun _ H16 z s16 _ Mz => ?_, fun no => absurd ⟨rfl, rfl, by omega⟩ no⟩
    refine ⟨_, rfl, _, rfl, _, rfl, z, Du2, p, _, _, rfl, Mz.1, hDu2.same s16, by rw [lp]; omega, fun r hr => by have := lpr (-1) r hr; omega, fun H17 s17 => ⟨_, rfl, iteF ?_⟩⟩
    have s47 := s15.trans (s16.trans s17)
    have A17 := A14.same s47
    have D17 := D14.same s47
    clear hDu2 Mz A15 hxl hxr
    -- the multiples
    have lsc : (scaleRows p (fc - 200) rows1).length = hh := by simp [scaleRows, lf1]
    have lsr : ∀ r ∈ scaleRows p (fc - 200) rows1, r.length = ww := fun r hr => by have := (good_row (good_scale (f := fc - 200) g1) hr).1; omega
    refine next_next ?_
    refine rd_gridS (L := scaleRows p (fc - 200) rows1) lsc lsr (by omega) (by omega) (fun R r => ⟨_, rfl, r⟩) (fun i H R r => ⟨_, rfl, r⟩) (fun i j r n Hg R sg e1 e2 q1 => ?_) fun Du3 H18 s18 _ hDu3 => ?_
    · obtain ⟨ra, x, ha, hx, rfl⟩ := scale_at e1 e2
      have bx := (gf1 ra (List.mem_of_getElem? ha)).2 x (List.mem_of_getElem? hx)
      rw [Int.mul_comm] at q1
      exact op_in (cb1_in (op_in (rd_ij rfl rfl rfl (A17.hF.same sg) ha hx ⟨_, rfl, _, _, rfl, rfl, .inl ⟨by omega, by omega⟩, .inl ⟨_, rfl, _, rfl, _, _, rfl, rfl, by omega, q1⟩⟩)))
    have A18 := A17.same s18
    obtain ⟨dxl, Tl, hxl, _⟩ := id A18.hl.1
    refine ⟨_, rfl, xl, dxl, _, rfl, hxl, mF_no _ _ _ (by decide +kernel) (by decide +kernel) (by decide +kernel), _, rfl, xl, fc - 200, p, _, rows1, rfl, A18.hl, by omega, by omega, fun H19 z s19 _ Mz => ?_⟩
    refine ⟨_, rfl, _, rfl, _, rfl, z, Du3, p, _, _, rfl, Mz.1, hDu3.same s19, by omega, fun r hr => by have := lsr r hr; omega, fun H20 s20 => ⟨_, rfl, iteF ?_⟩⟩
    have s70 := s18.trans (s19.trans s20)
    have A20 := A17.same s70
    have D20 := D17.same s70
    clear hDu3 Mz A18 hxl A14 A17 A11 D11 D14 D17 s12 s13 s14 s15 s16 s17 s18 s19 s20 s24 s47 s70
    -- more, third
    refine ⟨_, rfl, d3, r3, _, 4, rfl, D20, by omega, by decide, fun mo H21 mo0 mo1 k21 D21 => ?_⟩
    obtain ⟨m, rfl⟩ : ∃ m : Nat, mo = (m : Int) := ⟨mo.toNat, by omega⟩
    have A21 := A20.keep D20 k21
    refine ⟨_, rfl, _, rfl, _, rfl, d3, r3, _, 4, rfl, D21, by omega, by decide, fun h3 H22 h30 h31 k22 D22 => ?_⟩
    obtain ⟨t, rfl⟩ : ∃ t : Nat, h3 = (t : Int) := ⟨h3.toNat, by omega⟩
    have A22 := A21.keep D21 k22
    refine ⟨_, rfl, d3, r3, _, p, t, m, rfl, D22, by omega, by omega, by omega, by omega, fun H23 Th rows3 c23 k23 _ hTh lf3 gf3 _ _ => ?_⟩
    have A23 := A22.keep D22 k23
    have g3 : good p (m : Int) rows3 := good_of hp (by omega) gf3
    have lr3 : ∀ r ∈ rows3, r.length = m := fun r hr => by have := (gf3 r hr).1; omega
    -- the block
    obtain ⟨ts, hts, href⟩ := id A23.hF
    refine ⟨_, rfl, F, rfl, ⟨_, SqL.of hts⟩, fun D hD => lc_it walk_list (fun i H' => Same H23 H' ∧ ∃ us : List Addr, H' D = some (.lst (us.map V.ref)) ∧ Refs .lst H' us ((rows1.map (· ++ List.replicate m 0)).take i) ∧ ∀ u ∈ us, u ≠ D) ⟨same_new hD, [], upd_same, Refs.nil, fun _ z => (by cases z)⟩ (fun i H' _ ⟨s1, _⟩ => SqL.of (s1 _ _ hts)) ?_ ?_⟩
    · rintro i u Ha Hb hi ⟨sa1, us, hacc, hus, hne⟩ ⟨rfl, hu⟩
      obtain ⟨t1, ht1, rfl⟩ := refs_at hu
      obtain ⟨r, hr', hr2⟩ := href.row ht1
      have lr := lr1 r (List.mem_of_getElem? hr')
      have li : i < rows1.length := (List.getElem?_eq_some_iff.mp hr').1
      refine ⟨rfl, lc_yes ⟨_, rfl, (by show 1 ≤ sizeLine; decide), fun w1 hw1 => ⟨_, rfl, w1, _, _, rfl, rfl, upd_same, by omega, by omega, line_of (by show 1 * (m : Int).toNat ≤ 16777216; omega), fun w2 hw2 => ?_⟩⟩⟩
      rw [zeros_eq]
      have sw := (same_new (o := .lst [.int 0]) hw1).trans (same_new (o := .lst (vI (List.replicate (m : Int).toNat 0))) hw2)
      refine ⟨t1, w2, _, _, rfl, rfl, sw _ _ (sa1 _ _ hr2), upd_same, line_of (by simp; omega), fun w3 hw3 => ?_⟩
      have sw3 := sw.trans (same_new (o := .lst (vI r ++ vI (List.replicate (m : Int).toNat 0))) hw3)
      refine lsts_snoc hD sa1 hacc hus hne (r := r ++ List.replicate m 0) (by rw [List.getElem?_map, hr']; rfl) (by omega) sw3 (fun z => ?_) ?_
      · rw [z, sw _ _ hacc] at hw3
        cases hw3
      · rw [upd_same]
        simp [vI]
    rintro H24 ⟨s24, us, hus, hrefs, _⟩
    have el : (rows1.map (· ++ List.replicate m 0)).take (ts.map V.ref).length = rows1.map (· ++ List.replicate m 0) := by
      rw [List.take_of_length_le]
      rw [List.length_map, List.length_map, href.1]
      exact Nat.le_refl _
    rw [el] at hrefs
    obtain ⟨ts3, hts3, href3⟩ := hTh.same s24
    refine ⟨_, rfl, Th, rfl, ⟨_, SqL.of hts3⟩, fun D2 hD2 => lc_it walk_list (fun i H' => Same H24 H' ∧ ∃ us : List Addr, H' D2 = some (.lst (us.map V.ref)) ∧ Refs .lst H' us ((rows3.map (List.replicate ww 0 ++ ·)).take i) ∧ ∀ u ∈ us, u ≠ D2) ⟨same_new hD2, [], upd_same, Refs.nil, fun _ z => (by cases z)⟩ (fun i H' _ ⟨s1, _⟩ => SqL.of (s1 _ _ hts3)) ?_ ?_⟩
    · rintro i u Ha Hb hi ⟨sa1, vs, hacc, hvs, hne⟩ ⟨rfl, hu⟩
      obtain ⟨t1, ht1, rfl⟩ := refs_at hu
      obtain ⟨r, hr', hr2⟩ := href3.row ht1
      have lr := lr3 r (List.mem_of_getElem? hr')
      have li : i < rows3.length := (List.getElem?_eq_some_iff.mp hr').1
      refine ⟨rfl, lc_yes ⟨(by show 1 ≤ sizeLine; decide), fun w1 hw1 => ⟨_, rfl, w1, _, _, rfl, rfl, upd_same, by omega, by omega, line_of (by show 1 * (ww : Int).toNat ≤ 16777216; omega), fun w2 hw2 => ?_⟩⟩⟩
      rw [zeros_eq]
      have sw := (same_new (o := .lst [.int 0]) hw1).trans (same_new (o := .lst (vI (List.replicate (ww : Int).toNat 0))) hw2)
      refine ⟨_, rfl, w2, t1, _, _, rfl, rfl, upd_same, sw _ _ (sa1 _ _ hr2), line_of (by simp; omega), fun w3 hw3 => ?_⟩
      have sw3 := sw.trans (same_new (o := .lst (vI (List.replicate (ww : Int).toNat 0) ++ vI r)) hw3)
      refine lsts_snoc hD2 sa1 hacc hvs hne (r := List.replicate ww 0 ++ r) (by rw [List.getElem?_map, hr']; rfl) (by omega) sw3 (fun z => ?_) ?_
      · rw [z, sw _ _ hacc] at hw3
        cases hw3
      · rw [upd_same]
        simp [vI]
    rintro H25 ⟨s25, vs, hvs, hrefs', _⟩
    have el' : (rows3.map (List.replicate ww 0 ++ ·)).take (ts3.map V.ref).length = rows3.map (List.replicate ww 0 ++ ·) := by
      rw [List.take_of_length_le]
      rw [List.length_map, List.length_map, href3.1]
      exact Nat.le_refl _
    rw [el'] at hrefs'
    have lu : us.length = hh := by rw [hrefs.1, List.length_map, lf1]
    have lv : vs.length = t := by rw [hrefs'.1, List.length_map, lf3]
    refine ⟨D, D2, _, _, rfl, rfl, s25 _ _ hus, hvs, line_of (by rw [List.length_map, List.length_map]; omega), fun D3 hD3 => ?_⟩
    have s26 := same_new (o := .lst (us.map V.ref ++ vs.map V.ref)) hD3
    have hB : RowsL _ D3 (blockRows ww m rows1 rows3) := RowsL.cat (x := D) (y := D2) ((hrefs.same s25).same s26) (hrefs'.same s26) upd_same
    have gb : good p ((ww : Int) + (m : Int)) (blockRows ww m rows1 rows3) := good_block g1 g3
    have lb : (blockRows ww m rows1 rows3).length = hh + t := by simp [blockRows, lf1, lf3]
    have s36 := s24.trans (s25.trans s26)
    refine ⟨_, rfl, _, rfl, _, rfl, _, rfl, rd_make (hTh.same s36) (by omega) (fun r hr => by have := lr3 r hr; omega) g3 fun x3 H27 s27 _ M3 => ⟨rfl, ?_⟩⟩
    have A27 := A23.same (s36.trans s27)
    refine ⟨xl, x3, p, p, ww, m, rows1, rows3, rfl, A27.hl, ⟨M3, g3, by omega, by omega⟩, fun _ => ⟨by omega, by omega, fun H28 z s28 _ Mz => ?_⟩, fun ne => absurd rfl ne⟩
    refine ⟨_, rfl, _, rfl, _, rfl, _, _, rfl, rfl, _, rfl, z, D3, p, _, _, rfl, Mz.1, (hB.same s27).same s28, by omega, fun r hr => by have := (good_row gb hr).1; omega, fun H29 s29 => ⟨_, rfl, iteF ?_⟩⟩
    have A29 := A27.same (s28.trans s29)
    clear A20 A21 A22 A23 A27 D20 D21 D22 hTh hB hrefs hrefs' hus hvs hts href hts3 href3 Mz M3 k21 k22 k23
    -- other
    refine ⟨(by show 2 ≤ sizeLine; decide), fun l hl => ⟨_, rfl, rfl, .inr ⟨_, rfl, ?_⟩⟩⟩
    have sl := same_new (o := .lst [.int 3, .int 2]) hl
    have A30 := A29.same sl
    obtain ⟨o, ho, op, on⟩ : ∃ o : Int, atI [V.int 3, .int 2] (if decide (V.int p = V.int 3) = true then 1 else 0) = some (.int o) ∧ o ∈ primes ∧ o ≠ p := by
      by_cases c : p = 3
      · refine ⟨2, ?_, by decide +kernel, by omega⟩
        rw [if_pos (by rw [c]; simp)]
        exact atI_nat (j := 1) rfl
      · refine ⟨3, ?_, by decide +kernel, fun z => c z.symm⟩
        rw [if_neg (by simp [c])]
        exact atI_nat (j := 0) rfl
    refine ⟨l, _, _, _, rfl, rfl, SqL.of upd_same, ho, ?_⟩
    have ho2 := primes_bd o op
    -- moved
    refine asg_next ?_
    refine ⟨_, rfl, _, rfl, cons_in (rd_zeros (ww := ww) (hh := hh) rfl rfl (by omega) (by omega) (fun _ _ r => ⟨_, rfl, r⟩) (fun _ _ r => ⟨_, rfl, r⟩) fun l4 H31 s31 hZ => ?_)⟩
    refine rd_make hZ (by simp; omega) (fun r hr => by have := len_zeros r hr; omega) (good_zeros op hh ww) fun xm H32 s32 _ Mm => ⟨rfl, ?_⟩
    have A32 := A30.same (s31.trans s32)
    have MGm : MG (a i_Matrix) H32 xm o (ww : Int) (List.replicate hh (List.replicate ww 0)) := ⟨Mm, good_zeros op hh ww, by simp; omega, by omega⟩
    -- the strange ones
    refine asg_next (re_state (st_law2 _ _ _ _ _ _ _ _ _ _ _ _ _ _ _ _ _ _ _) ?_)
    refine ⟨_, rfl, _, rfl, _, rfl, _, _, rfl, rfl, cons_in (rd_zeros (ww := ww + 1) (hh := hh) (by omega) rfl (by omega) (by omega) (fun _ _ r => ⟨_, rfl, _, _, rfl, rfl, r⟩) (fun _ _ r => ⟨_, rfl, r⟩) fun l5 H33 s33 hZ2 => ?_)⟩
    refine rd_make hZ2 (by simp; omega) (fun r hr => by have := len_zeros r hr; omega) (good_zeros hp hh (ww + 1)) fun x2 H34 s34 _ M2 => ⟨rfl, ?_⟩
    have A34 := A32.same (s33.trans s34)
    have MG2 : MG (a i_Matrix) H34 x2 p ((ww + 1 : Nat) : Int) (List.replicate hh (List.replicate (ww + 1) 0)) := ⟨M2, good_zeros hp hh (ww + 1), by simp; omega, by omega⟩
    obtain ⟨tsF, htsF, hrefF⟩ := id A34.hF
    refine ⟨_, rfl, _, rfl, _, rfl, (by show 1 ≤ sizeLine; decide), fun w1 hw1 => ⟨_, rfl, w1, _, _, rfl, rfl, upd_same, by omega, by omega, line_of (by show 1 * (ww : Int).toNat ≤ 16777216; omega), fun w2 hw2 => ?_⟩⟩
    rw [zeros_eq]
    have sw := (same_new (o := .lst [.int 0]) hw1).trans (same_new (o := .lst (vI (List.replicate (ww : Int).toNat 0))) hw2)
    refine ⟨(by show 1 ≤ sizeLine; decide), fun w3 hw3 => ?_⟩
    have sw3 := same_new (o := .lst [.ref w2]) hw3
    refine ⟨F, w3, _, _, rfl, rfl, sw3 _ _ (sw _ _ htsF), upd_same, line_of (by rw [List.length_map, hrefF.1]; show rows1.length + 1 ≤ _; omega), fun w4 hw4 => ?_⟩
    have sw4 := same_new (o := .lst (tsF.map V.ref ++ [.ref w2])) hw4
    have hR4 : RowsL _ w4 (rows1 ++ [List.replicate ww 0]) := RowsL.cat (x := F) (y := w3) (us := tsF) (vs := [w2]) (((hrefF.same sw).same sw3).same sw4) ⟨rfl, fun i t r h1 h2 => by
      cases i with
      | succ i => cases h1
      | zero =>
        cases h1
        cases h2
        exact sw4 _ _ (sw3 _ _ upd_same)⟩ upd_same
    have g4 : good p (ww : Int) (rows1 ++ [List.replicate ww 0]) := good_of hp (by omega) fun r hr => by
      rcases List.mem_append.mp hr with hr | hr
      · exact gf1 r hr
      · rw [List.mem_singleton.mp hr]
        refine ⟨by simp, fun e he => ?_⟩
        rw [(List.mem_replicate.mp he).2]
        omega
    have lr4 : ∀ r ∈ rows1 ++ [List.replicate ww 0], r.length = ww := fun r hr => by have := (good_row g4 hr).1; omega
    refine rd_make hR4 (by simp; omega) (fun r hr => by have := lr4 r hr; omega) g4 fun x3' H36 s36' _ M4 => ⟨rfl, ?_⟩
    have s46 := sw.trans (sw3.trans (sw4.trans s36'))
    refine ⟨(by show 3 ≤ sizeLine; decide), fun ls hls => ?_⟩
    have sls := same_new (o := .lst [.ref xm, .ref x2, .ref x3']) hls
    have A37 := A34.same (s46.trans sls)
    have MGm37 := MGm.same ((s33.trans s34).trans (s46.trans sls))
    have odd : ∀ v ∈ [V.ref xm, .ref x2, .ref x3'], Odd (a i_Matrix) _ p ww rows1.length v := fun v hv => by
      simp only [List.mem_cons, List.not_mem_nil, or_false] at hv
      rcases hv with rfl | rfl | rfl
      · exact ⟨xm, o, ww, _, rfl, MGm37, fun z => on z.1.symm⟩
      · exact ⟨x2, p, ww + 1, _, rfl, MG2.same (s46.trans sls), fun z => by have := z.2.1; omega⟩
      · exact ⟨x3', p, ww, _, rfl, MG.same sls ⟨M4, g4, by simp; omega, by omega⟩, fun z => by have := z.2.2; simp at this⟩
    refine ⟨ls, rfl, ⟨_, SqL.of upd_same⟩, for_list (K := K) (a := ls) (xs := [.ref xm, .ref x2, .ref x3']) (fun _ σ H' => (∃ v19 : Option V, σ = [some (.ref sa), some (.ref dr), some (.int p), some (.int (hh : Int)), some (.int (ww : Int)), some (.ref F), some (.ref S), some (.ref d3), some (.int (fc - 200)), some (.ref xl), some (.ref xr), some (.ref D3), none, none, some (.int (m : Int)), some (.ref Th), none, some (.int o), some (.ref xm), v19]) ∧ Same (upd H36 ls (.lst [.ref xm, .ref x2, .ref x3'])) H') ⟨⟨none, rfl⟩, Same.refl _⟩ (fun _ _ _ _ z => SqL.of (z.2 _ _ upd_same)) ?_ ?_⟩
    · rintro i v σ H' hv ⟨⟨v19, rfl⟩, sH⟩
      obtain ⟨y, p', w2', rows', rfl, My, no⟩ := (odd v (List.mem_of_getElem? hv)).same sH
      have Ml := A37.hl.same sH
      refine ⟨_, rfl, _, rfl, 0, xl, y, p, p', ww, w2', rows1, rows', rfl, Ml, My, .inl ⟨.inl rfl, no⟩, fun H38 s38 => ⟨_, rfl, iteF ?_⟩⟩
      exact ⟨_, rfl, _, rfl, 1, xl, y, p, p', ww, w2', rows1, rows', rfl, Ml.same s38, My.same s38, .inl ⟨.inr rfl, no⟩, fun H39 s39 => ⟨_, rfl, iteF ⟨⟨_, rfl⟩, sH.trans (s38.trans s39)⟩⟩⟩
    · rintro σ H' ⟨⟨v19, rfl⟩, sH⟩
      have A38 := A37.same sH
      refine ⟨_, rfl, _, rfl, 2, xl, xm, p, o, ww, ww, rows1, _, rfl, A38.hl, MGm37.same sH, .inr ⟨rfl, fun z => on z.symm⟩, fun H39 s39 => ⟨true, rfl, iteT ?_⟩⟩
      have A39 := A38.same s39
      refine ⟨_, rfl, _, rfl, _, rfl, _, rfl, xl, F, p, _, _, rfl, A39.hl.1, A39.hF, by omega, fun r hr => by have := lr1 r hr; omega, fun H40 s40 => ⟨true, rfl, iteT ?_⟩⟩
      have A40 := A39.same s40
      exact ⟨_, rfl, _, rfl, _, rfl, _, rfl, xr, S, p, _, _, rfl, A40.hr.1, A40.hS, by omega, fun r hr => by have := lr2 r hr; omega, fun H41 s41 => q _⟩
end
/-! ### the top's facts, the head -/
theorem all_mk {l : PySem.W.OpenLaw} {w : World} {K : PySem.W.Frag} {h : Heap} {mg : Str → Option Value} {fa e0 e1 e2 e3 e4 e5 e6 e7 e8 e9 e10 e11 e12 e13 e14 e15 e16 e17 e18 e19 e20 e21 e22 e23 e24 e25 e26 e27 e28 e29 : Addr} (X : K.In h) (G : h.Ns mainGlobals mg) (hfa : mg "law" = some (.ref fa))
    {oc0 kV0 dc0 pm0 cd0 ct0 : Value} {od0 an0 : Option Addr} {sl0 : Array (Option Value)} {od3 : Option Addr} {its3 : Array Value} {n3 : Nat} {sl3 : Array (Option Value)} {oc4 kV4 dc4 pm4 cd4 ct4 : Value} {od4 an4 : Option Addr} {sl4 : Array (Option Value)} {oc6 kV6 dc6 pm6 cd6 ct6 : Value} {od6 an6 : Option Addr} {sl6 : Array (Option Value)} {oc7 kV7 dc7 pm7 cd7 ct7 : Value} {od7 an7 : Option Addr} {sl7 : Array (Option Value)} {pp7 : Addr} {rs7 : List Value} {oc8 kV8 dc8 pm8 cd8 ct8 : Value} {od8 an8 : Option Addr} {sl8 : Array (Option Value)} {oc9 kV9 dc9 pm9 cd9 ct9 : Value} {od9 an9 : Option Addr} {sl9 : Array (Option Value)} {oc10 kV10 dc10 pm10 cd10 ct10 : Value} {od10 an10 : Option Addr} {sl10 : Array (Option Value)} {oc11 kV11 dc11 pm11 cd11 ct11 : Value} {od11 an11 : Option Addr} {sl11 : Array (Option Value)} {oc12 kV12 dc12 pm12 cd12 ct12 : Value} {od12 an12 : Option Addr} {sl12 : Array (Option Value)} {oc13 kV13 dc13 pm13 cd13 ct13 : Value} {od13 an13 : Option Addr} {sl13 : Array (Option Value)} {oc14 kV14 dc14 pm14 cd14 ct14 : Value} {od14 an14 : Option Addr} {sl14 : Array (Option Value)} {oc15 kV15 dc15 pm15 cd15 ct15 : Value} {od15 an15 : Option Addr} {sl15 : Array (Option Value)} {oc16 kV16 dc16 pm16 cd16 ct16 : Value} {od16 an16 : Option Addr} {sl16 : Array (Option Value)} {oc17 kV17 dc17 pm17 cd17 ct17 : Value} {od17 an17 : Option Addr} {sl17 : Array (Option Value)} {oc18 kV18 dc18 pm18 cd18 ct18 : Value} {od18 an18 : Option Addr} {sl18 : Array (Option Value)} {oc19 kV19 dc19 pm19 cd19 ct19 : Value} {od19 an19 : Option Addr} {sl19 : Array (Option Value)} {oc20 kV20 dc20 pm20 cd20 ct20 : Value} {od20 an20 : Option Addr} {sl20 : Array (Option Value)} {oc21 kV21 dc21 pm21 cd21 ct21 : Value} {od21 an21 : Option Addr} {sl21 : Array (Option Value)} {oc22 kV22 dc22 pm22 cd22 ct22 : Value} {od22 an22 : Option Addr} {sl22 : Array (Option Value)} {oc23 kV23 dc23 pm23 cd23 ct23 : Value} {od23 an23 : Option Addr} {sl23 : Array (Option Value)} {oc24 kV24 dc24 pm24 cd24 ct24 : Value} {od24 an24 : Option Addr} {sl24 : Array (Option Value)} {oc25 kV25 dc25 pm25 cd25 ct25 : Value} {od25 an25 : Option Addr} {sl25 : Array (Option Value)} {oc26 kV26 dc26 pm26 cd26 ct26 : Value} {od26 an26 : Option Addr} {sl26 : Array (Option Value)} {oc27 kV27 dc27 pm27 cd27 ct27 : Value} {od27 an27 : Option Addr} {sl27 : Array (Option Value)} {oc28 kV28 dc28 pm28 cd28 ct28 : Value} {od28 an28 : Option Addr} {sl28 : Array (Option Value)} {oc29 kV29 dc29 pm29 cd29 ct29 : Value} {od29 an29 : Option Addr} {sl29 : Array (Option Value)}
    (a0 : PySem.W.nsIn K mainGlobals "_wall" = some (some (.ref e0)))
    (l0 : K.lookup e0 = some ⟨oc0, od0, .func (PySem.W.fnOf "_wall" "_wall" (defArgs s_wall) (defBody s_wall) (defScope s_wall) .none kV0 dc0 pm0 an0 cd0 ct0), sl0⟩)
    (c0 : PySem.W.codeIn K cd0 "_wall" = true)
    (k0 : PySem.W.keepIn K (.ref e0) = true)
    (a1 : PySem.W.nsIn K mainGlobals "WovenError" = some (some (.ref e1)))
    (x1 : XC K e1)
    (a2 : PySem.W.nsIn K mainGlobals "InvalidMatrix" = some (some (.ref e2)))
    (x2 : XC K e2)
    (a3 : PySem.W.nsIn K mainGlobals "BASES" = some (some (.ref e3)))
    (l3 : K.lookup e3 = some ⟨.type "tuple", od3, .seq its3 n3, sl3⟩)
    (v3 : Vals (vI ([2, 3, 5, 7, 11, 13, 17, 19, 23, 29, 31, 37, 41, 43, 47, 53, 59, 61, 67, 71, 73, 79, 83, 89, 97] : List Int)) its3.toList)
    (w3 : its3.size ≤ sizeLine)
    (a4 : PySem.W.nsIn K mainGlobals "is_base" = some (some (.ref e4)))
    (l4 : K.lookup e4 = some ⟨oc4, od4, .func (PySem.W.fnOf "is_base" "is_base" (defArgs s_is_base) (defBody s_is_base) (defScope s_is_base) .none kV4 dc4 pm4 an4 cd4 ct4), sl4⟩)
    (c4 : PySem.W.codeIn K cd4 "is_base" = true)
    (k4 : PySem.W.keepIn K (.ref e4) = true)
    (a5 : PySem.W.nsIn K mainGlobals "Matrix" = some (some (.ref e5)))
    (y5 : Cls K e5)
    (q5 : CC K e5)
    (r5 : PySem.W.makesIn K e5 = true)
    (n5_base : PySem.W.findIn K (.ref e5) "base" = some none)
    (n5_width : PySem.W.findIn K (.ref e5) "width" = some none)
    (n5_rows : PySem.W.findIn K (.ref e5) "rows" = some none)
    (a6 : PySem.W.findIn K (.ref e5) "__init__" = some (some (.ref e6)))
    (i6 : PySem.W.isFn K (.ref e6) = true)
    (l6 : K.lookup e6 = some ⟨oc6, od6, .func (PySem.W.fnOf "__init__" "Matrix.__init__" (defArgs s_Matrix_init) (defBody s_Matrix_init) (defScope s_Matrix_init) .none kV6 dc6 pm6 an6 cd6 ct6), sl6⟩)
    (c6 : PySem.W.codeIn K cd6 "Matrix.__init__" = true)
    (k6 : PySem.W.keepIn K (.ref e6) = true)
    (a7 : PySem.W.findIn K (.ref e5) "height" = some (some (.ref pp7)))
    (g7 : PySem.W.specialIn K (.ref pp7) "__get__" = some (some (.builtin "property.__get__")))
    (t7 : PySem.W.takesIn K (.ref pp7) = some true)
    (r7 : PySem.W.recIn K pp7 "property" = some (.ref e7 :: rs7))
    (l7 : K.lookup e7 = some ⟨oc7, od7, .func (PySem.W.fnOf "height" "Matrix.height" (defArgs s_Matrix_height) (defBody s_Matrix_height) (defScope s_Matrix_height) .none kV7 dc7 pm7 an7 cd7 ct7), sl7⟩)
    (c7 : PySem.W.codeIn K cd7 "Matrix.height" = true)
    (k7 : PySem.W.keepIn K (.ref e7) = true)
    (a8 : PySem.W.findIn K (.ref e5) "column" = some (some (.ref e8)))
    (i8 : PySem.W.isFn K (.ref e8) = true)
    (l8 : K.lookup e8 = some ⟨oc8, od8, .func (PySem.W.fnOf "column" "Matrix.column" (defArgs s_Matrix_column) (defBody s_Matrix_column) (defScope s_Matrix_column) .none kV8 dc8 pm8 an8 cd8 ct8), sl8⟩)
    (c8 : PySem.W.codeIn K cd8 "Matrix.column" = true)
    (k8 : PySem.W.keepIn K (.ref e8) = true)
    (a9 : PySem.W.findIn K (.ref e5) "scaled" = some (some (.ref e9)))
    (i9 : PySem.W.isFn K (.ref e9) = true)
    (l9 : K.lookup e9 = some ⟨oc9, od9, .func (PySem.W.fnOf "scaled" "Matrix.scaled" (defArgs s_Matrix_scaled) (defBody s_Matrix_scaled) (defScope s_Matrix_scaled) .none kV9 dc9 pm9 an9 cd9 ct9), sl9⟩)
    (c9 : PySem.W.codeIn K cd9 "Matrix.scaled" = true)
    (k9 : PySem.W.keepIn K (.ref e9) = true)
    (a10 : PySem.W.findIn K (.ref e5) "__mul__" = some (some (.ref e10)))
    (i10 : PySem.W.isFn K (.ref e10) = true)
    (l10 : K.lookup e10 = some ⟨oc10, od10, .func (PySem.W.fnOf "__mul__" "Matrix.__mul__" (defArgs s_Matrix_mul) (defBody s_Matrix_mul) (defScope s_Matrix_mul) .none kV10 dc10 pm10 an10 cd10 ct10), sl10⟩)
    (c10 : PySem.W.codeIn K cd10 "Matrix.__mul__" = true)
    (k10 : PySem.W.keepIn K (.ref e10) = true)
    (a11 : PySem.W.findIn K (.ref e5) "__add__" = some (some (.ref e11)))
    (i11 : PySem.W.isFn K (.ref e11) = true)
    (l11 : K.lookup e11 = some ⟨oc11, od11, .func (PySem.W.fnOf "__add__" "Matrix.__add__" (defArgs s_Matrix_add) (defBody s_Matrix_add) (defScope s_Matrix_add) .none kV11 dc11 pm11 an11 cd11 ct11), sl11⟩)
    (c11 : PySem.W.codeIn K cd11 "Matrix.__add__" = true)
    (k11 : PySem.W.keepIn K (.ref e11) = true)
    (a12 : PySem.W.findIn K (.ref e5) "__sub__" = some (some (.ref e12)))
    (i12 : PySem.W.isFn K (.ref e12) = true)
    (l12 : K.lookup e12 = some ⟨oc12, od12, .func (PySem.W.fnOf "__sub__" "Matrix.__sub__" (defArgs s_Matrix_sub) (defBody s_Matrix_sub) (defScope s_Matrix_sub) .none kV12 dc12 pm12 an12 cd12 ct12), sl12⟩)
    (c12 : PySem.W.codeIn K cd12 "Matrix.__sub__" = true)
    (k12 : PySem.W.keepIn K (.ref e12) = true)
    (a13 : PySem.W.findIn K (.ref e5) "__eq__" = some (some (.ref e13)))
    (i13 : PySem.W.isFn K (.ref e13) = true)
    (l13 : K.lookup e13 = some ⟨oc13, od13, .func (PySem.W.fnOf "__eq__" "Matrix.__eq__" (defArgs s_Matrix_eq) (defBody s_Matrix_eq) (defScope s_Matrix_eq) .none kV13 dc13 pm13 an13 cd13 ct13), sl13⟩)
    (c13 : PySem.W.codeIn K cd13 "Matrix.__eq__" = true)
    (k13 : PySem.W.keepIn K (.ref e13) = true)
    (a14 : PySem.W.nsIn K mainGlobals "block" = some (some (.ref e14)))
    (l14 : K.lookup e14 = some ⟨oc14, od14, .func (PySem.W.fnOf "block" "block" (defArgs s_block) (defBody s_block) (defScope s_block) .none kV14 dc14 pm14 an14 cd14 ct14), sl14⟩)
    (c14 : PySem.W.codeIn K cd14 "block" = true)
    (k14 : PySem.W.keepIn K (.ref e14) = true)
    (a15 : PySem.W.nsIn K mainGlobals "_is_vector" = some (some (.ref e15)))
    (l15 : K.lookup e15 = some ⟨oc15, od15, .func (PySem.W.fnOf "_is_vector" "_is_vector" (defArgs s_is_vector) (defBody s_is_vector) (defScope s_is_vector) .none kV15 dc15 pm15 an15 cd15 ct15), sl15⟩)
    (c15 : PySem.W.codeIn K cd15 "_is_vector" = true)
    (k15 : PySem.W.keepIn K (.ref e15) = true)
    (a16 : PySem.W.nsIn K mainGlobals "_check_bases" = some (some (.ref e16)))
    (l16 : K.lookup e16 = some ⟨oc16, od16, .func (PySem.W.fnOf "_check_bases" "_check_bases" (defArgs s_check_bases) (defBody s_check_bases) (defScope s_check_bases) .none kV16 dc16 pm16 an16 cd16 ct16), sl16⟩)
    (c16 : PySem.W.codeIn K cd16 "_check_bases" = true)
    (k16 : PySem.W.keepIn K (.ref e16) = true)
    (a17 : PySem.W.nsIn K mainGlobals "_packed" = some (some (.ref e17)))
    (l17 : K.lookup e17 = some ⟨oc17, od17, .func (PySem.W.fnOf "_packed" "_packed" (defArgs s_packed) (defBody s_packed) (defScope s_packed) .none kV17 dc17 pm17 an17 cd17 ct17), sl17⟩)
    (c17 : PySem.W.codeIn K cd17 "_packed" = true)
    (k17 : PySem.W.keepIn K (.ref e17) = true)
    (a18 : PySem.W.nsIn K mainGlobals "_residues_of" = some (some (.ref e18)))
    (l18 : K.lookup e18 = some ⟨oc18, od18, .func (PySem.W.fnOf "_residues_of" "_residues_of" (defArgs s_residues_of) (defBody s_residues_of) (defScope s_residues_of) .none kV18 dc18 pm18 an18 cd18 ct18), sl18⟩)
    (c18 : PySem.W.codeIn K cd18 "_residues_of" = true)
    (k18 : PySem.W.keepIn K (.ref e18) = true)
    (a19 : PySem.W.nsIn K mainGlobals "_plus_times" = some (some (.ref e19)))
    (l19 : K.lookup e19 = some ⟨oc19, od19, .func (PySem.W.fnOf "_plus_times" "_plus_times" (defArgs s_plus_times) (defBody s_plus_times) (defScope s_plus_times) .none kV19 dc19 pm19 an19 cd19 ct19), sl19⟩)
    (c19 : PySem.W.codeIn K cd19 "_plus_times" = true)
    (k19 : PySem.W.keepIn K (.ref e19) = true)
    (a20 : PySem.W.nsIn K mainGlobals "_law_cell" = some (some (.ref e20)))
    (l20 : K.lookup e20 = some ⟨oc20, od20, .func (PySem.W.fnOf "_law_cell" "_law_cell" (defArgs s_law_cell) (defBody s_law_cell) (defScope s_law_cell) .none kV20 dc20 pm20 an20 cd20 ct20), sl20⟩)
    (c20 : PySem.W.codeIn K cd20 "_law_cell" = true)
    (k20 : PySem.W.keepIn K (.ref e20) = true)
    (a21 : PySem.W.nsIn K mainGlobals "_law_draws" = some (some (.ref e21)))
    (l21 : K.lookup e21 = some ⟨oc21, od21, .func (PySem.W.fnOf "_law_draws" "_law_draws" (defArgs s_law_draws) (defBody s_law_draws) (defScope s_law_draws) .none kV21 dc21 pm21 an21 cd21 ct21), sl21⟩)
    (c21 : PySem.W.codeIn K cd21 "_law_draws" = true)
    (k21 : PySem.W.keepIn K (.ref e21) = true)
    (a22 : PySem.W.nsIn K mainGlobals "_law_next" = some (some (.ref e22)))
    (l22 : K.lookup e22 = some ⟨oc22, od22, .func (PySem.W.fnOf "_law_next" "_law_next" (defArgs s_law_next) (defBody s_law_next) (defScope s_law_next) .none kV22 dc22 pm22 an22 cd22 ct22), sl22⟩)
    (c22 : PySem.W.codeIn K cd22 "_law_next" = true)
    (k22 : PySem.W.keepIn K (.ref e22) = true)
    (a23 : PySem.W.nsIn K mainGlobals "_law_is_prime" = some (some (.ref e23)))
    (l23 : K.lookup e23 = some ⟨oc23, od23, .func (PySem.W.fnOf "_law_is_prime" "_law_is_prime" (defArgs s_law_is_prime) (defBody s_law_is_prime) (defScope s_law_is_prime) .none kV23 dc23 pm23 an23 cd23 ct23), sl23⟩)
    (c23 : PySem.W.codeIn K cd23 "_law_is_prime" = true)
    (k23 : PySem.W.keepIn K (.ref e23) = true)
    (a24 : PySem.W.nsIn K mainGlobals "_law_prime" = some (some (.ref e24)))
    (l24 : K.lookup e24 = some ⟨oc24, od24, .func (PySem.W.fnOf "_law_prime" "_law_prime" (defArgs s_law_prime) (defBody s_law_prime) (defScope s_law_prime) .none kV24 dc24 pm24 an24 cd24 ct24), sl24⟩)
    (c24 : PySem.W.codeIn K cd24 "_law_prime" = true)
    (k24 : PySem.W.keepIn K (.ref e24) = true)
    (a25 : PySem.W.nsIn K mainGlobals "_law_same" = some (some (.ref e25)))
    (l25 : K.lookup e25 = some ⟨oc25, od25, .func (PySem.W.fnOf "_law_same" "_law_same" (defArgs s_law_same) (defBody s_law_same) (defScope s_law_same) .none kV25 dc25 pm25 an25 cd25 ct25), sl25⟩)
    (c25 : PySem.W.codeIn K cd25 "_law_same" = true)
    (k25 : PySem.W.keepIn K (.ref e25) = true)
    (a26 : PySem.W.nsIn K mainGlobals "_law_drawn" = some (some (.ref e26)))
    (l26 : K.lookup e26 = some ⟨oc26, od26, .func (PySem.W.fnOf "_law_drawn" "_law_drawn" (defArgs s_law_drawn) (defBody s_law_drawn) (defScope s_law_drawn) .none kV26 dc26 pm26 an26 cd26 ct26), sl26⟩)
    (c26 : PySem.W.codeIn K cd26 "_law_drawn" = true)
    (k26 : PySem.W.keepIn K (.ref e26) = true)
    (a27 : PySem.W.nsIn K mainGlobals "_law_is_matrix" = some (some (.ref e27)))
    (l27 : K.lookup e27 = some ⟨oc27, od27, .func (PySem.W.fnOf "_law_is_matrix" "_law_is_matrix" (defArgs s_law_is_matrix) (defBody s_law_is_matrix) (defScope s_law_is_matrix) .none kV27 dc27 pm27 an27 cd27 ct27), sl27⟩)
    (c27 : PySem.W.codeIn K cd27 "_law_is_matrix" = true)
    (k27 : PySem.W.keepIn K (.ref e27) = true)
    (a28 : PySem.W.nsIn K mainGlobals "_law_fails" = some (some (.ref e28)))
    (l28 : K.lookup e28 = some ⟨oc28, od28, .func (PySem.W.fnOf "_law_fails" "_law_fails" (defArgs s_law_fails) (defBody s_law_fails) (defScope s_law_fails) .none kV28 dc28 pm28 an28 cd28 ct28), sl28⟩)
    (c28 : PySem.W.codeIn K cd28 "_law_fails" = true)
    (k28 : PySem.W.keepIn K (.ref e28) = true)
    (a29 : PySem.W.nsIn K mainGlobals "law" = some (some (.ref e29)))
    (l29 : K.lookup e29 = some ⟨oc29, od29, .func (PySem.W.fnOf "law" "law" (defArgs s_law) (defBody s_law) (defScope s_law) .none kV29 dc29 pm29 an29 cd29 ct29), sl29⟩)
    (c29 : PySem.W.codeIn K cd29 "law" = true)
    (k29 : PySem.W.keepIn K (.ref e29) = true)
    (s_WovenError_InvalidMatrix : PySem.W.subIn K (.ref e1) (.ref e2) = some false)
    (s_InvalidMatrix_WovenError : PySem.W.subIn K (.ref e2) (.ref e1) = some true)
    (z_len : PySem.W.nsIn K mainGlobals "len" = some none)
    (z_int : PySem.W.nsIn K mainGlobals "int" = some none)
    (z_abs : PySem.W.nsIn K mainGlobals "abs" = some none)
    (z_range : PySem.W.nsIn K mainGlobals "range" = some none)
    (z_isi : PySem.W.nsIn K mainGlobals "isinstance" = some none)
    (z_tuple : PySem.W.nsIn K mainGlobals "tuple" = some none)
    (z_list : PySem.W.nsIn K mainGlobals "list" = some none)
    (z_bool : PySem.W.nsIn K mainGlobals "bool" = some none)
    (z_str : PySem.W.nsIn K mainGlobals "str" = some none)
    (z_sum : PySem.W.nsIn K mainGlobals "sum" = some none)
    (z_zip : PySem.W.nsIn K mainGlobals "zip" = some none)
    (z_all : PySem.W.nsIn K mainGlobals "all" = some none)
    (z_any : PySem.W.nsIn K mainGlobals "any" = some none)
    (z_repr : PySem.W.nsIn K mainGlobals "repr" = some none)
    (z_verr : PySem.W.nsIn K mainGlobals "ValueError" = some none) :
    ∃ fd : FuncData, (∀ (s : Shared) (v : Value), BindsTo s fd ⟨[v], []⟩ [("script", v)]) ∧ ∀ base : Heap, K.In base → base.Ns mainGlobals mg → FnOk l.prog w K mg base CX0 7 fa fd ["script"] (spLaw K) := by
  have efa : fa = e29 := Value.ref.inj (Option.some.inj (hfa.symm.trans (PySem.W.mg_of X G a29)))
  have T : TX K mg (fun n => ([e0, e1, e2, e3, e4, e5, e6, e7, e8, e9, e10, e11, e12, e13, e14, e15, e16, e17, e18, e19, e20, e21, e22, e23, e24, e25, e26, e27, e28, e29] : List Addr).getD n 0) (fun n => ([(PySem.W.fnOf "_wall" "_wall" (defArgs s_wall) (defBody s_wall) (defScope s_wall) .none kV0 dc0 pm0 an0 cd0 ct0), (PySem.W.fnOf "law" "law" (defArgs s_law) (defBody s_law) (defScope s_law) .none kV29 dc29 pm29 an29 cd29 ct29), (PySem.W.fnOf "law" "law" (defArgs s_law) (defBody s_law) (defScope s_law) .none kV29 dc29 pm29 an29 cd29 ct29), (PySem.W.fnOf "law" "law" (defArgs s_law) (defBody s_law) (defScope s_law) .none kV29 dc29 pm29 an29 cd29 ct29), (PySem.W.fnOf "is_base" "is_base" (defArgs s_is_base) (defBody s_is_base) (defScope s_is_base) .none kV4 dc4 pm4 an4 cd4 ct4), (PySem.W.fnOf "law" "law" (defArgs s_law) (defBody s_law) (defScope s_law) .none kV29 dc29 pm29 an29 cd29 ct29), (PySem.W.fnOf "__init__" "Matrix.__init__" (defArgs s_Matrix_init) (defBody s_Matrix_init) (defScope s_Matrix_init) .none kV6 dc6 pm6 an6 cd6 ct6), (PySem.W.fnOf "height" "Matrix.height" (defArgs s_Matrix_height) (defBody s_Matrix_height) (defScope s_Matrix_height) .none kV7 dc7 pm7 an7 cd7 ct7), (PySem.W.fnOf "column" "Matrix.column" (defArgs s_Matrix_column) (defBody s_Matrix_column) (defScope s_Matrix_column) .none kV8 dc8 pm8 an8 cd8 ct8), (PySem.W.fnOf "scaled" "Matrix.scaled" (defArgs s_Matrix_scaled) (defBody s_Matrix_scaled) (defScope s_Matrix_scaled) .none kV9 dc9 pm9 an9 cd9 ct9), (PySem.W.fnOf "__mul__" "Matrix.__mul__" (defArgs s_Matrix_mul) (defBody s_Matrix_mul) (defScope s_Matrix_mul) .none kV10 dc10 pm10 an10 cd10 ct10), (PySem.W.fnOf "__add__" "Matrix.__add__" (defArgs s_Matrix_add) (defBody s_Matrix_add) (defScope s_Matrix_add) .none kV11 dc11 pm11 an11 cd11 ct11), (PySem.W.fnOf "__sub__" "Matrix.__sub__" (defArgs s_Matrix_sub) (defBody s_Matrix_sub) (defScope s_Matrix_sub) .none kV12 dc12 pm12 an12 cd12 ct12), (PySem.W.fnOf "__eq__" "Matrix.__eq__" (defArgs s_Matrix_eq) (defBody s_Matrix_eq) (defScope s_Matrix_eq) .none kV13 dc13 pm13 an13 cd13 ct13), (PySem.W.fnOf "block" "block" (defArgs s_block) (defBody s_block) (defScope s_block) .none kV14 dc14 pm14 an14 cd14 ct14), (PySem.W.fnOf "_is_vector" "_is_vector" (defArgs s_is_vector) (defBody s_is_vector) (defScope s_is_vector) .none kV15 dc15 pm15 an15 cd15 ct15), (PySem.W.fnOf "_check_bases" "_check_bases" (defArgs s_check_bases) (defBody s_check_bases) (defScope s_check_bases) .none kV16 dc16 pm16 an16 cd16 ct16), (PySem.W.fnOf "_packed" "_packed" (defArgs s_packed) (defBody s_packed) (defScope s_packed) .none kV17 dc17 pm17 an17 cd17 ct17), (PySem.W.fnOf "_residues_of" "_residues_of" (defArgs s_residues_of) (defBody s_residues_of) (defScope s_residues_of) .none kV18 dc18 pm18 an18 cd18 ct18), (PySem.W.fnOf "_plus_times" "_plus_times" (defArgs s_plus_times) (defBody s_plus_times) (defScope s_plus_times) .none kV19 dc19 pm19 an19 cd19 ct19), (PySem.W.fnOf "_law_cell" "_law_cell" (defArgs s_law_cell) (defBody s_law_cell) (defScope s_law_cell) .none kV20 dc20 pm20 an20 cd20 ct20), (PySem.W.fnOf "_law_draws" "_law_draws" (defArgs s_law_draws) (defBody s_law_draws) (defScope s_law_draws) .none kV21 dc21 pm21 an21 cd21 ct21), (PySem.W.fnOf "_law_next" "_law_next" (defArgs s_law_next) (defBody s_law_next) (defScope s_law_next) .none kV22 dc22 pm22 an22 cd22 ct22), (PySem.W.fnOf "_law_is_prime" "_law_is_prime" (defArgs s_law_is_prime) (defBody s_law_is_prime) (defScope s_law_is_prime) .none kV23 dc23 pm23 an23 cd23 ct23), (PySem.W.fnOf "_law_prime" "_law_prime" (defArgs s_law_prime) (defBody s_law_prime) (defScope s_law_prime) .none kV24 dc24 pm24 an24 cd24 ct24), (PySem.W.fnOf "_law_same" "_law_same" (defArgs s_law_same) (defBody s_law_same) (defScope s_law_same) .none kV25 dc25 pm25 an25 cd25 ct25), (PySem.W.fnOf "_law_drawn" "_law_drawn" (defArgs s_law_drawn) (defBody s_law_drawn) (defScope s_law_drawn) .none kV26 dc26 pm26 an26 cd26 ct26), (PySem.W.fnOf "_law_is_matrix" "_law_is_matrix" (defArgs s_law_is_matrix) (defBody s_law_is_matrix) (defScope s_law_is_matrix) .none kV27 dc27 pm27 an27 cd27 ct27), (PySem.W.fnOf "_law_fails" "_law_fails" (defArgs s_law_fails) (defBody s_law_fails) (defScope s_law_fails) .none kV28 dc28 pm28 an28 cd28 ct28), (PySem.W.fnOf "law" "law" (defArgs s_law) (defBody s_law) (defScope s_law) .none kV29 dc29 pm29 an29 cd29 ct29)] : List FuncData).getD n (PySem.W.fnOf "law" "law" (defArgs s_law) (defBody s_law) (defScope s_law) .none kV29 dc29 pm29 an29 cd29 ct29)) :=
    ⟨⟨PySem.W.mg_none_of X G z_len, PySem.W.mg_none_of X G z_int, PySem.W.mg_none_of X G z_abs, PySem.W.mg_none_of X G z_range, PySem.W.mg_none_of X G z_isi, PySem.W.mg_none_of X G z_tuple, PySem.W.mg_none_of X G z_list, PySem.W.mg_none_of X G z_bool, PySem.W.mg_none_of X G z_str, PySem.W.mg_none_of X G z_sum, PySem.W.mg_none_of X G z_zip, PySem.W.mg_none_of X G z_all, PySem.W.mg_none_of X G z_any, PySem.W.mg_none_of X G z_repr, PySem.W.mg_none_of X G z_verr⟩,
    fun_mk (st := s_wall) l0 c0 k0,
    PySem.W.mg_of X G a0,
    (fun_mk (st := s_wall) l0 c0 k0).binds (ps := ["k"]) fun _ _ _ _ _ _ us hl => match us, hl with | [_], _ => rfl,
    PySem.W.mg_of X G a1,
    x1,
    PySem.W.mg_of X G a2,
    x2,
    PySem.W.mg_of X G a3,
    fun H => .inr ⟨_, its3, n3, l3, rfl, rfl, w3, v3⟩,
    fun_mk (st := s_is_base) l4 c4 k4,
    PySem.W.mg_of X G a4,
    (fun_mk (st := s_is_base) l4 c4 k4).binds (ps := ["number"]) fun _ _ _ _ _ _ us hl => match us, hl with | [_], _ => rfl,
    PySem.W.mg_of X G a5,
    y5,
    q5,
    n5_base,
    n5_width,
    n5_rows,
    fun_mk (st := s_Matrix_init) l6 c6 k6,
    (fun_mk (st := s_Matrix_init) l6 c6 k6).binds (ps := ["self", "base", "width", "rows"]) fun _ _ _ _ _ _ us hl => match us, hl with | [_, _, _, _], _ => rfl,
    ⟨r5, a6, i6, q5.k⟩,
    fun_mk (st := s_Matrix_height) l7 c7 k7,
    (fun_mk (st := s_Matrix_height) l7 c7 k7).binds (ps := ["self"]) fun _ _ _ _ _ _ us hl => match us, hl with | [_], _ => rfl,
    ⟨pp7, a7, g7, t7, _, r7⟩,
    fun_mk (st := s_Matrix_column) l8 c8 k8,
    (fun_mk (st := s_Matrix_column) l8 c8 k8).binds (ps := ["self", "place"]) fun _ _ _ _ _ _ us hl => match us, hl with | [_, _], _ => rfl,
    ⟨a8, i8, k8⟩,
    fun_mk (st := s_Matrix_scaled) l9 c9 k9,
    (fun_mk (st := s_Matrix_scaled) l9 c9 k9).binds (ps := ["self", "factor"]) fun _ _ _ _ _ _ us hl => match us, hl with | [_, _], _ => rfl,
    ⟨a9, i9, k9⟩,
    fun_mk (st := s_Matrix_mul) l10 c10 k10,
    (fun_mk (st := s_Matrix_mul) l10 c10 k10).binds (ps := ["self", "other"]) fun _ _ _ _ _ _ us hl => match us, hl with | [_, _], _ => rfl,
    ⟨a10, i10, k10⟩,
    fun_mk (st := s_Matrix_add) l11 c11 k11,
    (fun_mk (st := s_Matrix_add) l11 c11 k11).binds (ps := ["self", "other"]) fun _ _ _ _ _ _ us hl => match us, hl with | [_, _], _ => rfl,
    ⟨a11, i11, k11⟩,
    fun_mk (st := s_Matrix_sub) l12 c12 k12,
    (fun_mk (st := s_Matrix_sub) l12 c12 k12).binds (ps := ["self", "other"]) fun _ _ _ _ _ _ us hl => match us, hl with | [_, _], _ => rfl,
    ⟨a12, i12, k12⟩,
    fun_mk (st := s_Matrix_eq) l13 c13 k13,
    (fun_mk (st := s_Matrix_eq) l13 c13 k13).binds (ps := ["self", "other"]) fun _ _ _ _ _ _ us hl => match us, hl with | [_, _], _ => rfl,
    ⟨a13, i13, k13⟩,
    fun_mk (st := s_block) l14 c14 k14,
    PySem.W.mg_of X G a14,
    (fun_mk (st := s_block) l14 c14 k14).binds (ps := ["first", "second"]) fun _ _ _ _ _ _ us hl => match us, hl with | [_, _], _ => rfl,
    fun_mk (st := s_is_vector) l15 c15 k15,
    PySem.W.mg_of X G a15,
    (fun_mk (st := s_is_vector) l15 c15 k15).binds (ps := ["entries", "length", "base"]) fun _ _ _ _ _ _ us hl => match us, hl with | [_, _, _], _ => rfl,
    fun_mk (st := s_check_bases) l16 c16 k16,
    PySem.W.mg_of X G a16,
    (fun_mk (st := s_check_bases) l16 c16 k16).binds (ps := ["first", "second"]) fun _ _ _ _ _ _ us hl => match us, hl with | [_, _], _ => rfl,
    fun_mk (st := s_packed) l17 c17 k17,
    PySem.W.mg_of X G a17,
    (fun_mk (st := s_packed) l17 c17 k17).binds (ps := ["row", "bits"]) fun _ _ _ _ _ _ us hl => match us, hl with | [_, _], _ => rfl,
    fun_mk (st := s_residues_of) l18 c18 k18,
    PySem.W.mg_of X G a18,
    (fun_mk (st := s_residues_of) l18 c18 k18).binds (ps := ["number", "bits", "length", "base"]) fun _ _ _ _ _ _ us hl => match us, hl with | [_, _, _, _], _ => rfl,
    fun_mk (st := s_plus_times) l19 c19 k19,
    PySem.W.mg_of X G a19,
    (fun_mk (st := s_plus_times) l19 c19 k19).binds (ps := ["first", "factor", "second"]) fun _ _ _ _ _ _ us hl => match us, hl with | [_, _, _], _ => rfl,
    fun_mk (st := s_law_cell) l20 c20 k20,
    PySem.W.mg_of X G a20,
    (fun_mk (st := s_law_cell) l20 c20 k20).binds (ps := ["script", "k"]) fun _ _ _ _ _ _ us hl => match us, hl with | [_, _], _ => rfl,
    fun_mk (st := s_law_draws) l21 c21 k21,
    PySem.W.mg_of X G a21,
    (fun_mk (st := s_law_draws) l21 c21 k21).binds (ps := ["cell"]) fun _ _ _ _ _ _ us hl => match us, hl with | [_], _ => rfl,
    fun_mk (st := s_law_next) l22 c22 k22,
    PySem.W.mg_of X G a22,
    (fun_mk (st := s_law_next) l22 c22 k22).binds (ps := ["draws", "many"]) fun _ _ _ _ _ _ us hl => match us, hl with | [_, _], _ => rfl,
    fun_mk (st := s_law_is_prime) l23 c23 k23,
    PySem.W.mg_of X G a23,
    (fun_mk (st := s_law_is_prime) l23 c23 k23).binds (ps := ["number"]) fun _ _ _ _ _ _ us hl => match us, hl with | [_], _ => rfl,
    fun_mk (st := s_law_prime) l24 c24 k24,
    PySem.W.mg_of X G a24,
    (fun_mk (st := s_law_prime) l24 c24 k24).binds (ps := ["draws"]) fun _ _ _ _ _ _ us hl => match us, hl with | [_], _ => rfl,
    fun_mk (st := s_law_same) l25 c25 k25,
    PySem.W.mg_of X G a25,
    (fun_mk (st := s_law_same) l25 c25 k25).binds (ps := ["actual", "expected"]) fun _ _ _ _ _ _ us hl => match us, hl with | [_, _], _ => rfl,
    fun_mk (st := s_law_drawn) l26 c26 k26,
    PySem.W.mg_of X G a26,
    (fun_mk (st := s_law_drawn) l26 c26 k26).binds (ps := ["draws", "base", "height", "width"]) fun _ _ _ _ _ _ us hl => match us, hl with | [_, _, _, _], _ => rfl,
    fun_mk (st := s_law_is_matrix) l27 c27 k27,
    PySem.W.mg_of X G a27,
    (fun_mk (st := s_law_is_matrix) l27 c27 k27).binds (ps := ["actual", "base", "width", "rows"]) fun _ _ _ _ _ _ us hl => match us, hl with | [_, _, _, _], _ => rfl,
    fun_mk (st := s_law_fails) l28 c28 k28,
    PySem.W.mg_of X G a28,
    (fun_mk (st := s_law_fails) l28 c28 k28).binds (ps := ["pick", "left", "right"]) fun _ _ _ _ _ _ us hl => match us, hl with | [_, _, _], _ => rfl,
    fun_mk (st := s_law) l29 c29 k29,
    PySem.W.mg_of X G a29,
    (fun_mk (st := s_law) l29 c29 k29).binds (ps := ["script"]) fun _ _ _ _ _ _ us hl => match us, hl with | [_], _ => rfl,
    s_WovenError_InvalidMatrix,
    s_InvalidMatrix_WovenError⟩
  rw [efa]
  exact ⟨(PySem.W.fnOf "law" "law" (defArgs s_law) (defBody s_law) (defScope s_law) .none kV29 dc29 pm29 an29 cd29 ct29), fun s v => .of_eq rfl, fun base _ _ => ok_law T⟩
theorem walk_law {l : PySem.W.OpenLaw} {q : Program} {loose : List Str} {XP : (Str → Option Value) → Heap → Prop} {YP : World → Heap → Prop} {d : DefRec} {K : Params → PySem.W.Frag} (hn : l.most = some 63) (hdf : d.params.defaults = [])
    (hY : ∀ (w : World) (h : Heap), YP w h → (K w.params).In h)
    (F : ∀ (w : World) (mg : Str → Option Value) (fa : Addr) (h : Heap), (K w.params).In h → h.Ns mainGlobals mg → mg d.name = some (.ref fa) →
      ∃ fd : FuncData, (∀ (s : Shared) (u : Value), BindsTo s fd ⟨[u], []⟩ [("script", u)]) ∧ ∀ base : Heap, (K w.params).In base → base.Ns mainGlobals mg → FnOk l.prog w (K w.params) mg base CX0 7 fa fd ["script"] (spLaw (K w.params))) :
    PySem.W.WalkO q loose XP YP l.row.toRowW d [] (fun f vs => PySem.call f vs) :=
  L2.walk_of (n := 63) (k := 7) (x := "script") (CX := fun _ => CX0) (sp := fun w => spLaw (K w.params)) hn (by decide) hdf ⟨rfl, by decide, by decide⟩ hY F (fun _ _ a ns hl _ hS => ⟨a, ns, rfl, hS, fun _ => rfl⟩) fun _ _ _ _ _ z => z
end Bw
open PySem PySem.W PyProof.Rows
set_option maxRecDepth 100000 in
set_option maxHeartbeats 0 in
theorem PySem.Challenge.cw_barswoven_k04_sums_and_blocks_holds : PySem.Challenge.rw_barswoven_k04_sums_and_blocks.Holds := by
  w_on; o_law; k_head; (case hw => w_witness2)
  k_fill
  refine Bw.walk_law (l := PySem.Challenge.rw_barswoven_k04_sums_and_blocks) rfl rfl (fun w h Y => PySem.W.kIn_of Y) ?F
  case F =>
    intro w mg fa h KX G hmg
    refine' Bw.all_mk KX G hmg ?a0 ?l0 ?c0 ?k0 ?a1 ?x1 ?a2 ?x2 ?a3 ?l3 ?v3 ?w3 ?a4 ?l4 ?c4 ?k4 ?a5 ?y5 ?q5 ?r5 ?n5_base ?n5_width ?n5_rows ?a6 ?i6 ?l6 ?c6 ?k6 ?a7 ?g7 ?t7 ?r7 ?l7 ?c7 ?k7 ?a8 ?i8 ?l8 ?c8 ?k8 ?a9 ?i9 ?l9 ?c9 ?k9 ?a10 ?i10 ?l10 ?c10 ?k10 ?a11 ?i11 ?l11 ?c11 ?k11 ?a12 ?i12 ?l12 ?c12 ?k12 ?a13 ?i13 ?l13 ?c13 ?k13 ?a14 ?l14 ?c14 ?k14 ?a15 ?l15 ?c15 ?k15 ?a16 ?l16 ?c16 ?k16 ?a17 ?l17 ?c17 ?k17 ?a18 ?l18 ?c18 ?k18 ?a19 ?l19 ?c19 ?k19 ?a20 ?l20 ?c20 ?k20 ?a21 ?l21 ?c21 ?k21 ?a22 ?l22 ?c22 ?k22 ?a23 ?l23 ?c23 ?k23 ?a24 ?l24 ?c24 ?k24 ?a25 ?l25 ?c25 ?k25 ?a26 ?l26 ?c26 ?k26 ?a27 ?l27 ?c27 ?k27 ?a28 ?l28 ?c28 ?k28 ?a29 ?l29 ?c29 ?k29 ?s_WovenError_InvalidMatrix ?s_InvalidMatrix_WovenError ?z_len ?z_int ?z_abs ?z_range ?z_isi ?z_tuple ?z_list ?z_bool ?z_str ?z_sum ?z_zip ?z_all ?z_any ?z_repr ?z_verr
    (case a0 => k_is)
    (case l0 => k_is)
    (case c0 => k_is)
    (case k0 => k_is)
    (case a1 => k_is)
    (case x1 => exact ⟨by (first | k_exc | k_is), by k_is, by k_is, by k_is, by k_is, by first | k_is | decide +kernel, by k_is, by k_is, by k_is, by k_is, by k_is, by k_is, by k_is, by k_is⟩)
    (case a2 => k_is)
    (case x2 => exact ⟨by (first | k_exc | k_is), by k_is, by k_is, by k_is, by k_is, by first | k_is | decide +kernel, by k_is, by k_is, by k_is, by k_is, by k_is, by k_is, by k_is, by k_is⟩)
    (case a3 => k_is)
    (case l3 => k_is)
    (case v3 => (repeat (first | exact Paired.nil | refine Paired.cons ⟨_, rfl⟩ ?_ | exact .nil | refine .cons ⟨_, rfl⟩ ?_)))
    (case w3 => (exact Bw.line_of (by decide)))
    (case a4 => k_is)
    (case l4 => k_is)
    (case c4 => k_is)
    (case k4 => k_is)
    (case a5 => k_is)
    (case y5 => exact ⟨by k_is, by k_is, by k_is, by k_is⟩)
    (case q5 => exact ⟨by k_is, by k_is, by k_is, by k_is, by k_is, by k_is, by k_is, by k_is⟩)
    (case r5 => k_is)
    (case n5_base => k_is)
    (case n5_width => k_is)
    (case n5_rows => k_is)
    (case a6 => k_is)
    (case i6 => k_is)
    (case l6 => k_is)
    (case c6 => k_is)
    (case k6 => k_is)
    (case a7 => k_is)
    (case g7 => k_is)
    (case t7 => k_is)
    (case r7 => k_is)
    (case l7 => k_is)
    (case c7 => k_is)
    (case k7 => k_is)
    (case a8 => k_is)
    (case i8 => k_is)
    (case l8 => k_is)
    (case c8 => k_is)
    (case k8 => k_is)
    (case a9 => k_is)
    (case i9 => k_is)
    (case l9 => k_is)
    (case c9 => k_is)
    (case k9 => k_is)
    (case a10 => k_is)
    (case i10 => k_is)
    (case l10 => k_is)
    (case c10 => k_is)
    (case k10 => k_is)
    (case a11 => k_is)
    (case i11 => k_is)
    (case l11 => k_is)
    (case c11 => k_is)
    (case k11 => k_is)
    (case a12 => k_is)
    (case i12 => k_is)
    (case l12 => k_is)
    (case c12 => k_is)
    (case k12 => k_is)
    (case a13 => k_is)
    (case i13 => k_is)
    (case l13 => k_is)
    (case c13 => k_is)
    (case k13 => k_is)
    (case a14 => k_is)
    (case l14 => k_is)
    (case c14 => k_is)
    (case k14 => k_is)
    (case a15 => k_is)
    (case l15 => k_is)
    (case c15 => k_is)
    (case k15 => k_is)
    (case a16 => k_is)
    (case l16 => k_is)
    (case c16 => k_is)
    (case k16 => k_is)
    (case a17 => k_is)
    (case l17 => k_is)
    (case c17 => k_is)
    (case k17 => k_is)
    (case a18 => k_is)
    (case l18 => k_is)
    (case c18 => k_is)
    (case k18 => k_is)
    (case a19 => k_is)
    (case l19 => k_is)
    (case c19 => k_is)
    (case k19 => k_is)
    (case a20 => k_is)
    (case l20 => k_is)
    (case c20 => k_is)
    (case k20 => k_is)
    (case a21 => k_is)
    (case l21 => k_is)
    (case c21 => k_is)
    (case k21 => k_is)
    (case a22 => k_is)
    (case l22 => k_is)
    (case c22 => k_is)
    (case k22 => k_is)
    (case a23 => k_is)
    (case l23 => k_is)
    (case c23 => k_is)
    (case k23 => k_is)
    (case a24 => k_is)
    (case l24 => k_is)
    (case c24 => k_is)
    (case k24 => k_is)
    (case a25 => k_is)
    (case l25 => k_is)
    (case c25 => k_is)
    (case k25 => k_is)
    (case a26 => k_is)
    (case l26 => k_is)
    (case c26 => k_is)
    (case k26 => k_is)
    (case a27 => k_is)
    (case l27 => k_is)
    (case c27 => k_is)
    (case k27 => k_is)
    (case a28 => k_is)
    (case l28 => k_is)
    (case c28 => k_is)
    (case k28 => k_is)
    (case a29 => k_is)
    (case l29 => k_is)
    (case c29 => k_is)
    (case k29 => k_is)
    (case s_WovenError_InvalidMatrix => k_is)
    (case s_InvalidMatrix_WovenError => k_is)
    (case z_len => k_is)
    (case z_int => k_is)
    (case z_abs => k_is)
    (case z_range => k_is)
    (case z_isi => k_is)
    (case z_tuple => k_is)
    (case z_list => k_is)
    (case z_bool => k_is)
    (case z_str => k_is)
    (case z_sum => k_is)
    (case z_zip => k_is)
    (case z_all => k_is)
    (case z_any => k_is)
    (case z_repr => k_is)
    (case z_verr => k_is)
