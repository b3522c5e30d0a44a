import PyProof.Rows.All
import Wide.All
import OpenK.AllK
import Wide.FinOn
import HandS.ForMost
import HandS.Exc
import HandS.TryOnly
import HandS.ExcOwn
import HandS.WordsExc
import HandS.IsInst
import HandS.Defaults
import HandS.ExcIs
import HandS.Zip
import HandS.Walk
import HandS.Conv
import HandS.Style
import HandS.Property
import PySem.Challenge.RW_barswoven_k03_products
set_option Elab.async false
set_option linter.all false
set_option maxRecDepth 100000
set_option maxHeartbeats 4000000
namespace Bw
open PySem PySem.Spec PyProof.Rows L2

abbrev vI (ns : List Int) : List V := ns.map V.int
/-- all that was tracked stays, but for what stands at d -/
def KeepBut (d : Addr) (H H' : Hp) : Prop := ∀ b o, b ≠ d → H b = some o → H' b = some o
theorem KeepBut.trans {d : Addr} {H H1 H2 : Hp} (a : KeepBut d H H1) (b : KeepBut d H1 H2) : KeepBut d H H2 := fun c o n h => b c o n (a c o n h)
theorem KeepBut.refl (d : Addr) (H : Hp) : KeepBut d H H := fun _ _ _ h => h
theorem KeepBut.of {d : Addr} {H H' : Hp} (s : Same H H') : KeepBut d H H' := fun c o _ h => s c o h
theorem KeepBut.same {d : Addr} {H0 H H' : Hp} (k : KeepBut d H H') (s : Same H0 H) (f : H0 d = none) : Same H0 H' := fun c o h => k c o (ne_of_none h f) (s c o h)
/-- the heap behind a new object -/
theorem same_new {H : Hp} {p : Addr} {o : HO} (h : H p = none) : Same H (upd H p o) := fun b u e => by
  rw [upd_ne (ne_of_none e h)]
  exact e
theorem Same.add {H0 H : Hp} {p : Addr} {o : HO} (s : Same H0 H) (h : H p = none) : Same H0 (upd H p o) := s.trans (same_new h)
theorem Same.at {H H' : Hp} (s : Same H H') {b : Addr} {o : HO} (h : H b = some o) : H' b = some o := s b o h
/-- draws as the law makes them: at d a list of a list at r and of the number of draws so far -/
def Dr (H : Hp) (d r : Addr) (c : Nat) : Prop := r ≠ d ∧ H d = some (.lst [.ref r, .int (c : Int)]) ∧ ∃ ns : List Int, H r = some (.lst (vI ns)) ∧ ns.length ≤ 1000
theorem Dr.same {H H' : Hp} {d r : Addr} {c : Nat} (h : Dr H d r c) (s : Same H H') : Dr H' d r c := by
  obtain ⟨n, h1, ns, h2, l⟩ := h
  exact ⟨n, s _ _ h1, ns, s _ _ h2, l⟩
theorem Dr.some {H : Hp} {d r : Addr} {c : Nat} (h : Dr H d r c) : ∃ o, H d = Option.some o := ⟨_, h.2.1⟩
theorem Dr.ne {H : Hp} {d r D : Addr} {c : Nat} (h : Dr H d r c) (e : H D = none) : D ≠ d ∧ D ≠ r := by
  obtain ⟨n, h1, ns, h2, l⟩ := h
  exact ⟨fun z => (by rw [z, h1] at e; cases e), fun z => (by rw [z, h2] at e; cases e)⟩
/-- another object changed -/
theorem Dr.put {H : Hp} {d r D : Addr} {c : Nat} {o : HO} (h : Dr H d r c) (n : D ≠ d ∧ D ≠ r) : Dr (upd H D o) d r c := by
  obtain ⟨m, h1, ns, h2, l⟩ := h
  exact ⟨m, by rw [upd_ne n.1.symm]; exact h1, ns, by rw [upd_ne n.2.symm]; exact h2, l⟩
/-- what is new behind a step that changed d alone was free ahead of it -/
theorem KeepBut.free {d p : Addr} {H H' : Hp} {o : HO} (k : KeepBut d H H') (hd : H' d = some o) (h : H' p = none) : H p = none := by
  cases q : H p with
  | none => rfl
  | some u =>
    have n : p ≠ d := fun e => by
      rw [e, hd] at h
      cases h
    rw [k p u n q] at h
    cases h
theorem SqL.keep {K : PySem.W.Frag} {d a : Addr} {H H' : Hp} {xs : List V} (k : KeepBut d H H') (n : a ≠ d) (h : SqL K H a xs) : SqL K H' a xs := by
  rcases h with (h | ⟨o, h⟩) | h
  · exact .inl (.inl (k _ _ n h))
  · exact .inl (.inr ⟨o, k _ _ n h⟩)
  · exact .inr h
theorem SqT.keep {K : PySem.W.Frag} {d a : Addr} {H H' : Hp} {xs : List V} (k : KeepBut d H H') (n : a ≠ d) (h : SqT K H a xs) : SqT K H' a xs := by
  rcases h with (h | ⟨o, h⟩) | h
  · exact .inl (.inl (k _ _ n h))
  · exact .inl (.inr ⟨o, k _ _ n h⟩)
  · exact .inr h
theorem SqT.same {K : PySem.W.Frag} {a : Addr} {H H' : Hp} {xs : List V} (k : Same H H') (h : SqT K H a xs) : SqT K H' a xs := by
  rcases h with (h | ⟨o, h⟩) | h
  · exact .inl (.inl (k _ _ h))
  · exact .inl (.inr ⟨o, k _ _ h⟩)
  · exact .inr h
/-- the built-ins' names are the built-ins' still -/
structure BI (mg : Str → Option Value) : Prop where
  len : mg "len" = none
  int : mg "int" = none
  abs : mg "abs" = none
  range : mg "range" = none
  isi : mg "isinstance" = none
  tuple : mg "tuple" = none
  list : mg "list" = none
  bool : mg "bool" = none
  str : mg "str" = none
  sum : mg "sum" = none
  zip : mg "zip" = none
  all : mg "all" = none
  any : mg "any" = none
  repr : mg "repr" = none
  verr : mg "ValueError" = none
/-- the turn's item of a list of vI -/
theorem item_int {ns : List Int} {i : Nat} {y : V} (hi : (vI ns)[i]? = some y) : ∃ z, ns[i]? = some z ∧ y = V.int z := by
  rw [List.getElem?_map] at hi
  cases e : ns[i]? with
  | none =>
    rw [e] at hi
    cases hi
  | some z =>
    rw [e] at hi
    exact ⟨z, rfl, (Option.some.inj hi).symm⟩
theorem ints_at {ns : List Int} {j : Nat} (h : j < ns.length) : (vI ns)[j]? = some (V.int ns[j]) := by
  rw [List.getElem?_map, List.getElem?_eq_getElem h]
  rfl
theorem if_t {c : Bool} {A B : Prop} (hc : c = true) (h : A) : if c = true then A else B := by
  rw [if_pos hc]
  exact h
theorem if_f {c : Bool} {A B : Prop} (hc : c = false) (h : B) : if c = true then A else B := by
  rw [hc, if_neg Bool.false_ne_true]
  exact h
theorem line_of {n : Nat} (h : n ≤ 16777216) : n ≤ sizeLine := by
  rw [sizeLine_eq]
  exact h
theorem line_lt {n : Nat} (h : n < 16777216) : n < sizeLine := by
  rw [sizeLine_eq]
  exact h
/-- a comprehension without ifs -/
theorem lc_yes {σ : L2.St} {H : Hp} {T N : Hp → Prop} (h : T H) : tYes σ H fun b H3 => if b = true then T H3 else N H3 := by
  show (if true = true then T H else N H)
  rw [if_pos rfl]
  exact h
theorem take_succ {α : Type} {l : List α} {i : Nat} {x : α} (h : l[i]? = some x) : l.take (i + 1) = l.take i ++ [x] := by
  rw [List.take_add_one, h]
  rfl
/-- data of ints: a list's, a tuple's items -/
def dI (ns : List Int) : List PyData := ns.map PyData.int
theorem dp_ints {K : PySem.W.Frag} {H : Hp} : ∀ ns : List Int, DpAll K H (vI ns) (dI ns)
  | [] => .nil
  | n :: ns => .cons (.int n) (dp_ints ns)
theorem lay_map {α : Type} (f : α → PyData) (h : ∀ x, (f x).canLay0 = true) : ∀ xs : List α, PyData.canLayAll0 (xs.map f) = true
  | [] => by simp [PyData.canLayAll0]
  | x :: xs => by
    have e := lay_map f h xs
    show PyData.canLayAll0 (f x :: xs.map f) = true
    simp [PyData.canLayAll0, h x, e]
theorem dep_map {α : Type} (f : α → PyData) (n : Nat) (h : ∀ x, (f x).depth ≤ n) : ∀ xs : List α, PyData.depthAll (xs.map f) ≤ n
  | [] => by simp [PyData.depthAll]
  | x :: xs => by
    have e := dep_map f n h xs
    show PyData.depthAll (f x :: xs.map f) ≤ n
    simp only [PyData.depthAll]
    exact Nat.max_le.mpr ⟨h x, e⟩
theorem lay_list {ds : List PyData} (h : PyData.canLayAll0 ds = true) : (PyData.list ds).canLay0 = true := by simpa [PyData.canLay0] using h
theorem lay_tuple {ds : List PyData} (h : PyData.canLayAll0 ds = true) : (PyData.tuple ds).canLay0 = true := by simpa [PyData.canLay0] using h
theorem dep_list {ds : List PyData} {n : Nat} (h : PyData.depthAll ds ≤ n) : (PyData.list ds).depth ≤ n + 1 := by
  simp only [PyData.depth]
  omega
theorem dep_tuple {ds : List PyData} {n : Nat} (h : PyData.depthAll ds ≤ n) : (PyData.tuple ds).depth ≤ n + 1 := by
  simp only [PyData.depth]
  omega
theorem lay_ints (ns : List Int) : PyData.canLayAll0 (dI ns) = true := lay_map _ (fun x => by simp [PyData.canLay0]) ns
theorem dep_ints (ns : List Int) : PyData.depthAll (dI ns) ≤ 0 := dep_map _ 0 (fun x => by simp [PyData.depth]) ns
theorem shaped_of {d : PyData} (h : d.canLay0 = true) (n : d.depth ≤ 64) : SeqAt.shaped d = true := Bool.and_eq_true_iff.mpr ⟨h, decide_eq_true n⟩
/-! the layer's rules with the written part told (within a comprehension) -/
section
variable {X : Cx} {K : PySem.W.Frag}
theorem ix_listK (e : X.K = K) : IxR X (rIxL K) := e ▸ ix_list
theorem ix_tupK (e : X.K = K) : IxR X (rIxT K) := e ▸ ix_tup
theorem ix_seqK (e : X.K = K) : IxR X (rIx K) := e ▸ ix_seq
theorem call_lenK (e : X.K = K) : CallR X (.builtin "len") (fun xs H Q => ∃ p ys, xs = [.ref p] ∧ (SqL K H p ys ∨ SqT K H p ys) ∧ Q (.int ys.length) H) := e ▸ call_len_seq
theorem call_listK (e : X.K = K) : CallR X (.type "list") (fun xs H Q => ∃ p ys, xs = [.ref p] ∧ (SqL K H p ys ∨ SqT K H p ys) ∧ ∀ l, H l = none → Q (.ref l) (upd H l (.lst ys))) := e ▸ call_list_of
theorem call_tupleK (e : X.K = K) : CallR X (.type "tuple") (fun xs H Q => ∃ p ys, xs = [.ref p] ∧ ((SqL K H p ys ∧ ∀ l, H l = none → Q (.ref l) (upd H l (.tup ys))) ∨ (SqT K H p ys ∧ Q (.ref p) H))) := e ▸ call_tuple_of
theorem call_sumK (c : X.calm = true) (e : X.K = K) : CallR X (.builtin "sum") (rSum K) := e ▸ cr_sum c
theorem pi_listK {tg l : Expr} {tl : TE} (e : X.K = K) (hl : PE X l tl) : PI X tg l (iList K tl) := e ▸ pi_list hl
theorem pi_tupK {tg l : Expr} {tl : TE} (e : X.K = K) (hl : PE X l tl) : PI X tg l (iTup K tl) := e ▸ pi_tup hl
end
section
variable {P : Program} {w : World} {K : PySem.W.Frag} {mg : Str → Option Value} {base : Heap}
/-! ### zip of two sequences, each a list or a tuple -/
def nmS (k : Bool) : String := if k = true then "list" else "tuple"
def nmI (k : Bool) : String := if k = true then "list_iterator" else "tuple_iterator"
/-- a list (k true) or tuple (k false) of these items stands at l -/
def SeqB (k : Bool) (h : Heap) (l : Addr) (its : Array Value) : Prop := match k with
  | true => h.IsList l its
  | false => h.IsTuple l its
def IterB (k : Bool) (h : Heap) (it l : Addr) (i : Nat) : Prop := match k with
  | true => h.IsListIter it l i
  | false => h.IsTupleIter it l i
def SqB (K : PySem.W.Frag) (k : Bool) (H : Hp) (a : Addr) (xs : List V) : Prop := match k with
  | true => SqL K H a xs
  | false => SqT K H a xs
theorem SeqB.over {k : Bool} {h h' : Heap} {a b : Addr} {its : Array Value} (x : SeqB k h a its) (e : Heap.ExtBut b h h') (n : a ≠ b) : SeqB k h' a its := by
  cases k
  · exact Heap.IsTuple.extBut x e n
  · exact Heap.IsList.extBut x e n
theorem IterB.over {k : Bool} {h h' : Heap} {a b l : Addr} {i : Nat} (x : IterB k h a l i) (e : Heap.ExtBut b h h') (n : a ≠ b) : IterB k h' a l i := by
  cases k
  · exact Heap.IsTupleIter.extBut x e n
  · exact Heap.IsListIter.extBut x e n
theorem IterB.to {k : Bool} {h h' : Heap} {a l : Addr} {i : Nat} (x : IterB k h a l i) (e : ∀ o, h.get? a = some o → h'.get? a = some o) : IterB k h' a l i := by
  cases k
  · exact Heap.IsTupleIter.at x e
  · exact Heap.IsListIter.at x e
theorem IterB.obj {k : Bool} {h : Heap} {a l : Addr} {i : Nat} (x : IterB k h a l i) : ∃ o, h.get? a = some o ∧ o.data = .fields #[.ref l, .int i 0] := by
  cases k
  · obtain ⟨o, e1, _, e2⟩ := (show Heap.IsTupleIter h a l i from x)
    exact ⟨o, e1, e2⟩
  · obtain ⟨o, e1, _, e2⟩ := (show Heap.IsListIter h a l i from x)
    exact ⟨o, e1, e2⟩
theorem SeqB.lt {k : Bool} {h : Heap} {a : Addr} {its : Array Value} (x : SeqB k h a its) : a < h.objs.size := by
  cases k
  · obtain ⟨o, e, _⟩ := (show Heap.IsTuple h a its from x)
    exact Heap.lt_size e
  · obtain ⟨o, e, _⟩ := (show Heap.IsList h a its from x)
    exact Heap.lt_size e
section
variable {prog : Program} {A : Around} {E : Value → Shared → Prop} {s : Shared}
theorem next_of {k : Bool} {it l : Addr} {i : Nat} {its : Array Value} {x : Value} {Q : Value → Shared → Prop} (c : IterB k s.heap it l i) (d : SeqB k s.heap l its) (e : its[i]? = some x)
    (q : ∀ h', IterB k h' it l (i + 1) → Heap.SameBut it s.heap h' → Q x { s with heap := h' }) : wpAny (model prog w) A (Builtin.SmallTypes.nextOf (.ref it)) Q E s := by
  cases k
  · exact RZ.nextOf_tuple_item c d e q
  · exact wpAny_nextOf_list_item c d e q
theorem next_no {k : Bool} {it l : Addr} {i : Nat} {its : Array Value} {Q : Value → Shared → Prop} (hh : A.handled = none) (c : IterB k s.heap it l i) (d : SeqB k s.heap l its) (e : its[i]? = none)
    (q : ∀ h' u, Heap.ExtBut it s.heap h' → (∃ o, h'.get? u = some o ∧ o.cls = .type "StopIteration") → E (.ref u) { s with heap := h' }) : wpAny (model prog w) A (Builtin.SmallTypes.nextOf (.ref it)) Q E s := by
  cases k
  · exact RZ.nextOf_tuple_end hh c d e q
  · exact wpAny_nextOf_list_end hh c d e q
/-- one turn: both have an item -/
theorem turn_item {k1 k2 : Bool} {zo ti to j1 j2 a1 a2 : Addr} {i : Nat} {xs ys : Array Value} {x y u v : Value} {Q : Value → Shared → Prop} (D : ZipApart zo ti to j1 j2 a1 a2)
    (cz : IsZip s.heap zo ti to .none) (ci : IsPair s.heap ti (.ref j1) (.ref j2)) (co : IsPair s.heap to u v)
    (c1 : IterB k1 s.heap j1 a1 i) (c2 : IterB k2 s.heap j2 a2 i) (d1 : SeqB k1 s.heap a1 xs) (d2 : SeqB k2 s.heap a2 ys) (ex : xs[i]? = some x) (ey : ys[i]? = some y)
    (q : ∀ h', IsZip h' zo ti to (rawInt s.heap.objs.size) → IsPair h' to x y → IterB k1 h' j1 a1 (i + 1) → IterB k2 h' j2 a2 (i + 1) → IsPair h' s.heap.objs.size x y → h'.objs.size = s.heap.objs.size + 1 →
      (∀ c o, c ≠ zo → c ≠ to → c ≠ j1 → c ≠ j2 → s.heap.get? c = some o → h'.get? c = some o) → Q (.ref s.heap.objs.size) { s with heap := h' }) :
    wpAny (model prog w) A (Builtin.«zip.__next__» ⟨[.ref zo], []⟩) (fun fin st => ∃ r, fin = .done (.ret r) ∧ Q r st) E s := by
  show wpAny _ _ (field (.ref zo) 2 >>= _) _ _ _
  refine wpAny_bind (wpAny_field cz rfl (x := .bool false) rfl ?_); show wpAny _ _ (field (.ref zo) 3 >>= _) _ _ _
  refine wpAny_bind (wpAny_field cz rfl (x := .ref ti) rfl ?_)
  refine wpAny_bind (wpAny_seqItems ci rfl ?_); show wpAny _ _ (Builtin.SmallTypes.ownedTupleIsFree (.ref zo) >>= _) _ _ _
  refine wpAny_bind ?_; unfold Builtin.SmallTypes.ownedTupleIsFree
  refine wpAny_bind (wpAny_field cz rfl (x := .none) rfl (wpAny_pure ?_)); simp only [if_true]
  refine wpAny_bind (wpAny_rule ?_); refine wpAny_bind (wpAny_field cz rfl (x := .ref to) rfl ?_)
  refine wpAny_bind (wpAny_setField_rec cz (by simp) fun g1 z1 s1 => ?_)
  replace z1 : IsZip g1 zo ti to .ellipsis := z1
  refine wpAny_bind ?_; simp only [List.forIn_cons, List.forIn_nil, List.zipIdx_cons, List.zipIdx_nil]
  refine wpAny_bind (wpAny_bind (wpAny_onRaise ?_)); show wpAny _ _ (Builtin.SmallTypes.nextOf (.ref j1) >>= _) _ _ _
  refine wpAny_bind (next_of (c1.over s1.extBut D.i1z) (d1.over s1.extBut D.l1z) ex fun g2 i1 s2 => wpAny_pure ?_)
  have o2 : IsPair g2 to u v := s2.extBut _ _ D.TOi1 (s1.extBut _ _ D.TOz co)
  refine wpAny_bind (wpAny_seqItems o2 rfl ?_); refine wpAny_bind (wpAny_updateSeq_pair o2 fun g3 o3 s3 => ?_)
  replace o3 : IsPair g3 to x v := o3
  refine wpAny_bind (wpAny_letGo (wpAny_pure ?_)); refine wpAny_bind (wpAny_bind (wpAny_onRaise ?_))
  show wpAny _ _ (Builtin.SmallTypes.nextOf (.ref j2) >>= _) _ _ _
  refine wpAny_bind (next_of (((c2.over s1.extBut D.i2z).over s2.extBut D.i12.symm).over s3.extBut D.TOi2.symm) (((d2.over s1.extBut D.l2z).over s2.extBut D.l2i1).over s3.extBut D.l2TO) ey fun g4 i2 s4 => wpAny_pure ?_)
  have o4 : IsPair g4 to x v := s4.extBut _ _ D.TOi2 o3
  refine wpAny_bind (wpAny_seqItems o4 rfl ?_); refine wpAny_bind (wpAny_updateSeq_pair o4 fun g5 o5 s5 => ?_)
  replace o5 : IsPair g5 to x y := o5
  refine wpAny_bind (wpAny_letGo (wpAny_pure (wpAny_pure ?_))); refine wpAny_bind (wpAny_seqItems o5 rfl ?_); refine wpAny_bind (wpAny_newTuple ?_)
  have sz : g5.objs.size = s.heap.objs.size := by rw [s5.1, s4.1, s3.1, s2.1, s1.1]
  have z5 : IsZip g5 zo ti to .ellipsis := s5.extBut _ _ D.TOz.symm (s4.extBut _ _ D.i2z.symm (s3.extBut _ _ D.TOz.symm (s2.extBut _ _ D.i1z.symm z1)))
  have old : ∀ c o, c ≠ zo → c ≠ to → c ≠ j1 → c ≠ j2 → s.heap.get? c = some o → g5.get? c = some o := fun c o n1 n2 n3 n4 e =>
    s5.extBut _ _ n2 (s4.extBut _ _ n4 (s3.extBut _ _ n2 (s2.extBut _ _ n3 (s1.extBut _ _ n1 e))))
  have i5 : IterB k1 g5 j1 a1 (i + 1) := ((i1.over s3.extBut D.TOi1.symm).over s4.extBut D.i12).over s5.extBut D.TOi1.symm
  have i6 : IterB k2 g5 j2 a2 (i + 1) := i2.over s5.extBut D.TOi2.symm
  have lz : zo < g5.objs.size := Heap.lt_size z5
  show wpAny _ _ (Builtin.SmallTypes.ownedTupleHandOut (.ref zo) (.ref g5.objs.size) >>= _) _ _ _
  refine wpAny_bind ?_; unfold Builtin.SmallTypes.ownedTupleHandOut
  have z6 : IsZip (g5.push { cls := .type "tuple", data := .seq #[x, y] }) zo ti to .ellipsis := Heap.get?_push_of_some _ z5
  refine wpAny_bind (wpAny_setField_rec z6 (by simp) fun g7 z7 s7 => ?_)
  replace z7 : IsZip g7 zo ti to (rawInt g5.objs.size) := z7
  refine wpAny_setField_rec z7 (by simp) fun g8 z8 s8 => ?_
  replace z8 : IsZip g8 zo ti to (rawInt g5.objs.size) := z8
  have up : ∀ c o, c ≠ zo → g5.get? c = some o → g8.get? c = some o := fun c o n e => s8.extBut _ _ n (s7.extBut _ _ n (Heap.get?_push_of_some _ e))
  have t8 : IsPair g8 g5.objs.size x y := s8.extBut _ _ (Nat.ne_of_gt lz) (s7.extBut _ _ (Nat.ne_of_gt lz) (Heap.get?_push_size _ rfl))
  have w8 : g8.objs.size = g5.objs.size + 1 := by rw [s8.1, s7.1, Heap.size_push]
  rw [sz] at z8 t8 w8
  refine wpAny_pure ⟨_, rfl, ?_⟩; show Q (.ref g5.objs.size) _
  rw [sz]
  exact q g8 z8 (up _ _ D.TOz o5) (i5.to fun o e => up _ o D.i1z e) (i6.to fun o e => up _ o D.i2z e) t8 w8 fun c o n1 n2 n3 n4 e => up c o n1 (old c o n1 n2 n3 n4 e)
/-- the turn at which one of the two is at its end -/
theorem turn_end {k1 k2 : Bool} {zo ti to j1 j2 a1 a2 : Addr} {i : Nat} {xs ys : Array Value} {u v : Value} {Q : Fin → Shared → Prop} (hh : A.handled = none) (D : ZipApart zo ti to j1 j2 a1 a2)
    (cz : IsZip s.heap zo ti to .none) (ci : IsPair s.heap ti (.ref j1) (.ref j2)) (co : IsPair s.heap to u v)
    (c1 : IterB k1 s.heap j1 a1 i) (c2 : IterB k2 s.heap j2 a2 i) (d1 : SeqB k1 s.heap a1 xs) (d2 : SeqB k2 s.heap a2 ys) (fin : xs[i]? = none ∨ ys[i]? = none)
    (q : ∀ h' r, (∀ c o, c ≠ zo → c ≠ to → c ≠ j1 → c ≠ j2 → s.heap.get? c = some o → h'.get? c = some o) → (∃ o, h'.get? r = some o ∧ o.cls = .type "StopIteration") → E (.ref r) { s with heap := h' }) :
    wpAny (model prog w) A (Builtin.«zip.__next__» ⟨[.ref zo], []⟩) Q E s := by
  show wpAny _ _ (field (.ref zo) 2 >>= _) _ _ _
  refine wpAny_bind (wpAny_field cz rfl (x := .bool false) rfl ?_); show wpAny _ _ (field (.ref zo) 3 >>= _) _ _ _
  refine wpAny_bind (wpAny_field cz rfl (x := .ref ti) rfl ?_)
  refine wpAny_bind (wpAny_seqItems ci rfl ?_); show wpAny _ _ (Builtin.SmallTypes.ownedTupleIsFree (.ref zo) >>= _) _ _ _
  refine wpAny_bind ?_; unfold Builtin.SmallTypes.ownedTupleIsFree
  refine wpAny_bind (wpAny_field cz rfl (x := .none) rfl (wpAny_pure ?_)); simp only [if_true]
  refine wpAny_bind (wpAny_rule ?_); refine wpAny_bind (wpAny_field cz rfl (x := .ref to) rfl ?_)
  refine wpAny_bind (wpAny_setField_rec cz (by simp) fun g1 z1 s1 => ?_)
  replace z1 : IsZip g1 zo ti to .ellipsis := z1
  refine wpAny_bind ?_; simp only [List.forIn_cons, List.forIn_nil, List.zipIdx_cons, List.zipIdx_nil]
  refine wpAny_bind (wpAny_bind (wpAny_onRaise ?_)); show wpAny _ _ (Builtin.SmallTypes.nextOf (.ref j1) >>= _) _ _ _
  cases ex : xs[i]? with
  | none =>
    refine wpAny_bind (next_no hh (c1.over s1.extBut D.i1z) (d1.over s1.extBut D.l1z) ex fun g2 r s2 hr => ?_)
    obtain ⟨or, h1, h2⟩ := hr
    have z2 : IsZip g2 zo ti to .ellipsis := s2 _ _ D.i1z.symm z1
    have n : r ≠ zo := fun e => by
      rw [e, z2] at h1
      cases h1
      simp at h2
    exact wpAny_setField_rec z2 (by simp) fun g3 _ s3 => q g3 r (fun c o n1 _ n3 _ e => s3.extBut _ _ n1 (s2 _ _ n3 (s1.extBut _ _ n1 e))) ⟨or, s3.extBut _ _ n h1, h2⟩
  | some x =>
    have ey : ys[i]? = none := by
      rcases fin with e | e
      · rw [ex] at e; cases e
      · exact e
    refine wpAny_bind (next_of (c1.over s1.extBut D.i1z) (d1.over s1.extBut D.l1z) ex fun g2 i1 s2 => wpAny_pure ?_)
    have o2 : IsPair g2 to u v := s2.extBut _ _ D.TOi1 (s1.extBut _ _ D.TOz co)
    refine wpAny_bind (wpAny_seqItems o2 rfl ?_); refine wpAny_bind (wpAny_updateSeq_pair o2 fun g3 o3 s3 => ?_)
    refine wpAny_bind (wpAny_letGo (wpAny_pure ?_)); refine wpAny_bind (wpAny_bind (wpAny_onRaise ?_))
    show wpAny _ _ (Builtin.SmallTypes.nextOf (.ref j2) >>= _) _ _ _
    refine wpAny_bind (next_no hh (((c2.over s1.extBut D.i2z).over s2.extBut D.i12.symm).over s3.extBut D.TOi2.symm) (((d2.over s1.extBut D.l2z).over s2.extBut D.l2i1).over s3.extBut D.l2TO) ey fun g4 r s4 hr => ?_)
    obtain ⟨or, h1, h2⟩ := hr
    have z4 : IsZip g4 zo ti to .ellipsis := s4 _ _ D.i2z.symm (s3.extBut _ _ D.TOz.symm (s2.extBut _ _ D.i1z.symm z1))
    have n : r ≠ zo := fun e => by
      rw [e, z4] at h1
      cases h1
      simp at h2
    exact wpAny_setField_rec z4 (by simp) fun g5 _ s5 => q g5 r (fun c o n1 n2 n3 n4 e => s5.extBut _ _ n1 (s4 _ _ n4 (s3.extBut _ _ n2 (s2.extBut _ _ n3 (s1.extBut _ _ n1 e))))) ⟨or, s5.extBut _ _ n h1, h2⟩
/-! the zip object made -/
abbrev hz1 (k1 : Bool) (h : Heap) (a1 : Addr) : Heap := h.push { cls := .type (nmI k1), data := .fields #[.ref a1, .int 0 0] }
abbrev hz2 (k1 k2 : Bool) (h : Heap) (a1 a2 : Addr) : Heap := (hz1 k1 h a1).push { cls := .type (nmI k2), data := .fields #[.ref a2, .int 0 0] }
abbrev hz3 (k1 k2 : Bool) (h : Heap) (a1 a2 : Addr) : Heap := (hz2 k1 k2 h a1 a2).push { cls := .type "tuple", data := .seq #[.ref h.objs.size, .ref (hz1 k1 h a1).objs.size] }
abbrev hz4 (k1 k2 : Bool) (h : Heap) (a1 a2 : Addr) : Heap := (hz3 k1 k2 h a1 a2).push { cls := .type "tuple", data := .seq #[.none, .none] }
abbrev hz5 (k1 k2 : Bool) (h : Heap) (a1 a2 : Addr) : Heap := (hz4 k1 k2 h a1 a2).push { cls := .type "zip", data := .fields #[.none, .bool false, .bool false, .ref (hz2 k1 k2 h a1 a2).objs.size, .ref (hz3 k1 k2 h a1 a2).objs.size] }
theorem new_zip (k1 k2 : Bool) (a1 a2 : Addr) (xs ys : Array Value) :
    Meets (Builtin.«zip.__new__» ⟨[.type "zip", .ref a1, .ref a2], []⟩) (fun _ R s => SeqB k1 s.heap a1 xs ∧ SeqB k2 s.heap a2 ys ∧ R (.ok (.ret (.ref (hz4 k1 k2 s.heap a1 a2).objs.size))) { s with heap := hz5 k1 k2 s.heap a1 a2 }) :=
  .of_wp fun prog w A R s hyp => by
    obtain ⟨hp, gs, dr, tk, os⟩ := s
    obtain ⟨e1, e2, fin⟩ := hyp
    have issub := sub_zip
    cases k1 <;> cases k2
    · have f1 : Heap.IsTuple (Shared.heap ⟨hp, gs, dr, tk, os⟩) a1 xs := e1
      have f2 : Heap.IsTuple (Shared.heap ⟨hp.push { cls := .type "tuple_iterator", data := .fields #[.ref a1, .int 0 0] }, gs, dr, tk, os⟩) a2 ys := Heap.IsTuple.push e2 _
      wp_walk using wpAny_pyIter_tuple f1, wpAny_pyIter_tuple f2
      exact ⟨_, rfl, fin⟩
    · have f1 : Heap.IsTuple (Shared.heap ⟨hp, gs, dr, tk, os⟩) a1 xs := e1
      have f2 : Heap.IsList (Shared.heap ⟨hp.push { cls := .type "tuple_iterator", data := .fields #[.ref a1, .int 0 0] }, gs, dr, tk, os⟩) a2 ys := Heap.IsList.push e2 _
      wp_walk using wpAny_pyIter_tuple f1, wpAny_pyIter_list f2
      exact ⟨_, rfl, fin⟩
    · have f1 : Heap.IsList (Shared.heap ⟨hp, gs, dr, tk, os⟩) a1 xs := e1
      have f2 : Heap.IsTuple (Shared.heap ⟨hp.push { cls := .type "list_iterator", data := .fields #[.ref a1, .int 0 0] }, gs, dr, tk, os⟩) a2 ys := Heap.IsTuple.push e2 _
      wp_walk using wpAny_pyIter_list f1, wpAny_pyIter_tuple f2
      exact ⟨_, rfl, fin⟩
    · have f1 : Heap.IsList (Shared.heap ⟨hp, gs, dr, tk, os⟩) a1 xs := e1
      have f2 : Heap.IsList (Shared.heap ⟨hp.push { cls := .type "list_iterator", data := .fields #[.ref a1, .int 0 0] }, gs, dr, tk, os⟩) a2 ys := Heap.IsList.push e2 _
      wp_walk using wpAny_pyIter_list f1, wpAny_pyIter_list f2
      exact ⟨_, rfl, fin⟩
theorem IterB.mk {k : Bool} {h : Heap} {it l : Addr} (e : h.get? it = some { cls := .type (nmI k), data := .fields #[.ref l, .int 0 0] }) : IterB k h it l 0 := by
  cases k
  · exact ⟨_, e, rfl, rfl⟩
  · exact ⟨_, e, rfl, rfl⟩
theorem call_zipB {k1 k2 : Bool} {a1 a2 : Addr} {xs ys : Array Value} {Q : Value → Shared → Prop} (e1 : SeqB k1 s.heap a1 xs) (e2 : SeqB k2 s.heap a2 ys)
    (q : ∀ h', IsZip h' (s.heap.objs.size + 4) (s.heap.objs.size + 2) (s.heap.objs.size + 3) .none → IsPair h' (s.heap.objs.size + 2) (.ref s.heap.objs.size) (.ref (s.heap.objs.size + 1)) → IsPair h' (s.heap.objs.size + 3) .none .none →
      IterB k1 h' s.heap.objs.size a1 0 → IterB k2 h' (s.heap.objs.size + 1) a2 0 → h'.objs.size = s.heap.objs.size + 5 → (∀ c o, s.heap.get? c = some o → h'.get? c = some o) → Q (.ref (s.heap.objs.size + 4)) { s with heap := h' }) :
    wpAny (model prog w) A (call (.type "zip") [.ref a1, .ref a2]) Q E s := by
  refine callType_new F.called_zip (by decide) (F.typeCall_zip_2 _ _) (F.newCall_zip_2 _ _) (fun ob => F.args_object_init_3 ob _ _) F.entry_zip_new (new_zip k1 k2 a1 a2 xs ys) ⟨e1, e2, ?_⟩
  have w1 : (hz1 k1 s.heap a1).objs.size = s.heap.objs.size + 1 := Heap.size_push ..
  have w2 : (hz2 k1 k2 s.heap a1 a2).objs.size = s.heap.objs.size + 2 := by rw [Heap.size_push, w1]
  have w3 : (hz3 k1 k2 s.heap a1 a2).objs.size = s.heap.objs.size + 3 := by rw [Heap.size_push, w2]
  have w4 : (hz4 k1 k2 s.heap a1 a2).objs.size = s.heap.objs.size + 4 := by rw [Heap.size_push, w3]
  have w5 : (hz5 k1 k2 s.heap a1 a2).objs.size = s.heap.objs.size + 5 := by rw [Heap.size_push, w4]
  have g5 : (hz5 k1 k2 s.heap a1 a2).get? (hz4 k1 k2 s.heap a1 a2).objs.size = some _ := Heap.get?_push_size _ rfl
  have g4 : (hz5 k1 k2 s.heap a1 a2).get? (hz3 k1 k2 s.heap a1 a2).objs.size = some _ := Heap.get?_push_of_some _ (Heap.get?_push_size _ rfl)
  have g3 : (hz5 k1 k2 s.heap a1 a2).get? (hz2 k1 k2 s.heap a1 a2).objs.size = some _ := Heap.get?_push_of_some _ (Heap.get?_push_of_some _ (Heap.get?_push_size _ rfl))
  have g2 : (hz5 k1 k2 s.heap a1 a2).get? (hz1 k1 s.heap a1).objs.size = some _ := Heap.get?_push_of_some _ (Heap.get?_push_of_some _ (Heap.get?_push_of_some _ (Heap.get?_push_size _ rfl)))
  have g1 : (hz5 k1 k2 s.heap a1 a2).get? s.heap.objs.size = some _ := Heap.get?_push_of_some _ (Heap.get?_push_of_some _ (Heap.get?_push_of_some _ (Heap.get?_push_of_some _ (Heap.get?_push_size _ rfl))))
  show _ ∧ _
  rw [w2, w3, w4] at g5
  rw [w1, w2] at g3
  rw [w3] at g4
  rw [w1] at g2
  rw [w4]
  exact ⟨⟨_, g5, rfl⟩, q _ g5 g3 g4 (IterB.mk g1) (IterB.mk g2) w5 fun c o e => Heap.get?_push_of_some _ (Heap.get?_push_of_some _ (Heap.get?_push_of_some _ (Heap.get?_push_of_some _ (Heap.get?_push_of_some _ e))))⟩
end
/-! the walk over it -/
theorem seqB_of {X : Cx} {pins : List (Addr × Obj)} {σ : L2.St} {H : Hp} {s : Shared} {k : Bool} {a : Addr} {xs : List V} (I : Inv X pins σ H s) (h : SqB X.K k H a xs) : ∃ its : List Value, Vals xs its ∧ SeqB k s.heap a its.toArray := by
  cases k
  · obtain ⟨its, r, p, _⟩ := I.tuple h
    exact ⟨its, r, p⟩
  · obtain ⟨its, r, p, _⟩ := I.list h
    exact ⟨its, r, p.isList⟩
theorem seqB_one {X : Cx} {pins : List (Addr × Obj)} {σ : L2.St} {H : Hp} {s : Shared} {k : Bool} {a : Addr} {xs ys : List V} (I : Inv X pins σ H s) (h : SqB X.K k H a xs) (h' : SqB X.K k H a ys) : xs = ys := by
  cases k
  · exact I.tuple_inj h h'
  · exact I.list_inj h h'
/-- the sequences at a and b as they stand at each turn, their items in new pairs -/
def ItzB (K : PySem.W.Frag) (k1 k2 : Bool) (a b : Addr) : It :=
  ⟨fun i H => ∃ (xs ys : List V) (x y : V), SqB K k1 H a xs ∧ SqB K k2 H b ys ∧ xs[i]? = some x ∧ ys[i]? = some y,
    fun i H v H' => ∃ T x y, v = .ref T ∧ H T = none ∧ H' = upd H T (.tup [x, y]) ∧ (∀ xs, SqB K k1 H a xs → xs[i]? = some x) ∧ ∀ ys, SqB K k2 H b ys → ys[i]? = some y,
    fun i H => ∃ xs ys : List V, SqB K k1 H a xs ∧ SqB K k2 H b ys ∧ (xs.length ≤ i ∨ ys.length ≤ i)⟩
theorem turn_zipB {k1 k2 : Bool} {elts : List Expr} {kk : Nat} {tpos : Pos} {a b zo ti to j1 j2 : Addr} (D : ZipApart zo ti to j1 j2 a b) :
    Turn P w K (.Tuple elts kk tpos) (ItzB K k1 k2 a b) [zo, ti, to, j1, j2] zo (fun i h => IsZip h zo ti to .none ∧ IsPair h ti (.ref j1) (.ref j2) ∧ (∃ x y, IsPair h to x y) ∧ IterB k1 h j1 a i ∧ IterB k2 h j2 b i) where
  mem := by simp
  obj := fun i h ⟨cz, ci, ⟨x, y, co⟩, c1, c2⟩ c hc => by
    have e : c = zo ∨ c = ti ∨ c = to ∨ c = j1 ∨ c = j2 := by simpa using hc
    rcases e with e | e | e | e | e
    · rw [e]; exact ⟨_, cz, fun v z => nomatch z⟩
    · rw [e]; exact ⟨_, ci, fun v z => nomatch z⟩
    · rw [e]; exact ⟨_, co, fun v z => nomatch z⟩
    · obtain ⟨o, e1, e2⟩ := c1.obj
      exact ⟨o, e ▸ e1, fun v z => by rw [e2] at z; cases z⟩
    · obtain ⟨o, e1, e2⟩ := c2.obj
      exact ⟨o, e ▸ e1, fun v z => by rw [e2] at z; cases z⟩
  keep := fun i h h' ⟨cz, ci, ⟨x, y, co⟩, c1, c2⟩ kp =>
    ⟨kp zo (by simp) _ cz, kp ti (by simp) _ ci, ⟨x, y, kp to (by simp) _ co⟩, c1.to fun o z => kp j1 (by simp) o z, c2.to fun o z => kp j2 (by simp) o z⟩
  item := by
    intro X e1 e2 e3 calm i pins s σ H E I free st go
    subst e1 e2 e3
    obtain ⟨cz, ci, ⟨x0, y0, co⟩, c1, c2⟩ := st
    obtain ⟨xs, ys, x, y, qx, qy, hx, hy⟩ := go
    obtain ⟨its, rv, p⟩ := seqB_of I qx
    obtain ⟨jts, rv2, p2⟩ := seqB_of I qy
    obtain ⟨u, hu, ru⟩ := rv.get hx
    obtain ⟨v, hv, rv'⟩ := rv2.get hy
    have lz : zo < s.heap.objs.size := Heap.lt_size cz
    have typ : s.TypeIs (.ref zo) "zip" := ⟨_, cz, rfl⟩
    unfold pyNext
    refine wpAny_bind (wpAny_attempt (wpAny_callSpecial?_slot (name := Str.ofString "__next__") typ F.slot_zip_next (wpAny_call_entry F.slot_zip_next typ F.entry_zip_next (turn_item D cz ci co c1 c2 p p2 (x := u) (y := v) (by simpa using hu) (by simpa using hv) fun g z' o' i1 i2 pr sz kp => wpAny_pure ?_) (F.args_zip_next_1 _))))
    refine ⟨_, rfl, wpAny_letOwnedTupleGo_zip (s := { s with heap := g }) z' fun g' z'' sb => ?_⟩
    have pr2 : g'.get? s.heap.objs.size = some { cls := .type "tuple", data := .seq #[u, v] } := (sb.2 _ (Nat.ne_of_gt lz)).trans pr
    have fresh : ObjOk X.prog X.w (upd H s.heap.objs.size (.tup [x, y])) g' s.heap.objs.size (.tup [x, y]) := ⟨by show 2 ≤ sizeLine; decide, [u, v], .cons ru (.cons rv' .nil), ⟨_, pr2, rfl, _, rfl⟩⟩
    have J : Inv X pins σ (upd H s.heap.objs.size (.tup [x, y])) { s with heap := g' } :=
      I.turnedNew (t' := s.toks) (ch := [zo, ti, to, j1, j2]) (fun c o n e => by
        simp only [List.mem_cons, List.not_mem_nil, or_false, not_or] at n
        exact (sb.2 c n.1).trans (kp c o n.1 n.2.2.1 n.2.2.2.1 n.2.2.2.2 e)) free (Nat.le_refl _) fresh
    refine ⟨.ref s.heap.objs.size, _, J, rfl, ⟨_, x, y, rfl, I.hok.fresh (Nat.le_refl _), rfl, fun l hl => by rw [seqB_one I hl qx]; exact hx, fun l hl => by rw [seqB_one I hl qy]; exact hy⟩,
      ⟨z'', (sb.2 _ D.TIz).trans (kp _ _ D.TIz D.TITO D.TIi1 D.TIi2 ci), ⟨u, v, (sb.2 _ D.TOz).trans o'⟩, i1.to fun o z => (sb.2 _ D.i1z).trans z, i2.to fun o z => (sb.2 _ D.i2z).trans z⟩, fun c hc => ?_⟩
    have lc : c < s.heap.objs.size := by
      have e : c = zo ∨ c = ti ∨ c = to ∨ c = j1 ∨ c = j2 := by simpa using hc
      rcases e with e | e | e | e | e
      · exact e ▸ lz
      · exact e ▸ Heap.lt_size ci
      · exact e ▸ Heap.lt_size co
      · obtain ⟨o, z, _⟩ := c1.obj
        exact e ▸ Heap.lt_size z
      · obtain ⟨o, z, _⟩ := c2.obj
        exact e ▸ Heap.lt_size z
    rw [upd_ne (Nat.ne_of_lt lc)]
    exact (free c hc).1
  done := by
    intro X e1 e2 e3 calm i pins s σ H E I free st stop
    subst e1 e2 e3
    obtain ⟨cz, ci, ⟨x0, y0, co⟩, c1, c2⟩ := st
    obtain ⟨xs, ys, qx, qy, fin⟩ := stop
    obtain ⟨its, rv, p⟩ := seqB_of I qx
    obtain ⟨jts, rv2, p2⟩ := seqB_of I qy
    have n1 := rv.length
    have n2 := rv2.length
    have fin2 : its.toArray[i]? = none ∨ jts.toArray[i]? = none := by
      rcases fin with e | e
      · exact .inl (by simp; omega)
      · exact .inr (by simp; omega)
    have typ : s.TypeIs (.ref zo) "zip" := ⟨_, cz, rfl⟩
    unfold pyNext
    refine wpAny_bind (wpAny_attempt (wpAny_callSpecial?_slot (name := Str.ofString "__next__") typ F.slot_zip_next (wpAny_call_entry F.slot_zip_next typ F.entry_zip_next (turn_end (I.ok.hd calm) D cz ci co c1 c2 p p2 fin2 fun g r kp hr => ?_) (F.args_zip_next_1 _))))
    obtain ⟨o, h1, h2⟩ := hr
    refine wpAny_bind (wpAny_isInstance (T := "StopIteration") (b := true) ⟨o, h1, h2⟩ isSubtype_stop ?_)
    refine wpAny_pure ⟨rfl, I.turnedL (t' := s.toks) (ch := [zo, ti, to, j1, j2]) (fun c o n e => ?_) free⟩
    simp only [List.mem_cons, List.not_mem_nil, or_false, not_or] at n
    exact kp c o n.1 n.2.2.1 n.2.2.2.1 n.2.2.2.2 e
  self := fun A i s Q E st h => wpAny_pyIter_zip st.1 h
def iZipB (K : PySem.W.Frag) (ta : TA) : TI := fun σ H R => ta σ H fun vs H1 => ∃ (k1 k2 : Bool) (a b : Addr) (xs ys : List V), vs = [.ref a, .ref b] ∧ SqB K k1 H1 a xs ∧ SqB K k2 H1 b ys ∧ R (ItzB K k1 k2 a b) H1
theorem pi_zipB {X : Cx} {e e2 : Expr} {ta : TA} {p pos tpos : Pos} {elts : List Expr} {kk : Nat} (gl : Gl X "zip") (no : X.mg "zip" = none) (pa : PA X [e, e2] ta)
    (h1 : starEach [e, e2] X.env = (false, eval e X.env) :: starEach [e2] X.env := by rfl) (h2 : (backTo pos (starEach [e2] X.env)).any (·.1) = false := by rfl) : PI X (.Tuple elts kk tpos) (.Call (.Name "zip" p) [e, e2] [] pos) (iZipB X.K ta) := by
  constructor
  intro pins s σ H R I h
  refine Call_ (ld_blt I gl no PyProof.Rows.boot_zip (PyProof.Rows.callWith_type1 (thn (pa.run pos pins s σ H _ I h) fun us st z => ?_) h1 h2))
  obtain ⟨vs, H1, J, rel, k1, k2, a, b, xs, ys, rfl, qx, qy, fin⟩ := z
  obtain ⟨u1, u2, rfl, ra, rb⟩ := vals2 rel
  cases ra
  cases rb
  obtain ⟨its, rv, p1⟩ := seqB_of J qx
  obtain ⟨jts, rv2, p2⟩ := seqB_of J qy
  refine call_zipB p1 p2 fun g cz ci co c1 c2 sz kp => wpAny_pyIter_zip cz ?_
  have J2 : Inv X pins σ H1 { st with heap := g } := J.kept (t' := st.toks) kp
  refine ⟨st.heap.objs.size + 4, [st.heap.objs.size + 4, st.heap.objs.size + 2, st.heap.objs.size + 3, st.heap.objs.size, st.heap.objs.size + 1], _, _, H1, rfl, J2, turn_zipB (PySem.W.ktu_apart st.heap.objs.size a b p1.lt p2.lt), ⟨cz, ci, ⟨_, _, co⟩, c1, c2⟩, fun c hc => ?_, fin⟩
  have le : st.heap.objs.size ≤ c := by
    simp only [List.mem_cons, List.not_mem_nil, or_false] at hc
    rcases hc with e | e | e | e | e <;> (rw [e]; first | exact Nat.le_add_right _ _ | exact Nat.le_refl _)
  exact J.fpOk le (J.hok.fresh le)
theorem walk_zipB {k1 k2 : Bool} {a b : Addr} {xs ys : List V} {n : Nat} (hn : n = min xs.length ys.length) : Walk (ItzB K k1 k2 a b) n (fun H => SqB K k1 H a xs ∧ SqB K k2 H b ys) (YPair (fun i => xs[i]?) (fun i => ys[i]?)) where
  goes := fun i H hi q => by
    have l1 : i < xs.length := by omega
    have l2 : i < ys.length := by omega
    exact ⟨xs, ys, xs[i], ys[i], q.1, q.2, List.getElem?_eq_getElem l1, List.getElem?_eq_getElem l2⟩
  stops := fun H q => ⟨xs, ys, q.1, q.2, by omega⟩
  yields := fun i H v H' _ q y => by
    obtain ⟨T, x, z, h1, h2, h3, h4, h5⟩ := y
    exact ⟨T, x, z, h1, h2, h3, h4 xs q.1, h5 ys q.2⟩
end
section
variable {P : Program} {w : World} {K : PySem.W.Frag} {mg : Str → Option Value} {base : Heap}
/-! ### own errors: facts of a class, isinstance of a caught one, calls with keywords that may raise -/
/-- what stands of an own error class at C, over ValueError -/
structure XC (K : PySem.W.Frag) (C : Addr) : Prop where
  x : PySem.W.excIn K C [.type "ValueError", .type "Exception", .type "BaseException", .type "object"] "ValueError.__new__" = true
  k : PySem.W.keepIn K (.ref C) = true
  t : PySem.W.typeIn K (.ref C) = some (.type "type")
  cl : PySem.W.isClsIn K C = true
  s : PySem.W.subIn K (.ref C) (.ref C) = some true
  v : PySem.W.subIn K (.ref C) (.type "ValueError") = some true
  hg : PySem.W.findIn K (.ref C) "__getattribute__" = some (some (.builtin "BaseException.__getattribute__"))
  hk : PySem.W.findIn K (.ref C) "__getattr__" = some none
  hs : PySem.W.subIn K (.ref C) (.type "BaseException") = some true
  hd : PySem.W.hasDictIn K C = true
  ha : PySem.W.findIn K (.ref C) "__class__" = some (some (.builtin "object.__class__"))
  hn : PySem.W.specialIn K (.builtin "object.__class__") "__get__" = some (some (.builtin "getset_descriptor.__get__"))
  ht : PySem.W.takesIn K (.builtin "object.__class__") = some true
  hm : PySem.W.mroIn K C (.type "object") = some true
theorem XC.ec {C : Addr} (x : XC K C) : ExcC K C := ⟨x.hg, x.hk, x.hs, x.hd, x.ha, x.hn, x.ht, x.hm⟩
theorem XC.exm {C D : Addr} {b : Bool} (x : XC K C) (h : PySem.W.subIn K (.ref D) (.ref C) = some b) : PySem.W.exmOne K (.ref D) (.ref C) = some b := PySem.W.exm_ref x.hs x.hd x.t h
theorem XC.kit {C : Addr} {t : Value} {b : Bool} (x : XC K C) (h : PySem.W.subIn K t (.ref C) = some b) : PySem.W.kitOne K t (.ref C) = some b := by
  unfold PySem.W.kitOne
  by_cases e : (t == .ref C) = true
  · rw [if_pos e]
    have e2 := beq_iff_eq.mp e
    rw [e2, x.s] at h
    exact h
  · rw [if_neg e]
    have h2 : (PySem.W.clsIn K C).isSome = true := x.cl
    have h3 : ((PySem.W.clsIn K C).isSome && PySem.W.typeIn K (.ref C) == some (.type "type")) = true := by
      rw [h2, x.t]
      rfl
    show (if ((PySem.W.clsIn K C).isSome && PySem.W.typeIn K (.ref C) == some (.type "type")) = true then PySem.W.subIn K t (.ref C) else none) = some b
    rw [if_pos h3]
    exact h
theorem XC.kitV {C : Addr} (x : XC K C) : PySem.W.kitOne K (.ref C) (.type "ValueError") = some true := by
  unfold PySem.W.kitOne
  rw [if_neg (by simp)]
  show (if PySem.W.kitMeta "ValueError" = true then PySem.W.subIn K (.ref C) (.type "ValueError") else none) = some true
  rw [if_pos (by decide +kernel)]
  exact x.v
/-- isinstance of the error that the suite holds, its class told in the reading -/
def rIsX (K : PySem.W.Frag) (cls : Value) (d : Option Addr) (a : Addr) : List V → Hp → VK → Prop := fun xs H Q => ∃ (D : Addr) (c : V) (cv : Value) (b : Bool), cls = .ref D ∧ d = none ∧ XC K D ∧ xs = [.ref a, c] ∧ ClsV c cv ∧ PySem.W.kitOne K (.ref D) cv = some b ∧ Q (.bl b) H
theorem call_isX {X : Cx} {a : Addr} {oe : Obj} {pn : List (Addr × Obj)} {cls : Value} {d : Option Addr} (hz : Zc cls d oe) (hf : ∃ vs, oe.data = .fields vs) : CallR (X.suite a ((a, oe) :: pn)) (.builtin "isinstance") (rIsX X.K cls d a) := by
  intro pins st σ H xs us Q inv rel ⟨D, c, cv, b, e1, e2, C, e3, cc, e4, q⟩
  subst e1 e2
  exact call_isE C.ec hz hf pins st σ H xs us Q inv rel ⟨c, cv, b, e3, fun u r => cc.eq r, e4, q⟩
/-- f(e, .., k = v, ..), what is raised wished for at the caller's slots -/
def tKwS (n m : Nat) (sp : Sp) (gV : List V → List V → List V) (E : L2.St → XK) (t tk : TA) : TE := fun σ H Q => t σ H fun vs H1 => tk σ H1 fun zs H2 => vs.length = n ∧ zs.length = m ∧ sp (gV vs zs) H2 Q (E σ)
theorem pe_kwS {X : Cx} {CX : CXT} {k n : Nat} {f : Addr} {fd : FuncData} {ps ks : List Str} {sp : Sp} {E : L2.St → XK} {x : Str} {p pos : Pos} {e : Expr} {es : List Expr} {kws : List Keyword} {t tk : TA} {g : List Value → List Value → List Value} {gV : List V → List V → List V}
    (G : FnOk X.prog X.w X.K X.mg X.base CX k f fd ps sp) (room : Room k X.A) (gl : Gl X x) (gm : X.mg x = some (.ref f)) (kp : PySem.W.keepIn X.K (.ref f) = true) (kb : KBn X.K fd ps n ks g gV) (out : ∀ σ, PassesAt CX X σ (E σ))
    (pa : PA X (e :: es) t) (pk : PK X kws tk) (h1 : (backToKw pos (keywordEach kws X.env)).all (·.1.isSome) = true := by rfl) (h2 : (backToKw pos (keywordEach kws X.env)).filterMap (·.1) = ks := by rfl)
    (h3 : (x == ("__debug__" : Str)) = false := by decide) (h4 : starEach (e :: es) X.env = (false, eval e X.env) :: starEach es X.env := by rfl)
    (h5 : ((backTo pos (starEach (e :: es) X.env)).any (·.1) || (backToKw pos (keywordEach kws X.env)).any (·.1.isNone)) = false := by rfl) :
    PE X (.Call (.Name x p) (e :: es) kws pos) (tKwS n ks.length sp gV E t tk) := by
  constructor
  intro pins st σ H Q inv z
  refine wpAny_Call_Name_kw (ld_glob inv gl gm ?_ h3)
  refine PySem.W.callWith_KW (h₀ := X.base) inv.ok.mod.kin kp h1 (thn (pa.run pos pins st σ H _ inv z) fun us s1 z1 => ?_) h5 h4
  obtain ⟨vs, H1, inv1, r1, z2⟩ := z1
  refine thn (pk.run pos pins s1 σ H1 _ inv1 z2) fun ws s2 z3 => ?_
  obtain ⟨zs, H2, inv2, r2, l1, l2, z4⟩ := z3
  refine ⟨inv2.kIn, ?_⟩
  rw [h2]
  have b := kb.to s2 us ws inv2.kIn (r1.length.symm.trans l1) (r2.length.symm.trans l2)
  refine wpAny_call (codeAny_mono (G.run X.A X.stack s2 H2 ⟨us, ks.zip ws⟩ (g us ws) (gV vs zs) Q (E σ) room inv2.env0 b (kb.rel r1 r2) z4) fun res st3 fin => ?_)
  rcases res with err | flow
  · exact out σ pins H2 s2 err st3 inv2 fin
  · rcases flow with _ | u | _ | _
    all_goals first | exact False.elim fin | exact inv2.after fin
end
section
variable {P : Program} {w : World} {K : PySem.W.Frag} {mg : Str → Option Value} {base : Heap}
/-! ### own classes: methods and operators that may raise, wished for at the caller's slots -/
/-- what isinstance asks of a class of the text -/
structure CC (K : PySem.W.Frag) (C : Addr) : Prop where
  k : PySem.W.keepIn K (.ref C) = true
  t : PySem.W.typeIn K (.ref C) = some (.type "type")
  cl : PySem.W.isClsIn K C = true
  sf : PySem.W.selfFirst K C = true
  ha : PySem.W.findIn K (.ref C) "__class__" = some (some (.builtin "object.__class__"))
  hn : PySem.W.specialIn K (.builtin "object.__class__") "__get__" = some (some (.builtin "getset_descriptor.__get__"))
  ht : PySem.W.takesIn K (.builtin "object.__class__") = some true
  hm : PySem.W.mroIn K C (.type "object") = some true
theorem CC.ty {C a dx : Addr} {H : Hp} {fs : List (Str × V)} (c : CC K C) (k : Cls K C) (h : H a = some (.ins C dx fs)) : TyX K H (.ref a) (.ref C) := .base (.ins h k c.ha c.hn c.ht c.hm)
theorem CC.kit {C : Addr} : PySem.W.kitOne K (.ref C) (.ref C) = some true := by
  unfold PySem.W.kitOne
  rw [if_pos (beq_self_eq_true _)]
theorem rel_ni {v : V} {u : Value} (r : RelV v u) : u ≠ .notImplemented := by
  intro e
  subst e
  cases v <;> first | (obtain ⟨t, z⟩ := r; cases z; done) | (cases r; done)
section
variable {X : Cx} {CX : CXT} {k : Nat} {f C : Addr} {fd : FuncData} {ps : List Str} {sp : Sp} {E : L2.St → XK} {m : Str} {pos apos : Pos} {e o : Expr} {es : List Expr} {ta tb : TE} {t : TA} {op : Operator}
def tMethX (C : Addr) (m : Str) (sp : Sp) (E : L2.St → XK) (ta : TE) (t : TA) : TE := fun σ H Q => ta σ H fun x H1 => ∃ a dx fs, x = .ref a ∧ H1 a = some (.ins C dx fs) ∧ fs.lookup m = none ∧ t σ H1 fun vs H2 => sp (x :: vs) H2 Q (E σ)
theorem pe_methX {pl : Sem Bool} (po : PE X o ta) (c : Cls X.K C) (M : Meth X.K C m f) (G : FnOk X.prog X.w X.K X.mg X.base CX k f fd ps sp) (room : Room k X.A) (bi : Binds X.K fd ps []) (out : ∀ σ, PassesAt CX X σ (E σ)) (pa : PA X (e :: es) t)
    (h1 : starEach (e :: es) X.env = (false, eval e X.env) :: starEach es X.env := by rfl) (h2 : (backTo pos (starEach es X.env)).any (·.1) = false := by rfl)
    (h3 : eval (.Call (.Attribute o m apos) (e :: es) [] pos) X.env = (do
      let ov ← eval o X.env
      standAt apos.atName
      let (g, first) ← holding [ov] (getMethod ov m pl)
      callWith pos g first (backTo pos (starEach (e :: es) X.env)) (backToKw pos (keywordEach [] X.env))) := by rfl) :
    PE X (.Call (.Attribute o m apos) (e :: es) [] pos) (tMethX C m sp E ta t) := by
  constructor
  intro pins s σ H Q inv z
  refine PySem.W.methodCall_KW (pl := pl) (thn (po.run pins s σ H _ inv z) fun u s1 z1 => ?_) h3
  obtain ⟨x, H1, inv1, rx, a, dx, fs, rfl, ea, el, z2⟩ := z1
  obtain rfl : u = Value.ref a := rx
  refine getmeth_ok inv1 ea c M el ?_
  refine PySem.W.callWith_K (first := [.ref a]) (h₀ := X.base) inv.ok.mod.kin M.kp (thn (pa.run pos pins s1 σ H1 _ inv1 z2) fun us s2 z3 => ?_) h1 h2
  obtain ⟨vs, H2, inv2, r, z4⟩ := z3
  exact ⟨inv2.kIn, run_fnS (us := .ref a :: us) (vs := .ref a :: vs) G room bi (out σ) inv2 (.cons rfl r) z4⟩
/-- a op b, both of the class at C, by its own method -/
def tOwnX (C : Addr) (sp : Sp) (E : L2.St → XK) (ta tb : TE) : TE := fun σ H Q => ta σ H fun x H1 => tb σ H1 fun y H2 => ∃ a b dx dy fs gs, x = .ref a ∧ y = .ref b ∧ H2 a = some (.ins C dx fs) ∧ H2 b = some (.ins C dy gs) ∧ sp [x, y] H2 Q (E σ)
theorem pe_ownX {a b : Expr} (M : PySem.W.findIn X.K (.ref C) (PySem.dunder op.info.2) = some (some (.ref f))) (isf : PySem.W.isFn X.K (.ref f) = true) (sf : PySem.W.selfFirst X.K C = true) (G : FnOk X.prog X.w X.K X.mg X.base CX k f fd ps sp) (room : Room k X.A) (bi : Binds X.K fd ps []) (out : ∀ σ, PassesAt CX X σ (E σ))
    (pa : PE X a ta) (pb : PE X b tb) : PE X (.BinOp a op b pos) (tOwnX C sp E ta tb) := by
  constructor
  intro pins s σ H Q inv z
  refine wpAny_BinOp (binT pa pb inv z fun v u s2 x y H2 inv2 rx ry q => ?_)
  obtain ⟨a, b, dx, dy, fs, gs, rfl, rfl, ha, hb, q⟩ := q
  obtain rfl : v = Value.ref a := rx
  obtain rfl : u = Value.ref b := ry
  obtain ⟨mA, JA, _⟩ := ins_get inv2.hok ha
  obtain ⟨mB, JB, _⟩ := ins_get inv2.hok hb
  obtain ⟨oa, JA, _⟩ := JA.look
  obtain ⟨ob, JB, _⟩ := JB.look
  obtain ⟨m, fr⟩ := inv2.fr
  refine PySem.W.binop_K fr inv2.ok.mod.kin JA JB.type sf M isf ?_
  refine wpAny_mono (run_fnS (us := [.ref a, .ref b]) (vs := [.ref a, .ref b]) G room bi (out σ) inv2 (.cons rfl (.cons rfl .nil)) q) (fun r s3 h3 => ?_) fun _ _ h => h
  obtain ⟨v, H3, inv3, r3, q3⟩ := h3
  have n := rel_ni r3
  unfold PySem.W.CmpBack
  split
  · exact absurd rfl n
  · exact ⟨v, H3, inv3, r3, q3⟩
theorem pe_fldK {K : PySem.W.Frag} {n : Str} (q : X.K = K) (pa : PE X e ta) (hb : attributeBase e n X.env (eval e X.env) = eval e X.env) : PE X (.Attribute e n pos) (tFld K ta n) := q ▸ pe_fld pa hb
theorem passZ {σ : L2.St} : PassesAt (L2.CX X.prog X.w) X σ E0 := fun _ _ _ _ _ _ h => by
  obtain ⟨_, _, _, _, _, _, _, _, _, _, _, _, z⟩ := h
  exact z.elim
/-- C(e, ..), what is raised wished for at the caller's slots -/
def tMakeX (C : Addr) (sp : Sp) (E : L2.St → XK) (t : TA) : TE := fun σ H Q => t σ H fun vs H1 => ∀ x dx, H1 x = none → H1 dx = none → dx ≠ x → sp (.ref x :: vs) (upd (upd H1 dx (.own x)) x (.ins C dx [])) (fun v H2 => v = .non ∧ Q (.ref x) H2) (E σ)
theorem pe_makeX {x : Str} {p : Pos} (M : Mk X.K C f) (G : FnOk X.prog X.w X.K X.mg X.base CX k f fd ps sp) (room : Room (k + 1) X.A) (gl : Gl X x) (gm : X.mg x = some (.ref C)) (bi : Binds X.K fd ps []) (out : ∀ σ, PassesAt CX X σ (E σ))
    (pa : PA X (e :: es) t) (h1 : (x == ("__debug__" : Str)) = false := by decide) (h2 : starEach (e :: es) X.env = (false, eval e X.env) :: starEach es X.env := by rfl) (h3 : (backTo pos (starEach es X.env)).any (·.1) = false := by rfl) :
    PE X (.Call (.Name x p) (e :: es) [] pos) (tMakeX C sp E t) := by
  constructor
  intro pins s σ H Q inv z
  refine wpAny_Call_Name_kw (ld_glob inv gl gm ?_ h1)
  refine PySem.W.callWith_K (h₀ := X.base) inv.ok.mod.kin M.kp (thn (pa.run pos pins s σ H _ inv z) fun us s1 z1 => ?_) h2 h3
  obtain ⟨vs, H1, inv1, r1, z2⟩ := z1
  refine ⟨inv1.kIn, ?_⟩
  have hyp := z2 (s1.heap.objs.size + 1) s1.heap.objs.size (inv1.hok.fresh (Nat.le_succ _)) (inv1.hok.fresh (Nat.le_refl _)) (Nat.ne_of_lt (Nat.lt_succ_self _))
  have inv2 := Inv.made (C := C) inv1
  have r2 : Vals (V.ref (s1.heap.objs.size + 1) :: vs) (Value.ref (s1.heap.objs.size + 1) :: us) := .cons rfl r1
  have bl := bi s1 (Value.ref (s1.heap.objs.size + 1) :: us) inv1.kIn (by
    rw [List.append_nil, ← r2.length]
    exact G.len _ _ _ _ hyp)
  have bl2 := bi _ (Value.ref (s1.heap.objs.size + 1) :: us) inv2.kIn (by
    rw [List.append_nil, ← r2.length]
    exact G.len _ _ _ _ hyp)
  rw [List.append_nil] at bl2
  refine wpAny_call (make_map (f := f) inv1.kIn M.makes M.init (beq_iff_eq.mp M.fn) (codeAny_mono (G.run _ X.stack _ _ ⟨Value.ref (s1.heap.objs.size + 1) :: us, []⟩ _ _ _ (E σ) (room.make C us []) (inv2.env0.make C us []) bl2 r2 hyp) fun res st3 fin => ?_))
  rcases res with err | flow
  · exact out σ pins _ _ err st3 inv2 fin
  · rcases flow with _ | u | _ | _
    all_goals first | exact False.elim fin | skip
    obtain ⟨v, H', inv3, rv, ev, q3⟩ := inv2.after fin
    subst ev
    exact ⟨rv, ⟨V.ref (s1.heap.objs.size + 1), H', inv3, rfl, q3⟩⟩
end
end

/-! The program's text by places, and what its top leaves. -/
def topS (i : Nat) : Stmt := PySem.Challenge.pw_barswoven_k03_products.main.body.getD i (.Pass ⟨0, 0, 0, 0⟩)
abbrev s_wall : Stmt := topS 0
abbrev s_is_base : Stmt := topS 6
abbrev s_dot : Stmt := topS 7
abbrev s_Matrix_init : Stmt := inClass (topS 9) 0
abbrev s_Matrix_height : Stmt := inClass (topS 9) 4
abbrev s_Matrix_column : Stmt := inClass (topS 9) 6
abbrev s_Matrix_apply : Stmt := inClass (topS 9) 8
abbrev s_Matrix_mul : Stmt := inClass (topS 9) 11
abbrev s_Matrix_add : Stmt := inClass (topS 9) 12
abbrev s_Matrix_sub : Stmt := inClass (topS 9) 13
abbrev s_Matrix_eq : Stmt := inClass (topS 9) 14
abbrev s_is_vector : Stmt := topS 10
abbrev s_check_bases : Stmt := topS 11
abbrev s_sum_of_rows : Stmt := topS 12
abbrev s_plus_times : Stmt := topS 13
abbrev s_law_cell : Stmt := topS 15
abbrev s_law_draws : Stmt := topS 16
abbrev s_law_next : Stmt := topS 17
abbrev s_law_is_prime : Stmt := topS 18
abbrev s_law_prime : Stmt := topS 19
abbrev s_law_same : Stmt := topS 20
abbrev s_law_product : Stmt := topS 21
abbrev s_law_applied : Stmt := topS 22
abbrev s_law_drawn : Stmt := topS 23
abbrev s_law_is_matrix : Stmt := topS 24
abbrev s_law_fails : Stmt := topS 25
abbrev s_law : Stmt := topS 26
abbrev i_wall : Nat := 0
abbrev i_WovenError : Nat := 1
abbrev i_InvalidMatrix : Nat := 2
abbrev i_BASES : Nat := 3
abbrev i_is_base : Nat := 4
abbrev i_dot : Nat := 5
abbrev i_Matrix : Nat := 6
abbrev i_Matrix_init : Nat := 7
abbrev i_Matrix_height : Nat := 8
abbrev i_Matrix_column : Nat := 9
abbrev i_Matrix_apply : Nat := 10
abbrev i_Matrix_mul : Nat := 11
abbrev i_Matrix_add : Nat := 12
abbrev i_Matrix_sub : Nat := 13
abbrev i_Matrix_eq : Nat := 14
abbrev i_is_vector : Nat := 15
abbrev i_check_bases : Nat := 16
abbrev i_sum_of_rows : Nat := 17
abbrev i_plus_times : Nat := 18
abbrev i_law_cell : Nat := 19
abbrev i_law_draws : Nat := 20
abbrev i_law_next : Nat := 21
abbrev i_law_is_prime : Nat := 22
abbrev i_law_prime : Nat := 23
abbrev i_law_same : Nat := 24
abbrev i_law_product : Nat := 25
abbrev i_law_applied : Nat := 26
abbrev i_law_drawn : Nat := 27
abbrev i_law_is_matrix : Nat := 28
abbrev i_law_fails : Nat := 29
abbrev i_law : Nat := 30
structure TX (K : PySem.W.Frag) (mg : Str → Option Value) (a : Nat → Addr) (d : Nat → FuncData) : Prop where
  B : BI mg
  F_wall : Fun K "_wall" "_wall" s_wall (a 0) (d 0)
  g_wall : mg "_wall" = some (.ref (a 0))
  b_wall : Binds K (d 0) ["k"] []
  g_WovenError : mg "WovenError" = some (.ref (a 1))
  x_WovenError : XC K (a 1)
  g_InvalidMatrix : mg "InvalidMatrix" = some (.ref (a 2))
  x_InvalidMatrix : XC K (a 2)
  g_BASES : mg "BASES" = some (.ref (a 3))
  h_BASES : ∀ H, SqT K H (a 3) (vI ([2, 3, 5, 7, 11, 13, 17, 19, 23, 29, 31, 37, 41, 43, 47, 53, 59, 61, 67, 71, 73, 79, 83, 89, 97] : List Int))
  F_is_base : Fun K "is_base" "is_base" s_is_base (a 4) (d 4)
  g_is_base : mg "is_base" = some (.ref (a 4))
  b_is_base : Binds K (d 4) ["number"] []
  F_dot : Fun K "dot" "dot" s_dot (a 5) (d 5)
  g_dot : mg "dot" = some (.ref (a 5))
  g_Matrix : mg "Matrix" = some (.ref (a 6))
  c_Matrix : Cls K (a 6)
  cc_Matrix : CC K (a 6)
  n_Matrix_base : NoAttr K (a 6) "base"
  n_Matrix_width : NoAttr K (a 6) "width"
  n_Matrix_rows : NoAttr K (a 6) "rows"
  F_Matrix_init : Fun K "__init__" "Matrix.__init__" s_Matrix_init (a 7) (d 7)
  b_Matrix_init : Binds K (d 7) ["self", "base", "width", "rows"] []
  mk_Matrix : Mk K (a 6) (a 7)
  F_Matrix_height : Fun K "height" "Matrix.height" s_Matrix_height (a 8) (d 8)
  b_Matrix_height : Binds K (d 8) ["self"] []
  p_Matrix_height : ∃ p : Addr, PropOf K (a 6) "height" p (a 8)
  F_Matrix_column : Fun K "column" "Matrix.column" s_Matrix_column (a 9) (d 9)
  b_Matrix_column : Binds K (d 9) ["self", "place"] []
  m_Matrix_column : Meth K (a 6) "column" (a 9)
  F_Matrix_apply : Fun K "apply" "Matrix.apply" s_Matrix_apply (a 10) (d 10)
  b_Matrix_apply : Binds K (d 10) ["self", "vector"] []
  m_Matrix_apply : Meth K (a 6) "apply" (a 10)
  F_Matrix_mul : Fun K "__mul__" "Matrix.__mul__" s_Matrix_mul (a 11) (d 11)
  b_Matrix_mul : Binds K (d 11) ["self", "other"] []
  m_Matrix_mul : Meth K (a 6) "__mul__" (a 11)
  F_Matrix_add : Fun K "__add__" "Matrix.__add__" s_Matrix_add (a 12) (d 12)
  b_Matrix_add : Binds K (d 12) ["self", "other"] []
  m_Matrix_add : Meth K (a 6) "__add__" (a 12)
  F_Matrix_sub : Fun K "__sub__" "Matrix.__sub__" s_Matrix_sub (a 13) (d 13)
  b_Matrix_sub : Binds K (d 13) ["self", "other"] []
  m_Matrix_sub : Meth K (a 6) "__sub__" (a 13)
  F_Matrix_eq : Fun K "__eq__" "Matrix.__eq__" s_Matrix_eq (a 14) (d 14)
  b_Matrix_eq : Binds K (d 14) ["self", "other"] []
  m_Matrix_eq : Meth K (a 6) "__eq__" (a 14)
  F_is_vector : Fun K "_is_vector" "_is_vector" s_is_vector (a 15) (d 15)
  g_is_vector : mg "_is_vector" = some (.ref (a 15))
  b_is_vector : Binds K (d 15) ["entries", "length", "base"] []
  F_check_bases : Fun K "_check_bases" "_check_bases" s_check_bases (a 16) (d 16)
  g_check_bases : mg "_check_bases" = some (.ref (a 16))
  b_check_bases : Binds K (d 16) ["first", "second"] []
  F_sum_of_rows : Fun K "_sum_of_rows" "_sum_of_rows" s_sum_of_rows (a 17) (d 17)
  g_sum_of_rows : mg "_sum_of_rows" = some (.ref (a 17))
  b_sum_of_rows : Binds K (d 17) ["factors", "matrix"] []
  F_plus_times : Fun K "_plus_times" "_plus_times" s_plus_times (a 18) (d 18)
  g_plus_times : mg "_plus_times" = some (.ref (a 18))
  b_plus_times : Binds K (d 18) ["first", "factor", "second"] []
  F_law_cell : Fun K "_law_cell" "_law_cell" s_law_cell (a 19) (d 19)
  g_law_cell : mg "_law_cell" = some (.ref (a 19))
  b_law_cell : Binds K (d 19) ["script", "k"] []
  F_law_draws : Fun K "_law_draws" "_law_draws" s_law_draws (a 20) (d 20)
  g_law_draws : mg "_law_draws" = some (.ref (a 20))
  b_law_draws : Binds K (d 20) ["cell"] []
  F_law_next : Fun K "_law_next" "_law_next" s_law_next (a 21) (d 21)
  g_law_next : mg "_law_next" = some (.ref (a 21))
  b_law_next : Binds K (d 21) ["draws", "many"] []
  F_law_is_prime : Fun K "_law_is_prime" "_law_is_prime" s_law_is_prime (a 22) (d 22)
  g_law_is_prime : mg "_law_is_prime" = some (.ref (a 22))
  b_law_is_prime : Binds K (d 22) ["number"] []
  F_law_prime : Fun K "_law_prime" "_law_prime" s_law_prime (a 23) (d 23)
  g_law_prime : mg "_law_prime" = some (.ref (a 23))
  b_law_prime : Binds K (d 23) ["draws"] []
  F_law_same : Fun K "_law_same" "_law_same" s_law_same (a 24) (d 24)
  g_law_same : mg "_law_same" = some (.ref (a 24))
  b_law_same : Binds K (d 24) ["actual", "expected"] []
  F_law_product : Fun K "_law_product" "_law_product" s_law_product (a 25) (d 25)
  g_law_product : mg "_law_product" = some (.ref (a 25))
  b_law_product : Binds K (d 25) ["left", "right", "width", "base"] []
  F_law_applied : Fun K "_law_applied" "_law_applied" s_law_applied (a 26) (d 26)
  g_law_applied : mg "_law_applied" = some (.ref (a 26))
  b_law_applied : Binds K (d 26) ["rows", "vector", "base"] []
  F_law_drawn : Fun K "_law_drawn" "_law_drawn" s_law_drawn (a 27) (d 27)
  g_law_drawn : mg "_law_drawn" = some (.ref (a 27))
  b_law_drawn : Binds K (d 27) ["draws", "base", "height", "width"] []
  F_law_is_matrix : Fun K "_law_is_matrix" "_law_is_matrix" s_law_is_matrix (a 28) (d 28)
  g_law_is_matrix : mg "_law_is_matrix" = some (.ref (a 28))
  b_law_is_matrix : Binds K (d 28) ["actual", "base", "width", "rows"] []
  F_law_fails : Fun K "_law_fails" "_law_fails" s_law_fails (a 29) (d 29)
  g_law_fails : mg "_law_fails" = some (.ref (a 29))
  b_law_fails : Binds K (d 29) ["pick", "left", "right", "vector"] []
  F_law : Fun K "law" "law" s_law (a 30) (d 30)
  g_law : mg "law" = some (.ref (a 30))
  b_law : Binds K (d 30) ["script"] []
  s_WovenError_InvalidMatrix : PySem.W.subIn K (.ref (a 1)) (.ref (a 2)) = some false
  s_InvalidMatrix_WovenError : PySem.W.subIn K (.ref (a 2)) (.ref (a 1)) = some true
section
variable {P : Program} {w : World} {K : PySem.W.Frag} {mg : Str → Option Value} {base : Heap}
/-! ### _law_cell -/
def spCell (K : PySem.W.Frag) : Sp := fun vs H Q _ => ∃ (a : Addr) (ns : List Int) (k : Nat), vs = [.ref a, .int (k : Int)] ∧ SqL K H a (vI ns) ∧ ∀ z : Int, Q (.int z) H
theorem sc_cell : FnScope ["script", "k"] ["script", "k"] (defScope s_law_cell) := ⟨rfl, rfl, rfl, by decide +kernel, rfl, by decide +kernel, by decide +kernel⟩
theorem ok_cell {f : Addr} {fd : FuncData} (F : Fun K "_law_cell" "_law_cell" s_law_cell f fd) (B : BI mg) : FnOk P w K mg base CX0 1 f fd ["script", "k"] (spCell K) := by
  refine F.ok sc_cell (fun vs H Q E h => ?_) (fun cdv A outer s H vs Q E hr h => ?_)
  · obtain ⟨a, ns, k, rfl, _⟩ := h
    rfl
  · obtain ⟨a, ns, k, rfl, hS, q⟩ := h
    refine ⟨_, pss_cons (ps_if (pt_cmpR op_lt (pv 1) (pe_callB call_len_seq (by rfl) B.len PySem.boot_len (pa_cons (pv 0) pa_nil)) (nomark _)) (pss_one (ps_ret (pe_ix ix_list (pv 0) (pv 1) (fun _ _ => rfl)))) pss_nil)
      (pss_one (ps_ret pe_int)), ?_⟩
    refine ⟨_, rfl, _, rfl, a, _, rfl, .inl hS, _, _, rfl, rfl, _, rfl, ?_⟩
    refine ite2 (fun c => ?_) (fun _ => q 0)
    have c1 : k < ns.length := by
      have z := of_decide_eq_true c
      rw [List.length_map] at z
      omega
    exact ⟨_, rfl, _, rfl, a, _, _, _, rfl, rfl, hS, atI_nat (ints_at c1), q _⟩
end
section
variable {P : Program} {w : World} {K : PySem.W.Frag} {mg : Str → Option Value} {base : Heap}
/-! ### _law_next -/
def spNext : Sp := fun vs H Q _ => ∃ (d r : Addr) (c : Nat) (many : Int), vs = [.ref d, .int many] ∧ Dr H d r c ∧ c ≤ 100000 ∧ 0 < many ∧
  ∀ (z : Int) (H' : Hp), 0 ≤ z → z < many → KeepBut d H H' → Dr H' d r (c + 1) → Q (.int z) H'
theorem sc_next : FnScope ["draws", "many", "row", "at"] ["draws", "many"] (defScope s_law_next) := ⟨rfl, rfl, rfl, by decide +kernel, rfl, by decide +kernel, by decide +kernel⟩
theorem ok_next {f : Addr} {fd : FuncData} (F : Fun K "_law_next" "_law_next" s_law_next f fd) (B : BI mg) : FnOk P w K mg base CX0 1 f fd ["draws", "many"] spNext := by
  refine F.ok sc_next (fun vs H Q E h => ?_) (fun cdv A outer s H vs Q E hr h => ?_)
  · obtain ⟨d, r, c, many, rfl, _⟩ := h
    rfl
  · obtain ⟨d, r, c, many, rfl, ⟨hne, hd, ns, hrow, hlen⟩, hc, hm, q⟩ := h
    refine ⟨_, pss_cons (ps_set (i := 2) sc_next.nd rfl (Or.inl rfl) (pe_ix ix_list (pv 0) pe_int (fun _ _ => rfl)))
      (pss_cons (ps_set (i := 3) sc_next.nd rfl (Or.inl rfl) (pe_ix ix_list (pv 0) pe_int (fun _ _ => rfl)))
      (pss_cons (ps_asg (pe_op op_add (pv 3) pe_int) (pg_sub (pv 0) pe_int set_list))
      (pss_cons (ps_if (pt_cmpR op_lt (pv 3) (pe_callB call_len_seq (by rfl) B.len PySem.boot_len (pa_cons (pv 2) pa_nil)) (nomark _))
        (pss_one (ps_ret (pe_op op_mod (pe_callTy call_int1 (by rfl) B.int (by decide +kernel) (pa_cons (pe_ix ix_list (pv 2) (pv 3) (fun _ _ => rfl)) pa_nil)) (pv 1)))) pss_nil)
      (pss_one (ps_ret (pe_op op_mod (pe_callTy call_int1 (by rfl) B.int (by decide +kernel) (pa_cons (pe_op op_add (pe_op op_mul (pe_op op_mul (pv 3) (pv 3)) pe_int) (pv 3)) pa_nil)) (pv 1))))))), ?_⟩
    have k1 : KeepBut d H (upd H d (.lst [.ref r, .int ((c : Int) + 1)])) := fun b o n e => by
      rw [upd_ne n]
      exact e
    have d1 : Dr (upd H d (.lst [.ref r, .int ((c : Int) + 1)])) d r (c + 1) := ⟨hne, upd_same, ns, by rw [upd_ne hne]; exact hrow, hlen⟩
    have hrow1 : (upd H d (.lst [.ref r, .int ((c : Int) + 1)])) r = some (.lst (vI ns)) := by
      rw [upd_ne hne]
      exact hrow
    have fin : ∀ z : Int, Q (.int (z % many)) (upd H d (.lst [.ref r, .int ((c : Int) + 1)])) := fun z =>
      q _ _ (Int.emod_nonneg z (Int.ne_of_gt hm)) (Int.emod_lt_of_pos z hm) k1 d1
    refine ⟨_, rfl, d, _, _, _, rfl, rfl, SqL.of hd, atI_nat (j := 0) rfl, ?_⟩
    refine ⟨_, rfl, d, _, _, _, rfl, rfl, SqL.of hd, atI_nat (j := 1) rfl, ?_⟩
    refine ⟨_, rfl, _, _, rfl, rfl, _, rfl, d, _, 1, 1, rfl, rfl, hd, rfl, ?_⟩
    refine ⟨_, rfl, _, rfl, r, _, rfl, .inl (SqL.of hrow1), _, _, rfl, rfl, _, rfl, ?_⟩
    refine ite2 (fun e => ?_) (fun _ => ?_)
    · have c1 : c < ns.length := by
        have z := of_decide_eq_true e
        rw [List.length_map] at z
        omega
      exact ⟨_, rfl, _, rfl, r, _, _, _, rfl, rfl, SqL.of hrow1, atI_nat (ints_at c1), .inl ⟨_, rfl, _, rfl, _, _, rfl, rfl, hm, fin _⟩⟩
    · refine ⟨_, rfl, _, rfl, _, _, rfl, rfl, .inl ⟨by omega, by omega⟩, _, _, rfl, rfl, .inr (by decide), _, rfl, _, _, rfl, rfl, .inl ⟨_, rfl, _, rfl, _, _, rfl, rfl, hm, fin _⟩⟩
end
section
variable {P : Program} {w : World} {K : PySem.W.Frag} {mg : Str → Option Value} {base : Heap}
/-! ### _law_draws -/
def spDraws : Sp := fun vs H Q _ => ∃ z : Int, vs = [.int z] ∧ ∀ (H' : Hp) (d r : Addr), Same H H' → H d = none → Dr H' d r 0 → Q (.ref d) H'
theorem sc_draws : FnScope ["cell", "row", "rest", "mixed", "is_great", "k"] ["cell"] (defScope s_law_draws) := ⟨rfl, rfl, rfl, by decide +kernel, rfl, by decide +kernel, by decide +kernel⟩
theorem ok_draws {f : Addr} {fd : FuncData} (F : Fun K "_law_draws" "_law_draws" s_law_draws f fd) (B : BI mg) : FnOk P w K mg base CX0 1 f fd ["cell"] spDraws := by
  refine F.ok sc_draws (fun vs H Q E h => ?_) (fun cdv A outer s H vs Q E hr h => ?_)
  · obtain ⟨z, rfl, _⟩ := h
    rfl
  · obtain ⟨z, rfl, q⟩ := h
    refine ⟨_, pss_cons (ps_set (i := 1) sc_draws.nd rfl (Or.inl rfl) (pe_lst pa_nil))
      (pss_cons (ps_set (i := 2) sc_draws.nd rfl (Or.inl rfl) (pe_callB call_abs (by rfl) B.abs (by decide +kernel) (pa_cons (pv 0) pa_nil)))
      (pss_cons (ps_set (i := 3) sc_draws.nd rfl (Or.inl rfl) (pe_op op_mod (pe_callTy call_int1 (by rfl) B.int (by decide +kernel) (pa_cons (pv 2) pa_nil)) pe_int))
      (pss_cons (ps_set (i := 4) sc_draws.nd rfl (Or.inl rfl) (pe_cmpR op_ge (pv 2) (pe_op op_pow pe_int pe_int) (nomark _)))
      (pss_cons (ps_for PassesOwn.never rfl (pi_range1 (by rfl) B.range (pa_cons pe_int pa_nil)) (pg_name (i := 5) sc_draws.nd rfl (Or.inl rfl))
        (pss_one (ps_if (PW.pt (pw_and (pt_val (pv 4)) (pw_and1 (pt_cmpR op_gt (pv 2) pe_int (nomark _)))))
          (pss_cons (ps_expr (pe_bm PySem.F.plainAttrs_list PySem.F.slot_list_append PySem.F.type_list_append mt_append (pv 1) (pa_cons (pe_op op_mod (pe_callTy call_int1 (by rfl) B.int (by decide +kernel) (pa_cons (pv 2) pa_nil)) pe_int) pa_nil)))
          (pss_one (ps_set (i := 2) sc_draws.nd rfl (Or.inl rfl) (pe_op op_fdiv (pv 2) pe_int))))
          (pss_cons (ps_set (i := 3) sc_draws.nd rfl (Or.inl rfl) (pe_op op_mod (pe_callTy call_int1 (by rfl) B.int (by decide +kernel) (pa_cons (pe_op op_add (pe_op op_mul (pv 3) pe_int) pe_int) pa_nil)) pe_int))
          (pss_one (ps_expr (pe_bm PySem.F.plainAttrs_list PySem.F.slot_list_append PySem.F.type_list_append mt_append (pv 1) (pa_cons (pe_op op_fdiv (pe_op op_mod (pe_callTy call_int1 (by rfl) B.int (by decide +kernel) (pa_cons (pe_op op_add (pe_op op_mul (pv 3) pe_int) pe_int) pa_nil)) pe_int) pe_int) pa_nil))))))))
      (pss_one (ps_ret (pe_lst (pa_cons (pv 1) (pa_cons pe_int pa_nil))))))))), ?_⟩
    refine ⟨Nat.zero_le _, fun r hr0 => ?_⟩
    refine ⟨_, rfl, _, rfl, ?_⟩
    refine ⟨_, rfl, .inl ⟨_, rfl, _, _, rfl, rfl, (by show (0 : Int) < 2147483647; decide), ?_⟩⟩
    refine ⟨_, rfl, _, _, rfl, rfl, ⟨by decide, by decide, by decide⟩, _, _, rfl, rfl, ?_⟩
    refine ⟨200, rfl, by decide, by decide, for_range (lo := 0) (n := 200) (fun i σ H' => ∃ (rest mixed : Int) (g : Bool) (v : Option V) (ns : List Int), σ = [some (.int z), some (.ref r), some (.int rest), some (.int mixed), some (.bl g), v] ∧ 0 ≤ mixed ∧ mixed < 2147483647 ∧ H' r = some (.lst (vI ns)) ∧ ns.length = i ∧ ∀ b o, H b = some o → H' b = some o)
      ⟨_, _, _, none, [], rfl, Int.emod_nonneg _ (by decide), Int.emod_lt_of_pos _ (by decide), upd_same, rfl, same_new hr0⟩ ?_ ?_⟩
    · rintro i σ H' hi ⟨rest, mixed, g, v, ns, rfl, m0, m1, hrow, hl, hs⟩
      have put : ∀ y : Int, ∀ b o, H b = some o → (upd H' r (.lst (vI ns ++ [V.int y]))) b = some o := fun y b o e => by
        rw [upd_ne (ne_of_none e hr0)]
        exact hs b o e
      have row : ∀ y : Int, (upd H' r (.lst (vI ns ++ [V.int y]))) r = some (.lst (vI (ns ++ [y]))) := fun y => by
        rw [upd_same]
        simp [vI]
      have len : ∀ y : Int, (ns ++ [y]).length = i + 1 := fun y => by
        rw [List.length_append, hl]
        rfl
      have small : (vI ns).length < sizeLine := by
        rw [List.length_map, hl]
        exact line_lt (by omega)
      refine ⟨_, rfl, g, rfl, ?_⟩
      cases g with
      | true =>
        refine iteT ⟨_, rfl, _, _, rfl, rfl, _, rfl, ite2 (fun _ => ?_) (fun _ => ?_)⟩
        · refine ⟨_, rfl, .inl ⟨rfl, _, SqL.of hrow⟩, _, rfl, .inl ⟨_, rfl, _, _, rfl, rfl, (by show (0 : Int) < 1000; decide), r, _, _, rfl, rfl, hrow, small, ?_⟩⟩
          refine ⟨_, rfl, _, _, rfl, rfl, ⟨by decide, by decide⟩, ?_⟩
          exact ⟨_, _, _, _, _, rfl, m0, m1, row _, len _, put _⟩
        · refine ⟨_, rfl, _, _, rfl, rfl, .inl ⟨by omega, by omega⟩, _, _, rfl, rfl, .inl ⟨_, rfl, _, _, rfl, rfl, (by show (0 : Int) < 2147483647; decide), ?_⟩⟩
          refine ⟨_, rfl, .inl ⟨rfl, _, SqL.of hrow⟩, _, rfl, _, _, rfl, rfl, .inl ⟨by have := Int.emod_nonneg (mixed * 48271 + 7919) (show (2147483647 : Int) ≠ 0 by decide); omega, by have := Int.emod_lt_of_pos (mixed * 48271 + 7919) (show (0 : Int) < 2147483647 by decide); omega⟩, _, _, rfl, rfl, .inl ⟨_, rfl, _, _, rfl, rfl, (by show (0 : Int) < 2147483629; decide), _, _, rfl, rfl, ⟨by decide, by decide⟩, r, _, _, rfl, rfl, hrow, small, ?_⟩⟩
          exact ⟨_, _, _, _, _, rfl, Int.emod_nonneg _ (by decide), Int.emod_lt_of_pos _ (by decide), row _, len _, put _⟩
      | false =>
        refine iteF ?_
        refine ⟨_, rfl, _, _, rfl, rfl, .inl ⟨by omega, by omega⟩, _, _, rfl, rfl, .inl ⟨_, rfl, _, _, rfl, rfl, (by show (0 : Int) < 2147483647; decide), ?_⟩⟩
        refine ⟨_, rfl, .inl ⟨rfl, _, SqL.of hrow⟩, _, rfl, _, _, rfl, rfl, .inl ⟨by have := Int.emod_nonneg (mixed * 48271 + 7919) (show (2147483647 : Int) ≠ 0 by decide); omega, by have := Int.emod_lt_of_pos (mixed * 48271 + 7919) (show (0 : Int) < 2147483647 by decide); omega⟩, _, _, rfl, rfl, .inl ⟨_, rfl, _, _, rfl, rfl, (by show (0 : Int) < 2147483629; decide), _, _, rfl, rfl, ⟨by decide, by decide⟩, r, _, _, rfl, rfl, hrow, small, ?_⟩⟩
        exact ⟨_, _, _, _, _, rfl, Int.emod_nonneg _ (by decide), Int.emod_lt_of_pos _ (by decide), row _, len _, put _⟩
    · rintro σ H' ⟨rest, mixed, g, v, ns, rfl, m0, m1, hrow, hl, hs⟩
      refine ⟨_, rfl, (by show 2 ≤ sizeLine; decide), fun d hd => ?_⟩
      have nrd : r ≠ d := ne_of_none hrow hd
      refine q _ d r (fun b o e => ?_) ?_ ⟨nrd, upd_same, ns, by rw [upd_ne nrd]; exact hrow, by omega⟩
      · rw [upd_ne (ne_of_none (hs b o e) hd)]
        exact hs b o e
      · cases e : H d with
        | none => rfl
        | some o =>
          rw [hs d o e] at hd
          cases hd
end
section
variable {P : Program} {w : World} {K : PySem.W.Frag} {mg : Str → Option Value} {base : Heap}
/-! ### _law_same: what it is asked of is always the same data -/
/-- x and y hold the same data, of depth at most n -/
def Eqd (K : PySem.W.Frag) : Nat → Hp → V → V → Prop
  | 0, _, x, y => x = y ∧ ((∃ i, x = .int i) ∨ (∃ b, x = .bl b) ∨ x = .non ∨ ∃ z, x = .str z)
  | n + 1, H, x, y => (x = y ∧ ((∃ i, x = .int i) ∨ (∃ b, x = .bl b) ∨ x = .non ∨ ∃ z, x = .str z)) ∨
      ∃ (a b : Addr) (xs ys : List V), x = .ref a ∧ y = .ref b ∧ ((SqL K H a xs ∧ SqL K H b ys) ∨ (SqT K H a xs ∧ SqT K H b ys)) ∧ xs.length = ys.length ∧ ys.length ≤ 1000 ∧
        ∀ (i : Nat) (u v : V), xs[i]? = some u → ys[i]? = some v → Eqd K n H u v
theorem Eqd.same : ∀ {n : Nat} {H H' : Hp} {x y : V}, Same H H' → Eqd K n H x y → Eqd K n H' x y
  | 0, _, _, _, _, _, h => h
  | n + 1, _, _, _, _, s, h => by
    rcases h with h | ⟨a, b, xs, ys, e1, e2, hs, l1, l2, al⟩
    · exact .inl h
    · refine .inr ⟨a, b, xs, ys, e1, e2, ?_, l1, l2, fun i u v h1 h2 => Eqd.same s (al i u v h1 h2)⟩
      rcases hs with ⟨h1, h2⟩ | ⟨h1, h2⟩
      · exact .inl ⟨s.seq h1, s.seq h2⟩
      · exact .inr ⟨SqT.same s h1, SqT.same s h2⟩
theorem Eqd.scal {H : Hp} {x y : V} : ∀ {n : Nat}, Eqd K 0 H x y → Eqd K n H x y
  | 0, h => h
  | n + 1, h => .inl h
theorem Eqd.split : ∀ {n : Nat} {H : Hp} {x y : V}, Eqd K n H x y → (x = y ∧ ((∃ i, x = .int i) ∨ (∃ b, x = .bl b) ∨ x = .non ∨ ∃ z, x = .str z)) ∨
    ∃ (m : Nat) (a b : Addr) (xs ys : List V), n = m + 1 ∧ x = .ref a ∧ y = .ref b ∧ ((SqL K H a xs ∧ SqL K H b ys) ∨ (SqT K H a xs ∧ SqT K H b ys)) ∧ xs.length = ys.length ∧ ys.length ≤ 1000 ∧
        ∀ (i : Nat) (u v : V), xs[i]? = some u → ys[i]? = some v → Eqd K m H u v
  | 0, _, _, _, h => .inl h
  | n + 1, _, _, _, h => by
    rcases h with h | ⟨a, b, xs, ys, h⟩
    · exact .inl h
    · exact .inr ⟨n, a, b, xs, ys, rfl, h⟩
theorem Eqd.int (n : Nat) (H : Hp) (i : Int) : Eqd K n H (.int i) (.int i) := Eqd.scal ⟨rfl, .inl ⟨i, rfl⟩⟩
theorem Eqd.bl (n : Nat) (H : Hp) (b : Bool) : Eqd K n H (.bl b) (.bl b) := Eqd.scal ⟨rfl, .inr (.inl ⟨b, rfl⟩)⟩
theorem tyx_list {H : Hp} {a : Addr} {xs : List V} (h : SqL K H a xs) : TyX K H (.ref a) (.type "list") := by
  rcases h with (h | ⟨o, h⟩) | ⟨o, its, n, h1, h2, _⟩
  · exact .base (.lst h)
  · exact .base (.frz h)
  · exact .kList h1 h2
theorem tyx_tup {H : Hp} {a : Addr} {xs : List V} (h : SqT K H a xs) : TyX K H (.ref a) (.type "tuple") := by
  rcases h with (h | ⟨o, h⟩) | ⟨o, its, n, h1, h2, _⟩
  · exact .base (.tup h)
  · exact .fTuple h
  · exact .kTuple h1 h2
theorem kit2 {t a b : String} {r1 r2 : Bool} (h1 : kitB t a = some r1) (h2 : kitB t b = some r2) : PySem.W.kitAny K (.type t) [.type a, .type b] = some (r1 || r2) :=
  kitAny_cons (kit_ty h1) (fun e => kitAny_cons (kit_ty h2) (fun e2 => by rw [e, e2]; exact kitAny_nil) (fun e2 => by rw [e2, Bool.or_true])) (fun e => by rw [e, Bool.true_or])
/-- isinstance of the value in slot i and of one built-in class -/
theorem rd_isi {σ : L2.St} {H : Hp} {Q : VK} {i : Nat} {x : V} {t T : String} {b : Bool} (h : σ[i]? = some (some x)) (ty : TyX K H x (.type t)) (e : kitB t T = some b) (q : Q (.bl b) H) :
    tCB (rIsi K) (tCons (tVar i) (tCons (tC (.ty T)) tNil)) σ H Q := ⟨x, h, x, .ty T, .type t, .type T, b, rfl, .ty T, ty, kit_ty e, q⟩
/-- .. and of the pair of tuple and list -/
theorem rd_isiT {σ : L2.St} {H : Hp} {Q : VK} {i : Nat} {x : V} {t : String} {r1 r2 : Bool} (h : σ[i]? = some (some x)) (ty : ∀ H', Same H H' → TyX K H' x (.type t)) (h1 : kitB t "tuple" = some r1) (h2 : kitB t "list" = some r2)
    (q : ∀ H', Same H H' → Q (.bl (r1 || r2)) H') : tCB (rIsiT K) (tCons (tVar i) (tCons (tTup (tCons (tC (.ty "tuple")) (tCons (tC (.ty "list")) tNil))) tNil)) σ H Q :=
  ⟨x, h, (by show 2 ≤ sizeLine; decide), fun p hp => ⟨x, p, [.ty "tuple", .ty "list"], .type t, [.type "tuple", .type "list"], _, rfl, upd_same, .cons (.ty "tuple") (.cons (.ty "list") .nil), ty _ (same_new hp), kit2 h1 h2, q _ (same_new hp)⟩⟩
def spSame (K : PySem.W.Frag) (n : Nat) : Sp := fun vs H Q _ => ∃ x y : V, vs = [x, y] ∧ Eqd K n H x y ∧ ∀ H', Same H H' → Q (.bl true) H'
def spSameLt (K : PySem.W.Frag) : Nat → Sp
  | 0 => fun _ _ _ _ => False
  | n + 1 => spSame K n
theorem sc_same : FnScope ["actual", "expected", "k"] ["actual", "expected"] (defScope s_law_same) := ⟨rfl, rfl, rfl, by decide +kernel, rfl, by decide +kernel, by decide +kernel⟩
theorem ok_same_step {f : Addr} {fd : FuncData} (n : Nat) (F : Fun K "_law_same" "_law_same" s_law_same f fd) (B : BI mg) (gS : mg "_law_same" = some (.ref f)) (bS : Binds K fd ["actual", "expected"] [])
    (G : FnOk P w K mg base CX0 n f fd ["actual", "expected"] (spSameLt K n)) : FnOk P w K mg base CX0 (n + 1) f fd ["actual", "expected"] (spSame K n) := by
  refine F.ok sc_same (fun vs H Q E h => ?_) (fun cdv A outer s H vs Q E hr h => ?_)
  · obtain ⟨x, y, rfl, _⟩ := h
    rfl
  · obtain ⟨x, y, rfl, he, q⟩ := h
    refine ⟨_, pss_cons (ps_if (pt_val (pe_callB call_isiT (by rfl) B.isi (by decide +kernel) (pa_cons (pv 1) (pa_cons (pe_tup (pa_cons (pe_bltn (v := .ty "tuple") (by rfl) B.tuple (by decide +kernel) rfl) (pa_cons (pe_bltn (v := .ty "list") (by rfl) B.list (by decide +kernel) rfl) pa_nil))) pa_nil))))
        (pss_cons (ps_if (PW.pt (pw_or
            (pt_cmpR op_ne (pe_callB call_isi (by rfl) B.isi (by decide +kernel) (pa_cons (pv 0) (pa_cons (pe_bltn (v := .ty "tuple") (by rfl) B.tuple (by decide +kernel) rfl) pa_nil))) (pe_callB call_isi (by rfl) B.isi (by decide +kernel) (pa_cons (pv 1) (pa_cons (pe_bltn (v := .ty "tuple") (by rfl) B.tuple (by decide +kernel) rfl) pa_nil))) (nomark _))
            (pw_or1 (pt_cmpR op_ne (pe_callB call_isi (by rfl) B.isi (by decide +kernel) (pa_cons (pv 0) (pa_cons (pe_bltn (v := .ty "list") (by rfl) B.list (by decide +kernel) rfl) pa_nil))) (pe_callB call_isi (by rfl) B.isi (by decide +kernel) (pa_cons (pv 1) (pa_cons (pe_bltn (v := .ty "list") (by rfl) B.list (by decide +kernel) rfl) pa_nil))) (nomark _)))))
          (pss_one (ps_ret pe_bl)) pss_nil)
        (pss_cons (ps_if (pt_cmpR op_ne (pe_callB call_len_seq (by rfl) B.len PySem.boot_len (pa_cons (pv 0) pa_nil)) (pe_callB call_len_seq (by rfl) B.len PySem.boot_len (pa_cons (pv 1) pa_nil)) (nomark _)) (pss_one (ps_ret pe_bl)) pss_nil)
        (pss_cons (ps_for PassesOwn.never rfl (pi_range1 (by rfl) B.range (pa_cons (pe_callB call_len_seq (by rfl) B.len PySem.boot_len (pa_cons (pv 1) pa_nil)) pa_nil)) (pg_name (i := 2) sc_same.nd rfl (Or.inl rfl))
          (pss_one (ps_if (pt_not (pt_val (pe_call G hr rfl gS F.kp bS .nil pass0 (pa_cons (pe_ix ix_seq (pv 0) (pv 2) (fun _ _ => rfl)) (pa_cons (pe_ix ix_seq (pv 1) (pv 2) (fun _ _ => rfl)) pa_nil))))) (pss_one (ps_ret pe_bl)) pss_nil)))
        (pss_one (ps_ret pe_bl))))) pss_nil)
      (pss_cons (ps_if (PW.pt (pw_or (pt_val (pe_callB call_isi (by rfl) B.isi (by decide +kernel) (pa_cons (pv 1) (pa_cons (pe_bltn (v := .ty "bool") (by rfl) B.bool (by decide +kernel) rfl) pa_nil))))
          (pw_or1 (pt_val (pe_callB call_isi (by rfl) B.isi (by decide +kernel) (pa_cons (pv 0) (pa_cons (pe_bltn (v := .ty "bool") (by rfl) B.bool (by decide +kernel) rfl) pa_nil)))))))
        (pss_one (ps_ret (pe_and (pe_callB call_isi (by rfl) B.isi (by decide +kernel) (pa_cons (pv 0) (pa_cons (pe_bltn (v := .ty "bool") (by rfl) B.bool (by decide +kernel) rfl) pa_nil)))
          (pe_and (pe_callB call_isi (by rfl) B.isi (by decide +kernel) (pa_cons (pv 1) (pa_cons (pe_bltn (v := .ty "bool") (by rfl) B.bool (by decide +kernel) rfl) pa_nil)))
          (pe_one (pe_cmpR op_eq (pv 0) (pv 1) (nomark _))))))) pss_nil)
      (pss_cons (ps_if (pt_cmpR op_isN (pv 1) pe_non (nomark _)) (pss_one (ps_ret (pe_cmpR op_isN (pv 0) pe_non (nomark _)))) pss_nil)
      (pss_cons (ps_if (pt_val (pe_callB call_isi (by rfl) B.isi (by decide +kernel) (pa_cons (pv 1) (pa_cons (pe_bltn (v := .ty "int") (by rfl) B.int (by decide +kernel) rfl) pa_nil))))
        (pss_one (ps_ret (pe_and (pe_callB call_isi (by rfl) B.isi (by decide +kernel) (pa_cons (pv 0) (pa_cons (pe_bltn (v := .ty "int") (by rfl) B.int (by decide +kernel) rfl) pa_nil))) (pe_one (pe_cmpR op_eq (pv 0) (pv 1) (nomark _)))))) pss_nil)
      (pss_one (ps_ret (pe_and (pe_callB call_isi (by rfl) B.isi (by decide +kernel) (pa_cons (pv 0) (pa_cons (pe_bltn (v := .ty "str") (by rfl) B.str (by decide +kernel) rfl) pa_nil))) (pe_one (pe_cmpR op_eq (pv 0) (pv 1) (nomark _))))))))), ?_⟩
    have self : ∀ (z : V) (H' : Hp), Same H H' → Q (.bl (decide (z = z))) H' := fun z H' s => by
      rw [decide_eq_true rfl]
      exact q H' s
    -- a value that is no list and no tuple
    rcases Eqd.split he with he | ⟨m, a, b, xs, ys, rfl, rfl, rfl, hs, hl, hl2, al⟩
    rotate_left
    · have hty : ∃ t r1 r2, (∀ H', Same H H' → TyX K H' (.ref a) (.type t)) ∧ (∀ H', Same H H' → TyX K H' (.ref b) (.type t)) ∧ kitB t "tuple" = some r1 ∧ kitB t "list" = some r2 ∧ (r1 || r2) = true := by
        rcases hs with ⟨h1, h2⟩ | ⟨h1, h2⟩
        · exact ⟨"list", false, true, fun H' s => tyx_list (s.seq h1), fun H' s => tyx_list (s.seq h2), by decide +kernel, by decide +kernel, rfl⟩
        · exact ⟨"tuple", true, false, fun H' s => tyx_tup (SqT.same s h1), fun H' s => tyx_tup (SqT.same s h2), by decide +kernel, by decide +kernel, rfl⟩
      obtain ⟨t, r1, r2, ta, tb, k1, k2, kk⟩ := hty
      refine rd_isiT rfl tb k1 k2 fun H1 s1 => ⟨_, rfl, ?_⟩
      rw [kk]
      refine iteT ?_
      refine rd_isi rfl (ta _ s1) k1 (rd_isi rfl (tb _ s1) k1 ⟨rfl, _, rfl, ?_⟩)
      refine if_f (by simp) ?_
      refine rd_isi rfl (ta _ s1) k2 (rd_isi rfl (tb _ s1) k2 ⟨rfl, _, rfl, ?_⟩)
      refine if_f (by simp) ?_
      have ls : ∀ H', Same H H' → (SqL K H' a xs ∨ SqT K H' a xs) ∧ (SqL K H' b ys ∨ SqT K H' b ys) := fun H' s => by
        rcases hs with ⟨h1, h2⟩ | ⟨h1, h2⟩
        · exact ⟨.inl (s.seq h1), .inl (s.seq h2)⟩
        · exact ⟨.inr (SqT.same s h1), .inr (SqT.same s h2)⟩
      have ixs : ∀ (H' : Hp) (i : Nat) (u : V) (R : VK), Same H H' → xs[i]? = some u → R u H' → rIx K (.ref a) (.int (0 + (i : Int))) H' R := fun H' i u R s hu r => by
        have e := atI_nat hu
        rw [← Int.zero_add (i : Int)] at e
        rcases hs with ⟨h1, h2⟩ | ⟨h1, h2⟩
        · exact .inl ⟨a, xs, _, u, rfl, rfl, s.seq h1, e, r⟩
        · exact .inr (.inl ⟨a, xs, _, u, rfl, rfl, SqT.same s h1, e, r⟩)
      have iys : ∀ (H' : Hp) (i : Nat) (u : V) (R : VK), Same H H' → ys[i]? = some u → R u H' → rIx K (.ref b) (.int (0 + (i : Int))) H' R := fun H' i u R s hu r => by
        have e := atI_nat hu
        rw [← Int.zero_add (i : Int)] at e
        rcases hs with ⟨h1, h2⟩ | ⟨h1, h2⟩
        · exact .inl ⟨b, ys, _, u, rfl, rfl, s.seq h2, e, r⟩
        · exact .inr (.inl ⟨b, ys, _, u, rfl, rfl, SqT.same s h2, e, r⟩)
      refine ⟨_, rfl, a, xs, rfl, (ls _ s1).1, _, rfl, b, ys, rfl, (ls _ s1).2, rfl, _, rfl, ?_⟩
      refine if_f (by rw [hl]; simp) ?_
      refine ⟨_, rfl, b, ys, rfl, (ls _ s1).2, (ys.length : Int), rfl, by omega, by omega, for_range (lo := 0) (n := ys.length) (fun i σ H' => (∃ v, σ = [some (.ref a), some (.ref b), v]) ∧ Same H H') ⟨⟨_, rfl⟩, s1⟩ ?_ ?_⟩
      · rintro i σ H' hi ⟨⟨v, rfl⟩, s2⟩
        have hx : xs[i]? = some xs[i] := List.getElem?_eq_getElem (by omega)
        have hy : ys[i]? = some ys[i] := List.getElem?_eq_getElem hi
        refine ⟨_, rfl, _, rfl, ixs _ i _ _ s2 hx ⟨_, rfl, _, rfl, iys _ i _ _ s2 hy ?_⟩⟩
        refine ⟨_, _, rfl, Eqd.same s2 (al i _ _ hx hy), fun H3 s3 => ⟨_, rfl, ?_⟩⟩
        exact iteF ⟨⟨_, rfl⟩, s2.trans s3⟩
      · rintro σ H' ⟨⟨v, rfl⟩, s2⟩
        exact q _ s2
    · obtain ⟨rfl, hh⟩ := he
      rcases hh with ⟨i, rfl⟩ | ⟨b, rfl⟩ | rfl | ⟨z, rfl⟩
      · refine rd_isiT (t := "int") (r1 := false) (r2 := false) rfl (fun _ _ => .base (.int i)) (by decide +kernel) (by decide +kernel) fun H1 s1 => ⟨_, rfl, iteF ?_⟩
        refine rd_isi (t := "int") (b := false) rfl (.base (.int i)) (by decide +kernel) ⟨_, rfl, iteF ?_⟩
        refine rd_isi (t := "int") (b := false) rfl (.base (.int i)) (by decide +kernel) ⟨_, rfl, iteF ?_⟩
        refine ⟨_, rfl, rfl, _, rfl, if_f (by simp) ?_⟩
        refine rd_isi (t := "int") (b := true) rfl (.base (.int i)) (by decide +kernel) ⟨_, rfl, iteT ?_⟩
        refine rd_isi (t := "int") (b := true) rfl (.base (.int i)) (by decide +kernel) ⟨_, rfl, iteT ?_⟩
        exact ⟨_, rfl, _, rfl, rfl, self _ _ s1⟩
      · refine rd_isiT (t := "bool") (r1 := false) (r2 := false) rfl (fun _ _ => .base (.bl b)) (by decide +kernel) (by decide +kernel) fun H1 s1 => ⟨_, rfl, iteF ?_⟩
        refine rd_isi (t := "bool") (b := true) rfl (.base (.bl b)) (by decide +kernel) ⟨_, rfl, iteT ?_⟩
        refine rd_isi (t := "bool") (b := true) rfl (.base (.bl b)) (by decide +kernel) ⟨_, rfl, iteT ?_⟩
        refine rd_isi (t := "bool") (b := true) rfl (.base (.bl b)) (by decide +kernel) ⟨_, rfl, iteT ?_⟩
        exact ⟨_, rfl, _, rfl, rfl, self _ _ s1⟩
      · refine rd_isiT (t := "NoneType") (r1 := false) (r2 := false) rfl (fun _ _ => .base .non) (by decide +kernel) (by decide +kernel) fun H1 s1 => ⟨_, rfl, iteF ?_⟩
        refine rd_isi (t := "NoneType") (b := false) rfl (.base .non) (by decide +kernel) ⟨_, rfl, iteF ?_⟩
        refine rd_isi (t := "NoneType") (b := false) rfl (.base .non) (by decide +kernel) ⟨_, rfl, iteF ?_⟩
        refine ⟨_, rfl, rfl, _, rfl, if_t (by simp) ?_⟩
        exact ⟨_, rfl, rfl, self _ _ s1⟩
      · refine rd_isiT (t := "str") (r1 := false) (r2 := false) rfl (fun _ _ => .base (.str z)) (by decide +kernel) (by decide +kernel) fun H1 s1 => ⟨_, rfl, iteF ?_⟩
        refine rd_isi (t := "str") (b := false) rfl (.base (.str z)) (by decide +kernel) ⟨_, rfl, iteF ?_⟩
        refine rd_isi (t := "str") (b := false) rfl (.base (.str z)) (by decide +kernel) ⟨_, rfl, iteF ?_⟩
        refine ⟨_, rfl, rfl, _, rfl, if_f (by simp) ?_⟩
        refine rd_isi (t := "str") (b := false) rfl (.base (.str z)) (by decide +kernel) ⟨_, rfl, iteF ?_⟩
        refine rd_isi (t := "str") (b := true) rfl (.base (.str z)) (by decide +kernel) ⟨_, rfl, iteT ?_⟩
        exact ⟨_, rfl, _, rfl, rfl, self _ _ s1⟩
theorem ok_same {f : Addr} {fd : FuncData} (F : Fun K "_law_same" "_law_same" s_law_same f fd) (B : BI mg) (gS : mg "_law_same" = some (.ref f)) (bS : Binds K fd ["actual", "expected"] []) :
    ∀ n : Nat, FnOk P w K mg base CX0 (n + 1) f fd ["actual", "expected"] (spSame K n)
  | 0 => ok_same_step 0 F B gS bS ⟨fun _ _ _ _ h => h.elim, fun _ _ _ _ _ _ _ _ _ _ _ _ _ h => h.elim⟩
  | n + 1 => ok_same_step (n + 1) F B gS bS (ok_same F B gS bS n)
end
section
variable {P : Program} {w : World} {K : PySem.W.Frag} {mg : Str → Option Value} {base : Heap}
/-! ### _law_is_prime, _law_prime -/
def isP (n : Int) : Bool := decide (1 < n) && (List.range (n - 2).toNat).all fun j => !decide (n.fmod (2 + (j : Int)) = 0)
def stepP (n : Int) : Int := if isP n = true then n else n + 1
def iterP : Nat → Int → Int
  | 0, n => n
  | k + 1, n => stepP (iterP k n)
def primes : List Int := [2, 3, 5, 7, 11, 13, 17, 19, 23, 29, 31, 37, 41, 43, 47, 53, 59, 61, 67, 71, 73, 79, 83, 89, 97]
theorem iterP_in : ∀ n ∈ (List.range 96).map (fun j : Nat => (2 : Int) + j), iterP 20 n ∈ primes := by decide +kernel
theorem iterP_low : ∀ (k : Nat) (n : Int), n ≤ iterP k n ∧ iterP k n ≤ n + k
  | 0, n => ⟨Int.le_refl _, by simp [iterP]⟩
  | k + 1, n => by
    have ih := iterP_low k n
    show n ≤ stepP (iterP k n) ∧ stepP (iterP k n) ≤ n + ((k + 1 : Nat) : Int)
    unfold stepP
    split <;> omega
theorem primes_bd : ∀ p ∈ primes, 2 ≤ p ∧ p ≤ 97 := by decide +kernel
def spIsPrime : Sp := fun vs H Q _ => ∃ n : Int, vs = [.int n] ∧ -1000 ≤ n ∧ n ≤ 100000 ∧ Q (.bl (isP n)) H
theorem sc_is_prime : FnScope ["number", "k"] ["number"] (defScope s_law_is_prime) := ⟨rfl, rfl, rfl, by decide +kernel, rfl, by decide +kernel, by decide +kernel⟩
theorem ok_is_prime {f : Addr} {fd : FuncData} (F : Fun K "_law_is_prime" "_law_is_prime" s_law_is_prime f fd) (B : BI mg) : FnOk P w K mg base CX0 1 f fd ["number"] spIsPrime := by
  refine F.ok sc_is_prime (fun vs H Q E h => ?_) (fun cdv A outer s H vs Q E hr h => ?_)
  · obtain ⟨n, rfl, _⟩ := h
    rfl
  · obtain ⟨n, rfl, lo, hi, q⟩ := h
    refine ⟨_, pss_cons (ps_for PassesOwn.never rfl (pi_range2 (by rfl) B.range (pa_cons pe_int (pa_cons (pv 0) pa_nil))) (pg_name (i := 1) sc_is_prime.nd rfl (Or.inl rfl))
        (pss_one (ps_if (pt_cmpR op_eq (pe_op op_modN (pv 0) (pv 1)) pe_int (nomark _)) (pss_one (ps_ret pe_bl)) pss_nil)))
      (pss_one (ps_ret (pe_cmpR op_gt (pv 0) pe_int (nomark _)))), ?_⟩
    refine ⟨_, rfl, 2, n, rfl, ⟨by decide, by decide, by omega, by omega⟩, for_range (lo := 2) (n := (n - 2).toNat) (fun i σ H' => (∃ v, σ = [some (.int n), v]) ∧ H' = H ∧ ∀ j : Nat, j < i → n.fmod (2 + (j : Int)) ≠ 0)
      ⟨⟨_, rfl⟩, rfl, fun j hj => absurd hj (Nat.not_lt_zero j)⟩ ?_ ?_⟩
    · rintro i σ H' hi ⟨⟨v, rfl⟩, rfl, al⟩
      refine ⟨_, rfl, _, rfl, _, _, rfl, rfl, by omega, rfl, _, rfl, ?_⟩
      refine ite2 (fun e => ?_) (fun e => ?_)
      · have e1 : n.fmod (2 + (i : Int)) = 0 := by
          have z := of_decide_eq_true e
          exact V.int.inj z
        have e2 : isP n = false := by
          unfold isP
          rw [Bool.and_eq_false_iff]
          refine .inr (List.all_eq_false.mpr ⟨i, List.mem_range.mpr hi, ?_⟩)
          rw [decide_eq_true e1]
          decide
        rw [e2] at q
        exact q
      · refine ⟨⟨_, rfl⟩, rfl, fun j hj => ?_⟩
        by_cases ej : j = i
        · rw [ej]
          intro z
          exact e (decide_eq_true (congrArg V.int z))
        · exact al j (by omega)
    · rintro σ H' ⟨⟨v, rfl⟩, rfl, al⟩
      have e2 : isP n = decide (1 < n) := by
        unfold isP
        have z : ((List.range (n - 2).toNat).all fun j => !decide (n.fmod (2 + (j : Int)) = 0)) = true := by
          rw [List.all_eq_true]
          intro j hj
          rw [decide_eq_false (al j (List.mem_range.mp hj))]
          rfl
        rw [z, Bool.and_true]
      rw [e2] at q
      exact ⟨_, rfl, _, _, rfl, rfl, q⟩
def spPrime : Sp := fun vs H Q _ => ∃ (d r : Addr) (c : Nat), vs = [.ref d] ∧ Dr H d r c ∧ c ≤ 10000 ∧
  ∀ (p : Int) (H' : Hp) (c' : Nat), c' ≤ c + 2 → p ∈ primes → KeepBut d H H' → Dr H' d r c' → Q (.int p) H'
theorem sc_prime : FnScope ["draws", "pick", "number", "k"] ["draws"] (defScope s_law_prime) := ⟨rfl, rfl, rfl, by decide +kernel, rfl, by decide +kernel, by decide +kernel⟩
theorem ok_prime {f fN fI : Addr} {fd fdN fdI : FuncData} (F : Fun K "_law_prime" "_law_prime" s_law_prime f fd) (B : BI mg)
    (FN : Fun K "_law_next" "_law_next" s_law_next fN fdN) (gN : mg "_law_next" = some (.ref fN)) (bN : Binds K fdN ["draws", "many"] [])
    (FI : Fun K "_law_is_prime" "_law_is_prime" s_law_is_prime fI fdI) (gI : mg "_law_is_prime" = some (.ref fI)) (bI : Binds K fdI ["number"] []) : FnOk P w K mg base CX0 2 f fd ["draws"] spPrime := by
  have GN : FnOk P w K mg base CX0 1 fN fdN ["draws", "many"] spNext := ok_next FN B
  have GI : FnOk P w K mg base CX0 1 fI fdI ["number"] spIsPrime := ok_is_prime FI B
  refine F.ok sc_prime (fun vs H Q E h => ?_) (fun cdv A outer s H vs Q E hr h => ?_)
  · obtain ⟨d, r, c, rfl, _⟩ := h
    rfl
  · obtain ⟨d, r, c, rfl, hd, hc, q⟩ := h
    refine ⟨_, pss_cons (ps_set (i := 1) sc_prime.nd rfl (Or.inl rfl) (pe_call GN hr rfl gN FN.kp bN .nil pass0 (pa_cons (pv 0) (pa_cons pe_int pa_nil))))
      (pss_cons (ps_if (pt_cmpR op_lt (pv 1) pe_int (nomark _)) (pss_one (ps_ret (pe_op op_add pe_int (pv 1)))) pss_nil)
      (pss_cons (ps_set (i := 2) sc_prime.nd rfl (Or.inl rfl) (pe_op op_add pe_int (pe_call GN hr rfl gN FN.kp bN .nil pass0 (pa_cons (pv 0) (pa_cons pe_int pa_nil)))))
      (pss_cons (ps_for PassesOwn.never rfl (pi_range1 (by rfl) B.range (pa_cons pe_int pa_nil)) (pg_name (i := 3) sc_prime.nd rfl (Or.inl rfl))
        (pss_one (ps_if (pt_not (pt_val (pe_call GI hr rfl gI FI.kp bI .nil pass0 (pa_cons (pv 2) pa_nil)))) (pss_one (ps_set (i := 2) sc_prime.nd rfl (Or.inl rfl) (pe_op op_add (pv 2) pe_int))) pss_nil)))
      (pss_one (ps_ret (pv 2)))))), ?_⟩
    refine ⟨_, rfl, d, r, c, 4, rfl, hd, by omega, by decide, fun z H1 z0 z4 k1 d1 => ?_⟩
    refine ⟨_, rfl, _, _, rfl, rfl, _, rfl, ?_⟩
    refine ite2 (fun e => ?_) (fun _ => ?_)
    · have e1 : z < 2 := of_decide_eq_true e
      refine ⟨_, rfl, _, _, rfl, rfl, q _ _ _ (Nat.le_succ _) ?_ k1 d1⟩
      have e2 : z = 0 ∨ z = 1 := by omega
      rcases e2 with rfl | rfl <;> decide +kernel
    · refine ⟨_, rfl, d, r, c + 1, 96, rfl, d1, by omega, by decide, fun y H2 y0 y4 k2 d2 => ⟨_, _, rfl, rfl, ?_⟩⟩
      refine ⟨20, rfl, by decide, by decide, for_range (lo := 0) (n := 20) (fun i σ H' => (∃ v, σ = [some (.ref d), some (.int z), some (.int (iterP i (2 + y))), v]) ∧ H' = H2) ⟨⟨_, rfl⟩, rfl⟩ ?_ ?_⟩
      · rintro i σ H' hi ⟨⟨v, rfl⟩, rfl⟩
        have b1 := iterP_low i (2 + y)
        refine ⟨_, rfl, _, rfl, by omega, by omega, _, rfl, ?_⟩
        cases e : isP (iterP i (2 + y)) with
        | true =>
          refine iteF ⟨⟨some (.int (0 + (i : Int))), ?_⟩, rfl⟩
          show _ = [_, _, some (V.int (stepP (iterP i (2 + y)))), _]
          unfold stepP
          rw [if_pos e]
          rfl
        | false =>
          refine iteT ⟨_, rfl, _, _, rfl, rfl, ⟨some (.int (0 + (i : Int))), ?_⟩, rfl⟩
          show _ = [_, _, some (V.int (stepP (iterP i (2 + y)))), _]
          unfold stepP
          rw [if_neg (by rw [e]; decide)]
          rfl
      · rintro σ H' ⟨⟨v, rfl⟩, rfl⟩
        refine ⟨_, rfl, q _ _ _ (Nat.le_refl _) (iterP_in _ ?_) (k1.trans k2) d2⟩
        rw [List.mem_map]
        exact ⟨y.toNat, List.mem_range.mpr (by omega), by omega⟩
end
section
variable {P : Program} {w : World} {K : PySem.W.Frag} {mg : Str → Option Value} {base : Heap}
/-! ### is_base -/
theorem in_ints (n : Int) : ∀ ns : List Int, inV (.int n) (vI ns) = decide (n ∈ ns)
  | [] => rfl
  | m :: ns => by
    have ih := in_ints n ns
    show (eqV (.int m) (.int n) || inV (.int n) (vI ns)) = _
    rw [ih]
    show ((m == n) || decide (n ∈ ns)) = _
    by_cases e : m = n
    · subst e
      simp
    · have e2 : ¬ n = m := fun z => e z.symm
      simp [e, e2]
theorem flat_ints : ∀ ns : List Int, (vI ns).all flatV = true
  | [] => rfl
  | _ :: ns => flat_ints ns
def spIsBase : Sp := fun vs H Q _ => ∃ n : Int, vs = [.int n] ∧ Q (.bl (decide (n ∈ primes))) H
theorem sc_is_base : FnScope ["number"] ["number"] (defScope s_is_base) := ⟨rfl, rfl, rfl, by decide +kernel, rfl, by decide +kernel, by decide +kernel⟩
theorem ok_is_base {f aB : Addr} {fd : FuncData} (F : Fun K "is_base" "is_base" s_is_base f fd) (gB : mg "BASES" = some (.ref aB)) (hB : ∀ H, SqT K H aB (vI primes)) : FnOk P w K mg base CX0 1 f fd ["number"] spIsBase := by
  refine F.ok sc_is_base (fun vs H Q E h => ?_) (fun cdv A outer s H vs Q E hr h => ?_)
  · obtain ⟨n, rfl, _⟩ := h
    rfl
  · obtain ⟨n, rfl, q⟩ := h
    refine ⟨_, pss_one (ps_ret (pe_cmpR op_in_seq (pv 0) (pe_glob (v := .ref aB) rfl gB rfl) (by rfl))), ?_⟩
    refine ⟨_, rfl, aB, _, rfl, .inr (hB _), rfl, flat_ints _, ?_⟩
    show Q (.bl (inV (.int n) (vI primes))) H
    rw [in_ints]
    exact q
end
section
variable {P : Program} {w : World} {K : PySem.W.Frag} {mg : Str → Option Value} {base : Heap}
/-! ### Matrix: what stands of one; _is_vector, __init__ -/
def mF (p w : Int) (T : Addr) : List (Str × V) := [("base", .int p), ("width", .int w), ("rows", .ref T)]
theorem nWB : (("width" : Str) == "base") = false := by decide +kernel
theorem nRB : (("rows" : Str) == "base") = false := by decide +kernel
theorem nRW : (("rows" : Str) == "width") = false := by decide +kernel
theorem mF_put (p w : Int) (T : Addr) : putF "rows" (.ref T) (putF "width" (.int w) (putF "base" (.int p) [])) = mF p w T := by
  have e1 : putF "width" (.int w) (putF "base" (.int p) []) = [(("base" : Str), V.int p), ("width", .int w)] := by
    show (if ("base" : Str) = "width" then _ else (("base" : Str), V.int p) :: putF "width" (V.int w) []) = _
    rw [if_neg (by decide +kernel)]
    rfl
  rw [e1]
  show (if ("base" : Str) = "rows" then _ else (("base" : Str), V.int p) :: (if ("width" : Str) = "rows" then _ else (("width" : Str), V.int w) :: putF "rows" (V.ref T) [])) = _
  rw [if_neg (by decide +kernel), if_neg (by decide +kernel)]
  rfl
theorem mF_base (p w : Int) (T : Addr) : (mF p w T).lookup ("base" : Str) = some (.int p) := by simp [mF, List.lookup]
theorem mF_width (p w : Int) (T : Addr) : (mF p w T).lookup ("width" : Str) = some (.int w) := by simp [mF, List.lookup, nWB]
theorem mF_rows (p w : Int) (T : Addr) : (mF p w T).lookup ("rows" : Str) = some (.ref T) := by simp [mF, List.lookup, nRB, nRW]
theorem mF_no (p w : Int) (T : Addr) {m : Str} (h1 : (m == "base") = false) (h2 : (m == "width") = false) (h3 : (m == "rows") = false) : (mF p w T).lookup m = none := by simp [mF, List.lookup, h1, h2, h3]
/-- at the i-th of ts stands the i-th of rows -/
def Refs (mk : List V → HO) (H : Hp) (ts : List Addr) (rows : List (List Int)) : Prop := ts.length = rows.length ∧ ∀ (i : Nat) (t : Addr) (r : List Int), ts[i]? = some t → rows[i]? = some r → H t = some (mk (vI r))
def RowsL (H : Hp) (a : Addr) (rows : List (List Int)) : Prop := ∃ ts : List Addr, H a = some (.lst (ts.map V.ref)) ∧ Refs .lst H ts rows
def RowsT (H : Hp) (a : Addr) (rows : List (List Int)) : Prop := ∃ ts : List Addr, H a = some (.tup (ts.map V.ref)) ∧ Refs .tup H ts rows
theorem Refs.same {mk : List V → HO} {H H' : Hp} {ts : List Addr} {rows : List (List Int)} (s : Same H H') (h : Refs mk H ts rows) : Refs mk H' ts rows := ⟨h.1, fun i t r h1 h2 => s _ _ (h.2 i t r h1 h2)⟩
theorem RowsL.same {H H' : Hp} {a : Addr} {rows : List (List Int)} (s : Same H H') (h : RowsL H a rows) : RowsL H' a rows := by
  obtain ⟨ts, h1, h2⟩ := h
  exact ⟨ts, s _ _ h1, h2.same s⟩
theorem RowsT.same {H H' : Hp} {a : Addr} {rows : List (List Int)} (s : Same H H') (h : RowsT H a rows) : RowsT H' a rows := by
  obtain ⟨ts, h1, h2⟩ := h
  exact ⟨ts, s _ _ h1, h2.same s⟩
theorem refs_at {ts : List Addr} {i : Nat} {y : V} (h : (ts.map V.ref)[i]? = some y) : ∃ t, ts[i]? = some t ∧ y = .ref t := by
  rw [List.getElem?_map] at h
  cases e : ts[i]? with
  | none => rw [e] at h; cases h
  | some t => rw [e] at h; exact ⟨t, rfl, (Option.some.inj h).symm⟩
theorem Refs.row {mk : List V → HO} {H : Hp} {ts : List Addr} {rows : List (List Int)} (h : Refs mk H ts rows) {i : Nat} {t : Addr} (e : ts[i]? = some t) : ∃ r, rows[i]? = some r ∧ H t = some (mk (vI r)) := by
  have l : i < rows.length := by
    rw [← h.1]
    exact (List.getElem?_eq_some_iff.mp e).1
  exact ⟨rows[i], List.getElem?_eq_getElem l, h.2 i t _ e (List.getElem?_eq_getElem l)⟩
/-- one more -/
theorem Refs.snoc {mk : List V → HO} {H H' : Hp} {ts : List Addr} {rows : List (List Int)} {i : Nat} {u : Addr} {r : List Int} (h : Refs mk H ts (rows.take i)) (e : rows[i]? = some r) (s : ∀ t o, t ∈ ts → H t = some o → H' t = some o) (hu : H' u = some (mk (vI r))) :
    Refs mk H' (ts ++ [u]) (rows.take (i + 1)) := by
  rw [take_succ e]
  refine ⟨by rw [List.length_append, List.length_append, h.1]; rfl, fun j t r' h1 h2 => ?_⟩
  by_cases hj : j < ts.length
  · rw [List.getElem?_append_left hj] at h1
    rw [List.getElem?_append_left (by rw [← h.1]; exact hj)] at h2
    exact s _ _ (List.mem_of_getElem? h1) (h.2 j t r' h1 h2)
  · rw [List.getElem?_append_right (by omega)] at h1
    rw [List.getElem?_append_right (by rw [← h.1]; omega), ← h.1] at h2
    cases hz : j - ts.length with
    | zero =>
      rw [hz] at h1 h2
      cases h1
      cases h2
      exact hu
    | succ n =>
      rw [hz] at h1
      cases h1
theorem Refs.nil {mk : List V → HO} {H : Hp} {rows : List (List Int)} : Refs mk H [] (rows.take 0) := ⟨by simp, fun i t r h => by simp at h⟩
/-- a row of w residues of p -/
def isVec (p w : Int) (r : List Int) : Bool := decide ((r.length : Int) = w) && r.all fun e => decide (0 ≤ e) && decide (e < p)
def good (p w : Int) (rows : List (List Int)) : Prop := p ∈ primes ∧ 0 ≤ w ∧ rows.all (isVec p w) = true
/-- a Matrix stands at x -/
def MatAt (C : Addr) (H : Hp) (x : Addr) (p w : Int) (rows : List (List Int)) : Prop := ∃ dx T, H x = some (.ins C dx (mF p w T)) ∧ RowsT H T rows
theorem MatAt.same {C : Addr} {H H' : Hp} {x : Addr} {p w : Int} {rows : List (List Int)} (s : Same H H') (h : MatAt C H x p w rows) : MatAt C H' x p w rows := by
  obtain ⟨dx, T, h1, h2⟩ := h
  exact ⟨dx, T, s _ _ h1, h2.same s⟩
def spIsVec (K : PySem.W.Frag) : Sp := fun vs H Q _ => ∃ (t : Addr) (r : List Int) (w p : Int), vs = [.ref t, .int w, .int p] ∧ H t = some (.tup (vI r)) ∧ r.length ≤ 1000 ∧ ∀ H', Same H H' → Q (.bl (isVec p w r)) H'
theorem sc_is_vector : FnScope ["entries", "length", "base", "entry"] ["entries", "length", "base"] (defScope s_is_vector) := ⟨rfl, rfl, rfl, by decide +kernel, rfl, by decide +kernel, by decide +kernel⟩
theorem ok_is_vector {f : Addr} {fd : FuncData} (F : Fun K "_is_vector" "_is_vector" s_is_vector f fd) (B : BI mg) : FnOk P w K mg base CX0 1 f fd ["entries", "length", "base"] (spIsVec K) := by
  refine F.ok sc_is_vector (fun vs H Q E h => ?_) (fun cdv A outer s H vs Q E hr h => ?_)
  · obtain ⟨t, r, w, p, rfl, _⟩ := h
    rfl
  · obtain ⟨t, r, w, p, rfl, ht, hl, q⟩ := h
    refine ⟨_, pss_one (ps_ret (pe_and (pe_cmpR op_eq (pe_callB call_len_seq (by rfl) B.len (by decide +kernel) (pa_cons (pv 0) pa_nil)) (pv 1) (nomark _)) (pe_one (pe_callB (cr_all rfl) (by rfl) B.all (by decide +kernel) (pa_cons (pe_lc (own := [("entry", 3)]) (g := gName 3) (tt := tYes) rfl sc_is_vector.nd (pi_tup (pv 0)) (blkOk_by (N := ["entries", "length", "base", "entry"]) (sc := (defScope s_is_vector)) (by decide +kernel)) (fun _ _ _ _ _ => (pg_name (i := 3) sc_is_vector.nd rfl (Or.inl rfl))) (fun _ _ _ _ _ => pts_nil) (fun _ _ _ _ _ => (pe_chain op_le op_lt pe_int (pv 3) (pv 2)))) pa_nil))))), ?_⟩
    refine ⟨_, rfl, t, _, rfl, .inr (SqT.of ht), _, rfl, rfl, _, rfl, ?_⟩
    by_cases c : (r.length : Int) = w
    · refine if_t (by show decide (V.int ((vI r).length : Int) = V.int w) = true; rw [List.length_map]; exact decide_eq_true (congrArg V.int c)) ?_
      refine ⟨_, rfl, t, rfl, ⟨_, SqT.of ht⟩, fun D hD => lc_it walk_tup (fun i H' => Same H H' ∧ H' D = some (.lst (((r.take i).map fun e => decide (0 ≤ e) && decide (e < p)).map V.bl))) ⟨same_new hD, upd_same⟩ (fun i H' _ ⟨s1, _⟩ => SqT.of (s1 _ _ ht)) ?_ ?_⟩
      · rintro i u H1 H2 hi ⟨s1, hacc⟩ ⟨rfl, hu⟩
        obtain ⟨e, he, rfl⟩ := item_int hu
        refine ⟨rfl, lc_yes ⟨_, rfl, _, _, rfl, rfl, _, rfl, ?_⟩⟩
        have fin : ∀ b : Bool, b = (decide (0 ≤ e) && decide (e < p)) → ∃ acc, H2 D = some (HO.lst acc) ∧ acc.length < sizeLine ∧ Same H (upd H2 D (HO.lst (acc ++ [V.bl b]))) ∧ (upd H2 D (HO.lst (acc ++ [V.bl b]))) D = some (.lst (((r.take (i + 1)).map fun e => decide (0 ≤ e) && decide (e < p)).map V.bl)) := fun b hb => by
          refine ⟨_, hacc, ?_, ?_, ?_⟩
          · rw [List.length_map, List.length_map]
            refine line_lt ?_
            have : (r.take i).length ≤ i := List.length_take_le _ _
            rw [List.length_map] at hi
            omega
          · intro z o ez
            rw [upd_ne (ne_of_none ez hD)]
            exact s1 _ _ ez
          · rw [upd_same, take_succ he, hb]
            simp
        by_cases e0 : 0 ≤ e
        · refine if_t (decide_eq_true e0) ⟨_, rfl, _, _, rfl, rfl, fin _ ?_⟩
          rw [decide_eq_true e0]
          rfl
        · refine if_f (decide_eq_false e0) (fin _ ?_)
          rw [decide_eq_false e0]
          rfl
      · rintro H1 ⟨s1, hacc⟩
        have el : r.take (vI r).length = r := by
          rw [List.length_map]
          exact List.take_length
        rw [el] at hacc
        refine ⟨D, _, rfl, SqL.of hacc, ?_⟩
        have ev : ((r.map fun e => decide (0 ≤ e) && decide (e < p)).all id) = isVec p w r := by
          unfold isVec
          rw [decide_eq_true c, Bool.true_and, List.all_map]
          rfl
        rw [ev]
        exact q _ s1
    · refine if_f (by show decide (V.int ((vI r).length : Int) = V.int w) = false; rw [List.length_map]; exact decide_eq_false fun z => c (V.int.inj z)) ?_
      have ev : isVec p w r = false := by
        unfold isVec
        rw [decide_eq_false c]
        rfl
      rw [ev] at q
      exact q _ (Same.refl _)
end
section
variable {P : Program} {w : World} {K : PySem.W.Frag} {mg : Str → Option Value} {base : Heap}
/-! ### Matrix.__init__: of a list of lists -/
variable {a : Nat → Addr} {d : Nat → FuncData}
def spInit (C CM : Addr) : Sp := fun vs H Q E => ∃ (x0 dx ra : Addr) (p w : Int) (rows : List (List Int)), vs = [.ref x0, .int p, .int w, .ref ra] ∧ H x0 = some (.ins C dx []) ∧ RowsL H ra rows ∧ rows.length ≤ 1000 ∧ (∀ r ∈ rows, r.length ≤ 1000) ∧
  (good p w rows → ∀ H', KeepBut x0 H H' → MatAt C H' x0 p w rows → Q .non H') ∧ (¬ good p w rows → ∀ H', KeepBut x0 H H' → E (.ref CM) none H')
theorem sc_init : FnScope ["self", "base", "width", "rows", "kept", "row"] ["self", "base", "width", "rows"] (defScope s_Matrix_init) := ⟨rfl, rfl, rfl, by decide +kernel, rfl, by decide +kernel, by decide +kernel⟩
theorem ok_init (T : TX K mg a d) : FnOk P w K mg base (L2.CX P w) 2 (a i_Matrix_init) (d i_Matrix_init) ["self", "base", "width", "rows"] (spInit (a i_Matrix) (a i_InvalidMatrix)) := by
  have B := T.B
  have G_is_base := ok_is_base (P := P) (w := w) (base := base) T.F_is_base T.g_BASES T.h_BASES
  have G_is_vector := ok_is_vector (P := P) (w := w) (base := base) T.F_is_vector B
  refine T.F_Matrix_init.okX sc_init (fun vs H Q E h => ?_) (fun cdv A outer s H vs Q E hr h => ?_)
  · obtain ⟨x0, dx, ra, p, w, rows, rfl, _⟩ := h
    rfl
  · obtain ⟨x0, dx, ra, p, wd, rows, rfl, hx, ⟨ts, hts, href⟩, l1, l2, kG, kB⟩ := h
    refine ⟨_, pss_cons (ps_if (pt_not (pt_val (pe_call G_is_base (hr.mono (by decide)) rfl T.g_is_base T.F_is_base.kp T.b_is_base .nil pass0 (pa_cons (pv 1) pa_nil)))) (pss_one (ps_raise rfl (takes_of rfl rfl rfl rfl) (pmk_own PySem.F.excBase_ValueError T.x_InvalidMatrix.x T.g_InvalidMatrix T.x_InvalidMatrix.k (raises_own T.x_InvalidMatrix.hs T.x_InvalidMatrix.t) rfl))) pss_nil)
      (pss_cons (ps_if (pt_cmpR op_lt (pv 2) pe_int (nomark _)) (pss_one (ps_raise rfl (takes_of rfl rfl rfl rfl) (pmk_own PySem.F.excBase_ValueError T.x_InvalidMatrix.x T.g_InvalidMatrix T.x_InvalidMatrix.k (raises_own T.x_InvalidMatrix.hs T.x_InvalidMatrix.t) rfl))) pss_nil)
      (pss_cons (ps_set (i := 4) sc_init.nd rfl (Or.inl rfl) (pe_callTy call_tuple_of (by rfl) B.tuple (by decide +kernel) (pa_cons (pe_lc (own := [("row", 5)]) (g := gName 5) (tt := tYes) rfl sc_init.nd (pi_list (pv 3)) (blkOk_by (N := ["self", "base", "width", "rows", "kept", "row"]) (sc := (defScope s_Matrix_init)) (by decide +kernel)) (fun _ _ _ _ _ => (pg_name (i := 5) sc_init.nd rfl (Or.inl rfl))) (fun _ _ _ _ _ => pts_nil) (fun _ _ _ _ _ => (pe_callTy (call_tupleK (K := K) rfl) (by rfl) B.tuple (by decide +kernel) (pa_cons (pv 5) pa_nil)))) pa_nil)))
      (pss_cons (ps_if (pt_not (pt_val (pe_callB (cr_all rfl) (by rfl) B.all (by decide +kernel) (pa_cons (pe_lc (own := [("row", 5)]) (g := gName 5) (tt := tYes) rfl sc_init.nd (pi_tup (pv 4)) (blkOk_by (N := ["self", "base", "width", "rows", "kept", "row"]) (sc := (defScope s_Matrix_init)) (by decide +kernel)) (fun _ _ _ _ _ => (pg_name (i := 5) sc_init.nd rfl (Or.inl rfl))) (fun _ _ _ _ _ => pts_nil) (fun _ _ _ _ _ => (pe_call G_is_vector (hr.mono (by decide)) rfl T.g_is_vector T.F_is_vector.kp T.b_is_vector .nil pass0 (pa_cons (pv 5) (pa_cons (pv 2) (pa_cons (pv 1) pa_nil)))))) pa_nil)))) (pss_one (ps_raise rfl (takes_of rfl rfl rfl rfl) (pmk_own PySem.F.excBase_ValueError T.x_InvalidMatrix.x T.g_InvalidMatrix T.x_InvalidMatrix.k (raises_own T.x_InvalidMatrix.hs T.x_InvalidMatrix.t) rfl))) pss_nil)
      (pss_cons (ps_fld (pv 0) (pv 1) rfl)
      (pss_cons (ps_fld (pv 0) (pv 2) rfl)
      (pss_one (ps_fld (pv 0) (pv 4) rfl))))))), ?_⟩
    refine ⟨_, rfl, p, rfl, _, rfl, ?_⟩
    by_cases hp : p ∈ primes
    case neg =>
      refine if_t (by rw [decide_eq_false hp]; rfl) ?_
      exact kB (fun z => hp z.1) _ (KeepBut.refl _ _)
    refine if_f (by rw [decide_eq_true hp]; rfl) ?_
    refine ⟨_, rfl, _, _, rfl, rfl, _, rfl, ?_⟩
    by_cases hw : wd < 0
    · refine if_t (decide_eq_true hw) ?_
      exact kB (fun z => by have := z.2.1; omega) _ (KeepBut.refl _ _)
    refine if_f (decide_eq_false hw) ?_
    -- kept
    refine ⟨_, rfl, ra, rfl, ⟨_, SqL.of hts⟩, fun D hD => lc_it walk_list (fun i H' => Same H H' ∧ ∃ us : List Addr, H' D = some (.lst (us.map V.ref)) ∧ Refs .tup H' us (rows.take i) ∧ ∀ u ∈ us, u ≠ D) ⟨same_new hD, [], upd_same, Refs.nil, fun _ z => by cases z⟩ (fun i H' _ ⟨s1, _⟩ => SqL.of (s1 _ _ hts)) ?_ ?_⟩
    · rintro i u H1 H2 hi ⟨s1, us, hacc, hus, hne⟩ ⟨rfl, hu⟩
      obtain ⟨t, ht, rfl⟩ := refs_at hu
      obtain ⟨r, hr', hr2⟩ := href.row ht
      refine ⟨rfl, lc_yes ⟨_, rfl, t, _, rfl, .inl ⟨SqL.of (s1 _ _ hr2), fun l hl => ?_⟩⟩⟩
      have sl := same_new (o := .tup (vI r)) hl
      have lD : l ≠ D := fun z => by
        rw [z, hacc] at hl
        cases hl
      refine ⟨_, sl _ _ hacc, ?_, ?_, us ++ [l], ?_, ?_, ?_⟩
      · rw [List.length_map, hus.1]
        refine line_lt ?_
        have : (rows.take i).length ≤ i := List.length_take_le _ _
        rw [List.length_map, href.1] at hi
        omega
      · intro z o ez
        rw [upd_ne (ne_of_none ez hD)]
        exact sl _ _ (s1 _ _ ez)
      · rw [upd_same]
        simp
      · refine hus.snoc hr' (fun t' o mt et => ?_) ?_
        · rw [upd_ne (hne _ mt)]
          exact sl _ _ et
        · rw [upd_ne lD]
          exact upd_same
      · intro z hz
        rcases List.mem_append.mp hz with hz | hz
        · exact hne z hz
        · rw [List.mem_singleton.mp hz]
          exact lD
    rintro H1 ⟨s1, us, hus, hrefs, _⟩
    have el : rows.take (ts.map V.ref).length = rows := by
      rw [List.length_map, href.1]
      exact List.take_length
    rw [el] at hrefs
    refine ⟨D, _, rfl, .inl ⟨SqL.of hus, fun Tp hTp => ?_⟩⟩
    have s2 := same_new (o := .tup (us.map V.ref)) hTp
    have hT : (upd H1 Tp (.tup (us.map V.ref))) Tp = some (.tup (us.map V.ref)) := upd_same
    have hrefs2 := hrefs.same s2
    have s12 := s1.trans s2
    revert hT hrefs2 s12
    generalize upd H1 Tp (.tup (us.map V.ref)) = H2
    intro hT hrefs2 s12
    -- each row is a vector
    refine ⟨_, rfl, Tp, rfl, ⟨_, SqT.of hT⟩, fun D2 hD2 => lc_it walk_tup (fun i H' => Same H2 H' ∧ H' D2 = some (.lst (((rows.take i).map (isVec p wd)).map V.bl))) ⟨same_new hD2, upd_same⟩ (fun i H' _ ⟨s3, _⟩ => SqT.of (s3 _ _ hT)) ?_ ?_⟩
    · rintro i u H3 H4 hi ⟨s3, hacc⟩ ⟨rfl, hu⟩
      obtain ⟨t, ht, rfl⟩ := refs_at hu
      obtain ⟨r, hr', hr2⟩ := hrefs2.row ht
      refine ⟨rfl, lc_yes ⟨_, rfl, _, rfl, _, rfl, t, r, wd, p, rfl, s3 _ _ hr2, l2 _ (List.mem_of_getElem? hr'), fun H5 s5 => ⟨_, s5 _ _ hacc, ?_, ?_, ?_⟩⟩⟩
      · rw [List.length_map, List.length_map]
        refine line_lt ?_
        have : (rows.take i).length ≤ i := List.length_take_le _ _
        rw [List.length_map, hrefs2.1] at hi
        omega
      · intro z o ez
        rw [upd_ne (ne_of_none ez hD2)]
        exact s5 _ _ (s3 _ _ ez)
      · rw [upd_same, take_succ hr']
        simp
    rintro H3 ⟨s3, hacc⟩
    have el2 : rows.take (us.map V.ref).length = rows := by
      rw [List.length_map, hrefs.1]
      exact List.take_length
    rw [el2] at hacc
    have s13 := s12.trans s3
    refine ⟨D2, _, rfl, SqL.of hacc, _, rfl, ?_⟩
    have ea : ((rows.map (isVec p wd)).all id) = rows.all (isVec p wd) := by
      rw [List.all_map]
      rfl
    rw [ea]
    cases hg : rows.all (isVec p wd) with
    | false =>
      refine iteT ?_
      exact kB (fun z => by rw [z.2.2] at hg; cases hg) _ (KeepBut.of s13)
    | true =>
      refine iteF ?_
      have hx3 := s13 _ _ hx
      refine ⟨_, rfl, _, rfl, x0, a i_Matrix, dx, [], rfl, hx3, T.c_Matrix, T.n_Matrix_base, (by show 0 < 1000; decide), ?_⟩
      refine ⟨_, rfl, _, rfl, x0, a i_Matrix, dx, _, rfl, upd_same, T.c_Matrix, T.n_Matrix_width, (by show 1 < 1000; decide), ?_⟩
      refine ⟨_, rfl, _, rfl, x0, a i_Matrix, dx, _, rfl, upd_same, T.c_Matrix, T.n_Matrix_rows, ?_, ?_⟩
      · have e1 : (putF "width" (V.int wd) (putF "base" (.int p) [])).length ≤ 2 := by
          show (if ("base" : Str) = "width" then _ else (("base" : Str), V.int p) :: putF "width" (V.int wd) []).length ≤ 2
          rw [if_neg (by decide +kernel)]
          exact Nat.le_refl _
        exact Nat.lt_of_le_of_lt e1 (by decide)
      · refine kG ⟨hp, by omega, hg⟩ _ (fun b o nb e => ?_) ⟨dx, Tp, ?_, us, ?_, hrefs.1, fun i t r e1 e2 => ?_⟩
        · rw [upd_ne nb, upd_ne nb, upd_ne nb]
          exact s13 _ _ e
        · rw [upd_same, mF_put]
        · have n : Tp ≠ x0 := fun z => by
            rw [z] at hT
            have := s12 _ _ hx
            rw [hT] at this
            cases this
          rw [upd_ne n, upd_ne n, upd_ne n]
          exact s3 _ _ hT
        · have q1 := hrefs2.2 i t r e1 e2
          have n : t ≠ x0 := fun z => by
            rw [z] at q1
            have := s12 _ _ hx
            rw [q1] at this
            cases this
          rw [upd_ne n, upd_ne n, upd_ne n]
          exact s3 _ _ q1
end
section
variable {P : Program} {w : World} {K : PySem.W.Frag} {mg : Str → Option Value} {base : Heap}
/-! ### dot -/
def dotI (ns ms : List Int) : Int := (List.zipWith (· * ·) ns ms).sum
def spDot (K : PySem.W.Frag) : Sp := fun vs H Q _ => ∃ (k1 k2 : Bool) (a b : Addr) (ns ms : List Int) (p : Int), vs = [.ref a, .ref b, .int p] ∧ SqB K k1 H a (vI ns) ∧ SqB K k2 H b (vI ms) ∧ ns.length = ms.length ∧ ns.length ≤ 1000 ∧ (∀ n ∈ ns, -(2 ^ 64) < n ∧ n < 2 ^ 64) ∧ 0 < p ∧
  ∀ H', Same H H' → Q (.int (dotI ns ms % p)) H'
theorem SqB.same {k : Bool} {a : Addr} {H H' : Hp} {xs : List V} (s : Same H H') (h : SqB K k H a xs) : SqB K k H' a xs := by
  cases k
  · exact SqT.same s h
  · exact s.seq h
theorem sc_dot : FnScope ["first", "second", "base", "one", "other"] ["first", "second", "base"] (defScope s_dot) := ⟨rfl, rfl, rfl, by decide +kernel, rfl, by decide +kernel, by decide +kernel⟩
theorem kb_dot {f : Addr} {fd : FuncData} (F : Fun K "dot" "dot" s_dot f fd) : KBn K fd ["first", "second", "base"] 2 ["base"] (fun us ws => us ++ ws) (fun vs zs => vs ++ zs) := by
  obtain ⟨oc, od, kV, doc, pm, an, cdv, ct, osl, rfl, lk, hcd⟩ := F.ex
  exact ⟨fun s us ws X l1 l2 => match us, ws, l1, l2 with | [_, _], [_], _, _ => .of_eq rfl, fun r1 r2 => r1.append r2⟩
theorem ok_dot {f : Addr} {fd : FuncData} (F : Fun K "dot" "dot" s_dot f fd) (B : BI mg) : FnOk P w K mg base CX0 1 f fd ["first", "second", "base"] (spDot K) := by
  refine F.ok sc_dot (fun vs H Q E h => ?_) (fun cdv A outer s H vs Q E hr h => ?_)
  · obtain ⟨k1, k2, a, b, ns, ms, p, rfl, _⟩ := h
    rfl
  · obtain ⟨k1, k2, a, b, ns, ms, p, rfl, ha, hb, hl, hl2, bd, hp, q⟩ := h
    refine ⟨_, pss_one (ps_ret (pe_op op_mod (pe_callB (cr_sum rfl) (by rfl) B.sum (by decide +kernel) (pa_cons
        (pe_lc (own := [("one", 3), ("other", 4)]) (g := gTup K 2 (gCons (gName 3) (gCons (gName 4) gNil))) (tt := tYes) rfl sc_dot.nd (pi_zipB (by rfl) B.zip (pa_cons (pv 0) (pa_cons (pv 1) pa_nil))) (blkOk_by (N := ["first", "second", "base", "one", "other"]) (sc := defScope s_dot) (by decide +kernel))
          (fun _ _ _ _ _ => pg_tup rfl (pgs_cons (pg_name (i := 3) sc_dot.nd rfl (Or.inl rfl)) (pgs_cons (pg_name (i := 4) sc_dot.nd rfl (Or.inl rfl)) pgs_nil)))
          (fun _ _ _ _ _ => pts_nil) (fun _ _ _ _ _ => pe_op op_mul (pv 3) (pv 4))) pa_nil)) (pv 2))), ?_⟩
    refine ⟨_, rfl, _, rfl, k1, k2, a, b, _, _, rfl, ha, hb, fun D hD => lc_it (walk_zipB (n := ns.length) (by simp [hl])) (fun i H' => Same H H' ∧ H' D = some (.lst (vI ((List.zipWith (· * ·) ns ms).take i)))) ⟨same_new hD, upd_same⟩
      (fun i H' _ ⟨s, _⟩ => ⟨SqB.same s ha, SqB.same s hb⟩) ?_ ?_⟩
    · rintro i v H1 H2 hi ⟨s1, hacc⟩ ⟨T, x, y, rfl, hT, rfl, hx, hy⟩
      obtain ⟨n, hn, rfl⟩ := item_int hx
      obtain ⟨m, hm, rfl⟩ := item_int hy
      have nDT : D ≠ T := ne_of_none hacc hT
      refine ⟨T, _, rfl, SqT.of upd_same, rfl, _, _, rfl, _, _, rfl, rfl, rfl, ?_⟩
      refine lc_yes ?_
      refine ⟨_, rfl, _, rfl, _, _, rfl, rfl, .inl (bd n (List.mem_of_getElem? hn)), vI ((List.zipWith (· * ·) ns ms).take i), ?_, ?_, ?_, ?_⟩
      · rw [upd_ne nDT]
        exact hacc
      · rw [List.length_map]
        refine line_lt ?_
        have : ((List.zipWith (· * ·) ns ms).take i).length ≤ i := List.length_take_le _ _
        omega
      · intro c o e
        rw [upd_ne (ne_of_none e hD), upd_ne (ne_of_none (s1 _ _ e) hT)]
        exact s1 _ _ e
      · rw [upd_same]
        have hz : (List.zipWith (· * ·) ns ms)[i]? = some (n * m) := by
          rw [List.getElem?_zipWith, hn, hm]
        rw [take_succ hz]
        simp [vI]
    · rintro H1 ⟨s1, hacc⟩
      have full : (List.zipWith (· * ·) ns ms).take ns.length = List.zipWith (· * ·) ns ms := by
        rw [List.take_of_length_le]
        rw [List.length_zipWith]
        omega
      rw [full] at hacc
      exact ⟨D, _, rfl, SqL.of hacc, _, rfl, _, _, rfl, rfl, hp, q _ s1⟩
end
section
variable {P : Program} {w : World} {K : PySem.W.Frag} {mg : Str → Option Value} {base : Heap}
/-! ### Matrix made; height, _check_bases, _sum_of_rows, __mul__ -/
variable {a : Nat → Addr} {d : Nat → FuncData}
/-- Matrix(p, w, rows) of what is right -/
theorem rd_make {C CM : Addr} {H : Hp} {ra : Addr} {p wd : Int} {rows : List (List Int)} {R : Addr → VK} {E : XK} (hr : RowsL H ra rows) (l1 : rows.length ≤ 1000) (l2 : ∀ r ∈ rows, r.length ≤ 1000) (g : good p wd rows)
    (q : ∀ (x : Addr) (H' : Hp), Same H H' → H x = none → MatAt C H' x p wd rows → R x .non H') :
    ∀ x dx, H x = none → H dx = none → dx ≠ x → spInit C CM [.ref x, .int p, .int wd, .ref ra] (upd (upd H dx (.own x)) x (.ins C dx [])) (R x) E := by
  intro x dx nx ndx ne
  have s0 : Same H (upd (upd H dx (.own x)) x (.ins C dx [])) := fun b o e => by
    rw [upd_ne (ne_of_none e nx), upd_ne (ne_of_none e ndx)]
    exact e
  exact ⟨x, dx, ra, p, wd, rows, rfl, upd_same, hr.same s0, l1, l2, fun _ H' kb M => q x H' (fun b o e => kb _ _ (ne_of_none e nx) (s0 _ _ e)) nx M, fun z => absurd g z⟩
def spHeight (C : Addr) : Sp := fun vs H Q _ => ∃ (x : Addr) (p wd : Int) (rows : List (List Int)), vs = [.ref x] ∧ MatAt C H x p wd rows ∧ Q (.int (rows.length : Int)) H
theorem sc_height : FnScope ["self"] ["self"] (defScope s_Matrix_height) := ⟨rfl, rfl, rfl, by decide +kernel, rfl, by decide +kernel, by decide +kernel⟩
theorem ok_height (T : TX K mg a d) : FnOk P w K mg base CX0 1 (a i_Matrix_height) (d i_Matrix_height) ["self"] (spHeight (a i_Matrix)) := by
  have B := T.B
  refine T.F_Matrix_height.ok sc_height (fun vs H Q E h => ?_) (fun cdv A outer s H vs Q E hr h => ?_)
  · obtain ⟨x, p, wd, rows, rfl, _⟩ := h
    rfl
  · obtain ⟨x, p, wd, rows, rfl, ⟨dx, Tp, hx, ts, hT, href⟩, q⟩ := h
    refine ⟨_, pss_one (ps_ret (pe_callB call_len_seq (by rfl) B.len (by decide +kernel) (pa_cons (pe_fld (pv 0) rfl) pa_nil))), ?_⟩
    refine ⟨_, rfl, x, a i_Matrix, dx, _, _, rfl, hx, T.c_Matrix, T.n_Matrix_rows, mF_rows _ _ _, Tp, _, rfl, .inr (SqT.of hT), ?_⟩
    rw [List.length_map, href.1]
    exact q
def spCheck (C CM : Addr) : Sp := fun vs H Q E => ∃ (x y : Addr) (p wd p' wd' : Int) (rows rows' : List (List Int)), vs = [.ref x, .ref y] ∧ MatAt C H x p wd rows ∧ MatAt C H y p' wd' rows' ∧ (p = p' → Q .non H) ∧ (p ≠ p' → E (.ref CM) none H)
theorem sc_check : FnScope ["first", "second"] ["first", "second"] (defScope s_check_bases) := ⟨rfl, rfl, rfl, by decide +kernel, rfl, by decide +kernel, by decide +kernel⟩
theorem ok_check (T : TX K mg a d) : FnOk P w K mg base (L2.CX P w) 1 (a i_check_bases) (d i_check_bases) ["first", "second"] (spCheck (a i_Matrix) (a i_InvalidMatrix)) := by
  refine T.F_check_bases.okX sc_check (fun vs H Q E h => ?_) (fun cdv A outer s H vs Q E hr h => ?_)
  · obtain ⟨x, y, p, wd, p', wd', rows, rows', rfl, _⟩ := h
    rfl
  · obtain ⟨x, y, p, wd, p', wd', rows, rows', rfl, ⟨dx, Tp, hx, _⟩, ⟨dy, Tq, hy, _⟩, k1, k2⟩ := h
    refine ⟨_, pss_one (ps_if (pt_cmpR op_ne (pe_fld (pv 0) rfl) (pe_fld (pv 1) rfl) (nomark _)) (pss_one (ps_raise rfl (takes_of rfl rfl rfl rfl) (pmk_own PySem.F.excBase_ValueError T.x_InvalidMatrix.x T.g_InvalidMatrix T.x_InvalidMatrix.k (raises_own T.x_InvalidMatrix.hs T.x_InvalidMatrix.t) rfl))) pss_nil), ?_⟩
    refine ⟨_, rfl, x, a i_Matrix, dx, _, _, rfl, hx, T.c_Matrix, T.n_Matrix_base, mF_base _ _ _, _, rfl, y, a i_Matrix, dy, _, _, rfl, hy, T.c_Matrix, T.n_Matrix_base, mF_base _ _ _, rfl, _, rfl, ?_⟩
    by_cases c : p = p'
    · refine if_f (by rw [c]; simp) (k1 c)
    · refine if_t (by simp [c]) (k2 c)
/-! the mathematics of products -/
/-- the sum of the first n factors times the entries of column j -/
def colS (fs : List Int) (rows : List (List Int)) (j : Nat) : Nat → Int
  | 0 => 0
  | n + 1 => colS fs rows j n + fs.getD n 0 * (rows.getD n []).getD j 0
def sumRows (p : Int) (wn : Nat) (fs : List Int) (rows : List (List Int)) : List Int := (List.range wn).map fun j => colS fs rows j fs.length % p
def spSum (C : Addr) : Sp := fun vs H Q _ => ∃ (t y : Addr) (fs : List Int) (p : Int) (wn : Nat) (rows : List (List Int)), vs = [.ref t, .ref y] ∧ H t = some (.tup (vI fs)) ∧ MatAt C H y p (wn : Int) rows ∧ fs.length = rows.length ∧ fs.length ≤ 1000 ∧ wn ≤ 1000 ∧ 0 < p ∧
  (∀ r ∈ rows, r.length = wn) ∧ (∀ n ∈ fs, -1000 < n ∧ n < 1000) ∧ ∀ (H' : Hp) (l : Addr), Same H H' → H l = none → H' l = some (.lst (vI (sumRows p wn fs rows))) → Q (.ref l) H'
theorem sc_sum : FnScope ["factors", "matrix", "total", "factor", "row", "have", "entry"] ["factors", "matrix"] (defScope s_sum_of_rows) := ⟨rfl, rfl, rfl, by decide +kernel, rfl, by decide +kernel, by decide +kernel⟩
theorem range_get {wn j : Nat} {f : Nat → Int} (h : j < wn) : ((List.range wn).map f)[j]? = some (f j) := by
  rw [List.getElem?_map, List.getElem?_range h]
  rfl
theorem rep_one {α : Type} (v : α) : ∀ n : Nat, (List.replicate n [v]).flatten = List.replicate n v
  | 0 => rfl
  | n + 1 => by rw [List.replicate_succ, List.flatten_cons, rep_one v n]; rfl
theorem ok_sum (T : TX K mg a d) : FnOk P w K mg base CX0 1 (a i_sum_of_rows) (d i_sum_of_rows) ["factors", "matrix"] (spSum (a i_Matrix)) := by
  have B := T.B
  refine T.F_sum_of_rows.ok sc_sum (fun vs H Q E h => ?_) (fun cdv A outer s H vs Q E hr h => ?_)
  · obtain ⟨t, y, fs, p, wn, rows, rfl, _⟩ := h
    rfl
  · obtain ⟨t, y, fs, p, wn, rows, rfl, ht, ⟨dy, Ty, hy, ts, hT, href⟩, hl, l1, l2, hp, hrl, hb, q⟩ := h
    refine ⟨_, pss_cons (ps_set (i := 2) sc_sum.nd rfl (Or.inl rfl) (pe_op op_rep (pe_lst (pa_cons pe_int pa_nil)) (pe_fld (pv 1) rfl)))
      (pss_cons (ps_for PassesOwn.never rfl (pi_zipB (by rfl) B.zip (pa_cons (pv 0) (pa_cons (pe_fld (pv 1) rfl) pa_nil))) (pg_tup rfl (pgs_cons (pg_name (i := 3) sc_sum.nd rfl (Or.inr rfl)) (pgs_cons (pg_name (i := 4) sc_sum.nd rfl (Or.inl rfl)) pgs_nil)))
      (pss_one (ps_if (pt_cmpR op_ne (pv 3) pe_int (nomark _)) (pss_one (ps_setLc (i := 2) (own := [("have", 5), ("entry", 6)]) (g := gTup K 2 (gCons (gName 5) (gCons (gName 6) gNil))) (tt := tYes) rfl sc_sum.nd rfl rfl (sw_true rfl rfl rfl (by decide +kernel)) (pi_zipB (by rfl) B.zip (pa_cons (pv 2) (pa_cons (pv 4) pa_nil))) (blkOk_by (N := ["factors", "matrix", "total", "factor", "row", "have", "entry"]) (sc := (defScope s_sum_of_rows)) (by decide +kernel)) (fun _ _ _ _ _ => (pg_tup rfl (pgs_cons (pg_name (i := 5) sc_sum.nd rfl (Or.inl rfl)) (pgs_cons (pg_name (i := 6) sc_sum.nd rfl (Or.inl rfl)) pgs_nil)))) (fun _ _ _ _ _ => pts_nil) (fun _ _ _ _ _ => (pe_op op_add (pv 5) (pe_op op_mul (pv 3) (pv 6)))))) pss_nil)))
      (pss_one (ps_ret (pe_lc (own := [("entry", 6)]) (g := gName 6) (tt := tYes) rfl sc_sum.nd (pi_list (pv 2)) (blkOk_by (N := ["factors", "matrix", "total", "factor", "row", "have", "entry"]) (sc := (defScope s_sum_of_rows)) (by decide +kernel)) (fun _ _ _ _ _ => (pg_name (i := 6) sc_sum.nd rfl (Or.inl rfl))) (fun _ _ _ _ _ => pts_nil) (fun _ _ _ _ _ => (pe_op op_mod (pv 6) (pe_fldK (K := K) rfl (pv 1) rfl))))))), ?_⟩
    -- total = [0] * matrix.width
    refine ⟨(by show 1 ≤ sizeLine; decide), fun z hz => ⟨_, rfl, y, a i_Matrix, dy, _, _, rfl, (same_new hz) _ _ hy, T.c_Matrix, T.n_Matrix_width, mF_width _ _ _, z, _, _, rfl, rfl, upd_same, by omega, by omega, line_of (by show 1 * (wn : Int).toNat ≤ 16777216; omega), fun D0 hD0 => ?_⟩⟩
    have e0 : (List.replicate (wn : Int).toNat [V.int 0]).flatten = vI ((List.range wn).map fun j => colS fs rows j 0) := by
      rw [rep_one]
      show List.replicate wn (V.int 0) = ((List.range wn).map fun _ => (0 : Int)).map V.int
      rw [List.map_map]
      show _ = (List.range wn).map (fun _ => V.int 0)
      rw [List.map_const', List.length_range]
    rw [e0]
    have s0 := (same_new (o := .lst [.int 0]) hz).trans (same_new (o := .lst (vI ((List.range wn).map fun j => colS fs rows j 0))) hD0)
    have f0 : H D0 = none := Same.free (same_new hz) hD0
    -- for factor, row in zip(factors, matrix.rows)
    refine ⟨_, rfl, _, rfl, y, a i_Matrix, dy, _, _, rfl, s0 _ _ hy, T.c_Matrix, T.n_Matrix_rows, mF_rows _ _ _, false, false, t, Ty, _, _, rfl, SqT.of (s0 _ _ ht), SqT.of (s0 _ _ hT), ?_⟩
    refine for_it (walk_zipB (n := fs.length) (by rw [List.length_map, List.length_map, href.1, ← hl, Nat.min_self])) (fun i σ H' => Same H H' ∧ ∃ (D : Addr) (v1 v2 : Option V), σ = [some (.ref t), some (.ref y), some (.ref D), v1, v2, none, none] ∧ H D = none ∧ H' D = some (.lst (vI ((List.range wn).map fun j => colS fs rows j i))))
      ⟨s0, D0, none, none, rfl, f0, upd_same⟩ (fun i σ H' _ ⟨s1, _⟩ => ⟨SqT.of (s1 _ _ ht), SqT.of (s1 _ _ hT)⟩) ?_ ?_
    · rintro i v σ H1 H2 hi ⟨s1, D, v1, v2, rfl, fD, hD⟩ ⟨Tp, x1, y1, rfl, hTp, rfl, hx1, hy1⟩
      obtain ⟨f, hf, rfl⟩ := item_int hx1
      obtain ⟨t1, ht1, rfl⟩ := refs_at hy1
      obtain ⟨r, hr', hr2⟩ := href.row ht1
      have sp1 := same_new (o := .tup [.int f, .ref t1]) hTp
      have s2 := s1.trans sp1
      have gf : fs.getD i 0 = f := by rw [List.getD_eq_getElem?_getD, hf]; rfl
      have gr : rows.getD i [] = r := by rw [List.getD_eq_getElem?_getD, hr']; rfl
      have step : ∀ j, colS fs rows j (i + 1) = colS fs rows j i + f * r.getD j 0 := fun j => by
        show colS fs rows j i + fs.getD i 0 * (rows.getD i []).getD j 0 = _
        rw [gf, gr]
      have lr : r.length = wn := hrl r (List.mem_of_getElem? hr')
      refine ⟨Tp, _, rfl, SqT.of upd_same, rfl, _, _, rfl, _, _, rfl, rfl, ?_⟩
      refine ⟨_, rfl, rfl, _, rfl, ?_⟩
      by_cases fz : f = 0
      · refine if_f (by rw [fz]; simp) ⟨s2, D, _, _, rfl, fD, ?_⟩
        have e1 : (List.range wn).map (fun j => colS fs rows j (i + 1)) = (List.range wn).map (fun j => colS fs rows j i) := by
          refine List.map_congr_left fun j _ => ?_
          rw [step, fz]
          omega
        rw [e1]
        exact sp1 _ _ hD
      · refine if_t (by simp [fz]) ?_
        have bf := hb f (List.mem_of_getElem? hf)
        refine ⟨_, rfl, _, rfl, true, false, D, t1, _, _, rfl, SqL.of (sp1 _ _ hD), SqT.of (s2 _ _ hr2), fun D2 hD2 => ?_⟩
        refine lc_it (walk_zipB (n := wn) (by simp [lr])) (fun m H' => Same (upd H1 Tp (.tup [.int f, .ref t1])) H' ∧ H' D2 = some (.lst (vI (((List.range wn).map fun j => colS fs rows j (i + 1)).take m)))) ⟨same_new hD2, upd_same⟩ (fun m H' _ ⟨s3, _⟩ => ⟨SqL.of (s3 _ _ (sp1 _ _ hD)), SqT.of (s3 _ _ (s2 _ _ hr2))⟩) ?_ ?_
        · rintro m v H3 H4 hm ⟨s3, hacc⟩ ⟨Tq, x2, y2, rfl, hTq, rfl, hx2, hy2⟩
          obtain ⟨hv, hhv, rfl⟩ := item_int hx2
          obtain ⟨ev, hev, rfl⟩ := item_int hy2
          rw [range_get hm] at hhv
          cases hhv
          have nDT : D2 ≠ Tq := ne_of_none hacc hTq
          have ge : r.getD m 0 = ev := by rw [List.getD_eq_getElem?_getD, hev]; rfl
          refine ⟨Tq, _, rfl, SqT.of upd_same, rfl, _, _, rfl, _, _, rfl, rfl, rfl, lc_yes ?_⟩
          refine ⟨_, rfl, _, rfl, _, rfl, _, _, rfl, rfl, .inl ⟨by omega, by omega⟩, _, _, rfl, rfl, vI (((List.range wn).map fun j => colS fs rows j (i + 1)).take m), ?_, ?_, ?_, ?_⟩
          · rw [upd_ne nDT]
            exact hacc
          · rw [List.length_map]
            refine line_lt ?_
            have : (((List.range wn).map fun j => colS fs rows j (i + 1)).take m).length ≤ m := List.length_take_le _ _
            omega
          · intro c o e
            rw [upd_ne (ne_of_none e hD2), upd_ne (ne_of_none (s3 _ _ e) hTq)]
            exact s3 _ _ e
          · rw [upd_same, take_succ (range_get hm), step, ge]
            simp [vI]
        · rintro H3 ⟨s3, hacc⟩
          have full : ((List.range wn).map fun j => colS fs rows j (i + 1)).take wn = (List.range wn).map fun j => colS fs rows j (i + 1) := by
            rw [List.take_of_length_le]
            simp
          rw [full] at hacc
          exact ⟨s2.trans s3, D2, _, _, rfl, Same.free s2 hD2, hacc⟩
    · rintro σ H1 ⟨s1, D, v1, v2, rfl, fD, hD⟩
      -- [entry % matrix.base for entry in total]
      refine ⟨_, rfl, D, rfl, ⟨_, SqL.of hD⟩, fun D2 hD2 => lc_it walk_list (fun m H' => Same H1 H' ∧ H' D2 = some (.lst (vI ((sumRows p wn fs rows).take m)))) ⟨same_new hD2, upd_same⟩ (fun m H' _ ⟨s3, _⟩ => SqL.of (s3 _ _ hD)) ?_ ?_⟩
      · rintro m v H3 H4 hm ⟨s3, hacc⟩ ⟨rfl, hx2⟩
        rw [List.length_map, List.length_map, List.length_range] at hm
        obtain ⟨ev, hev, rfl⟩ := item_int hx2
        rw [range_get hm] at hev
        cases hev
        refine ⟨rfl, lc_yes ⟨_, rfl, _, rfl, y, a i_Matrix, dy, _, _, rfl, s3 _ _ (s1 _ _ hy), T.c_Matrix, T.n_Matrix_base, mF_base _ _ _, _, _, rfl, rfl, hp, _, hacc, ?_, ?_, ?_⟩⟩
        · rw [List.length_map]
          refine line_lt ?_
          have : ((sumRows p wn fs rows).take m).length ≤ m := List.length_take_le _ _
          omega
        · intro c o e
          rw [upd_ne (ne_of_none e hD2)]
          exact s3 _ _ e
        · rw [upd_same, take_succ (l := sumRows p wn fs rows) (range_get hm)]
          simp [vI]
      · rintro H3 ⟨s3, hacc⟩
        have full : (sumRows p wn fs rows).take (vI ((List.range wn).map fun j => colS fs rows j fs.length)).length = sumRows p wn fs rows := by
          rw [List.take_of_length_le]
          simp [sumRows]
        rw [full] at hacc
        exact q H3 D2 (s1.trans s3) (Same.free s1 hD2) hacc
end
section
variable {P : Program} {w : World} {K : PySem.W.Frag} {mg : Str → Option Value} {base : Heap}
/-! ### Matrix.__mul__, Matrix.apply -/
variable {a : Nat → Addr} {d : Nat → FuncData}
theorem good_row {p wd : Int} {rows : List (List Int)} (g : good p wd rows) {r : List Int} (hr : r ∈ rows) : (r.length : Int) = wd ∧ ∀ e ∈ r, 0 ≤ e ∧ e < p := by
  have h := List.all_eq_true.mp g.2.2 r hr
  unfold isVec at h
  rw [Bool.and_eq_true] at h
  refine ⟨of_decide_eq_true h.1, fun e he => ?_⟩
  have z := List.all_eq_true.mp h.2 e he
  rw [Bool.and_eq_true] at z
  exact ⟨of_decide_eq_true z.1, of_decide_eq_true z.2⟩
theorem good_of {p wd : Int} {rows : List (List Int)} (hp : p ∈ primes) (hw : 0 ≤ wd) (h : ∀ r ∈ rows, (r.length : Int) = wd ∧ ∀ e ∈ r, 0 ≤ e ∧ e < p) : good p wd rows := by
  refine ⟨hp, hw, List.all_eq_true.mpr fun r hr => ?_⟩
  obtain ⟨h1, h2⟩ := h r hr
  unfold isVec
  rw [decide_eq_true h1, Bool.true_and]
  refine List.all_eq_true.mpr fun e he => ?_
  obtain ⟨h3, h4⟩ := h2 e he
  rw [decide_eq_true h3, decide_eq_true h4]
  rfl
/-- a Matrix that is right stands at x -/
def MG (C : Addr) (H : Hp) (x : Addr) (p wd : Int) (rows : List (List Int)) : Prop := MatAt C H x p wd rows ∧ good p wd rows ∧ rows.length ≤ 100 ∧ wd ≤ 100
theorem MG.same {C : Addr} {H H' : Hp} {x : Addr} {p wd : Int} {rows : List (List Int)} (s : Same H H') (h : MG C H x p wd rows) : MG C H' x p wd rows := ⟨h.1.same s, h.2⟩
def mulRows (p : Int) (wn : Nat) (rows rows' : List (List Int)) : List (List Int) := rows.map fun r => sumRows p wn r rows'
theorem good_mul {p : Int} {wn : Nat} {rows rows' : List (List Int)} (hp : p ∈ primes) : good p (wn : Int) (mulRows p wn rows rows') := by
  have hp2 := primes_bd p hp
  refine good_of hp (by omega) fun r hr => ?_
  obtain ⟨r0, _, rfl⟩ := List.mem_map.mp hr
  refine ⟨by simp [sumRows], fun e he => ?_⟩
  obtain ⟨j, _, rfl⟩ := List.mem_map.mp he
  exact ⟨Int.emod_nonneg _ (by omega), Int.emod_lt_of_pos _ (by omega)⟩
def spMul (C CM : Addr) : Sp := fun vs H Q E => ∃ (x y : Addr) (p wd p' : Int) (wn : Nat) (rows rows' : List (List Int)), vs = [.ref x, .ref y] ∧ MG C H x p wd rows ∧ MG C H y p' (wn : Int) rows' ∧
  (p = p' ∧ wd = (rows'.length : Int) → ∀ (H' : Hp) (z : Addr), Same H H' → H z = none → MG C H' z p (wn : Int) (mulRows p wn rows rows') → Q (.ref z) H') ∧ (¬ (p = p' ∧ wd = (rows'.length : Int)) → ∀ H', Same H H' → E (.ref CM) none H')
theorem sc_mul : FnScope ["self", "other", "rows", "row"] ["self", "other"] (defScope s_Matrix_mul) := ⟨rfl, rfl, rfl, by decide +kernel, rfl, by decide +kernel, by decide +kernel⟩
theorem ok_mul (T : TX K mg a d) : FnOk P w K mg base (L2.CX P w) 4 (a i_Matrix_mul) (d i_Matrix_mul) ["self", "other"] (spMul (a i_Matrix) (a i_InvalidMatrix)) := by
  have B := T.B
  have G_check_bases := ok_check (P := P) (w := w) (base := base) T
  have G_sum_of_rows := ok_sum (P := P) (w := w) (base := base) T
  have G_Matrix_height := ok_height (P := P) (w := w) (base := base) T
  have G_Matrix_init := ok_init (P := P) (w := w) (base := base) T
  obtain ⟨pH, hp_Matrix_height⟩ := T.p_Matrix_height
  refine T.F_Matrix_mul.okX sc_mul (fun vs H Q E h => ?_) (fun cdv A outer s H vs Q E hr h => ?_)
  · obtain ⟨x, y, p, wd, p', wn, rows, rows', rfl, _⟩ := h
    rfl
  · obtain ⟨x, y, p, wd, p', wn, rows, rows', rfl, Mx, My, kG, kB⟩ := h
    refine ⟨_, pss_cons (ps_expr (pe_call G_check_bases (hr.mono (by decide)) rfl T.g_check_bases T.F_check_bases.kp T.b_check_bases .nil (passes_call (takes_of rfl rfl rfl rfl) (fun _ _ _ _ h => h)) (pa_cons (pv 0) (pa_cons (pv 1) pa_nil))))
      (pss_cons (ps_if (pt_cmpR op_ne (pe_fld (pv 0) rfl) (pe_prop (pv 1) T.c_Matrix hp_Matrix_height G_Matrix_height (hr.mono (by decide)) T.b_Matrix_height .nil pass0 rfl) (nomark _)) (pss_one (ps_raise rfl (takes_of rfl rfl rfl rfl) (pmk_own PySem.F.excBase_ValueError T.x_InvalidMatrix.x T.g_InvalidMatrix T.x_InvalidMatrix.k (raises_own T.x_InvalidMatrix.hs T.x_InvalidMatrix.t) rfl))) pss_nil)
      (pss_cons (ps_setLc (i := 2) (own := [("row", 3)]) (g := gName 3) (tt := tYes) rfl sc_mul.nd rfl rfl (sw_true rfl rfl rfl (by decide +kernel)) (pi_tup (pe_fld (pv 0) rfl)) (blkOk_by (N := ["self", "other", "rows", "row"]) (sc := (defScope s_Matrix_mul)) (by decide +kernel)) (fun _ _ _ _ _ => (pg_name (i := 3) sc_mul.nd rfl (Or.inl rfl))) (fun _ _ _ _ _ => pts_nil) (fun _ _ _ _ _ => (pe_call G_sum_of_rows (hr.mono (by decide)) rfl T.g_sum_of_rows T.F_sum_of_rows.kp T.b_sum_of_rows .nil pass0 (pa_cons (pv 3) (pa_cons (pv 1) pa_nil)))))
      (pss_one (ps_ret (pe_make T.mk_Matrix G_Matrix_init (hr.mono (by decide)) rfl T.g_Matrix T.b_Matrix_init .nil (passes_call (takes_of rfl rfl rfl rfl) (fun _ _ _ _ h => h)) (pa_cons (pe_fld (pv 0) rfl) (pa_cons (pe_fld (pv 1) rfl) (pa_cons (pv 2) pa_nil)))))))), ?_⟩
    obtain ⟨Mx1, gx, lx, wx⟩ := id Mx
    obtain ⟨My1, gy, ly, wy⟩ := id My
    have hp2 := primes_bd p gx.1
    refine ⟨_, rfl, _, rfl, x, y, p, wd, p', _, rows, rows', rfl, Mx1, My1, fun ep => ?_, fun np => kB (fun z => np z.1) _ (Same.refl _)⟩
    subst ep
    obtain ⟨dx, Tp, hx, ts, hT, href⟩ := id Mx1
    obtain ⟨dy, Tq, hy, _⟩ := id My1
    refine ⟨_, rfl, x, a i_Matrix, dx, _, _, rfl, hx, T.c_Matrix, T.n_Matrix_width, mF_width _ _ _, _, rfl, y, dy, _, rfl, hy, y, p, _, rows', rfl, My1, rfl, _, rfl, ?_⟩
    by_cases c : wd = (rows'.length : Int)
    case neg => exact if_t (by simp [c]) (kB (fun z => c z.2) _ (Same.refl _))
    refine if_f (by rw [c]; simp) ?_
    refine ⟨_, rfl, x, a i_Matrix, dx, _, _, rfl, hx, T.c_Matrix, T.n_Matrix_rows, mF_rows _ _ _, Tp, rfl, ⟨_, SqT.of hT⟩, fun D hD => lc_it walk_tup (fun i H' => Same H H' ∧ ∃ us : List Addr, H' D = some (.lst (us.map V.ref)) ∧ Refs .lst H' us ((mulRows p wn rows rows').take i) ∧ ∀ u ∈ us, u ≠ D) ⟨same_new hD, [], upd_same, Refs.nil, fun _ z => (by cases z)⟩ (fun i H' _ ⟨s1, _⟩ => SqT.of (s1 _ _ hT)) ?_ ?_⟩
    · rintro i u H1 H2 hi ⟨s1, us, hacc, hus, hne⟩ ⟨rfl, hu⟩
      obtain ⟨t, ht, rfl⟩ := refs_at hu
      obtain ⟨r, hr', hr2⟩ := href.row ht
      obtain ⟨rl, rb⟩ := good_row gx (List.mem_of_getElem? hr')
      refine ⟨rfl, lc_yes ⟨_, rfl, _, rfl, t, y, r, p, wn, rows', rfl, s1 _ _ hr2, My1.same s1, by omega, by omega, by omega, by omega, fun r0 h0 => by have := (good_row gy h0).1; omega, fun n hn => by have := rb n hn; omega, fun H5 l s5 hl h5 => ?_⟩⟩
      have lD : l ≠ D := fun z => by
        rw [z, hacc] at hl
        cases hl
      have em : (mulRows p wn rows rows')[i]? = some (sumRows p wn r rows') := by
        unfold mulRows
        rw [List.getElem?_map, hr']
        rfl
      refine ⟨_, s5 _ _ hacc, ?_, ?_, us ++ [l], ?_, ?_, ?_⟩
      · rw [List.length_map, hus.1]
        refine line_lt ?_
        have : ((mulRows p wn rows rows').take i).length ≤ i := List.length_take_le _ _
        rw [List.length_map, href.1] at hi
        omega
      · intro z o ez
        rw [upd_ne (ne_of_none ez hD)]
        exact s5 _ _ (s1 _ _ ez)
      · rw [upd_same]
        simp
      · refine hus.snoc em (fun t' o mt et => ?_) ?_
        · rw [upd_ne (hne _ mt)]
          exact s5 _ _ et
        · rw [upd_ne lD]
          exact h5
      · intro z hz
        rcases List.mem_append.mp hz with hz | hz
        · exact hne z hz
        · rw [List.mem_singleton.mp hz]
          exact lD
    rintro H1 ⟨s1, us, hus, hrefs, _⟩
    have lm : (mulRows p wn rows rows').length = rows.length := by simp [mulRows]
    have el : (mulRows p wn rows rows').take (ts.map V.ref).length = mulRows p wn rows rows' := by
      rw [List.length_map, href.1, ← lm]
      exact List.take_length
    rw [el] at hrefs
    have gm : good p (wn : Int) (mulRows p wn rows rows') := good_mul gx.1
    refine ⟨_, rfl, x, a i_Matrix, dx, _, _, rfl, s1 _ _ hx, T.c_Matrix, T.n_Matrix_base, mF_base _ _ _, _, rfl, y, a i_Matrix, dy, _, _, rfl, s1 _ _ hy, T.c_Matrix, T.n_Matrix_width, mF_width _ _ _, _, rfl, ?_⟩
    exact rd_make ⟨us, hus, hrefs⟩ (by omega) (fun r hr => by have := (good_row gm hr).1; omega) gm fun z H' s2 fz Mz => ⟨rfl, kG ⟨rfl, c⟩ H' z (s1.trans s2) (Same.free s1 fz) ⟨Mz, gm, by omega, wy⟩⟩
/-- the products of the rows with a vector -/
def appRows (p : Int) (rows : List (List Int)) (v : List Int) : List Int := rows.map fun r => dotI r v % p
def spApply (K : PySem.W.Frag) (C CM : Addr) : Sp := fun vs H Q E => ∃ (x v : Addr) (k : Bool) (p wd : Int) (rows : List (List Int)) (ns : List Int), vs = [.ref x, .ref v] ∧ MG C H x p wd rows ∧ SqB K k H v (vI ns) ∧
  ((ns.length : Int) = wd → ∀ (H' : Hp) (z : Addr), Same H H' → H z = none → H' z = some (.tup (vI (appRows p rows ns))) → Q (.ref z) H') ∧ ((ns.length : Int) ≠ wd → E (.ref CM) none H)
theorem sc_apply : FnScope ["self", "vector", "row"] ["self", "vector"] (defScope s_Matrix_apply) := ⟨rfl, rfl, rfl, by decide +kernel, rfl, by decide +kernel, by decide +kernel⟩
theorem ok_apply (T : TX K mg a d) : FnOk P w K mg base (L2.CX P w) 2 (a i_Matrix_apply) (d i_Matrix_apply) ["self", "vector"] (spApply K (a i_Matrix) (a i_InvalidMatrix)) := by
  have B := T.B
  have G_dot := ok_dot (P := P) (w := w) (base := base) T.F_dot B
  refine T.F_Matrix_apply.okX sc_apply (fun vs H Q E h => ?_) (fun cdv A outer s H vs Q E hr h => ?_)
  · obtain ⟨x, v, k, p, wd, rows, ns, rfl, _⟩ := h
    rfl
  · obtain ⟨x, v, k, p, wd, rows, ns, rfl, ⟨⟨dx, Tp, hx, ts, hT, href⟩, gx, lx, wx⟩, hv, kG, kB⟩ := h
    have hp2 := primes_bd p gx.1
    refine ⟨_, pss_cons (ps_if (pt_cmpR op_ne (pe_callB call_len_seq (by rfl) B.len (by decide +kernel) (pa_cons (pv 1) pa_nil)) (pe_fld (pv 0) rfl) (nomark _)) (pss_one (ps_raise rfl (takes_of rfl rfl rfl rfl) (pmk_own PySem.F.excBase_ValueError T.x_InvalidMatrix.x T.g_InvalidMatrix T.x_InvalidMatrix.k (raises_own T.x_InvalidMatrix.hs T.x_InvalidMatrix.t) rfl))) pss_nil)
      (pss_one (ps_ret (pe_callTy call_tuple_of (by rfl) B.tuple (by decide +kernel) (pa_cons (pe_lc (own := [("row", 2)]) (g := gName 2) (tt := tYes) rfl sc_apply.nd (pi_tup (pe_fld (pv 0) rfl)) (blkOk_by (N := ["self", "vector", "row"]) (sc := (defScope s_Matrix_apply)) (by decide +kernel)) (fun _ _ _ _ _ => (pg_name (i := 2) sc_apply.nd rfl (Or.inl rfl))) (fun _ _ _ _ _ => pts_nil) (fun _ _ _ _ _ => (pe_callN G_dot (hr.mono (by decide)) rfl T.g_dot T.F_dot.kp (kb_dot T.F_dot) pass0 (pa_cons (pv 2) (pa_cons (pv 1) pa_nil)) (pk_cons (pe_fldK (K := K) rfl (pv 0) rfl) pk_nil)))) pa_nil)))), ?_⟩
    have hv2 : SqL K H v (vI ns) ∨ SqT K H v (vI ns) := by
      cases k
      · exact .inr hv
      · exact .inl hv
    refine ⟨_, rfl, v, _, rfl, hv2, _, rfl, x, a i_Matrix, dx, _, _, rfl, hx, T.c_Matrix, T.n_Matrix_width, mF_width _ _ _, rfl, _, rfl, ?_⟩
    by_cases c : (ns.length : Int) = wd
    case neg =>
      refine if_t ?_ (kB c)
      rw [List.length_map]
      simp [c]
    refine if_f (by rw [List.length_map, c]; simp) ?_
    refine ⟨_, rfl, x, a i_Matrix, dx, _, _, rfl, hx, T.c_Matrix, T.n_Matrix_rows, mF_rows _ _ _, Tp, rfl, ⟨_, SqT.of hT⟩, fun D hD => lc_it walk_tup (fun i H' => Same H H' ∧ H' D = some (.lst (vI ((appRows p rows ns).take i)))) ⟨same_new hD, upd_same⟩ (fun i H' _ ⟨s1, _⟩ => SqT.of (s1 _ _ hT)) ?_ ?_⟩
    · rintro i u H1 H2 hi ⟨s1, hacc⟩ ⟨rfl, hu⟩
      obtain ⟨t, ht, rfl⟩ := refs_at hu
      obtain ⟨r, hr', hr2⟩ := href.row ht
      obtain ⟨rl, rb⟩ := good_row gx (List.mem_of_getElem? hr')
      refine ⟨rfl, lc_yes ⟨_, rfl, _, rfl, _, rfl, x, a i_Matrix, dx, _, _, rfl, s1 _ _ hx, T.c_Matrix, T.n_Matrix_base, mF_base _ _ _, rfl, rfl, false, k, t, v, r, ns, p, rfl, SqT.of (s1 _ _ hr2), SqB.same s1 hv, by omega, by omega, fun n hn => by have := rb n hn; omega, by omega, fun H5 s5 => ⟨_, s5 _ _ hacc, ?_, ?_, ?_⟩⟩⟩
      · rw [List.length_map]
        refine line_lt ?_
        have : ((appRows p rows ns).take i).length ≤ i := List.length_take_le _ _
        rw [List.length_map, href.1] at hi
        omega
      · intro z o ez
        rw [upd_ne (ne_of_none ez hD)]
        exact s5 _ _ (s1 _ _ ez)
      · have em : (appRows p rows ns)[i]? = some (dotI r ns % p) := by
          unfold appRows
          rw [List.getElem?_map, hr']
          rfl
        rw [upd_same, take_succ em]
        simp [vI]
    rintro H1 ⟨s1, hacc⟩
    have el : (appRows p rows ns).take (ts.map V.ref).length = appRows p rows ns := by
      rw [List.take_of_length_le]
      rw [List.length_map, href.1]
      simp [appRows]
    rw [el] at hacc
    exact ⟨D, _, rfl, .inl ⟨SqL.of hacc, fun z hz => kG c _ z (s1.trans (same_new hz)) (Same.free s1 hz) upd_same⟩⟩
end
section
variable {P : Program} {w : World} {K : PySem.W.Frag} {mg : Str → Option Value} {base : Heap}
/-! ### applying a product is applying one after the other -/
theorem dot_cons (x y : Int) (xs ys : List Int) : dotI (x :: xs) (y :: ys) = x * y + dotI xs ys := by simp [dotI]
theorem dot_nil_left (ys : List Int) : dotI [] ys = 0 := by simp [dotI]
theorem dot_nil_right (xs : List Int) : dotI xs [] = 0 := by cases xs <;> simp [dotI]
theorem mod_step (p x y a b : Int) (h : a % p = b % p) (h2 : x % p = y % p) : (x + a) % p = (y + b) % p := by
  rw [Int.add_emod, h, h2, ← Int.add_emod]
theorem dot_mod_left (p : Int) : ∀ xs v : List Int, dotI (xs.map (· % p)) v % p = dotI xs v % p
  | [], v => by rw [List.map_nil]
  | x :: xs, [] => by rw [dot_nil_right, dot_nil_right]
  | x :: xs, y :: v => by
    rw [List.map_cons, dot_cons, dot_cons]
    refine mod_step p _ _ _ _ (dot_mod_left p xs v) ?_
    rw [Int.mul_emod, Int.emod_emod_of_dvd x (Int.dvd_refl p), ← Int.mul_emod]
theorem dot_mod_right (p : Int) : ∀ v xs : List Int, dotI v (xs.map (· % p)) % p = dotI v xs % p
  | v, [] => by rw [List.map_nil]
  | [], x :: xs => by rw [dot_nil_left, dot_nil_left]
  | y :: v, x :: xs => by
    rw [List.map_cons, dot_cons, dot_cons]
    refine mod_step p _ _ _ _ (dot_mod_right p v xs) ?_
    rw [Int.mul_emod, Int.emod_emod_of_dvd x (Int.dvd_refl p), ← Int.mul_emod]
theorem dot_lin (f : Int) (g c : Nat → Int) : ∀ (l : List Nat) (v : List Int), dotI (l.map fun j => f * g j + c j) v = f * dotI (l.map g) v + dotI (l.map c) v
  | [], v => by simp [dot_nil_left]
  | j :: l, [] => by simp [dot_nil_right]
  | j :: l, y :: v => by
    rw [List.map_cons, List.map_cons, List.map_cons, dot_cons, dot_cons, dot_cons, dot_lin f g c l v, Int.add_mul, Int.mul_add, Int.mul_assoc]
    omega
theorem dot_zero : ∀ (l : List Nat) (v : List Int), dotI (l.map fun _ => (0 : Int)) v = 0
  | [], v => by simp [dot_nil_left]
  | j :: l, [] => by simp [dot_nil_right]
  | j :: l, y :: v => by
    rw [List.map_cons, dot_cons, dot_zero l v]
    simp
theorem colS_cons (f : Int) (fs : List Int) (r : List Int) (rows : List (List Int)) (j : Nat) : ∀ n, colS (f :: fs) (r :: rows) j (n + 1) = f * r.getD j 0 + colS fs rows j n
  | 0 => by
    show (0 : Int) + f * r.getD j 0 = f * r.getD j 0 + 0
    omega
  | n + 1 => by
    have ih := colS_cons f fs r rows j n
    show colS (f :: fs) (r :: rows) j (n + 1) + fs.getD n 0 * (rows.getD n []).getD j 0 = f * r.getD j 0 + (colS fs rows j n + fs.getD n 0 * (rows.getD n []).getD j 0)
    rw [ih]
    omega
theorem range_getD {r : List Int} {n : Nat} (h : r.length = n) : (List.range n).map (fun j => r.getD j 0) = r := by
  subst h
  refine List.ext_getElem (by simp) fun i h1 h2 => ?_
  simp at h1
  simp [List.getD_eq_getElem?_getD, h2]
theorem assoc_exact (wn : Nat) (v : List Int) : ∀ (r : List Int) (L : List (List Int)), r.length = L.length → (∀ r' ∈ L, r'.length = wn) → dotI r (L.map fun r' => dotI r' v) = dotI ((List.range wn).map fun j => colS r L j r.length) v
  | [], L, h, _ => by
    rw [dot_nil_left]
    exact (dot_zero _ _).symm
  | f :: r, [], h, _ => by simp at h
  | f :: r, r' :: L, h, hl => by
    have h' : r.length = L.length := by simpa using h
    have ih := assoc_exact wn v r L h' fun z hz => hl z (List.mem_cons_of_mem _ hz)
    rw [List.map_cons, dot_cons, ih]
    have e : (List.range wn).map (fun j => colS (f :: r) (r' :: L) j (f :: r).length) = (List.range wn).map fun j => f * r'.getD j 0 + colS r L j r.length := by
      refine List.map_congr_left fun j _ => ?_
      exact colS_cons f r r' L j r.length
    rw [e, dot_lin f (fun j => r'.getD j 0) (fun j => colS r L j r.length), range_getD (hl r' (List.mem_cons_self ..))]
theorem app_mul {p : Int} {wn : Nat} {rows L : List (List Int)} {v : List Int} (h1 : ∀ r ∈ rows, r.length = L.length) (h2 : ∀ r ∈ L, r.length = wn) : appRows p rows (appRows p L v) = appRows p (mulRows p wn rows L) v := by
  unfold appRows mulRows
  rw [List.map_map]
  refine List.map_congr_left fun r hr => ?_
  show dotI r (L.map fun r' => dotI r' v % p) % p = dotI (sumRows p wn r L) v % p
  have e1 : (L.map fun r' => dotI r' v % p) = (L.map fun r' => dotI r' v).map (· % p) := by rw [List.map_map]; rfl
  have e2 : sumRows p wn r L = ((List.range wn).map fun j => colS r L j r.length).map (· % p) := by unfold sumRows; rw [List.map_map]; rfl
  rw [e1, dot_mod_right, e2, dot_mod_left, assoc_exact wn v r L (h1 r hr) h2]
end
section
variable {P : Program} {w : World} {K : PySem.W.Frag} {mg : Str → Option Value} {base : Heap}
/-! ### _law_fails: a product that does not fit -/
variable {a : Nat → Addr} {d : Nat → FuncData}
def spFails (K : PySem.W.Frag) (C : Addr) : Sp := fun vs H Q _ => ∃ (pick : Int) (x y va : Addr) (p wd : Int) (rows : List (List Int)), vs = [.int pick, .ref x, .ref y, .ref va] ∧ MG C H x p wd rows ∧
  ((pick = 0 ∧ ∃ (p' : Int) (wn : Nat) (rows' : List (List Int)), MG C H y p' (wn : Int) rows' ∧ ¬ (p = p' ∧ wd = (rows'.length : Int))) ∨ (pick = 1 ∧ ∃ ns : List Int, SqL K H va (vI ns) ∧ (ns.length : Int) ≠ wd)) ∧ ∀ H', Same H H' → Q (.bl true) H'
theorem sc_fails : FnScope ["pick", "left", "right", "vector", "made", "e"] ["pick", "left", "right", "vector"] (defScope s_law_fails) := ⟨rfl, rfl, rfl, by decide +kernel, rfl, by decide +kernel, by decide +kernel⟩
theorem ok_fails (T : TX K mg a d) : FnOk P w K mg base CX0 5 (a i_law_fails) (d i_law_fails) ["pick", "left", "right", "vector"] (spFails K (a i_Matrix)) := by
  have B := T.B
  have G_mul := ok_mul (P := P) (w := w) (base := base) T
  have G_apply := ok_apply (P := P) (w := w) (base := base) T
  have G_add : FnOk P w K mg base (L2.CX P w) 0 (a i_Matrix_add) (d i_Matrix_add) ["self", "other"] (fun _ _ _ _ => False) := ⟨fun _ _ _ _ h => h.elim, fun _ _ _ _ _ _ _ _ _ _ _ _ _ h => h.elim⟩
  have G_sub : FnOk P w K mg base (L2.CX P w) 0 (a i_Matrix_sub) (d i_Matrix_sub) ["self", "other"] (fun _ _ _ _ => False) := ⟨fun _ _ _ _ h => h.elim, fun _ _ _ _ _ _ _ _ _ _ _ _ _ h => h.elim⟩
  refine T.F_law_fails.ok sc_fails (fun vs H Q E h => ?_) (fun cdv A outer s H vs Q E hr h => ?_)
  · obtain ⟨pick, x, y, va, p, wd, rows, rfl, _⟩ := h
    rfl
  · obtain ⟨pick, x, y, va, p, wd, rows, rfl, Mx, way, q⟩ := h
    refine ⟨_, pss_cons (ps_try_as (i := 5) (Wout := fun _ _ _ _ => False) rfl rfl sc_fails.nd rfl rfl ⟨rfl, by decide, .inl T.g_WovenError⟩ takes0
        (fun W pn xe tk _ => pss_one (ps_if (pt_cmpR op_eq (pv 0) pe_int (nomark _)) (pss_one (ps_set (i := 4) sc_fails.nd rfl (Or.inl rfl) (pe_ownX (E := WE W) T.m_Matrix_mul.at_ T.m_Matrix_mul.fn T.cc_Matrix.sf G_mul (hr.mono (by decide)) T.b_Matrix_mul (fun σ => passAt tk σ) (pv 1) (pv 2))))
          (pss_one (ps_if (pt_cmpR op_eq (pv 0) pe_int (nomark _)) (pss_one (ps_set (i := 4) sc_fails.nd rfl (Or.inl rfl) (pe_methX (E := WE W) (pv 1) T.c_Matrix T.m_Matrix_apply G_apply (hr.mono (by decide)) T.b_Matrix_apply (fun σ => passAt tk σ) (pa_cons (pv 3) pa_nil))))
          (pss_one (ps_if (pt_cmpR op_eq (pv 0) pe_int (nomark _)) (pss_one (ps_set (i := 4) sc_fails.nd rfl (Or.inl rfl) (pe_ownX (E := WE W) T.m_Matrix_add.at_ T.m_Matrix_add.fn T.cc_Matrix.sf G_add (hr.mono (by decide)) T.b_Matrix_add (fun σ => passAt tk σ) (pv 1) (pv 2))))
            (pss_one (ps_set (i := 4) sc_fails.nd rfl (Or.inl rfl) (pe_ownX (E := WE W) T.m_Matrix_sub.at_ T.m_Matrix_sub.fn T.cc_Matrix.sf G_sub (hr.mono (by decide)) T.b_Matrix_sub (fun σ => passAt tk σ) (pv 1) (pv 2))))))))))
        (fun a0 oe cls dd pn hz hf => pss_one (ps_ret (pe_and (pe_callB (call_isX hz hf) (by rfl) B.isi (by decide +kernel) (pa_cons (pv 5) (pa_cons (pe_glob (v := .ref (a i_InvalidMatrix)) rfl T.g_InvalidMatrix rfl) pa_nil)))
          (pe_one (pe_callB (call_isX hz hf) (by rfl) B.isi (by decide +kernel) (pa_cons (pv 5) (pa_cons (pe_bltn (v := .ty "ValueError") (by rfl) B.verr (by decide +kernel) rfl) pa_nil))))))))
      (pss_one (ps_ret pe_bl)), ?_⟩
    have xM := T.x_InvalidMatrix
    obtain ⟨dx, Tp, hx, hT⟩ := id Mx.1
    refine ⟨_, rfl, rfl, _, rfl, ?_⟩
    rcases way with ⟨rfl, p', wn, rows', My, no⟩ | ⟨rfl, ns, hv, no⟩
    · obtain ⟨dy, Tq, hy, hTq⟩ := id My.1
      refine if_t (by simp) ⟨_, rfl, _, rfl, x, y, dx, dy, _, _, rfl, rfl, hx, hy, x, y, p, wd, p', wn, rows, rows', rfl, Mx, My, fun z => absurd z no, fun _ H1 s1 => ?_⟩
      refine ⟨true, T.x_WovenError.exm T.s_InvalidMatrix_WovenError, fun _ a0 ha0 => ?_, fun z => Bool.noConfusion z⟩
      refine ⟨_, rfl, a i_InvalidMatrix, _, _, true, rfl, rfl, xM, rfl, .own _, xM.kit xM.s, true, rfl, iteT ?_⟩
      exact ⟨_, rfl, a i_InvalidMatrix, _, _, true, rfl, rfl, xM, rfl, .ty "ValueError", xM.kitV, q _ s1⟩
    · refine if_f (by simp) ⟨_, rfl, rfl, _, rfl, if_t (by simp) ?_⟩
      refine ⟨_, rfl, x, dx, _, rfl, hx, mF_no _ _ _ (by decide +kernel) (by decide +kernel) (by decide +kernel), _, rfl, x, va, true, p, wd, rows, ns, rfl, Mx, hv, fun z => absurd z no, fun _ => ?_⟩
      refine ⟨true, T.x_WovenError.exm T.s_InvalidMatrix_WovenError, fun _ a0 ha0 => ?_, fun z => Bool.noConfusion z⟩
      refine ⟨_, rfl, a i_InvalidMatrix, _, _, true, rfl, rfl, xM, rfl, .own _, xM.kit xM.s, true, rfl, iteT ?_⟩
      exact ⟨_, rfl, a i_InvalidMatrix, _, _, true, rfl, rfl, xM, rfl, .ty "ValueError", xM.kitV, q _ (Same.refl _)⟩
end
section
variable {P : Program} {w : World} {K : PySem.W.Frag} {mg : Str → Option Value} {base : Heap}
/-! ### _law_is_matrix -/
variable {a : Nat → Addr} {d : Nat → FuncData}
theorem Eqd.rows {H : Hp} {x y : Addr} {rows : List (List Int)} (l1 : rows.length ≤ 1000) (l2 : ∀ r ∈ rows, r.length ≤ 1000) (hx : RowsT H x rows) (hy : RowsT H y rows) : Eqd K 2 H (.ref x) (.ref y) := by
  obtain ⟨ts, h1, r1⟩ := hx
  obtain ⟨us, h2, r2⟩ := hy
  refine .inr ⟨x, y, _, _, rfl, rfl, .inr ⟨SqT.of h1, SqT.of h2⟩, by rw [List.length_map, List.length_map, r1.1, r2.1], by rw [List.length_map, r2.1]; exact l1, fun i u v hu hv => ?_⟩
  obtain ⟨t, ht, rfl⟩ := refs_at hu
  obtain ⟨t', ht', rfl⟩ := refs_at hv
  obtain ⟨r, hr, e1⟩ := r1.row ht
  have e2 := r2.2 i t' r ht' hr
  exact .inr ⟨t, t', _, _, rfl, rfl, .inr ⟨SqT.of e1, SqT.of e2⟩, rfl, by rw [List.length_map]; exact l2 r (List.mem_of_getElem? hr), fun j x y hx hy => by
    rw [hx] at hy
    cases hy
    obtain ⟨n, _, rfl⟩ := item_int hx
    exact Eqd.int 0 H n⟩
def spIsMat (C : Addr) : Sp := fun vs H Q _ => ∃ (x ra : Addr) (p wd : Int) (rows : List (List Int)), vs = [.ref x, .int p, .int wd, .ref ra] ∧ MatAt C H x p wd rows ∧ RowsL H ra rows ∧ rows.length ≤ 1000 ∧ (∀ r ∈ rows, r.length ≤ 1000) ∧ ∀ H', Same H H' → Q (.bl true) H'
theorem sc_ismat : FnScope ["actual", "base", "width", "rows", "row"] ["actual", "base", "width", "rows"] (defScope s_law_is_matrix) := ⟨rfl, rfl, rfl, by decide +kernel, rfl, by decide +kernel, by decide +kernel⟩
theorem ok_ismat (T : TX K mg a d) : FnOk P w K mg base CX0 4 (a i_law_is_matrix) (d i_law_is_matrix) ["actual", "base", "width", "rows"] (spIsMat (a i_Matrix)) := by
  have B := T.B
  have G_law_same := ok_same (P := P) (w := w) (base := base) T.F_law_same B T.g_law_same T.b_law_same 2
  refine T.F_law_is_matrix.ok sc_ismat (fun vs H Q E h => ?_) (fun cdv A outer s H vs Q E hr h => ?_)
  · obtain ⟨x, ra, p, wd, rows, rfl, _⟩ := h
    rfl
  · obtain ⟨x, ra, p, wd, rows, rfl, Mx, hra, l1, l2, q⟩ := h
    refine ⟨_, pss_cons (ps_if (PW.pt (pw_or (pt_not (pt_val (pe_callB call_isi (by rfl) B.isi (by decide +kernel) (pa_cons (pv 0) (pa_cons (pe_glob (v := .ref (a i_Matrix)) rfl T.g_Matrix rfl) pa_nil))))) (pw_or (pt_not (pt_val (pe_call G_law_same (hr.mono (by decide)) rfl T.g_law_same T.F_law_same.kp T.b_law_same .nil pass0 (pa_cons (pe_fld (pv 0) rfl) (pa_cons (pv 1) pa_nil))))) (pw_or1 (pt_not (pt_val (pe_call G_law_same (hr.mono (by decide)) rfl T.g_law_same T.F_law_same.kp T.b_law_same .nil pass0 (pa_cons (pe_fld (pv 0) rfl) (pa_cons (pv 2) pa_nil))))))))) (pss_one (ps_ret pe_bl)) pss_nil)
      (pss_one (ps_ret (pe_call G_law_same (hr.mono (by decide)) rfl T.g_law_same T.F_law_same.kp T.b_law_same .nil pass0 (pa_cons (pe_fld (pv 0) rfl) (pa_cons (pe_callTy call_tuple_of (by rfl) B.tuple (by decide +kernel) (pa_cons (pe_lc (own := [("row", 4)]) (g := gName 4) (tt := tYes) rfl sc_ismat.nd (pi_list (pv 3)) (blkOk_by (N := ["actual", "base", "width", "rows", "row"]) (sc := (defScope s_law_is_matrix)) (by decide +kernel)) (fun _ _ _ _ _ => (pg_name (i := 4) sc_ismat.nd rfl (Or.inl rfl))) (fun _ _ _ _ _ => pts_nil) (fun _ _ _ _ _ => (pe_callTy (call_tupleK (K := K) rfl) (by rfl) B.tuple (by decide +kernel) (pa_cons (pv 4) pa_nil)))) pa_nil)) pa_nil))))), ?_⟩
    obtain ⟨dx, Tp, hx, hT⟩ := id Mx
    refine ⟨_, rfl, _, _, _, _, true, rfl, .own (a i_Matrix), T.cc_Matrix.ty T.c_Matrix hx, CC.kit, _, rfl, iteF ?_⟩
    refine ⟨_, rfl, x, a i_Matrix, dx, _, _, rfl, hx, T.c_Matrix, T.n_Matrix_base, mF_base _ _ _, _, rfl, _, _, rfl, Eqd.int _ _ _, fun H1 s1 => ⟨_, rfl, iteF ?_⟩⟩
    refine ⟨_, rfl, x, a i_Matrix, dx, _, _, rfl, s1 _ _ hx, T.c_Matrix, T.n_Matrix_width, mF_width _ _ _, _, rfl, _, _, rfl, Eqd.int _ _ _, fun H2 s2 => ⟨_, rfl, iteF ?_⟩⟩
    have s12 := s1.trans s2
    obtain ⟨ts, hts, href⟩ := hra.same s12
    refine ⟨_, rfl, x, a i_Matrix, dx, _, _, rfl, s12 _ _ hx, T.c_Matrix, T.n_Matrix_rows, mF_rows _ _ _, _, rfl, ra, rfl, ⟨_, SqL.of hts⟩, fun D hD => lc_it walk_list (fun i H' => Same H2 H' ∧ ∃ us : List Addr, H' D = some (.lst (us.map V.ref)) ∧ Refs .tup H' us (rows.take i) ∧ ∀ u ∈ us, u ≠ D) ⟨same_new hD, [], upd_same, Refs.nil, fun _ z => (by cases z)⟩ (fun i H' _ ⟨s3, _⟩ => SqL.of (s3 _ _ hts)) ?_ ?_⟩
    · rintro i u H3 H4 hi ⟨s3, us, hacc, hus, hne⟩ ⟨rfl, hu⟩
      obtain ⟨t, ht, rfl⟩ := refs_at hu
      obtain ⟨r, hr', hr2⟩ := href.row ht
      refine ⟨rfl, lc_yes ⟨_, rfl, t, _, rfl, .inl ⟨SqL.of (s3 _ _ hr2), fun l hl => ?_⟩⟩⟩
      have sl := same_new (o := .tup (vI r)) hl
      have lD : l ≠ D := fun z => by
        rw [z, hacc] at hl
        cases hl
      refine ⟨_, sl _ _ hacc, ?_, ?_, us ++ [l], ?_, ?_, ?_⟩
      · rw [List.length_map, hus.1]
        refine line_lt ?_
        have : (rows.take i).length ≤ i := List.length_take_le _ _
        rw [List.length_map, href.1] at hi
        omega
      · intro z o ez
        rw [upd_ne (ne_of_none ez hD)]
        exact sl _ _ (s3 _ _ ez)
      · rw [upd_same]
        simp
      · refine hus.snoc hr' (fun t' o mt et => ?_) ?_
        · rw [upd_ne (hne _ mt)]
          exact sl _ _ et
        · rw [upd_ne lD]
          exact upd_same
      · intro z hz
        rcases List.mem_append.mp hz with hz | hz
        · exact hne z hz
        · rw [List.mem_singleton.mp hz]
          exact lD
    rintro H3 ⟨s3, us, hus, hrefs, _⟩
    have el : rows.take (ts.map V.ref).length = rows := by
      rw [List.length_map, href.1]
      exact List.take_length
    rw [el] at hrefs
    refine ⟨D, _, rfl, .inl ⟨SqL.of hus, fun Tz hTz => ?_⟩⟩
    have s4 := same_new (o := .tup (us.map V.ref)) hTz
    have s14 := (s12.trans s3).trans s4
    refine ⟨_, _, rfl, Eqd.rows l1 l2 (hT.same s14) ⟨us, upd_same, hrefs.same s4⟩, fun H5 s5 => q _ (s14.trans s5)⟩
end
section
variable {P : Program} {w : World} {K : PySem.W.Frag} {mg : Str → Option Value} {base : Heap}
/-! ### _law_product, _law_applied -/
variable {a : Nat → Addr} {d : Nat → FuncData}
def spProd : Sp := fun vs H Q _ => ∃ (la ra : Addr) (wn : Nat) (p : Int) (rows rows' : List (List Int)), vs = [.ref la, .ref ra, .int (wn : Int), .int p] ∧ RowsL H la rows ∧ RowsL H ra rows' ∧ rows.length ≤ 100 ∧ rows'.length ≤ 100 ∧ wn ≤ 100 ∧ 0 < p ∧
  (∀ r ∈ rows, r.length = rows'.length ∧ ∀ e ∈ r, -1000 < e ∧ e < 1000) ∧ (∀ r ∈ rows', r.length = wn) ∧ ∀ (H' : Hp) (z : Addr), Same H H' → H z = none → RowsL H' z (mulRows p wn rows rows') → Q (.ref z) H'
abbrev nProd : List Str := ["left", "right", "width", "base", "rows", "row", "entries", "j", "k"]
theorem sc_law_product : FnScope nProd ["left", "right", "width", "base"] (defScope s_law_product) := ⟨rfl, rfl, rfl, by decide +kernel, rfl, by decide +kernel, by decide +kernel⟩
theorem ok_law_product (T : TX K mg a d) : FnOk P w K mg base CX0 1 (a i_law_product) (d i_law_product) ["left", "right", "width", "base"] spProd := by
  have B := T.B
  refine T.F_law_product.ok sc_law_product (fun vs H Q E h => ?_) (fun cdv A outer s H vs Q E hr h => ?_)
  · obtain ⟨la, ra, wn, p, rows, rows', rfl, _⟩ := h
    rfl
  · obtain ⟨la, ra, wn, p, rows, rows', rfl, ⟨ts, hts, href⟩, ⟨ts', hts', href'⟩, l1, l2, l3, hp, hb, hb', q⟩ := h
    refine ⟨_, pss_cons (ps_set (i := 4) sc_law_product.nd rfl (Or.inl rfl) (pe_lst pa_nil))
      (pss_cons (ps_for PassesOwn.never rfl (pi_list (pv 0)) (pg_name (i := 5) sc_law_product.nd rfl (Or.inr rfl))
      (pss_cons (ps_set (i := 6) sc_law_product.nd rfl (Or.inl rfl) (pe_lst pa_nil))
      (pss_cons (ps_for PassesOwn.never rfl (pi_range1 (by rfl) B.range (pa_cons (pv 2) pa_nil)) (pg_name (i := 7) sc_law_product.nd rfl (Or.inr rfl))
      (pss_one (ps_expr (pe_bm PySem.F.plainAttrs_list PySem.F.slot_list_append PySem.F.type_list_append mt_append (pv 6) (pa_cons (pe_op op_mod (pe_callTy call_int1 (by rfl) B.int (by decide +kernel) (pa_cons (pe_callB (cr_sum rfl) (by rfl) B.sum (by decide +kernel) (pa_cons (pe_lc (own := [("k", 8)]) (g := gName 8) (tt := tYes) rfl sc_law_product.nd (pi_range1 (by rfl) B.range (pa_cons (pe_callB call_len_seq (by rfl) B.len (by decide +kernel) (pa_cons (pv 5) pa_nil)) pa_nil)) (blkOk_by (N := ["left", "right", "width", "base", "rows", "row", "entries", "j", "k"]) (sc := (defScope s_law_product)) (by decide +kernel)) (fun _ _ _ _ _ => (pg_name (i := 8) sc_law_product.nd rfl (Or.inl rfl))) (fun _ _ _ _ _ => pts_nil) (fun _ _ _ _ _ => (pe_op op_mul (pe_ix (ix_listK (K := K) rfl) (pv 5) (pv 8) (fun _ _ => rfl)) (pe_ix (ix_listK (K := K) rfl) (pe_ix (ix_listK (K := K) rfl) (pv 1) (pv 8) (fun _ _ => rfl)) (pv 7) (fun _ _ => rfl))))) pa_nil)) pa_nil)) (pv 3)) pa_nil)))))
      (pss_one (ps_expr (pe_bm PySem.F.plainAttrs_list PySem.F.slot_list_append PySem.F.type_list_append mt_append (pv 4) (pa_cons (pv 6) pa_nil)))))))
      (pss_one (ps_ret (pv 4)))), ?_⟩
    refine ⟨Nat.zero_le _, fun R hR => ?_⟩
    refine ⟨_, rfl, la, rfl, ⟨_, SqL.of ((same_new hR) _ _ hts)⟩, for_list (K := K) (a := la) (xs := ts.map V.ref) (fun i σ H' => (∃ v1 v2 v3 : Option V, σ = [some (.ref la), some (.ref ra), some (.int (wn : Int)), some (.int p), some (.ref R), v1, v2, v3, none]) ∧ Same H H' ∧ ∃ us : List Addr, H' R = some (.lst (us.map V.ref)) ∧ Refs .lst H' us ((mulRows p wn rows rows').take i) ∧ ∀ u ∈ us, u ≠ R)
      ⟨⟨none, none, none, rfl⟩, same_new hR, [], upd_same, Refs.nil, fun _ z => (by cases z)⟩ (fun i σ H' _ ⟨_, s1, _⟩ => SqL.of (s1 _ _ hts)) ?_ ?_⟩
    · rintro i u σ H1 hu ⟨⟨v1, v2, v3, rfl⟩, s1, us, hus, hrefs, hne⟩
      obtain ⟨t, ht, rfl⟩ := refs_at hu
      obtain ⟨r, hr', hr2⟩ := href.row ht
      obtain ⟨rl, rb⟩ := hb r (List.mem_of_getElem? hr')
      have hi : i < rows.length := (List.getElem?_eq_some_iff.mp hr').1
      have em : (mulRows p wn rows rows')[i]? = some (sumRows p wn r rows') := by
        unfold mulRows
        rw [List.getElem?_map, hr']
        rfl
      refine ⟨Nat.zero_le _, fun W hW => ?_⟩
      have nRW : R ≠ W := ne_of_none hus hW
      refine ⟨_, rfl, (wn : Int), rfl, by omega, by omega, for_range (lo := 0) (n := wn) (fun j σ H' => (∃ v3 : Option V, σ = [some (.ref la), some (.ref ra), some (.int (wn : Int)), some (.int p), some (.ref R), some (.ref t), some (.ref W), v3, none]) ∧ Same H1 H' ∧ H' W = some (.lst (vI ((sumRows p wn r rows').take j))))
        ⟨⟨_, rfl⟩, same_new hW, upd_same⟩ ?_ ?_⟩
      · rintro j σ H2 hj ⟨⟨v3, rfl⟩, s2, hWj⟩
        have s12 := s1.trans s2
        -- the sum
        refine ⟨_, rfl, .inl ⟨rfl, _, SqL.of hWj⟩, _, rfl, t, _, rfl, .inl (SqL.of (s12 _ _ hr2)), _, rfl, by omega, by rw [List.length_map]; omega, fun D hD => ?_⟩
        refine lc_it (walk_range (lo := 0)) (fun m H' => Same H2 H' ∧ ∃ ps : List Int, H' D = some (.lst (vI ps)) ∧ ps.length = m ∧ ps.sum = colS r rows' j m) ⟨same_new hD, [], upd_same, rfl, rfl⟩ (fun _ _ _ _ => True.intro) ?_ ?_
        · rintro m v H3 H4 hm ⟨s3, ps, hps, hpl, hsum⟩ ⟨rfl, rfl⟩
          have hm' : m < r.length := by
            rw [List.length_map] at hm
            omega
          have s13 := s12.trans s3
          have hm2 : m < rows'.length := by omega
          have hm3 : m < ts'.length := by rw [href'.1]; exact hm2
          have et : ts'[m]? = some ts'[m] := List.getElem?_eq_getElem hm3
          have er : rows'[m]? = some rows'[m] := List.getElem?_eq_getElem hm2
          have hr3 := href'.2 m _ _ et er
          have lj : j < (rows'[m]).length := by rw [hb' _ (List.getElem_mem hm2)]; exact hj
          have ex := atI_nat (ints_at hm')
          have e2 : atI (ts'.map V.ref) (m : Int) = some (V.ref ts'[m]) := atI_nat (by rw [List.getElem?_map, et]; rfl)
          have e3 := atI_nat (ints_at lj)
          rw [← Int.zero_add (m : Int)] at ex e2
          rw [← Int.zero_add (j : Int)] at e3
          have bd := rb _ (List.getElem_mem hm')
          refine ⟨rfl, lc_yes ⟨_, rfl, _, rfl, t, _, _, _, rfl, rfl, SqL.of (s13 _ _ hr2), ex, _, rfl, _, rfl, ra, _, _, _, rfl, rfl, SqL.of (s13 _ _ hts'), e2, _, rfl, ts'[m], _, _, _, rfl, rfl, SqL.of (s13 _ _ hr3), e3, _, _, rfl, rfl, .inl ⟨by omega, by omega⟩, _, hps, ?_, ?_, ps ++ [r[m] * (rows'[m])[j]], ?_, ?_, ?_⟩⟩
          · rw [List.length_map, hpl]
            exact line_lt (by omega)
          · intro z o ez
            rw [upd_ne (ne_of_none ez hD)]
            exact s3 _ _ ez
          · rw [upd_same]
            simp [vI]
          · rw [List.length_append, hpl]
            rfl
          · rw [List.sum_append, hsum]
            show colS r rows' j m + ([r[m] * (rows'[m])[j]] : List Int).sum = colS r rows' j m + r.getD m 0 * (rows'.getD m []).getD j 0
            have g1 : r.getD m 0 = r[m] := by rw [List.getD_eq_getElem?_getD, List.getElem?_eq_getElem hm']; rfl
            have g2 : rows'.getD m [] = rows'[m] := by rw [List.getD_eq_getElem?_getD, er]; rfl
            have g3 : (rows'[m]).getD j 0 = (rows'[m])[j] := by rw [List.getD_eq_getElem?_getD, List.getElem?_eq_getElem lj]; rfl
            rw [g1, g2, g3]
            simp
        rintro H3 ⟨s3, ps, hps, hpl, hsum⟩
        have lr : (((vI r).length : Nat) : Int).toNat = r.length := by
          rw [List.length_map]
          omega
        rw [lr] at hsum
        have ej : (sumRows p wn r rows')[j]? = some (ps.sum % p) := by
          rw [hsum]
          exact range_get hj
        refine ⟨D, _, rfl, SqL.of hps, .inl ⟨_, rfl, _, rfl, _, _, rfl, rfl, hp, W, _, _, rfl, rfl, s3 _ _ hWj, ?_, ⟨_, rfl⟩, ?_, ?_⟩⟩
        · rw [List.length_map]
          refine line_lt ?_
          have : ((sumRows p wn r rows').take j).length ≤ j := List.length_take_le _ _
          omega
        · intro z o ez
          rw [upd_ne (ne_of_none ez hW)]
          exact s3 _ _ (s2 _ _ ez)
        · rw [upd_same, take_succ ej]
          simp [vI]
      · rintro σ H2 ⟨⟨v3, rfl⟩, s2, hWj⟩
        have full : (sumRows p wn r rows').take wn = sumRows p wn r rows' := by
          rw [List.take_of_length_le]
          simp [sumRows]
        rw [full] at hWj
        have hR2 := s2 _ _ hus
        refine ⟨_, rfl, .inl ⟨rfl, _, SqL.of hR2⟩, _, rfl, R, _, _, rfl, rfl, hR2, ?_, ⟨_, _, _, rfl⟩, ?_, us ++ [W], ?_, ?_, ?_⟩
        · rw [List.length_map, hrefs.1]
          refine line_lt ?_
          have : ((mulRows p wn rows rows').take i).length ≤ i := List.length_take_le _ _
          omega
        · intro z o ez
          rw [upd_ne (ne_of_none ez hR)]
          exact s2 _ _ (s1 _ _ ez)
        · rw [upd_same]
          simp
        · refine hrefs.snoc em (fun t' o mt et => ?_) ?_
          · rw [upd_ne (hne _ mt)]
            exact s2 _ _ et
          · rw [upd_ne nRW.symm]
            exact hWj
        · intro z hz
          rcases List.mem_append.mp hz with hz | hz
          · exact hne z hz
          · rw [List.mem_singleton.mp hz]
            exact nRW.symm
    · rintro σ H1 ⟨⟨v1, v2, v3, rfl⟩, s1, us, hus, hrefs, _⟩
      have lm : (mulRows p wn rows rows').length = rows.length := by simp [mulRows]
      have el : (mulRows p wn rows rows').take (ts.map V.ref).length = mulRows p wn rows rows' := by
        rw [List.length_map, href.1, ← lm]
        exact List.take_length
      rw [el] at hrefs
      exact ⟨_, rfl, q H1 R s1 hR ⟨us, hus, hrefs⟩⟩
end
section
variable {P : Program} {w : World} {K : PySem.W.Frag} {mg : Str → Option Value} {base : Heap}
/-! ### _law_applied -/
variable {a : Nat → Addr} {d : Nat → FuncData}
/-- the scope of the comprehension that a def of one row returns -/
def retLc (s : Stmt) : Scope := match defBody s with
  | [.Return (some (.ListComp _ _ sc _)) _] => sc
  | _ => { kind := .function, names := [], isGenerator := false, isCoroutine := false }
/-- .. as a comprehension within it sees it: the def's own cells are cells -/
def relSc (s : Stmt) (sc : Scope) : Scope := { sc with names := sc.names.map fun y => if y.2 == .free && (defScope s).names.lookup y.1 == some .cell then (y.1, .cell) else y }
theorem dot_snoc {r v : List Int} {i : Nat} {x y : Int} (h1 : r[i]? = some x) (h2 : v[i]? = some y) : dotI (r.take (i + 1)) (v.take (i + 1)) = dotI (r.take i) (v.take i) + x * y := by
  have l1 : i < r.length := (List.getElem?_eq_some_iff.mp h1).1
  have l2 : i < v.length := (List.getElem?_eq_some_iff.mp h2).1
  rw [take_succ h1, take_succ h2]
  unfold dotI
  rw [List.zipWith_append (by rw [List.length_take, List.length_take]; omega), List.sum_append]
  simp
def spApp : Sp := fun vs H Q _ => ∃ (ra va : Addr) (p : Int) (rows : List (List Int)) (ns : List Int), vs = [.ref ra, .ref va, .int p] ∧ RowsL H ra rows ∧ H va = some (.lst (vI ns)) ∧ rows.length ≤ 100 ∧ ns.length ≤ 100 ∧ 0 < p ∧
  (∀ r ∈ rows, r.length = ns.length ∧ ∀ e ∈ r, -1000 < e ∧ e < 1000) ∧ ∀ (H' : Hp) (z : Addr), Same H H' → H z = none → H' z = some (.lst (vI (appRows p rows ns))) → Q (.ref z) H'
theorem sc_law_applied : FnScope ["rows", "vector", "base", "row", "k"] ["rows", "vector", "base"] (defScope s_law_applied) := ⟨rfl, rfl, rfl, by decide +kernel, rfl, by decide +kernel, by decide +kernel⟩
theorem ok_law_applied (T : TX K mg a d) : FnOk P w K mg base CX0 1 (a i_law_applied) (d i_law_applied) ["rows", "vector", "base"] spApp := by
  have B := T.B
  refine T.F_law_applied.ok sc_law_applied (fun vs H Q E h => ?_) (fun cdv A outer s H vs Q E hr h => ?_)
  · obtain ⟨ra, va, p, rows, ns, rfl, _⟩ := h
    rfl
  · obtain ⟨ra, va, p, rows, ns, rfl, ⟨ts, hts, href⟩, hv, l1, l2, hp, hb, q⟩ := h
    refine ⟨_, pss_one (ps_ret (pe_lc (own := [("row", 3)]) (g := gName 3) (tt := tYes) rfl sc_law_applied.nd (pi_list (pv 0)) (blkOk_by (N := ["rows", "vector", "base", "row", "k"]) (sc := (defScope s_law_applied)) (by decide +kernel)) (fun _ _ _ _ _ => (pg_name (i := 3) sc_law_applied.nd rfl (Or.inr rfl))) (fun _ _ _ _ _ => pts_nil) (fun _ _ _ _ _ => (pe_op op_mod (pe_callTy call_int1 (by rfl) B.int (by decide +kernel) (pa_cons (pe_callB (call_sumK (K := K) rfl rfl) (by rfl) B.sum (by decide +kernel) (pa_cons (pe_lc (own := [("k", 4)]) (g := gName 4) (tt := tYes) rfl sc_law_applied.nd (pi_range1 (by rfl) B.range (pa_cons (pe_callB (call_lenK (K := K) rfl) (by rfl) B.len (by decide +kernel) (pa_cons (pv 3) pa_nil)) pa_nil)) (blkOk_by (N := ["rows", "vector", "base", "row", "k"]) (sc := (relSc s_law_applied (retLc s_law_applied))) (by decide +kernel)) (fun _ _ _ _ _ => (pg_name (i := 4) sc_law_applied.nd rfl (Or.inl rfl))) (fun _ _ _ _ _ => pts_nil) (fun _ _ _ _ _ => (pe_op op_mul (pe_ix (ix_listK (K := K) rfl) (pv 3) (pv 4) (fun _ _ => rfl)) (pe_ix (ix_listK (K := K) rfl) (pv 1) (pv 4) (fun _ _ => rfl))))) pa_nil)) pa_nil)) (pv 2))))), ?_⟩
    refine ⟨_, rfl, ra, rfl, ⟨_, SqL.of hts⟩, fun D hD => lc_it walk_list (fun i H' => Same H H' ∧ H' D = some (.lst (vI ((appRows p rows ns).take i)))) ⟨same_new hD, upd_same⟩ (fun i H' _ ⟨s1, _⟩ => SqL.of (s1 _ _ hts)) ?_ ?_⟩
    · rintro i u H1 H2 hi ⟨s1, hacc⟩ ⟨rfl, hu⟩
      obtain ⟨t, ht, rfl⟩ := refs_at hu
      obtain ⟨r, hr', hr2⟩ := href.row ht
      obtain ⟨rl, rb⟩ := hb r (List.mem_of_getElem? hr')
      refine ⟨rfl, lc_yes ⟨_, rfl, t, _, rfl, .inl (SqL.of (s1 _ _ hr2)), _, rfl, by omega, by rw [List.length_map]; omega, fun D2 hD2 => ?_⟩⟩
      refine lc_it (walk_range (lo := 0)) (fun m H' => Same H2 H' ∧ ∃ ps : List Int, H' D2 = some (.lst (vI ps)) ∧ ps.length = m ∧ ps.sum = dotI (r.take m) (ns.take m)) ⟨same_new hD2, [], upd_same, rfl, rfl⟩ (fun _ _ _ _ => True.intro) ?_ ?_
      · rintro m v H3 H4 hm ⟨s3, ps, hps, hpl, hsum⟩ ⟨rfl, rfl⟩
        have hm' : m < r.length := by
          rw [List.length_map] at hm
          omega
        have hm2 : m < ns.length := by omega
        have s13 := s1.trans s3
        have ex := atI_nat (ints_at hm')
        have ey := atI_nat (ints_at hm2)
        rw [← Int.zero_add (m : Int)] at ex ey
        have bd := rb _ (List.getElem_mem hm')
        refine ⟨rfl, lc_yes ⟨_, rfl, _, rfl, t, _, _, _, rfl, rfl, SqL.of (s13 _ _ hr2), ex, _, rfl, _, rfl, va, _, _, _, rfl, rfl, SqL.of (s13 _ _ hv), ey, _, _, rfl, rfl, .inl ⟨by omega, by omega⟩, _, hps, ?_, ?_, ps ++ [r[m] * ns[m]], ?_, ?_, ?_⟩⟩
        · rw [List.length_map, hpl]
          exact line_lt (by omega)
        · intro z o ez
          rw [upd_ne (ne_of_none ez hD2)]
          exact s3 _ _ ez
        · rw [upd_same]
          simp [vI]
        · rw [List.length_append, hpl]
          rfl
        · rw [List.sum_append, hsum, dot_snoc (List.getElem?_eq_getElem hm') (List.getElem?_eq_getElem hm2)]
          simp
      rintro H3 ⟨s3, ps, hps, hpl, hsum⟩
      have lr : (((vI r).length : Nat) : Int).toNat = r.length := by
        rw [List.length_map]
        omega
      rw [lr, List.take_length, rl, List.take_length] at hsum
      have em : (appRows p rows ns)[i]? = some (ps.sum % p) := by
        rw [hsum]
        unfold appRows
        rw [List.getElem?_map, hr']
        rfl
      refine ⟨D2, _, rfl, SqL.of hps, .inl ⟨_, rfl, _, rfl, _, _, rfl, rfl, hp, _, s3 _ _ hacc, ?_, ?_, ?_⟩⟩
      · rw [List.length_map]
        refine line_lt ?_
        have : ((appRows p rows ns).take i).length ≤ i := List.length_take_le _ _
        rw [List.length_map, href.1] at hi
        omega
      · intro z o ez
        rw [upd_ne (ne_of_none ez hD)]
        exact s3 _ _ (s1 _ _ ez)
      · rw [upd_same, take_succ em]
        simp [vI]
    rintro H1 ⟨s1, hacc⟩
    have el : (appRows p rows ns).take (ts.map V.ref).length = appRows p rows ns := by
      rw [List.take_of_length_le]
      rw [List.length_map, href.1]
      simp [appRows]
    rw [el] at hacc
    exact q H1 D s1 hD hacc
end
section
variable {P : Program} {w : World} {K : PySem.W.Frag} {mg : Str → Option Value} {base : Heap}
/-! ### comprehensions of draws -/
/-- what a comprehension of draws has made behind i turns -/
def Drawn (Hs : Hp) (d r D : Addr) (p : Int) (c0 i : Nat) (H : Hp) : Prop := KeepBut d Hs H ∧ ∃ (ns : List Int) (c : Nat), H D = some (.lst (vI ns)) ∧ ns.length = i ∧ (∀ n ∈ ns, 0 ≤ n ∧ n < p) ∧ Dr H d r c ∧ c ≤ c0 + i
theorem drawn_0 {Hs : Hp} {d r D : Addr} {p : Int} {c0 : Nat} (hD : Hs D = none) (D0 : Dr Hs d r c0) : Drawn Hs d r D p c0 0 (upd Hs D (.lst [])) :=
  ⟨KeepBut.of (same_new hD), [], c0, upd_same, rfl, fun _ h => (by cases h), D0.same (same_new hD), Nat.le_refl _⟩
theorem drawn_next {Hs H : Hp} {d r D : Addr} {p : Int} {c0 i : Nat} (hD : Hs D = none) (D0 : Dr Hs d r c0) (hp : 0 < p) (hi : c0 + i ≤ 100000) (h : Drawn Hs d r D p c0 i H) :
    spNext [.ref d, .int p] H (fun y H4 => ∃ acc, H4 D = some (.lst acc) ∧ acc.length < sizeLine ∧ Drawn Hs d r D p c0 (i + 1) (upd H4 D (.lst (acc ++ [y])))) E0 := by
  have n := D0.ne hD
  obtain ⟨kb, ns, c, hL, hl, hb, Dd, hc⟩ := h
  refine ⟨d, r, c, p, rfl, Dd, by omega, hp, fun z H' z0 z1 k1 D1 => ⟨vI ns, k1 _ _ n.1 hL, ?_, ?_, ns ++ [z], c + 1, ?_, ?_, ?_, D1.put n, ?_⟩⟩
  · rw [List.length_map, hl]
    exact line_lt (by omega)
  · intro b o' nb e
    rw [upd_ne (ne_of_none e hD)]
    exact k1 _ _ nb (kb _ _ nb e)
  · rw [upd_same]
    simp [vI]
  · rw [List.length_append, hl]
    rfl
  · intro x hx
    rcases List.mem_append.mp hx with hx | hx
    · exact hb x hx
    · rw [List.mem_singleton.mp hx]
      exact ⟨z0, z1⟩
  · omega
end
section
variable {P : Program} {w : World} {K : PySem.W.Frag} {mg : Str → Option Value} {base : Heap}
/-! ### _law_drawn -/
theorem RowsL.keep {H H' : Hp} {dd rr z : Addr} {c : Nat} {rows : List (List Int)} (D : Dr H dd rr c) (k : KeepBut dd H H') (h : RowsL H z rows) : RowsL H' z rows := by
  obtain ⟨_, hd, _⟩ := D
  obtain ⟨ts, hz, hl, hr⟩ := h
  refine ⟨ts, k _ _ (fun e => ?_) hz, hl, fun i t r h1 h2 => k _ _ (fun e => ?_) (hr i t r h1 h2)⟩
  · rw [e, hd] at hz
    have q := HO.lst.inj (Option.some.inj hz)
    have : V.int (c : Int) ∈ ts.map V.ref := by rw [← q]; simp
    obtain ⟨t, _, ht⟩ := List.mem_map.mp this
    cases ht
  · have z := hr i t r h1 h2
    rw [e, hd] at z
    have q := HO.lst.inj (Option.some.inj z)
    have : V.ref rr ∈ vI r := by rw [← q]; simp
    obtain ⟨t, _, ht⟩ := List.mem_map.mp this
    cases ht
def spDrawnM : Sp := fun vs H Q _ => ∃ (dd rr : Addr) (c : Nat) (p : Int) (hn wn : Nat), vs = [.ref dd, .int p, .int (hn : Int), .int (wn : Int)] ∧ Dr H dd rr c ∧ c ≤ 10000 ∧ 0 < p ∧ hn ≤ 10 ∧ wn ≤ 10 ∧
  ∀ (H' : Hp) (z : Addr) (rows : List (List Int)) (c' : Nat), KeepBut dd H H' → H z = none → RowsL H' z rows → rows.length = hn → (∀ r ∈ rows, (r.length : Int) = (wn : Int) ∧ ∀ e ∈ r, 0 ≤ e ∧ e < p) → Dr H' dd rr c' → c' ≤ c + 101 → Q (.ref z) H'
abbrev nDrawn : List Str := ["draws", "base", "height", "width", "kind", "rows", "i", "row", "j", "entry"]
theorem sc_law_drawn : FnScope nDrawn ["draws", "base", "height", "width"] (defScope s_law_drawn) := ⟨rfl, rfl, rfl, by decide +kernel, rfl, by decide +kernel, by decide +kernel⟩
/-- behind i rows -/
def OutD (H0 : Hp) (dd rr R : Addr) (p : Int) (wn c0 i : Nat) (H' : Hp) : Prop := KeepBut dd H0 H' ∧ ∃ (us : List Addr) (rowsv : List (List Int)) (c : Nat), H' R = some (.lst (us.map V.ref)) ∧ Refs .lst H' us rowsv ∧ rowsv.length = i ∧
  (∀ r ∈ rowsv, (r.length : Int) = (wn : Int) ∧ ∀ e ∈ r, 0 ≤ e ∧ e < p) ∧ (∀ u ∈ us, u ≠ R ∧ u ≠ dd) ∧ Dr H' dd rr c ∧ c ≤ c0 + 10 * i
/-- behind j entries of a row at W -/
def InD (H1 : Hp) (dd rr W : Addr) (p : Int) (c1 j : Nat) (H' : Hp) : Prop := (∀ b o, b ≠ dd → b ≠ W → H1 b = some o → H' b = some o) ∧ ∃ (ent : List Int) (c : Nat), H' W = some (.lst (vI ent)) ∧ ent.length = j ∧ (∀ e ∈ ent, 0 ≤ e ∧ e < p) ∧ Dr H' dd rr c ∧ c ≤ c1 + j
theorem ok_law_drawn {f fN : Addr} {fd fdN : FuncData} (F : Fun K "_law_drawn" "_law_drawn" s_law_drawn f fd) (B : BI mg)
    (FN : Fun K "_law_next" "_law_next" s_law_next fN fdN) (gN : mg "_law_next" = some (.ref fN)) (bN : Binds K fdN ["draws", "many"] []) : FnOk P w K mg base CX0 2 f fd ["draws", "base", "height", "width"] spDrawnM := by
  have GN : FnOk P w K mg base CX0 1 fN fdN ["draws", "many"] spNext := ok_next FN B
  refine F.ok sc_law_drawn (fun vs H Q E h => ?_) (fun cdv A outer s H vs Q E hr h => ?_)
  · obtain ⟨dd, rr, c, p, hn, wn, rfl, _⟩ := h
    rfl
  · obtain ⟨dd, rr, c, p, hn, wn, rfl, D0, hc, hp, hh, hw, q⟩ := h
    refine ⟨_, pss_cons (ps_set (i := 4) sc_law_drawn.nd rfl (Or.inl rfl) (pe_call GN (hr.mono (by decide)) rfl gN FN.kp bN .nil pass0 (pa_cons (pv 0) (pa_cons pe_int pa_nil))))
      (pss_cons (ps_set (i := 5) sc_law_drawn.nd rfl (Or.inl rfl) (pe_lst pa_nil))
      (pss_cons (ps_for PassesOwn.never rfl (pi_range1 (by rfl) B.range (pa_cons (pv 2) pa_nil)) (pg_name (i := 6) sc_law_drawn.nd rfl (Or.inl rfl))
      (pss_cons (ps_set (i := 7) sc_law_drawn.nd rfl (Or.inl rfl) (pe_lst pa_nil))
      (pss_cons (ps_for PassesOwn.never rfl (pi_range1 (by rfl) B.range (pa_cons (pv 3) pa_nil)) (pg_name (i := 8) sc_law_drawn.nd rfl (Or.inl rfl))
      (pss_cons (ps_set (i := 9) sc_law_drawn.nd rfl (Or.inl rfl) (pe_call GN (hr.mono (by decide)) rfl gN FN.kp bN .nil pass0 (pa_cons (pv 0) (pa_cons pe_int pa_nil))))
      (pss_cons (ps_if (PW.pt (pw_and (pt_cmpR op_eq (pv 4) pe_int (nomark _)) (pw_and1 (pt_cmpR op_lt (pe_op op_fdiv (pv 9) pe_int) pe_int (nomark _))))) (pss_one (ps_set (i := 9) sc_law_drawn.nd rfl (Or.inl rfl) pe_int)) pss_nil)
      (pss_cons (ps_if (pt_cmpR op_eq (pv 4) pe_int (nomark _)) (pss_one (ps_set (i := 9) sc_law_drawn.nd rfl (Or.inl rfl) (pe_op op_fdiv (pv 9) pe_int))) pss_nil)
      (pss_one (ps_expr (pe_bm PySem.F.plainAttrs_list PySem.F.slot_list_append PySem.F.type_list_append mt_append (pv 7) (pa_cons (pe_op op_mod (pe_callTy call_int1 (by rfl) B.int (by decide +kernel) (pa_cons (pv 9) pa_nil)) (pv 1)) pa_nil))))))))
      (pss_one (ps_expr (pe_bm PySem.F.plainAttrs_list PySem.F.slot_list_append PySem.F.type_list_append mt_append (pv 5) (pa_cons (pv 7) pa_nil)))))))
      (pss_one (ps_ret (pv 5))))), ?_⟩
    refine ⟨_, rfl, dd, rr, c, 4, rfl, D0, by omega, by decide, fun kd H1 k0 k4 kb1 D1 => ?_⟩
    refine ⟨Nat.zero_le _, fun R hR => ?_⟩
    have nR := D1.ne hR
    have fR : H R = none := kb1.free D1.2.1 hR
    refine ⟨_, rfl, (hn : Int), rfl, by omega, by omega, for_range (lo := 0) (n := hn) (fun i σ H' => (∃ v1 v2 v3 v4 : Option V, σ = [some (.ref dd), some (.int p), some (.int (hn : Int)), some (.int (wn : Int)), some (.int kd), some (.ref R), v1, v2, v3, v4]) ∧ OutD H dd rr R p wn (c + 1) i H')
      ⟨⟨none, none, none, none, rfl⟩, kb1.trans (KeepBut.of (same_new hR)), [], [], c + 1, upd_same, ⟨rfl, fun i t r h => by simp at h⟩, rfl, fun _ z => (by cases z), fun _ z => (by cases z), D1.same (same_new hR), by omega⟩ ?_ ?_⟩
    · rintro i σ H2 hi ⟨⟨v1, v2, v3, v4, rfl⟩, kb2, us, rowsv, c2, hus, hrefs, hlen, hgood, hne, D2, hc2⟩
      refine ⟨Nat.zero_le _, fun W hW => ?_⟩
      have nW := D2.ne hW
      have nRW : R ≠ W := ne_of_none hus hW
      refine ⟨_, rfl, (wn : Int), rfl, by omega, by omega, for_range (lo := 0) (n := wn) (fun j σ H' => (∃ v3 v4 : Option V, σ = [some (.ref dd), some (.int p), some (.int (hn : Int)), some (.int (wn : Int)), some (.int kd), some (.ref R), some (.int (0 + (i : Int))), some (.ref W), v3, v4]) ∧ InD H2 dd rr W p c2 j H')
        ⟨⟨_, _, rfl⟩, fun b o _ n2 e => by rw [upd_ne n2]; exact e, [], c2, upd_same, rfl, fun _ z => (by cases z), D2.same (same_new hW), by omega⟩ ?_ ?_⟩
      · rintro j σ H3 hj ⟨⟨v3, v4, rfl⟩, kb3, ent, c3, hent, hel, heg, D3, hc3⟩
        refine ⟨_, rfl, dd, rr, c3, 1000, rfl, D3, by omega, by decide, fun en H4 e0 e1 kb4 D4 => ?_⟩
        have hW4 : H4 W = some (.lst (vI ent)) := kb4 _ _ nW.1 hent
        have small : (vI ent).length < sizeLine := by
          rw [List.length_map, hel]
          exact line_lt (by omega)
        have fin : ∀ (e : Int) (v4 : Option V), (∃ v3 v4' : Option V, [some (V.ref dd), some (.int p), some (.int (hn : Int)), some (.int (wn : Int)), some (.int kd), some (.ref R), some (.int (0 + (i : Int))), some (.ref W), some (.int (0 + (j : Int))), v4] = [some (.ref dd), some (.int p), some (.int (hn : Int)), some (.int (wn : Int)), some (.int kd), some (.ref R), some (.int (0 + (i : Int))), some (.ref W), v3, v4']) ∧
            InD H2 dd rr W p c2 (j + 1) (upd H4 W (.lst (vI ent ++ [V.int (e % p)]))) := fun e v4 => by
          refine ⟨⟨_, _, rfl⟩, fun b o n1 n2 eb => ?_, ent ++ [e % p], c3 + 1, ?_, ?_, ?_, D4.put nW, by omega⟩
          · rw [upd_ne n2]
            exact kb4 _ _ n1 (kb3 _ _ n1 n2 eb)
          · rw [upd_same]
            simp [vI]
          · rw [List.length_append, hel]
            rfl
          · intro x hx
            rcases List.mem_append.mp hx with hx | hx
            · exact heg x hx
            · rw [List.mem_singleton.mp hx]
              exact ⟨Int.emod_nonneg _ (by omega), Int.emod_lt_of_pos _ hp⟩
        refine ⟨_, rfl, rfl, _, rfl, ?_⟩
        refine ite2 (fun _ => ⟨_, rfl, _, _, rfl, rfl, ⟨by decide, by decide⟩, _, _, rfl, rfl, _, rfl, ite2 (fun _ => ?_) (fun _ => ?_)⟩) (fun _ => ?_)
        all_goals refine ⟨_, rfl, rfl, _, rfl, ite2 (fun _ => ⟨_, rfl, _, _, rfl, rfl, ⟨by decide, by decide⟩, ?_⟩) (fun _ => ?_)⟩
        all_goals exact ⟨_, rfl, .inl ⟨rfl, _, SqL.of hW4⟩, _, rfl, .inl ⟨_, rfl, _, rfl, _, _, rfl, rfl, hp, W, _, _, rfl, rfl, hW4, small, fin _ _⟩⟩
      · rintro σ H3 ⟨⟨v3, v4, rfl⟩, kb3, ent, c3, hent, hel, heg, D3, hc3⟩
        have hR3 : H3 R = some (.lst (us.map V.ref)) := kb3 _ _ nR.1 nRW hus
        have uW : ∀ u ∈ us, u ≠ W := fun u hu => by
          obtain ⟨k, hk, ek⟩ := List.mem_iff_getElem.mp hu
          have hk2 : us[k]? = some u := by rw [List.getElem?_eq_getElem hk, ek]
          obtain ⟨r, _, hr2⟩ := hrefs.row hk2
          exact ne_of_none hr2 hW
        have fW : H W = none := kb2.free D2.2.1 hW
        refine ⟨_, rfl, .inl ⟨rfl, _, SqL.of hR3⟩, _, rfl, R, _, _, rfl, rfl, hR3, ?_, ⟨_, _, _, _, rfl⟩, ?_, us ++ [W], rowsv ++ [ent], c3, ?_, ?_, ?_, ?_, ?_, D3.put nR, by omega⟩
        · rw [List.length_map, hrefs.1, hlen]
          exact line_lt (by omega)
        · intro b o nb e
          rw [upd_ne (ne_of_none e fR)]
          exact kb3 _ _ nb (ne_of_none e fW) (kb2 _ _ nb e)
        · rw [upd_same]
          simp
        · have et : rowsv = (rowsv ++ [ent]).take rowsv.length := by simp
          have e2 : (rowsv ++ [ent])[rowsv.length]? = some ent := by simp
          have h1 : Refs .lst H2 us ((rowsv ++ [ent]).take rowsv.length) := by rw [← et]; exact hrefs
          have h2 := h1.snoc (H' := upd H3 R (.lst (us.map V.ref ++ [V.ref W]))) (u := W) e2 (fun t o mt et' => ?_) ?_
          · have e3 : (rowsv ++ [ent]).take (rowsv.length + 1) = rowsv ++ [ent] := by
              rw [List.take_of_length_le]
              simp
            rw [e3] at h2
            exact h2
          · rw [upd_ne (hne t mt).1]
            exact kb3 _ _ (hne t mt).2 (uW t mt) et'
          · rw [upd_ne nRW.symm]
            exact hent
        · rw [List.length_append, hlen]
          rfl
        · intro r hr
          rcases List.mem_append.mp hr with hr | hr
          · exact hgood r hr
          · rw [List.mem_singleton.mp hr]
            exact ⟨by rw [hel], heg⟩
        · intro u hu
          rcases List.mem_append.mp hu with hu | hu
          · exact hne u hu
          · rw [List.mem_singleton.mp hu]
            exact ⟨nRW.symm, nW.1⟩
    · rintro σ H2 ⟨⟨v1, v2, v3, v4, rfl⟩, kb2, us, rowsv, c2, hus, hrefs, hlen, hgood, hne, D2, hc2⟩
      exact ⟨_, rfl, q H2 R rowsv c2 kb2 fR ⟨us, hus, hrefs⟩ hlen hgood D2 (by omega)⟩
end
section
variable {P : Program} {w : World} {K : PySem.W.Frag} {mg : Str → Option Value} {base : Heap}
/-! ### the law of products -/
variable {a : Nat → Addr} {d : Nat → FuncData}
theorem keepI {H H' : Hp} {dd rr z : Addr} {c : Nat} {ns : List Int} (D : Dr H dd rr c) (k : KeepBut dd H H') (h : H z = some (.lst (vI ns))) : H' z = some (.lst (vI ns)) := by
  obtain ⟨_, hd, _⟩ := D
  refine k _ _ (fun e => ?_) h
  rw [e, hd] at h
  have q := HO.lst.inj (Option.some.inj h)
  have : V.ref rr ∈ vI ns := by rw [← q]; simp
  obtain ⟨t, _, ht⟩ := List.mem_map.mp this
  cases ht
theorem MG.keep {C : Addr} {H H' : Hp} {dd rr x : Addr} {c : Nat} {p wd : Int} {rows : List (List Int)} (D : Dr H dd rr c) (k : KeepBut dd H H') (h : MG C H x p wd rows) : MG C H' x p wd rows := by
  obtain ⟨_, hd, _⟩ := D
  obtain ⟨⟨dx, T, hx, ts, hT, hl, hr⟩, g⟩ := h
  refine ⟨⟨dx, T, k _ _ (fun e => ?_) hx, ts, k _ _ (fun e => ?_) hT, hl, fun i t r h1 h2 => k _ _ (fun e => ?_) (hr i t r h1 h2)⟩, g⟩
  · rw [e, hd] at hx; cases hx
  · rw [e, hd] at hT; cases hT
  · have z := hr i t r h1 h2
    rw [e, hd] at z; cases z
theorem Eqd.tupI {H : Hp} {x y : Addr} {ns : List Int} {n : Nat} (l : ns.length ≤ 1000) (h1 : H x = some (.tup (vI ns))) (h2 : H y = some (.tup (vI ns))) : Eqd K (n + 1) H (.ref x) (.ref y) :=
  .inr ⟨x, y, _, _, rfl, rfl, .inr ⟨SqT.of h1, SqT.of h2⟩, rfl, by rw [List.length_map]; exact l, fun j u v hu hv => by
    rw [hu] at hv
    cases hv
    obtain ⟨n', _, rfl⟩ := item_int hu
    exact Eqd.int n H n'⟩
/-- all that the law has made -/
structure All3 (C L F S xl xr V Du : Addr) (a0 a1 a2 : Nat) (p : Int) (rows1 rows2 : List (List Int)) (vs : List Int) (H : Hp) : Prop where
  hL : H L = some (.lst (vI [(a0 : Int), (a1 : Int), (a2 : Int)]))
  hF : RowsL H F rows1
  hS : RowsL H S rows2
  hl : MG C H xl p (a1 : Int) rows1
  hr : MG C H xr p (a2 : Int) rows2
  hV : H V = some (.lst (vI vs))
  hD : RowsL H Du (mulRows p a2 rows1 rows2)
theorem All3.same {C L F S xl xr V Du : Addr} {a0 a1 a2 : Nat} {p : Int} {rows1 rows2 : List (List Int)} {vs : List Int} {H H' : Hp} (s : Same H H') (h : All3 C L F S xl xr V Du a0 a1 a2 p rows1 rows2 vs H) : All3 C L F S xl xr V Du a0 a1 a2 p rows1 rows2 vs H' :=
  ⟨s _ _ h.hL, h.hF.same s, h.hS.same s, h.hl.same s, h.hr.same s, s _ _ h.hV, h.hD.same s⟩
theorem All3.keep {C L F S xl xr V Du : Addr} {a0 a1 a2 : Nat} {p : Int} {rows1 rows2 : List (List Int)} {vs : List Int} {H H' : Hp} {dd rr : Addr} {c : Nat} (D : Dr H dd rr c) (k : KeepBut dd H H') (h : All3 C L F S xl xr V Du a0 a1 a2 p rows1 rows2 vs H) : All3 C L F S xl xr V Du a0 a1 a2 p rows1 rows2 vs H' :=
  ⟨keepI D k h.hL, h.hF.keep D k, h.hS.keep D k, h.hl.keep D k, h.hr.keep D k, keepI D k h.hV, h.hD.keep D k⟩
theorem zeros_eq (n : Nat) : (List.replicate n [V.int 0]).flatten = vI (List.replicate n 0) := by
  rw [rep_one]
  show List.replicate n (V.int 0) = (List.replicate n (0 : Int)).map V.int
  rw [List.map_replicate]
def spLaw (K : PySem.W.Frag) : Sp := fun vs H Q _ => ∃ (a : Addr) (ns : List Int), vs = [.ref a] ∧ SqL K H a (vI ns) ∧ ∀ H', Q (.bl true) H'
abbrev nLaw : List Str := ["script", "draws", "base", "sizes", "k", "first", "others", "second", "left", "right", "vector", "due", "product", "strange", "other", "moved", "short"]
theorem sc_law : FnScope nLaw ["script"] (defScope s_law) := ⟨rfl, rfl, rfl, by decide +kernel, rfl, by decide +kernel, by decide +kernel⟩
theorem ok_law (T : TX K mg a d) : FnOk P w K mg base CX0 6 (a i_law) (d i_law) ["script"] (spLaw K) := by
  have B := T.B
  have G_law_cell := ok_cell (P := P) (w := w) (base := base) T.F_law_cell B
  have G_law_draws := ok_draws (P := P) (w := w) (base := base) T.F_law_draws B
  have G_law_next := ok_next (P := P) (w := w) (base := base) T.F_law_next B
  have G_law_prime := ok_prime (P := P) (w := w) (base := base) T.F_law_prime B T.F_law_next T.g_law_next T.b_law_next T.F_law_is_prime T.g_law_is_prime T.b_law_is_prime
  have G_law_same := ok_same (P := P) (w := w) (base := base) T.F_law_same B T.g_law_same T.b_law_same 1
  have G_law_drawn := ok_law_drawn (P := P) (w := w) (base := base) T.F_law_drawn B T.F_law_next T.g_law_next T.b_law_next
  have G_law_is_matrix := ok_ismat (P := P) (w := w) (base := base) T
  have G_law_product := ok_law_product (P := P) (w := w) (base := base) T
  have G_law_applied := ok_law_applied (P := P) (w := w) (base := base) T
  have G_law_fails := ok_fails (P := P) (w := w) (base := base) T
  have G_Matrix_init := ok_init (P := P) (w := w) (base := base) T
  have G_Matrix_mul := ok_mul (P := P) (w := w) (base := base) T
  have G_Matrix_apply := ok_apply (P := P) (w := w) (base := base) T
  refine T.F_law.ok sc_law (fun vs H Q E h => ?_) (fun cdv A outer s H vs Q E hr h => ?_)
  · obtain ⟨a, ns, rfl, _⟩ := h
    rfl
  · obtain ⟨sa, ns, rfl, hS, q⟩ := h
    refine ⟨_, pss_cons (ps_set (i := 1) sc_law.nd rfl (Or.inr rfl) (pe_call G_law_draws (hr.mono (by decide)) rfl T.g_law_draws T.F_law_draws.kp T.b_law_draws .nil pass0 (pa_cons (pe_call G_law_cell (hr.mono (by decide)) rfl T.g_law_cell T.F_law_cell.kp T.b_law_cell .nil pass0 (pa_cons (pv 0) (pa_cons pe_int pa_nil))) pa_nil)))
      (pss_cons (ps_set (i := 2) sc_law.nd rfl (Or.inr rfl) (pe_call G_law_prime (hr.mono (by decide)) rfl T.g_law_prime T.F_law_prime.kp T.b_law_prime .nil pass0 (pa_cons (pv 1) pa_nil)))
      (pss_cons (ps_setLc (i := 3) (own := [("k", 4)]) (g := gName 4) (tt := tYes) rfl sc_law.nd rfl rfl (sw_true rfl rfl rfl (by decide +kernel)) (pi_range1 (by rfl) B.range (pa_cons pe_int pa_nil)) (blkOk_by (N := nLaw) (sc := (defScope s_law)) (by decide +kernel)) (fun _ _ _ _ _ => (pg_name (i := 4) sc_law.nd rfl (Or.inl rfl))) (fun _ _ _ _ _ => pts_nil) (fun _ _ _ _ _ => (pe_call G_law_next (hr.mono (by decide)) rfl T.g_law_next T.F_law_next.kp T.b_law_next .nil pass0 (pa_cons (pv 1) (pa_cons pe_int pa_nil)))))
      (pss_cons (ps_set (i := 5) sc_law.nd rfl (Or.inl rfl) (pe_call G_law_drawn (hr.mono (by decide)) rfl T.g_law_drawn T.F_law_drawn.kp T.b_law_drawn .nil pass0 (pa_cons (pv 1) (pa_cons (pv 2) (pa_cons (pe_ix ix_list (pv 3) pe_int (fun _ _ => rfl)) (pa_cons (pe_ix ix_list (pv 3) pe_int (fun _ _ => rfl)) pa_nil))))))
      (pss_cons (ps_set (i := 6) sc_law.nd rfl (Or.inr rfl) (pe_call G_law_draws (hr.mono (by decide)) rfl T.g_law_draws T.F_law_draws.kp T.b_law_draws .nil pass0 (pa_cons (pe_call G_law_cell (hr.mono (by decide)) rfl T.g_law_cell T.F_law_cell.kp T.b_law_cell .nil pass0 (pa_cons (pv 0) (pa_cons pe_int pa_nil))) pa_nil)))
      (pss_cons (ps_set (i := 7) sc_law.nd rfl (Or.inl rfl) (pe_call G_law_drawn (hr.mono (by decide)) rfl T.g_law_drawn T.F_law_drawn.kp T.b_law_drawn .nil pass0 (pa_cons (pv 6) (pa_cons (pv 2) (pa_cons (pe_ix ix_list (pv 3) pe_int (fun _ _ => rfl)) (pa_cons (pe_ix ix_list (pv 3) pe_int (fun _ _ => rfl)) pa_nil))))))
      (pss_cons (ps_set (i := 8) sc_law.nd rfl (Or.inl rfl) (pe_make T.mk_Matrix G_Matrix_init (hr.mono (by decide)) rfl T.g_Matrix T.b_Matrix_init .nil passL (pa_cons (pv 2) (pa_cons (pe_ix ix_list (pv 3) pe_int (fun _ _ => rfl)) (pa_cons (pv 5) pa_nil)))))
      (pss_cons (ps_set (i := 9) sc_law.nd rfl (Or.inl rfl) (pe_make T.mk_Matrix G_Matrix_init (hr.mono (by decide)) rfl T.g_Matrix T.b_Matrix_init .nil passL (pa_cons (pv 2) (pa_cons (pe_ix ix_list (pv 3) pe_int (fun _ _ => rfl)) (pa_cons (pv 7) pa_nil)))))
      (pss_cons (ps_setLc (i := 10) (own := [("k", 4)]) (g := gName 4) (tt := tYes) rfl sc_law.nd rfl rfl (sw_true rfl rfl rfl (by decide +kernel)) (pi_range1 (by rfl) B.range (pa_cons (pe_ix ix_list (pv 3) pe_int (fun _ _ => rfl)) pa_nil)) (blkOk_by (N := nLaw) (sc := (defScope s_law)) (by decide +kernel)) (fun _ _ _ _ _ => (pg_name (i := 4) sc_law.nd rfl (Or.inl rfl))) (fun _ _ _ _ _ => pts_nil) (fun _ _ _ _ _ => (pe_call G_law_next (hr.mono (by decide)) rfl T.g_law_next T.F_law_next.kp T.b_law_next .nil pass0 (pa_cons (pv 6) (pa_cons (pv 2) pa_nil)))))
      (pss_cons (ps_set (i := 11) sc_law.nd rfl (Or.inl rfl) (pe_call G_law_product (hr.mono (by decide)) rfl T.g_law_product T.F_law_product.kp T.b_law_product .nil pass0 (pa_cons (pv 5) (pa_cons (pv 7) (pa_cons (pe_ix ix_list (pv 3) pe_int (fun _ _ => rfl)) (pa_cons (pv 2) pa_nil))))))
      (pss_cons (ps_for PassesOwn.never rfl (pi_range1 (by rfl) B.range (pa_cons pe_int pa_nil)) (pg_name (i := 4) sc_law.nd rfl (Or.inl rfl))
      (pss_cons (ps_set (i := 12) sc_law.nd rfl (Or.inl rfl) (pe_ownX (E := fun _ => E0) T.m_Matrix_mul.at_ T.m_Matrix_mul.fn T.cc_Matrix.sf G_Matrix_mul (hr.mono (by decide)) T.b_Matrix_mul (fun _ => passZ) (pv 8) (pv 9)))
      (pss_cons (ps_if (pt_not (pt_val (pe_call G_law_is_matrix (hr.mono (by decide)) rfl T.g_law_is_matrix T.F_law_is_matrix.kp T.b_law_is_matrix .nil pass0 (pa_cons (pv 12) (pa_cons (pv 2) (pa_cons (pe_ix ix_list (pv 3) pe_int (fun _ _ => rfl)) (pa_cons (pv 11) pa_nil))))))) (pss_one (ps_ret pe_bl)) pss_nil)
      (pss_cons (ps_if (pt_not (pt_val (pe_call G_law_same (hr.mono (by decide)) rfl T.g_law_same T.F_law_same.kp T.b_law_same .nil pass0 (pa_cons (pe_meth (pv 12) T.c_Matrix T.m_Matrix_apply G_Matrix_apply (hr.mono (by decide)) T.b_Matrix_apply .nil passL (pa_cons (pv 10) pa_nil)) (pa_cons (pe_callTy call_tuple_of (by rfl) B.tuple (by decide +kernel) (pa_cons (pe_call G_law_applied (hr.mono (by decide)) rfl T.g_law_applied T.F_law_applied.kp T.b_law_applied .nil pass0 (pa_cons (pv 11) (pa_cons (pv 10) (pa_cons (pv 2) pa_nil)))) pa_nil)) pa_nil))))) (pss_one (ps_ret pe_bl)) pss_nil)
      (pss_one (ps_if (pt_not (pt_val (pe_call G_law_same (hr.mono (by decide)) rfl T.g_law_same T.F_law_same.kp T.b_law_same .nil pass0 (pa_cons (pe_meth (pv 8) T.c_Matrix T.m_Matrix_apply G_Matrix_apply (hr.mono (by decide)) T.b_Matrix_apply .nil passL (pa_cons (pe_meth (pv 9) T.c_Matrix T.m_Matrix_apply G_Matrix_apply (hr.mono (by decide)) T.b_Matrix_apply .nil passL (pa_cons (pe_callTy call_tuple_of (by rfl) B.tuple (by decide +kernel) (pa_cons (pv 10) pa_nil)) pa_nil)) pa_nil)) (pa_cons (pe_callTy call_tuple_of (by rfl) B.tuple (by decide +kernel) (pa_cons (pe_call G_law_applied (hr.mono (by decide)) rfl T.g_law_applied T.F_law_applied.kp T.b_law_applied .nil pass0 (pa_cons (pv 11) (pa_cons (pv 10) (pa_cons (pv 2) pa_nil)))) pa_nil)) pa_nil))))) (pss_one (ps_ret pe_bl)) pss_nil))))))
      (pss_cons (ps_if (PW.pt (pw_or (pt_not (pt_val (pe_call G_law_is_matrix (hr.mono (by decide)) rfl T.g_law_is_matrix T.F_law_is_matrix.kp T.b_law_is_matrix .nil pass0 (pa_cons (pv 8) (pa_cons (pv 2) (pa_cons (pe_ix ix_list (pv 3) pe_int (fun _ _ => rfl)) (pa_cons (pv 5) pa_nil))))))) (pw_or1 (pt_not (pt_val (pe_call G_law_is_matrix (hr.mono (by decide)) rfl T.g_law_is_matrix T.F_law_is_matrix.kp T.b_law_is_matrix .nil pass0 (pa_cons (pv 9) (pa_cons (pv 2) (pa_cons (pe_ix ix_list (pv 3) pe_int (fun _ _ => rfl)) (pa_cons (pv 7) pa_nil)))))))))) (pss_one (ps_ret pe_bl)) pss_nil)
      (pss_cons (ps_set (i := 13) sc_law.nd rfl (Or.inl rfl) (pe_make T.mk_Matrix G_Matrix_init (hr.mono (by decide)) rfl T.g_Matrix T.b_Matrix_init .nil passL (pa_cons (pv 2) (pa_cons (pe_ix ix_list (pv 3) pe_int (fun _ _ => rfl)) (pa_cons (pe_call G_law_drawn (hr.mono (by decide)) rfl T.g_law_drawn T.F_law_drawn.kp T.b_law_drawn .nil pass0 (pa_cons (pv 6) (pa_cons (pv 2) (pa_cons (pe_op op_add (pe_op op_add (pe_ix ix_list (pv 3) pe_int (fun _ _ => rfl)) pe_int) (pe_call G_law_next (hr.mono (by decide)) rfl T.g_law_next T.F_law_next.kp T.b_law_next .nil pass0 (pa_cons (pv 6) (pa_cons pe_int pa_nil)))) (pa_cons (pe_ix ix_list (pv 3) pe_int (fun _ _ => rfl)) pa_nil))))) pa_nil)))))
      (pss_cons (ps_set (i := 14) sc_law.nd rfl (Or.inl rfl) (pe_ix ix_list (pe_lst (pa_cons pe_int (pa_cons pe_int (pa_cons pe_int pa_nil)))) (pe_call G_law_next (hr.mono (by decide)) rfl T.g_law_next T.F_law_next.kp T.b_law_next .nil pass0 (pa_cons (pv 6) (pa_cons pe_int pa_nil))) (fun _ _ => rfl)))
      (pss_cons (ps_if (pt_cmpR op_eq (pv 14) (pv 2) (nomark _)) (pss_one (ps_set (i := 14) sc_law.nd rfl (Or.inl rfl) pe_int)) pss_nil)
      (pss_cons (ps_if (pt_cmpR op_eq (pv 14) (pv 2) (nomark _)) (pss_one (ps_set (i := 14) sc_law.nd rfl (Or.inl rfl) pe_int)) pss_nil)
      (pss_cons (ps_set (i := 15) sc_law.nd rfl (Or.inl rfl) (pe_make T.mk_Matrix G_Matrix_init (hr.mono (by decide)) rfl T.g_Matrix T.b_Matrix_init .nil passL (pa_cons (pv 14) (pa_cons (pe_ix ix_list (pv 3) pe_int (fun _ _ => rfl)) (pa_cons (pe_op op_rep (pe_lst (pa_cons (pe_op op_rep (pe_lst (pa_cons pe_int pa_nil)) (pe_ix ix_list (pv 3) pe_int (fun _ _ => rfl))) pa_nil)) (pe_ix ix_list (pv 3) pe_int (fun _ _ => rfl))) pa_nil)))))
      (pss_cons (ps_if (PW.pt (pw_or (pt_not (pt_val (pe_call G_law_fails (hr.mono (by decide)) rfl T.g_law_fails T.F_law_fails.kp T.b_law_fails .nil pass0 (pa_cons pe_int (pa_cons (pv 8) (pa_cons (pv 13) (pa_cons (pe_lst pa_nil) pa_nil))))))) (pw_or1 (pt_not (pt_val (pe_call G_law_fails (hr.mono (by decide)) rfl T.g_law_fails T.F_law_fails.kp T.b_law_fails .nil pass0 (pa_cons pe_int (pa_cons (pv 8) (pa_cons (pv 15) (pa_cons (pe_lst pa_nil) pa_nil)))))))))) (pss_one (ps_ret pe_bl)) pss_nil)
      (pss_cons (ps_if (pt_cmpR op_gt (pe_ix ix_list (pv 3) pe_int (fun _ _ => rfl)) pe_int (nomark _)) (pss_cons (ps_set (i := 16) sc_law.nd rfl (Or.inl rfl) (pe_make T.mk_Matrix G_Matrix_init (hr.mono (by decide)) rfl T.g_Matrix T.b_Matrix_init .nil passL (pa_cons (pv 2) (pa_cons (pe_ix ix_list (pv 3) pe_int (fun _ _ => rfl)) (pa_cons (pe_slice sl_list (pv 7) po_none (po_some (pe_un un_neg pe_int))) pa_nil)))))
      (pss_one (ps_if (PW.pt (pw_or (pt_not (pt_val (pe_call G_law_fails (hr.mono (by decide)) rfl T.g_law_fails T.F_law_fails.kp T.b_law_fails .nil pass0 (pa_cons pe_int (pa_cons (pv 8) (pa_cons (pv 16) (pa_cons (pe_lst pa_nil) pa_nil))))))) (pw_or1 (pt_not (pt_val (pe_call G_law_fails (hr.mono (by decide)) rfl T.g_law_fails T.F_law_fails.kp T.b_law_fails .nil pass0 (pa_cons pe_int (pa_cons (pv 8) (pa_cons (pv 8) (pa_cons (pe_op op_rep (pe_lst (pa_cons pe_int pa_nil)) (pe_op op_sub (pe_ix ix_list (pv 3) pe_int (fun _ _ => rfl)) pe_int)) pa_nil)))))))))) (pss_one (ps_ret pe_bl)) pss_nil))) pss_nil)
      (pss_one (ps_ret (pe_and (pe_call G_law_fails (hr.mono (by decide)) rfl T.g_law_fails T.F_law_fails.kp T.b_law_fails .nil pass0 (pa_cons pe_int (pa_cons (pv 8) (pa_cons (pv 13) (pa_cons (pe_op op_rep (pe_lst (pa_cons pe_int pa_nil)) (pe_op op_add (pe_ix ix_list (pv 3) pe_int (fun _ _ => rfl)) pe_int)) pa_nil))))) (pe_one (pe_call G_law_fails (hr.mono (by decide)) rfl T.g_law_fails T.F_law_fails.kp T.b_law_fails .nil pass0 (pa_cons pe_int (pa_cons (pv 8) (pa_cons (pv 8) (pa_cons (pe_op op_rep (pe_lst (pa_cons pe_int pa_nil)) (pe_op op_add (pe_ix ix_list (pv 3) pe_int (fun _ _ => rfl)) pe_int)) pa_nil))))))))))))))))))))))))))), ?_⟩
    -- draws, base, sizes
    refine ⟨_, rfl, sa, ns, 0, rfl, hS, fun z => ⟨z, rfl, fun H1 dr rr s1 f1 D1 => ?_⟩⟩
    refine ⟨_, rfl, dr, rr, 0, rfl, D1, by omega, fun p H2 c2 hc2 hp k2 D2 => ?_⟩
    have hp2 := primes_bd p hp
    refine ⟨3, rfl, by decide, by decide, fun L hL => ?_⟩
    refine lc_it (walk_range (lo := 0)) (Drawn H2 dr rr L 6 c2) (drawn_0 hL D2) (fun _ _ _ _ => True.intro) ?_ ?_
    · rintro i u Ha Hb hi hP ⟨rfl, rfl⟩
      have hi3 : i < 3 := hi
      exact ⟨rfl, lc_yes ⟨_, rfl, drawn_next hL D2 (by decide) (by omega) hP⟩⟩
    rintro H3 ⟨k3, szs, c3, hL3, l3, b3, D3, hc3⟩
    have l3' : szs.length = 3 := l3
    have hc3' : c3 ≤ c2 + 3 := hc3
    obtain ⟨n0, n1, n2, rfl⟩ : ∃ n0 n1 n2, szs = [n0, n1, n2] := by
      match szs, l3' with
      | [x, y, z], _ => exact ⟨x, y, z, rfl⟩
    have b0 := b3 n0 (by simp)
    have b1 := b3 n1 (by simp)
    have b2 := b3 n2 (by simp)
    obtain ⟨a0, rfl⟩ : ∃ m : Nat, n0 = (m : Int) := ⟨n0.toNat, by omega⟩
    obtain ⟨a1, rfl⟩ : ∃ m : Nat, n1 = (m : Int) := ⟨n1.toNat, by omega⟩
    obtain ⟨a2, rfl⟩ : ∃ m : Nat, n2 = (m : Int) := ⟨n2.toNat, by omega⟩
    -- first
    refine ⟨_, rfl, _, rfl, _, rfl, L, _, _, _, rfl, rfl, SqL.of hL3, atI_nat (j := 0) rfl, _, rfl, L, _, _, _, rfl, rfl, SqL.of hL3, atI_nat (j := 1) rfl, dr, rr, c3, p, a0, a1, rfl, D3, by omega, by omega, by omega, by omega, fun H4 F rows1 c4 k4 fF hF1 lf1 gf1 D4 hc4 => ?_⟩
    have hL4 := keepI D3 k4 hL3
    have hS4 : SqL K H4 sa (vI ns) := by
      have kk : ∀ b o, b ≠ dr → H b = some o → H4 b = some o := fun b o n e => k4 _ _ n (k3 _ _ n (k2 _ _ n (s1 _ _ e)))
      rcases hS with (h | ⟨o, h⟩) | h
      · exact .inl (.inl (kk _ _ (ne_of_none h f1) h))
      · exact .inl (.inr ⟨o, kk _ _ (ne_of_none h f1) h⟩)
      · exact .inr h
    -- others, second
    refine ⟨_, rfl, sa, ns, 1, rfl, hS4, fun z => ⟨z, rfl, fun H5 d2 r2 s5 f5 D5 => ?_⟩⟩
    have hL5 := s5 _ _ hL4
    refine ⟨_, rfl, _, rfl, _, rfl, L, _, _, _, rfl, rfl, SqL.of hL5, atI_nat (j := 1) rfl, _, rfl, L, _, _, _, rfl, rfl, SqL.of hL5, atI_nat (j := 2) rfl, d2, r2, 0, p, a1, a2, rfl, D5, by omega, by omega, by omega, by omega, fun H6 S rows2 c6 k6 fS hS2 ls2 gs2 D6 hc6 => ?_⟩
    have hL6 := keepI D5 k6 hL5
    have hF6 := (hF1.same s5).keep D5 k6
    have g1 : good p (a1 : Int) rows1 := good_of hp (by omega) gf1
    have g2 : good p (a2 : Int) rows2 := good_of hp (by omega) gs2
    -- left, right
    refine ⟨_, rfl, _, rfl, L, _, _, _, rfl, rfl, SqL.of hL6, atI_nat (j := 1) rfl, _, rfl, rd_make hF6 (by omega) (fun r hr => by have := (gf1 r hr).1; omega) g1 fun xl H7 s7 _ Ml => ⟨rfl, ?_⟩⟩
    have hL7 := s7 _ _ hL6
    refine ⟨_, rfl, _, rfl, L, _, _, _, rfl, rfl, SqL.of hL7, atI_nat (j := 2) rfl, _, rfl, rd_make (hS2.same s7) (by omega) (fun r hr => by have := (gs2 r hr).1; omega) g2 fun xr H8 s8 _ Mr => ⟨rfl, ?_⟩⟩
    have hL8 := s8 _ _ hL7
    have D8 := (D6.same s7).same s8
    have MGl : MG (a i_Matrix) H8 xl p (a1 : Int) rows1 := ⟨Ml.same s8, g1, by omega, by omega⟩
    have MGr : MG (a i_Matrix) H8 xr p (a2 : Int) rows2 := ⟨Mr, g2, by omega, by omega⟩
    -- vector
    refine ⟨_, rfl, L, _, _, _, rfl, rfl, SqL.of hL8, atI_nat (j := 2) rfl, (a2 : Int), rfl, by omega, by omega, fun Va hVa => ?_⟩
    refine lc_it (walk_range (lo := 0)) (Drawn H8 d2 r2 Va p c6) (drawn_0 hVa D8) (fun _ _ _ _ => True.intro) ?_ ?_
    · rintro i u Ha Hb hi hP ⟨rfl, rfl⟩
      exact ⟨rfl, lc_yes ⟨_, rfl, _, rfl, drawn_next hVa D8 (by omega) (by omega) hP⟩⟩
    rintro H9 ⟨k9, vs, c9, hV9, l9, b9, D9, hc9⟩
    have l9' : vs.length = a2 := l9
    have hc9' : c9 ≤ c6 + a2 := hc9
    have hL9 := keepI D8 k9 hL8
    have hF9 := ((hF6.same s7).same s8).keep D8 k9
    have hS9 := ((hS2.same s7).same s8).keep D8 k9
    have Ml9 := MGl.keep D8 k9
    have Mr9 := MGr.keep D8 k9
    -- due
    refine ⟨_, rfl, _, rfl, _, rfl, L, _, _, _, rfl, rfl, SqL.of hL9, atI_nat (j := 2) rfl, _, rfl, F, S, a2, p, rows1, rows2, rfl, hF9, hS9, by omega, by omega, by omega, by omega, fun r hr => ⟨by have := (gf1 r hr).1; omega, fun e he => by have := (gf1 r hr).2 e he; omega⟩, fun r hr => by have := (gs2 r hr).1; omega, fun H10 Du s10 _ hDu => ?_⟩
    have A10 : All3 (a i_Matrix) L F S xl xr Va Du a0 a1 a2 p rows1 rows2 vs H10 := ⟨s10 _ _ hL9, hF9.same s10, hS9.same s10, Ml9.same s10, Mr9.same s10, s10 _ _ hV9, hDu⟩
    have D10 := D9.same s10
    have lm : (mulRows p a2 rows1 rows2).length = a0 := by simp [mulRows, lf1]
    have gm : good p (a2 : Int) (mulRows p a2 rows1 rows2) := good_mul hp
    clear hL3 hL4 hL5 hL6 hL7 hL8 hL9 hF1 hF6 hF9 hS2 hS9 Ml Mr MGl MGr Ml9 Mr9 hV9 hDu D1 D2 D3 D4 D5 D6 D8 D9 hS hS4 k2 k3 k4 k6 k9 s1 s5 s7 s8
    -- twice
    refine ⟨2, rfl, by decide, by decide, for_range (lo := 0) (n := 2) (fun i σ H' => (∃ v1 v2 : Option V, σ = [some (.ref sa), some (.ref dr), some (.int p), some (.ref L), v1, some (.ref F), some (.ref d2), some (.ref S), some (.ref xl), some (.ref xr), some (.ref Va), some (.ref Du), v2, none, none, none, none]) ∧ Same H10 H') ⟨⟨_, _, rfl⟩, Same.refl _⟩ ?_ ?_⟩
    · rintro i σ H11 hi ⟨⟨v1, v2, rfl⟩, s11⟩
      have A11 := A10.same s11
      obtain ⟨dxl, Tl, hxl, _⟩ := id A11.hl.1
      obtain ⟨dxr, Tr, hxr, _⟩ := id A11.hr.1
      refine ⟨_, rfl, _, rfl, xl, xr, dxl, dxr, _, _, rfl, rfl, hxl, hxr, xl, xr, p, _, p, a2, rows1, rows2, rfl, A11.hl, A11.hr, fun _ H12 z s12 _ Mz => ?_, fun no => absurd ⟨rfl, by omega⟩ no⟩
      have A12 := A11.same s12
      refine ⟨_, rfl, _, rfl, _, rfl, L, _, _, _, rfl, rfl, SqL.of A12.hL, atI_nat (j := 2) rfl, _, rfl, z, Du, p, (a2 : Int), _, rfl, Mz.1, A12.hD, by omega, fun r hr => by have := (good_row gm hr).1; omega, fun H13 s13 => ⟨_, rfl, iteF ?_⟩⟩
      have A13 := A12.same s13
      have Mz13 := Mz.same s13
      obtain ⟨dz, Tz, hz, _⟩ := id Mz13.1
      -- product.apply(vector)
      refine ⟨_, rfl, z, dz, _, rfl, hz, mF_no _ _ _ (by decide +kernel) (by decide +kernel) (by decide +kernel), _, rfl, z, Va, true, p, (a2 : Int), _, vs, rfl, Mz13, SqL.of A13.hV, fun _ H14 y1 s14 _ hy1 => ?_, fun ne => absurd (by omega) ne⟩
      have A14 := A13.same s14
      refine ⟨_, rfl, _, rfl, _, rfl, Du, Va, p, _, vs, rfl, A14.hD, A14.hV, by omega, by omega, by omega, fun r hr => ⟨by have := (good_row gm hr).1; omega, fun e he => by have := (good_row gm hr).2 e he; omega⟩, fun H15 y2 s15 _ hy2 => ?_⟩
      refine ⟨y2, _, rfl, .inl ⟨SqL.of hy2, fun t1 ht1 => ?_⟩⟩
      have st1 := same_new (o := .tup (vI (appRows p (mulRows p a2 rows1 rows2) vs))) ht1
      have la : (appRows p (mulRows p a2 rows1 rows2) vs).length ≤ 1000 := by simp [appRows, lm]; omega
      refine ⟨_, _, rfl, Eqd.tupI la (st1 _ _ (s15 _ _ hy1)) upd_same, fun H16 s16 => ⟨_, rfl, iteF ?_⟩⟩
      have s36 := ((s14.trans s15).trans st1).trans s16
      have A16 := A13.same s36
      obtain ⟨exl, Ul, kxl, _⟩ := id A16.hl.1
      obtain ⟨exr, Ur, kxr, _⟩ := id A16.hr.1
      -- left.apply(right.apply(tuple(vector)))
      refine ⟨_, rfl, xl, exl, _, rfl, kxl, mF_no _ _ _ (by decide +kernel) (by decide +kernel) (by decide +kernel), _, rfl, xr, exr, _, rfl, kxr, mF_no _ _ _ (by decide +kernel) (by decide +kernel) (by decide +kernel), _, rfl, Va, _, rfl, .inl ⟨SqL.of A16.hV, fun t2 ht2 => ?_⟩⟩
      have st2 := same_new (o := .tup (vI vs)) ht2
      refine ⟨xr, t2, false, p, (a2 : Int), rows2, vs, rfl, A16.hr.same st2, SqT.of upd_same, fun _ H17 y3 s17 _ hy3 => ?_, fun ne => absurd (by omega) ne⟩
      have A17 := A16.same (st2.trans s17)
      refine ⟨xl, y3, false, p, (a1 : Int), rows1, _, rfl, A17.hl, SqT.of hy3, fun _ H18 y4 s18 _ hy4 => ?_, fun ne => absurd (by simp [appRows]; omega) ne⟩
      rw [app_mul (wn := a2) (fun r hr => by have := (gf1 r hr).1; omega) (fun r hr => by have := (gs2 r hr).1; omega)] at hy4
      have A18 := A17.same s18
      refine ⟨_, rfl, _, rfl, _, rfl, Du, Va, p, _, vs, rfl, A18.hD, A18.hV, by omega, by omega, by omega, fun r hr => ⟨by have := (good_row gm hr).1; omega, fun e he => by have := (good_row gm hr).2 e he; omega⟩, fun H19 y5 s19 _ hy5 => ?_⟩
      refine ⟨y5, _, rfl, .inl ⟨SqL.of hy5, fun t3 ht3 => ?_⟩⟩
      have st3 := same_new (o := .tup (vI (appRows p (mulRows p a2 rows1 rows2) vs))) ht3
      refine ⟨_, _, rfl, Eqd.tupI la (st3 _ _ (s19 _ _ hy4)) upd_same, fun H20 s20 => ⟨_, rfl, iteF ?_⟩⟩
      exact ⟨⟨_, _, rfl⟩, s11.trans (s12.trans (s13.trans (s36.trans ((st2.trans s17).trans (s18.trans (s19.trans (st3.trans s20)))))))⟩
    · rintro σ H11 ⟨⟨v1, v2, rfl⟩, s11⟩
      have A11 := A10.same s11
      have D11 := D10.same s11
      -- the operands stay
      refine ⟨_, rfl, _, rfl, _, rfl, L, _, _, _, rfl, rfl, SqL.of A11.hL, atI_nat (j := 1) rfl, _, rfl, xl, F, p, (a1 : Int), _, rfl, A11.hl.1, A11.hF, by omega, fun r hr => by have := (gf1 r hr).1; omega, fun H12 s12 => ⟨_, rfl, iteF ?_⟩⟩
      have A12 := A11.same s12
      refine ⟨_, rfl, _, rfl, _, rfl, L, _, _, _, rfl, rfl, SqL.of A12.hL, atI_nat (j := 2) rfl, _, rfl, xr, S, p, (a2 : Int), _, rfl, A12.hr.1, A12.hS, by omega, fun r hr => by have := (gs2 r hr).1; omega, fun H13 s13 => ⟨_, rfl, iteF ?_⟩⟩
      have A13 := A12.same s13
      have D13 := (D11.same s12).same s13
      -- strange
      refine ⟨_, rfl, _, rfl, L, _, _, _, rfl, rfl, SqL.of A13.hL, atI_nat (j := 2) rfl, _, rfl, _, rfl, _, rfl, L, _, _, _, rfl, rfl, SqL.of A13.hL, atI_nat (j := 1) rfl, _, _, rfl, rfl, _, rfl, d2, r2, c9, 3, rfl, D13, by omega, by decide, fun nx H14 nx0 nx3 k14 D14 => ⟨_, _, rfl, rfl, ?_⟩⟩
      obtain ⟨m, rfl⟩ : ∃ m : Nat, nx = (m : Int) := ⟨nx.toNat, by omega⟩
      have A14 := A13.keep D13 k14
      refine ⟨_, rfl, L, _, _, _, rfl, rfl, SqL.of A14.hL, atI_nat (j := 2) rfl, d2, r2, c9 + 1, p, a1 + 1 + m, a2, rfl, D14, by omega, by omega, by omega, by omega, fun H15 z3 rows3 c15 k15 _ hR3 lr3 gr3 D15 hc15 => ?_⟩
      have A15 := A14.keep D14 k15
      have g3 : good p (a2 : Int) rows3 := good_of hp (by omega) gr3
      refine rd_make hR3 (by omega) (fun r hr => by have := (gr3 r hr).1; omega) g3 fun xs H16 s16 _ Ms => ⟨rfl, ?_⟩
      have A16 := A15.same s16
      have D16 := D15.same s16
      have MGs : MG (a i_Matrix) H16 xs p (a2 : Int) rows3 := ⟨Ms, g3, by omega, by omega⟩
      -- other
      refine ⟨(by show 3 ≤ sizeLine; decide), fun l hl => ?_⟩
      have sl := same_new (o := .lst [.int 3, .int 2, .int 5]) hl
      have D17 := D16.same sl
      have nl := D16.ne hl
      refine ⟨_, rfl, d2, r2, c15, 3, rfl, D17, by omega, by decide, fun y H18 y0 y3 k18 D18 => ?_⟩
      have A18 := (A16.same sl).keep D17 k18
      have MGs18 := (MGs.same sl).keep D17 k18
      obtain ⟨v, hv, hvm⟩ : ∃ v : Int, atI [V.int 3, .int 2, .int 5] y = some (.int v) ∧ (v = 3 ∨ v = 2 ∨ v = 5) := by
        have : y = ((0 : Nat) : Int) ∨ y = ((1 : Nat) : Int) ∨ y = ((2 : Nat) : Int) := by omega
        rcases this with rfl | rfl | rfl
        · exact ⟨3, atI_nat (j := 0) rfl, .inl rfl⟩
        · exact ⟨2, atI_nat (j := 1) rfl, .inr (.inl rfl)⟩
        · exact ⟨5, atI_nat (j := 2) rfl, .inr (.inr rfl)⟩
      refine ⟨l, _, _, _, rfl, rfl, SqL.of (k18 _ _ nl.1 upd_same), hv, ?_⟩
      refine ⟨_, rfl, _, rfl, rfl, _, rfl, ?_⟩
      by_cases cv : v = p
      · have ho : (7 : Int) ∈ primes := by decide +kernel
        have hne : (7 : Int) ≠ p := by omega
        refine if_t (by simp [cv]) ⟨_, rfl, _, rfl, rfl, _, rfl, if_f (by simp [hne]) ?_⟩
        -- moved
        refine ⟨_, rfl, _, rfl, L, _, _, _, rfl, rfl, SqL.of A18.hL, atI_nat (j := 2) rfl, (by show 1 ≤ sizeLine; decide), fun l1 hl1 => ?_⟩
        have A19 := A18.same (same_new (o := .lst [.int 0]) hl1)
        refine ⟨_, rfl, L, _, _, _, rfl, rfl, SqL.of A19.hL, atI_nat (j := 2) rfl, l1, _, _, rfl, rfl, upd_same, by omega, by omega, line_of (by show 1 * (a2 : Int).toNat ≤ 16777216; omega), fun l2 hl2 => ?_⟩
        have e2 : (List.replicate (a2 : Int).toNat [V.int 0]).flatten = vI (List.replicate a2 0) := by
          rw [rep_one]
          show List.replicate a2 (V.int 0) = (List.replicate a2 (0 : Int)).map V.int
          rw [List.map_replicate]
        rw [e2]
        have A20 := A19.same (same_new (o := .lst (vI (List.replicate a2 0))) hl2)
        refine ⟨(by show 1 ≤ sizeLine; decide), fun l3 hl3 => ?_⟩
        have A21 := A20.same (same_new (o := .lst [.ref l2]) hl3)
        refine ⟨_, rfl, L, _, _, _, rfl, rfl, SqL.of A21.hL, atI_nat (j := 1) rfl, l3, _, _, rfl, rfl, upd_same, by omega, by omega, line_of (by show 1 * (a1 : Int).toNat ≤ 16777216; omega), fun l4 hl4 => ?_⟩
        have e4 : (List.replicate (a1 : Int).toNat [V.ref l2]).flatten = (List.replicate a1 l2).map V.ref := by
          rw [rep_one]
          show List.replicate a1 (V.ref l2) = _
          rw [List.map_replicate]
        rw [e4]
        have sz4 := same_new (o := .lst ((List.replicate a1 l2).map V.ref)) hl4
        have sz3 := same_new (o := .lst [.ref l2]) hl3
        have A22 := A21.same sz4
        have hl2' := sz4 _ _ (sz3 _ _ (upd_same (H := upd H18 l1 (.lst [.int 0])) (a := l2) (o := .lst (vI (List.replicate a2 0)))))
        have hRm : RowsL _ l4 (List.replicate a1 (List.replicate a2 0)) := ⟨List.replicate a1 l2, upd_same, by simp, fun i t r h1 h2 => by
          have i1 := List.mem_of_getElem? h1
          have i2 := List.mem_of_getElem? h2
          rw [List.mem_replicate] at i1 i2
          rw [i1.2, i2.2]
          exact hl2'⟩
        have gmv : ∀ r ∈ List.replicate a1 (List.replicate a2 (0 : Int)), (r.length : Int) = (a2 : Int) := fun r hr => by
          rw [(List.mem_replicate.mp hr).2]
          simp
        refine rd_make hRm (by simp; omega) (fun r hr => by have := gmv r hr; omega) (good_of ho (by omega) fun r hr => ⟨gmv r hr, fun e he => ?_⟩) fun xm H23 s23 _ Mm => ⟨rfl, ?_⟩
        · have ho2 := primes_bd _ ho
          rw [(List.mem_replicate.mp hr).2] at he
          rw [(List.mem_replicate.mp he).2]
          omega
        have A23 := A22.same s23
        have MGs23 := MGs18.same ((same_new (o := .lst [.int 0]) hl1).trans ((same_new (o := .lst (vI (List.replicate a2 0))) hl2).trans (sz3.trans (sz4.trans s23))))
        -- what does not fit
        refine ⟨_, rfl, _, rfl, Nat.zero_le _, fun b1' hb1' => ⟨0, xl, xs, b1', p, _, rows1, rfl, A23.hl.same (same_new hb1'), .inl ⟨rfl, p, a2, rows3, MGs23.same (same_new hb1'), fun z => by have := z.2; omega⟩, fun H24 s24 => ⟨_, rfl, iteF ?_⟩⟩⟩
        have A24 := A23.same ((same_new hb1').trans s24)
        have MGs24 := MGs23.same ((same_new hb1').trans s24)
        have Mm24 := Mm.same ((same_new hb1').trans s24)
        refine ⟨_, rfl, _, rfl, Nat.zero_le _, fun b2' hb2' => ⟨0, xl, xm, b2', p, _, rows1, rfl, A24.hl.same (same_new hb2'), .inl ⟨rfl, _, a2, _, ⟨Mm24.same (same_new hb2'), good_of ho (by omega) fun r hr => ⟨gmv r hr, fun e he => ?_⟩, by simp; omega, by omega⟩, fun z => hne z.1.symm⟩, fun H25 s25 => ⟨_, rfl, iteF ?_⟩⟩⟩
        · have ho2 := primes_bd _ ho
          rw [(List.mem_replicate.mp hr).2] at he
          rw [(List.mem_replicate.mp he).2]
          omega
        have A25 := A24.same ((same_new hb2').trans s25)
        have MGs25 := MGs24.same ((same_new hb2').trans s25)
        refine ⟨_, rfl, L, _, _, _, rfl, rfl, SqL.of A25.hL, atI_nat (j := 1) rfl, _, _, rfl, rfl, _, rfl, ite2 (fun gt => ?_) (fun _ => ?_)⟩
        · have gt1 : 0 < (a1 : Int) := of_decide_eq_true gt
          obtain ⟨ts2, hts2, href2⟩ := id A25.hS
          refine ⟨_, rfl, _, rfl, L, _, _, _, rfl, rfl, SqL.of A25.hL, atI_nat (j := 2) rfl, _, rfl, _, rfl, _, rfl, S, _, rfl, SqL.of hts2, fun q1 hq1 => ?_⟩
          have ec : cutV (ts2.map V.ref) none (some (-1)) = (ts2.take (a1 - 1)).map V.ref := by
            unfold cutV
            have e1 : HT.sIx (ts2.map V.ref).length 0 none = 0 := rfl
            have e3 : HT.sIx (ts2.map V.ref).length (ts2.map V.ref).length (some (-1)) = a1 - 1 := by
              show (if (-1 : Int) < 0 then ((-1 : Int) + ((ts2.map V.ref).length : Int)).toNat else min (-1 : Int).toNat (ts2.map V.ref).length) = a1 - 1
              rw [if_pos (by decide), List.length_map, href2.1, ls2]
              omega
            rw [e1, e3, List.drop_zero, Nat.sub_zero, List.map_take]
          rw [ec]
          have sq := same_new (o := .lst ((ts2.take (a1 - 1)).map V.ref)) hq1
          have hRq : RowsL _ q1 (rows2.take (a1 - 1)) := ⟨ts2.take (a1 - 1), upd_same, by rw [List.length_take, List.length_take, href2.1], fun i t r h1 h2 => by
            rw [List.getElem?_take] at h1 h2
            split at h1
            · rename_i hlt
              rw [if_pos hlt] at h2
              exact sq _ _ (href2.2 i t r h1 h2)
            · cases h1⟩
          have gq : ∀ r ∈ rows2.take (a1 - 1), (r.length : Int) = (a2 : Int) ∧ ∀ e ∈ r, 0 ≤ e ∧ e < p := fun r hr => gs2 r (List.mem_of_mem_take hr)
          have lq : (rows2.take (a1 - 1)).length = a1 - 1 := by rw [List.length_take]; omega
          refine rd_make hRq (by omega) (fun r hr => by have := (gq r hr).1; omega) (good_of hp (by omega) gq) fun xq H26 s26 _ Mq => ⟨rfl, ?_⟩
          have s56 := sq.trans s26
          have A26 := A25.same s56
          have MGs26 := MGs25.same s56
          refine ⟨_, rfl, _, rfl, Nat.zero_le _, fun b3' hb3' => ⟨0, xl, xq, b3', p, _, rows1, rfl, A26.hl.same (same_new hb3'), .inl ⟨rfl, p, a2, _, ⟨Mq.same (same_new hb3'), good_of hp (by omega) gq, by omega, by omega⟩, fun z => by have := z.2; omega⟩, fun H27 s27 => ⟨_, rfl, iteF ?_⟩⟩⟩
          have s67 := (same_new hb3').trans s27
          have A27 := A26.same s67
          have MGs27 := MGs26.same s67
          refine ⟨_, rfl, _, rfl, (by show 1 ≤ sizeLine; decide), fun w1 hw1 => ?_⟩
          have A28 := A27.same (same_new (o := .lst [.int 0]) hw1)
          refine ⟨_, rfl, L, _, _, _, rfl, rfl, SqL.of A28.hL, atI_nat (j := 1) rfl, _, _, rfl, rfl, w1, _, _, rfl, rfl, upd_same, by omega, by omega, line_of (by show 1 * ((a1 : Int) - 1).toNat ≤ 16777216; omega), fun w2 hw2 => ?_⟩
          rw [zeros_eq]
          have sw := (same_new (o := .lst [.int 0]) hw1).trans (same_new (o := .lst (vI (List.replicate ((a1 : Int) - 1).toNat 0))) hw2)
          refine ⟨1, xl, xl, w2, p, _, rows1, rfl, A27.hl.same sw, .inr ⟨rfl, _, SqL.of upd_same, by simp; omega⟩, fun H29 s29 => ⟨_, rfl, iteF ?_⟩⟩
          have A29 := A27.same (sw.trans s29)
          have MGs29 := MGs27.same (sw.trans s29)
          refine ⟨_, rfl, _, rfl, (by show 1 ≤ sizeLine; decide), fun u1 hu1 => ?_⟩
          have AX := A29.same (same_new (o := .lst [.int 0]) hu1)
          refine ⟨_, rfl, L, _, _, _, rfl, rfl, SqL.of AX.hL, atI_nat (j := 1) rfl, _, _, rfl, rfl, u1, _, _, rfl, rfl, upd_same, by omega, by omega, line_of (by show 1 * ((a1 : Int) + 1).toNat ≤ 16777216; omega), fun u2 hu2 => ?_⟩
          rw [zeros_eq]
          have su := (same_new (o := .lst [.int 0]) hu1).trans (same_new (o := .lst (vI (List.replicate ((a1 : Int) + 1).toNat 0))) hu2)
          refine ⟨1, xl, xs, u2, p, _, rows1, rfl, A29.hl.same su, .inr ⟨rfl, _, SqL.of upd_same, by simp; omega⟩, fun HX sX => ⟨_, rfl, iteT ?_⟩⟩
          have AY := A29.same (su.trans sX)
          refine ⟨_, rfl, _, rfl, (by show 1 ≤ sizeLine; decide), fun u3 hu3 => ?_⟩
          have AZ := AY.same (same_new (o := .lst [.int 0]) hu3)
          refine ⟨_, rfl, L, _, _, _, rfl, rfl, SqL.of AZ.hL, atI_nat (j := 1) rfl, _, _, rfl, rfl, u3, _, _, rfl, rfl, upd_same, by omega, by omega, line_of (by show 1 * ((a1 : Int) + 2).toNat ≤ 16777216; omega), fun u4 hu4 => ?_⟩
          rw [zeros_eq]
          have sv := (same_new (o := .lst [.int 0]) hu3).trans (same_new (o := .lst (vI (List.replicate ((a1 : Int) + 2).toNat 0))) hu4)
          exact ⟨1, xl, xl, u4, p, _, rows1, rfl, AY.hl.same sv, .inr ⟨rfl, _, SqL.of upd_same, by simp; omega⟩, fun HW sW => q _⟩
        · refine ⟨_, rfl, _, rfl, (by show 1 ≤ sizeLine; decide), fun u1 hu1 => ?_⟩
          have AX := A25.same (same_new (o := .lst [.int 0]) hu1)
          refine ⟨_, rfl, L, _, _, _, rfl, rfl, SqL.of AX.hL, atI_nat (j := 1) rfl, _, _, rfl, rfl, u1, _, _, rfl, rfl, upd_same, by omega, by omega, line_of (by show 1 * ((a1 : Int) + 1).toNat ≤ 16777216; omega), fun u2 hu2 => ?_⟩
          rw [zeros_eq]
          have su := (same_new (o := .lst [.int 0]) hu1).trans (same_new (o := .lst (vI (List.replicate ((a1 : Int) + 1).toNat 0))) hu2)
          refine ⟨1, xl, xs, u2, p, _, rows1, rfl, A25.hl.same su, .inr ⟨rfl, _, SqL.of upd_same, by simp; omega⟩, fun HX sX => ⟨_, rfl, iteT ?_⟩⟩
          have AY := A25.same (su.trans sX)
          refine ⟨_, rfl, _, rfl, (by show 1 ≤ sizeLine; decide), fun u3 hu3 => ?_⟩
          have AZ := AY.same (same_new (o := .lst [.int 0]) hu3)
          refine ⟨_, rfl, L, _, _, _, rfl, rfl, SqL.of AZ.hL, atI_nat (j := 1) rfl, _, _, rfl, rfl, u3, _, _, rfl, rfl, upd_same, by omega, by omega, line_of (by show 1 * ((a1 : Int) + 2).toNat ≤ 16777216; omega), fun u4 hu4 => ?_⟩
          rw [zeros_eq]
          have sv := (same_new (o := .lst [.int 0]) hu3).trans (same_new (o := .lst (vI (List.replicate ((a1 : Int) + 2).toNat 0))) hu4)
          exact ⟨1, xl, xl, u4, p, _, rows1, rfl, AY.hl.same sv, .inr ⟨rfl, _, SqL.of upd_same, by simp; omega⟩, fun HW sW => q _⟩
      · have ho : v ∈ primes := by rcases hvm with rfl | rfl | rfl <;> decide +kernel
        have hne : v ≠ p := cv
        refine if_f (by simp [cv]) ⟨_, rfl, _, rfl, rfl, _, rfl, if_f (by simp [cv]) ?_⟩
        -- moved
        refine ⟨_, rfl, _, rfl, L, _, _, _, rfl, rfl, SqL.of A18.hL, atI_nat (j := 2) rfl, (by show 1 ≤ sizeLine; decide), fun l1 hl1 => ?_⟩
        have A19 := A18.same (same_new (o := .lst [.int 0]) hl1)
        refine ⟨_, rfl, L, _, _, _, rfl, rfl, SqL.of A19.hL, atI_nat (j := 2) rfl, l1, _, _, rfl, rfl, upd_same, by omega, by omega, line_of (by show 1 * (a2 : Int).toNat ≤ 16777216; omega), fun l2 hl2 => ?_⟩
        have e2 : (List.replicate (a2 : Int).toNat [V.int 0]).flatten = vI (List.replicate a2 0) := by
          rw [rep_one]
          show List.replicate a2 (V.int 0) = (List.replicate a2 (0 : Int)).map V.int
          rw [List.map_replicate]
        rw [e2]
        have A20 := A19.same (same_new (o := .lst (vI (List.replicate a2 0))) hl2)
        refine ⟨(by show 1 ≤ sizeLine; decide), fun l3 hl3 => ?_⟩
        have A21 := A20.same (same_new (o := .lst [.ref l2]) hl3)
        refine ⟨_, rfl, L, _, _, _, rfl, rfl, SqL.of A21.hL, atI_nat (j := 1) rfl, l3, _, _, rfl, rfl, upd_same, by omega, by omega, line_of (by show 1 * (a1 : Int).toNat ≤ 16777216; omega), fun l4 hl4 => ?_⟩
        have e4 : (List.replicate (a1 : Int).toNat [V.ref l2]).flatten = (List.replicate a1 l2).map V.ref := by
          rw [rep_one]
          show List.replicate a1 (V.ref l2) = _
          rw [List.map_replicate]
        rw [e4]
        have sz4 := same_new (o := .lst ((List.replicate a1 l2).map V.ref)) hl4
        have sz3 := same_new (o := .lst [.ref l2]) hl3
        have A22 := A21.same sz4
        have hl2' := sz4 _ _ (sz3 _ _ (upd_same (H := upd H18 l1 (.lst [.int 0])) (a := l2) (o := .lst (vI (List.replicate a2 0)))))
        have hRm : RowsL _ l4 (List.replicate a1 (List.replicate a2 0)) := ⟨List.replicate a1 l2, upd_same, by simp, fun i t r h1 h2 => by
          have i1 := List.mem_of_getElem? h1
          have i2 := List.mem_of_getElem? h2
          rw [List.mem_replicate] at i1 i2
          rw [i1.2, i2.2]
          exact hl2'⟩
        have gmv : ∀ r ∈ List.replicate a1 (List.replicate a2 (0 : Int)), (r.length : Int) = (a2 : Int) := fun r hr => by
          rw [(List.mem_replicate.mp hr).2]
          simp
        refine rd_make hRm (by simp; omega) (fun r hr => by have := gmv r hr; omega) (good_of ho (by omega) fun r hr => ⟨gmv r hr, fun e he => ?_⟩) fun xm H23 s23 _ Mm => ⟨rfl, ?_⟩
        · have ho2 := primes_bd _ ho
          rw [(List.mem_replicate.mp hr).2] at he
          rw [(List.mem_replicate.mp he).2]
          omega
        have A23 := A22.same s23
        have MGs23 := MGs18.same ((same_new (o := .lst [.int 0]) hl1).trans ((same_new (o := .lst (vI (List.replicate a2 0))) hl2).trans (sz3.trans (sz4.trans s23))))
        -- what does not fit
        refine ⟨_, rfl, _, rfl, Nat.zero_le _, fun b1' hb1' => ⟨0, xl, xs, b1', p, _, rows1, rfl, A23.hl.same (same_new hb1'), .inl ⟨rfl, p, a2, rows3, MGs23.same (same_new hb1'), fun z => by have := z.2; omega⟩, fun H24 s24 => ⟨_, rfl, iteF ?_⟩⟩⟩
        have A24 := A23.same ((same_new hb1').trans s24)
        have MGs24 := MGs23.same ((same_new hb1').trans s24)
        have Mm24 := Mm.same ((same_new hb1').trans s24)
        refine ⟨_, rfl, _, rfl, Nat.zero_le _, fun b2' hb2' => ⟨0, xl, xm, b2', p, _, rows1, rfl, A24.hl.same (same_new hb2'), .inl ⟨rfl, _, a2, _, ⟨Mm24.same (same_new hb2'), good_of ho (by omega) fun r hr => ⟨gmv r hr, fun e he => ?_⟩, by simp; omega, by omega⟩, fun z => hne z.1.symm⟩, fun H25 s25 => ⟨_, rfl, iteF ?_⟩⟩⟩
        · have ho2 := primes_bd _ ho
          rw [(List.mem_replicate.mp hr).2] at he
          rw [(List.mem_replicate.mp he).2]
          omega
        have A25 := A24.same ((same_new hb2').trans s25)
        have MGs25 := MGs24.same ((same_new hb2').trans s25)
        refine ⟨_, rfl, L, _, _, _, rfl, rfl, SqL.of A25.hL, atI_nat (j := 1) rfl, _, _, rfl, rfl, _, rfl, ite2 (fun gt => ?_) (fun _ => ?_)⟩
        · have gt1 : 0 < (a1 : Int) := of_decide_eq_true gt
          obtain ⟨ts2, hts2, href2⟩ := id A25.hS
          refine ⟨_, rfl, _, rfl, L, _, _, _, rfl, rfl, SqL.of A25.hL, atI_nat (j := 2) rfl, _, rfl, _, rfl, _, rfl, S, _, rfl, SqL.of hts2, fun q1 hq1 => ?_⟩
          have ec : cutV (ts2.map V.ref) none (some (-1)) = (ts2.take (a1 - 1)).map V.ref := by
            unfold cutV
            have e1 : HT.sIx (ts2.map V.ref).length 0 none = 0 := rfl
            have e3 : HT.sIx (ts2.map V.ref).length (ts2.map V.ref).length (some (-1)) = a1 - 1 := by
              show (if (-1 : Int) < 0 then ((-1 : Int) + ((ts2.map V.ref).length : Int)).toNat else min (-1 : Int).toNat (ts2.map V.ref).length) = a1 - 1
              rw [if_pos (by decide), List.length_map, href2.1, ls2]
              omega
            rw [e1, e3, List.drop_zero, Nat.sub_zero, List.map_take]
          rw [ec]
          have sq := same_new (o := .lst ((ts2.take (a1 - 1)).map V.ref)) hq1
          have hRq : RowsL _ q1 (rows2.take (a1 - 1)) := ⟨ts2.take (a1 - 1), upd_same, by rw [List.length_take, List.length_take, href2.1], fun i t r h1 h2 => by
            rw [List.getElem?_take] at h1 h2
            split at h1
            · rename_i hlt
              rw [if_pos hlt] at h2
              exact sq _ _ (href2.2 i t r h1 h2)
            · cases h1⟩
          have gq : ∀ r ∈ rows2.take (a1 - 1), (r.length : Int) = (a2 : Int) ∧ ∀ e ∈ r, 0 ≤ e ∧ e < p := fun r hr => gs2 r (List.mem_of_mem_take hr)
          have lq : (rows2.take (a1 - 1)).length = a1 - 1 := by rw [List.length_take]; omega
          refine rd_make hRq (by omega) (fun r hr => by have := (gq r hr).1; omega) (good_of hp (by omega) gq) fun xq H26 s26 _ Mq => ⟨rfl, ?_⟩
          have s56 := sq.trans s26
          have A26 := A25.same s56
          have MGs26 := MGs25.same s56
          refine ⟨_, rfl, _, rfl, Nat.zero_le _, fun b3' hb3' => ⟨0, xl, xq, b3', p, _, rows1, rfl, A26.hl.same (same_new hb3'), .inl ⟨rfl, p, a2, _, ⟨Mq.same (same_new hb3'), good_of hp (by omega) gq, by omega, by omega⟩, fun z => by have := z.2; omega⟩, fun H27 s27 => ⟨_, rfl, iteF ?_⟩⟩⟩
          have s67 := (same_new hb3').trans s27
          have A27 := A26.same s67
          have MGs27 := MGs26.same s67
          refine ⟨_, rfl, _, rfl, (by show 1 ≤ sizeLine; decide), fun w1 hw1 => ?_⟩
          have A28 := A27.same (same_new (o := .lst [.int 0]) hw1)
          refine ⟨_, rfl, L, _, _, _, rfl, rfl, SqL.of A28.hL, atI_nat (j := 1) rfl, _, _, rfl, rfl, w1, _, _, rfl, rfl, upd_same, by omega, by omega, line_of (by show 1 * ((a1 : Int) - 1).toNat ≤ 16777216; omega), fun w2 hw2 => ?_⟩
          rw [zeros_eq]
          have sw := (same_new (o := .lst [.int 0]) hw1).trans (same_new (o := .lst (vI (List.replicate ((a1 : Int) - 1).toNat 0))) hw2)
          refine ⟨1, xl, xl, w2, p, _, rows1, rfl, A27.hl.same sw, .inr ⟨rfl, _, SqL.of upd_same, by simp; omega⟩, fun H29 s29 => ⟨_, rfl, iteF ?_⟩⟩
          have A29 := A27.same (sw.trans s29)
          have MGs29 := MGs27.same (sw.trans s29)
          refine ⟨_, rfl, _, rfl, (by show 1 ≤ sizeLine; decide), fun u1 hu1 => ?_⟩
          have AX := A29.same (same_new (o := .lst [.int 0]) hu1)
          refine ⟨_, rfl, L, _, _, _, rfl, rfl, SqL.of AX.hL, atI_nat (j := 1) rfl, _, _, rfl, rfl, u1, _, _, rfl, rfl, upd_same, by omega, by omega, line_of (by show 1 * ((a1 : Int) + 1).toNat ≤ 16777216; omega), fun u2 hu2 => ?_⟩
          rw [zeros_eq]
          have su := (same_new (o := .lst [.int 0]) hu1).trans (same_new (o := .lst (vI (List.replicate ((a1 : Int) + 1).toNat 0))) hu2)
          refine ⟨1, xl, xs, u2, p, _, rows1, rfl, A29.hl.same su, .inr ⟨rfl, _, SqL.of upd_same, by simp; omega⟩, fun HX sX => ⟨_, rfl, iteT ?_⟩⟩
          have AY := A29.same (su.trans sX)
          refine ⟨_, rfl, _, rfl, (by show 1 ≤ sizeLine; decide), fun u3 hu3 => ?_⟩
          have AZ := AY.same (same_new (o := .lst [.int 0]) hu3)
          refine ⟨_, rfl, L, _, _, _, rfl, rfl, SqL.of AZ.hL, atI_nat (j := 1) rfl, _, _, rfl, rfl, u3, _, _, rfl, rfl, upd_same, by omega, by omega, line_of (by show 1 * ((a1 : Int) + 2).toNat ≤ 16777216; omega), fun u4 hu4 => ?_⟩
          rw [zeros_eq]
          have sv := (same_new (o := .lst [.int 0]) hu3).trans (same_new (o := .lst (vI (List.replicate ((a1 : Int) + 2).toNat 0))) hu4)
          exact ⟨1, xl, xl, u4, p, _, rows1, rfl, AY.hl.same sv, .inr ⟨rfl, _, SqL.of upd_same, by simp; omega⟩, fun HW sW => q _⟩
        · refine ⟨_, rfl, _, rfl, (by show 1 ≤ sizeLine; decide), fun u1 hu1 => ?_⟩
          have AX := A25.same (same_new (o := .lst [.int 0]) hu1)
          refine ⟨_, rfl, L, _, _, _, rfl, rfl, SqL.of AX.hL, atI_nat (j := 1) rfl, _, _, rfl, rfl, u1, _, _, rfl, rfl, upd_same, by omega, by omega, line_of (by show 1 * ((a1 : Int) + 1).toNat ≤ 16777216; omega), fun u2 hu2 => ?_⟩
          rw [zeros_eq]
          have su := (same_new (o := .lst [.int 0]) hu1).trans (same_new (o := .lst (vI (List.replicate ((a1 : Int) + 1).toNat 0))) hu2)
          refine ⟨1, xl, xs, u2, p, _, rows1, rfl, A25.hl.same su, .inr ⟨rfl, _, SqL.of upd_same, by simp; omega⟩, fun HX sX => ⟨_, rfl, iteT ?_⟩⟩
          have AY := A25.same (su.trans sX)
          refine ⟨_, rfl, _, rfl, (by show 1 ≤ sizeLine; decide), fun u3 hu3 => ?_⟩
          have AZ := AY.same (same_new (o := .lst [.int 0]) hu3)
          refine ⟨_, rfl, L, _, _, _, rfl, rfl, SqL.of AZ.hL, atI_nat (j := 1) rfl, _, _, rfl, rfl, u3, _, _, rfl, rfl, upd_same, by omega, by omega, line_of (by show 1 * ((a1 : Int) + 2).toNat ≤ 16777216; omega), fun u4 hu4 => ?_⟩
          rw [zeros_eq]
          have sv := (same_new (o := .lst [.int 0]) hu3).trans (same_new (o := .lst (vI (List.replicate ((a1 : Int) + 2).toNat 0))) hu4)
          exact ⟨1, xl, xl, u4, p, _, rows1, rfl, AY.hl.same sv, .inr ⟨rfl, _, SqL.of upd_same, by simp; omega⟩, fun HW sW => q _⟩
end
/-! ### the top's facts, the head -/
theorem all_mk {l : PySem.W.OpenLaw} {w : World} {K : PySem.W.Frag} {h : Heap} {mg : Str → Option Value} {fa e0 e1 e2 e3 e4 e5 e6 e7 e8 e9 e10 e11 e12 e13 e14 e15 e16 e17 e18 e19 e20 e21 e22 e23 e24 e25 e26 e27 e28 e29 e30 : Addr} (X : K.In h) (G : h.Ns mainGlobals mg) (hfa : mg "law" = some (.ref fa))
    {oc0 kV0 dc0 pm0 cd0 ct0 : Value} {od0 an0 : Option Addr} {sl0 : Array (Option Value)} {od3 : Option Addr} {its3 : Array Value} {n3 : Nat} {sl3 : Array (Option Value)} {oc4 kV4 dc4 pm4 cd4 ct4 : Value} {od4 an4 : Option Addr} {sl4 : Array (Option Value)} {oc5 kV5 dc5 pm5 cd5 ct5 : Value} {od5 an5 : Option Addr} {sl5 : Array (Option Value)} {oc7 kV7 dc7 pm7 cd7 ct7 : Value} {od7 an7 : Option Addr} {sl7 : Array (Option Value)} {oc8 kV8 dc8 pm8 cd8 ct8 : Value} {od8 an8 : Option Addr} {sl8 : Array (Option Value)} {pp8 : Addr} {rs8 : List Value} {oc9 kV9 dc9 pm9 cd9 ct9 : Value} {od9 an9 : Option Addr} {sl9 : Array (Option Value)} {oc10 kV10 dc10 pm10 cd10 ct10 : Value} {od10 an10 : Option Addr} {sl10 : Array (Option Value)} {oc11 kV11 dc11 pm11 cd11 ct11 : Value} {od11 an11 : Option Addr} {sl11 : Array (Option Value)} {oc12 kV12 dc12 pm12 cd12 ct12 : Value} {od12 an12 : Option Addr} {sl12 : Array (Option Value)} {oc13 kV13 dc13 pm13 cd13 ct13 : Value} {od13 an13 : Option Addr} {sl13 : Array (Option Value)} {oc14 kV14 dc14 pm14 cd14 ct14 : Value} {od14 an14 : Option Addr} {sl14 : Array (Option Value)} {oc15 kV15 dc15 pm15 cd15 ct15 : Value} {od15 an15 : Option Addr} {sl15 : Array (Option Value)} {oc16 kV16 dc16 pm16 cd16 ct16 : Value} {od16 an16 : Option Addr} {sl16 : Array (Option Value)} {oc17 kV17 dc17 pm17 cd17 ct17 : Value} {od17 an17 : Option Addr} {sl17 : Array (Option Value)} {oc18 kV18 dc18 pm18 cd18 ct18 : Value} {od18 an18 : Option Addr} {sl18 : Array (Option Value)} {oc19 kV19 dc19 pm19 cd19 ct19 : Value} {od19 an19 : Option Addr} {sl19 : Array (Option Value)} {oc20 kV20 dc20 pm20 cd20 ct20 : Value} {od20 an20 : Option Addr} {sl20 : Array (Option Value)} {oc21 kV21 dc21 pm21 cd21 ct21 : Value} {od21 an21 : Option Addr} {sl21 : Array (Option Value)} {oc22 kV22 dc22 pm22 cd22 ct22 : Value} {od22 an22 : Option Addr} {sl22 : Array (Option Value)} {oc23 kV23 dc23 pm23 cd23 ct23 : Value} {od23 an23 : Option Addr} {sl23 : Array (Option Value)} {oc24 kV24 dc24 pm24 cd24 ct24 : Value} {od24 an24 : Option Addr} {sl24 : Array (Option Value)} {oc25 kV25 dc25 pm25 cd25 ct25 : Value} {od25 an25 : Option Addr} {sl25 : Array (Option Value)} {oc26 kV26 dc26 pm26 cd26 ct26 : Value} {od26 an26 : Option Addr} {sl26 : Array (Option Value)} {oc27 kV27 dc27 pm27 cd27 ct27 : Value} {od27 an27 : Option Addr} {sl27 : Array (Option Value)} {oc28 kV28 dc28 pm28 cd28 ct28 : Value} {od28 an28 : Option Addr} {sl28 : Array (Option Value)} {oc29 kV29 dc29 pm29 cd29 ct29 : Value} {od29 an29 : Option Addr} {sl29 : Array (Option Value)} {oc30 kV30 dc30 pm30 cd30 ct30 : Value} {od30 an30 : Option Addr} {sl30 : Array (Option Value)}
    (a0 : PySem.W.nsIn K mainGlobals "_wall" = some (some (.ref e0)))
    (l0 : K.lookup e0 = some ⟨oc0, od0, .func (PySem.W.fnOf "_wall" "_wall" (defArgs s_wall) (defBody s_wall) (defScope s_wall) .none kV0 dc0 pm0 an0 cd0 ct0), sl0⟩)
    (c0 : PySem.W.codeIn K cd0 "_wall" = true)
    (k0 : PySem.W.keepIn K (.ref e0) = true)
    (a1 : PySem.W.nsIn K mainGlobals "WovenError" = some (some (.ref e1)))
    (x1 : XC K e1)
    (a2 : PySem.W.nsIn K mainGlobals "InvalidMatrix" = some (some (.ref e2)))
    (x2 : XC K e2)
    (a3 : PySem.W.nsIn K mainGlobals "BASES" = some (some (.ref e3)))
    (l3 : K.lookup e3 = some ⟨.type "tuple", od3, .seq its3 n3, sl3⟩)
    (v3 : Vals (vI ([2, 3, 5, 7, 11, 13, 17, 19, 23, 29, 31, 37, 41, 43, 47, 53, 59, 61, 67, 71, 73, 79, 83, 89, 97] : List Int)) its3.toList)
    (w3 : its3.size ≤ sizeLine)
    (a4 : PySem.W.nsIn K mainGlobals "is_base" = some (some (.ref e4)))
    (l4 : K.lookup e4 = some ⟨oc4, od4, .func (PySem.W.fnOf "is_base" "is_base" (defArgs s_is_base) (defBody s_is_base) (defScope s_is_base) .none kV4 dc4 pm4 an4 cd4 ct4), sl4⟩)
    (c4 : PySem.W.codeIn K cd4 "is_base" = true)
    (k4 : PySem.W.keepIn K (.ref e4) = true)
    (a5 : PySem.W.nsIn K mainGlobals "dot" = some (some (.ref e5)))
    (l5 : K.lookup e5 = some ⟨oc5, od5, .func (PySem.W.fnOf "dot" "dot" (defArgs s_dot) (defBody s_dot) (defScope s_dot) .none kV5 dc5 pm5 an5 cd5 ct5), sl5⟩)
    (c5 : PySem.W.codeIn K cd5 "dot" = true)
    (k5 : PySem.W.keepIn K (.ref e5) = true)
    (a6 : PySem.W.nsIn K mainGlobals "Matrix" = some (some (.ref e6)))
    (y6 : Cls K e6)
    (q6 : CC K e6)
    (r6 : PySem.W.makesIn K e6 = true)
    (n6_base : PySem.W.findIn K (.ref e6) "base" = some none)
    (n6_width : PySem.W.findIn K (.ref e6) "width" = some none)
    (n6_rows : PySem.W.findIn K (.ref e6) "rows" = some none)
    (a7 : PySem.W.findIn K (.ref e6) "__init__" = some (some (.ref e7)))
    (i7 : PySem.W.isFn K (.ref e7) = true)
    (l7 : K.lookup e7 = some ⟨oc7, od7, .func (PySem.W.fnOf "__init__" "Matrix.__init__" (defArgs s_Matrix_init) (defBody s_Matrix_init) (defScope s_Matrix_init) .none kV7 dc7 pm7 an7 cd7 ct7), sl7⟩)
    (c7 : PySem.W.codeIn K cd7 "Matrix.__init__" = true)
    (k7 : PySem.W.keepIn K (.ref e7) = true)
    (a8 : PySem.W.findIn K (.ref e6) "height" = some (some (.ref pp8)))
    (g8 : PySem.W.specialIn K (.ref pp8) "__get__" = some (some (.builtin "property.__get__")))
    (t8 : PySem.W.takesIn K (.ref pp8) = some true)
    (r8 : PySem.W.recIn K pp8 "property" = some (.ref e8 :: rs8))
    (l8 : K.lookup e8 = some ⟨oc8, od8, .func (PySem.W.fnOf "height" "Matrix.height" (defArgs s_Matrix_height) (defBody s_Matrix_height) (defScope s_Matrix_height) .none kV8 dc8 pm8 an8 cd8 ct8), sl8⟩)
    (c8 : PySem.W.codeIn K cd8 "Matrix.height" = true)
    (k8 : PySem.W.keepIn K (.ref e8) = true)
    (a9 : PySem.W.findIn K (.ref e6) "column" = some (some (.ref e9)))
    (i9 : PySem.W.isFn K (.ref e9) = true)
    (l9 : K.lookup e9 = some ⟨oc9, od9, .func (PySem.W.fnOf "column" "Matrix.column" (defArgs s_Matrix_column) (defBody s_Matrix_column) (defScope s_Matrix_column) .none kV9 dc9 pm9 an9 cd9 ct9), sl9⟩)
    (c9 : PySem.W.codeIn K cd9 "Matrix.column" = true)
    (k9 : PySem.W.keepIn K (.ref e9) = true)
    (a10 : PySem.W.findIn K (.ref e6) "apply" = some (some (.ref e10)))
    (i10 : PySem.W.isFn K (.ref e10) = true)
    (l10 : K.lookup e10 = some ⟨oc10, od10, .func (PySem.W.fnOf "apply" "Matrix.apply" (defArgs s_Matrix_apply) (defBody s_Matrix_apply) (defScope s_Matrix_apply) .none kV10 dc10 pm10 an10 cd10 ct10), sl10⟩)
    (c10 : PySem.W.codeIn K cd10 "Matrix.apply" = true)
    (k10 : PySem.W.keepIn K (.ref e10) = true)
    (a11 : PySem.W.findIn K (.ref e6) "__mul__" = some (some (.ref e11)))
    (i11 : PySem.W.isFn K (.ref e11) = true)
    (l11 : K.lookup e11 = some ⟨oc11, od11, .func (PySem.W.fnOf "__mul__" "Matrix.__mul__" (defArgs s_Matrix_mul) (defBody s_Matrix_mul) (defScope s_Matrix_mul) .none kV11 dc11 pm11 an11 cd11 ct11), sl11⟩)
    (c11 : PySem.W.codeIn K cd11 "Matrix.__mul__" = true)
    (k11 : PySem.W.keepIn K (.ref e11) = true)
    (a12 : PySem.W.findIn K (.ref e6) "__add__" = some (some (.ref e12)))
    (i12 : PySem.W.isFn K (.ref e12) = true)
    (l12 : K.lookup e12 = some ⟨oc12, od12, .func (PySem.W.fnOf "__add__" "Matrix.__add__" (defArgs s_Matrix_add) (defBody s_Matrix_add) (defScope s_Matrix_add) .none kV12 dc12 pm12 an12 cd12 ct12), sl12⟩)
    (c12 : PySem.W.codeIn K cd12 "Matrix.__add__" = true)
    (k12 : PySem.W.keepIn K (.ref e12) = true)
    (a13 : PySem.W.findIn K (.ref e6) "__sub__" = some (some (.ref e13)))
    (i13 : PySem.W.isFn K (.ref e13) = true)
    (l13 : K.lookup e13 = some ⟨oc13, od13, .func (PySem.W.fnOf "__sub__" "Matrix.__sub__" (defArgs s_Matrix_sub) (defBody s_Matrix_sub) (defScope s_Matrix_sub) .none kV13 dc13 pm13 an13 cd13 ct13), sl13⟩)
    (c13 : PySem.W.codeIn K cd13 "Matrix.__sub__" = true)
    (k13 : PySem.W.keepIn K (.ref e13) = true)
    (a14 : PySem.W.findIn K (.ref e6) "__eq__" = some (some (.ref e14)))
    (i14 : PySem.W.isFn K (.ref e14) = true)
    (l14 : K.lookup e14 = some ⟨oc14, od14, .func (PySem.W.fnOf "__eq__" "Matrix.__eq__" (defArgs s_Matrix_eq) (defBody s_Matrix_eq) (defScope s_Matrix_eq) .none kV14 dc14 pm14 an14 cd14 ct14), sl14⟩)
    (c14 : PySem.W.codeIn K cd14 "Matrix.__eq__" = true)
    (k14 : PySem.W.keepIn K (.ref e14) = true)
    (a15 : PySem.W.nsIn K mainGlobals "_is_vector" = some (some (.ref e15)))
    (l15 : K.lookup e15 = some ⟨oc15, od15, .func (PySem.W.fnOf "_is_vector" "_is_vector" (defArgs s_is_vector) (defBody s_is_vector) (defScope s_is_vector) .none kV15 dc15 pm15 an15 cd15 ct15), sl15⟩)
    (c15 : PySem.W.codeIn K cd15 "_is_vector" = true)
    (k15 : PySem.W.keepIn K (.ref e15) = true)
    (a16 : PySem.W.nsIn K mainGlobals "_check_bases" = some (some (.ref e16)))
    (l16 : K.lookup e16 = some ⟨oc16, od16, .func (PySem.W.fnOf "_check_bases" "_check_bases" (defArgs s_check_bases) (defBody s_check_bases) (defScope s_check_bases) .none kV16 dc16 pm16 an16 cd16 ct16), sl16⟩)
    (c16 : PySem.W.codeIn K cd16 "_check_bases" = true)
    (k16 : PySem.W.keepIn K (.ref e16) = true)
    (a17 : PySem.W.nsIn K mainGlobals "_sum_of_rows" = some (some (.ref e17)))
    (l17 : K.lookup e17 = some ⟨oc17, od17, .func (PySem.W.fnOf "_sum_of_rows" "_sum_of_rows" (defArgs s_sum_of_rows) (defBody s_sum_of_rows) (defScope s_sum_of_rows) .none kV17 dc17 pm17 an17 cd17 ct17), sl17⟩)
    (c17 : PySem.W.codeIn K cd17 "_sum_of_rows" = true)
    (k17 : PySem.W.keepIn K (.ref e17) = true)
    (a18 : PySem.W.nsIn K mainGlobals "_plus_times" = some (some (.ref e18)))
    (l18 : K.lookup e18 = some ⟨oc18, od18, .func (PySem.W.fnOf "_plus_times" "_plus_times" (defArgs s_plus_times) (defBody s_plus_times) (defScope s_plus_times) .none kV18 dc18 pm18 an18 cd18 ct18), sl18⟩)
    (c18 : PySem.W.codeIn K cd18 "_plus_times" = true)
    (k18 : PySem.W.keepIn K (.ref e18) = true)
    (a19 : PySem.W.nsIn K mainGlobals "_law_cell" = some (some (.ref e19)))
    (l19 : K.lookup e19 = some ⟨oc19, od19, .func (PySem.W.fnOf "_law_cell" "_law_cell" (defArgs s_law_cell) (defBody s_law_cell) (defScope s_law_cell) .none kV19 dc19 pm19 an19 cd19 ct19), sl19⟩)
    (c19 : PySem.W.codeIn K cd19 "_law_cell" = true)
    (k19 : PySem.W.keepIn K (.ref e19) = true)
    (a20 : PySem.W.nsIn K mainGlobals "_law_draws" = some (some (.ref e20)))
    (l20 : K.lookup e20 = some ⟨oc20, od20, .func (PySem.W.fnOf "_law_draws" "_law_draws" (defArgs s_law_draws) (defBody s_law_draws) (defScope s_law_draws) .none kV20 dc20 pm20 an20 cd20 ct20), sl20⟩)
    (c20 : PySem.W.codeIn K cd20 "_law_draws" = true)
    (k20 : PySem.W.keepIn K (.ref e20) = true)
    (a21 : PySem.W.nsIn K mainGlobals "_law_next" = some (some (.ref e21)))
    (l21 : K.lookup e21 = some ⟨oc21, od21, .func (PySem.W.fnOf "_law_next" "_law_next" (defArgs s_law_next) (defBody s_law_next) (defScope s_law_next) .none kV21 dc21 pm21 an21 cd21 ct21), sl21⟩)
    (c21 : PySem.W.codeIn K cd21 "_law_next" = true)
    (k21 : PySem.W.keepIn K (.ref e21) = true)
    (a22 : PySem.W.nsIn K mainGlobals "_law_is_prime" = some (some (.ref e22)))
    (l22 : K.lookup e22 = some ⟨oc22, od22, .func (PySem.W.fnOf "_law_is_prime" "_law_is_prime" (defArgs s_law_is_prime) (defBody s_law_is_prime) (defScope s_law_is_prime) .none kV22 dc22 pm22 an22 cd22 ct22), sl22⟩)
    (c22 : PySem.W.codeIn K cd22 "_law_is_prime" = true)
    (k22 : PySem.W.keepIn K (.ref e22) = true)
    (a23 : PySem.W.nsIn K mainGlobals "_law_prime" = some (some (.ref e23)))
    (l23 : K.lookup e23 = some ⟨oc23, od23, .func (PySem.W.fnOf "_law_prime" "_law_prime" (defArgs s_law_prime) (defBody s_law_prime) (defScope s_law_prime) .none kV23 dc23 pm23 an23 cd23 ct23), sl23⟩)
    (c23 : PySem.W.codeIn K cd23 "_law_prime" = true)
    (k23 : PySem.W.keepIn K (.ref e23) = true)
    (a24 : PySem.W.nsIn K mainGlobals "_law_same" = some (some (.ref e24)))
    (l24 : K.lookup e24 = some ⟨oc24, od24, .func (PySem.W.fnOf "_law_same" "_law_same" (defArgs s_law_same) (defBody s_law_same) (defScope s_law_same) .none kV24 dc24 pm24 an24 cd24 ct24), sl24⟩)
    (c24 : PySem.W.codeIn K cd24 "_law_same" = true)
    (k24 : PySem.W.keepIn K (.ref e24) = true)
    (a25 : PySem.W.nsIn K mainGlobals "_law_product" = some (some (.ref e25)))
    (l25 : K.lookup e25 = some ⟨oc25, od25, .func (PySem.W.fnOf "_law_product" "_law_product" (defArgs s_law_product) (defBody s_law_product) (defScope s_law_product) .none kV25 dc25 pm25 an25 cd25 ct25), sl25⟩)
    (c25 : PySem.W.codeIn K cd25 "_law_product" = true)
    (k25 : PySem.W.keepIn K (.ref e25) = true)
    (a26 : PySem.W.nsIn K mainGlobals "_law_applied" = some (some (.ref e26)))
    (l26 : K.lookup e26 = some ⟨oc26, od26, .func (PySem.W.fnOf "_law_applied" "_law_applied" (defArgs s_law_applied) (defBody s_law_applied) (defScope s_law_applied) .none kV26 dc26 pm26 an26 cd26 ct26), sl26⟩)
    (c26 : PySem.W.codeIn K cd26 "_law_applied" = true)
    (k26 : PySem.W.keepIn K (.ref e26) = true)
    (a27 : PySem.W.nsIn K mainGlobals "_law_drawn" = some (some (.ref e27)))
    (l27 : K.lookup e27 = some ⟨oc27, od27, .func (PySem.W.fnOf "_law_drawn" "_law_drawn" (defArgs s_law_drawn) (defBody s_law_drawn) (defScope s_law_drawn) .none kV27 dc27 pm27 an27 cd27 ct27), sl27⟩)
    (c27 : PySem.W.codeIn K cd27 "_law_drawn" = true)
    (k27 : PySem.W.keepIn K (.ref e27) = true)
    (a28 : PySem.W.nsIn K mainGlobals "_law_is_matrix" = some (some (.ref e28)))
    (l28 : K.lookup e28 = some ⟨oc28, od28, .func (PySem.W.fnOf "_law_is_matrix" "_law_is_matrix" (defArgs s_law_is_matrix) (defBody s_law_is_matrix) (defScope s_law_is_matrix) .none kV28 dc28 pm28 an28 cd28 ct28), sl28⟩)
    (c28 : PySem.W.codeIn K cd28 "_law_is_matrix" = true)
    (k28 : PySem.W.keepIn K (.ref e28) = true)
    (a29 : PySem.W.nsIn K mainGlobals "_law_fails" = some (some (.ref e29)))
    (l29 : K.lookup e29 = some ⟨oc29, od29, .func (PySem.W.fnOf "_law_fails" "_law_fails" (defArgs s_law_fails) (defBody s_law_fails) (defScope s_law_fails) .none kV29 dc29 pm29 an29 cd29 ct29), sl29⟩)
    (c29 : PySem.W.codeIn K cd29 "_law_fails" = true)
    (k29 : PySem.W.keepIn K (.ref e29) = true)
    (a30 : PySem.W.nsIn K mainGlobals "law" = some (some (.ref e30)))
    (l30 : K.lookup e30 = some ⟨oc30, od30, .func (PySem.W.fnOf "law" "law" (defArgs s_law) (defBody s_law) (defScope s_law) .none kV30 dc30 pm30 an30 cd30 ct30), sl30⟩)
    (c30 : PySem.W.codeIn K cd30 "law" = true)
    (k30 : PySem.W.keepIn K (.ref e30) = true)
    (s_WovenError_InvalidMatrix : PySem.W.subIn K (.ref e1) (.ref e2) = some false)
    (s_InvalidMatrix_WovenError : PySem.W.subIn K (.ref e2) (.ref e1) = some true)
    (z_len : PySem.W.nsIn K mainGlobals "len" = some none)
    (z_int : PySem.W.nsIn K mainGlobals "int" = some none)
    (z_abs : PySem.W.nsIn K mainGlobals "abs" = some none)
    (z_range : PySem.W.nsIn K mainGlobals "range" = some none)
    (z_isi : PySem.W.nsIn K mainGlobals "isinstance" = some none)
    (z_tuple : PySem.W.nsIn K mainGlobals "tuple" = some none)
    (z_list : PySem.W.nsIn K mainGlobals "list" = some none)
    (z_bool : PySem.W.nsIn K mainGlobals "bool" = some none)
    (z_str : PySem.W.nsIn K mainGlobals "str" = some none)
    (z_sum : PySem.W.nsIn K mainGlobals "sum" = some none)
    (z_zip : PySem.W.nsIn K mainGlobals "zip" = some none)
    (z_all : PySem.W.nsIn K mainGlobals "all" = some none)
    (z_any : PySem.W.nsIn K mainGlobals "any" = some none)
    (z_repr : PySem.W.nsIn K mainGlobals "repr" = some none)
    (z_verr : PySem.W.nsIn K mainGlobals "ValueError" = some none) :
    ∃ fd : FuncData, (∀ (s : Shared) (v : Value), BindsTo s fd ⟨[v], []⟩ [("script", v)]) ∧ ∀ base : Heap, K.In base → base.Ns mainGlobals mg → FnOk l.prog w K mg base CX0 6 fa fd ["script"] (spLaw K) := by
  have efa : fa = e30 := Value.ref.inj (Option.some.inj (hfa.symm.trans (PySem.W.mg_of X G a30)))
  have T : TX K mg (fun n => ([e0, e1, e2, e3, e4, e5, e6, e7, e8, e9, e10, e11, e12, e13, e14, e15, e16, e17, e18, e19, e20, e21, e22, e23, e24, e25, e26, e27, e28, e29, e30] : List Addr).getD n 0) (fun n => ([(PySem.W.fnOf "_wall" "_wall" (defArgs s_wall) (defBody s_wall) (defScope s_wall) .none kV0 dc0 pm0 an0 cd0 ct0), (PySem.W.fnOf "law" "law" (defArgs s_law) (defBody s_law) (defScope s_law) .none kV30 dc30 pm30 an30 cd30 ct30), (PySem.W.fnOf "law" "law" (defArgs s_law) (defBody s_law) (defScope s_law) .none kV30 dc30 pm30 an30 cd30 ct30), (PySem.W.fnOf "law" "law" (defArgs s_law) (defBody s_law) (defScope s_law) .none kV30 dc30 pm30 an30 cd30 ct30), (PySem.W.fnOf "is_base" "is_base" (defArgs s_is_base) (defBody s_is_base) (defScope s_is_base) .none kV4 dc4 pm4 an4 cd4 ct4), (PySem.W.fnOf "dot" "dot" (defArgs s_dot) (defBody s_dot) (defScope s_dot) .none kV5 dc5 pm5 an5 cd5 ct5), (PySem.W.fnOf "law" "law" (defArgs s_law) (defBody s_law) (defScope s_law) .none kV30 dc30 pm30 an30 cd30 ct30), (PySem.W.fnOf "__init__" "Matrix.__init__" (defArgs s_Matrix_init) (defBody s_Matrix_init) (defScope s_Matrix_init) .none kV7 dc7 pm7 an7 cd7 ct7), (PySem.W.fnOf "height" "Matrix.height" (defArgs s_Matrix_height) (defBody s_Matrix_height) (defScope s_Matrix_height) .none kV8 dc8 pm8 an8 cd8 ct8), (PySem.W.fnOf "column" "Matrix.column" (defArgs s_Matrix_column) (defBody s_Matrix_column) (defScope s_Matrix_column) .none kV9 dc9 pm9 an9 cd9 ct9), (PySem.W.fnOf "apply" "Matrix.apply" (defArgs s_Matrix_apply) (defBody s_Matrix_apply) (defScope s_Matrix_apply) .none kV10 dc10 pm10 an10 cd10 ct10), (PySem.W.fnOf "__mul__" "Matrix.__mul__" (defArgs s_Matrix_mul) (defBody s_Matrix_mul) (defScope s_Matrix_mul) .none kV11 dc11 pm11 an11 cd11 ct11), (PySem.W.fnOf "__add__" "Matrix.__add__" (defArgs s_Matrix_add) (defBody s_Matrix_add) (defScope s_Matrix_add) .none kV12 dc12 pm12 an12 cd12 ct12), (PySem.W.fnOf "__sub__" "Matrix.__sub__" (defArgs s_Matrix_sub) (defBody s_Matrix_sub) (defScope s_Matrix_sub) .none kV13 dc13 pm13 an13 cd13 ct13), (PySem.W.fnOf "__eq__" "Matrix.__eq__" (defArgs s_Matrix_eq) (defBody s_Matrix_eq) (defScope s_Matrix_eq) .none kV14 dc14 pm14 an14 cd14 ct14), (PySem.W.fnOf "_is_vector" "_is_vector" (defArgs s_is_vector) (defBody s_is_vector) (defScope s_is_vector) .none kV15 dc15 pm15 an15 cd15 ct15), (PySem.W.fnOf "_check_bases" "_check_bases" (defArgs s_check_bases) (defBody s_check_bases) (defScope s_check_bases) .none kV16 dc16 pm16 an16 cd16 ct16), (PySem.W.fnOf "_sum_of_rows" "_sum_of_rows" (defArgs s_sum_of_rows) (defBody s_sum_of_rows) (defScope s_sum_of_rows) .none kV17 dc17 pm17 an17 cd17 ct17), (PySem.W.fnOf "_plus_times" "_plus_times" (defArgs s_plus_times) (defBody s_plus_times) (defScope s_plus_times) .none kV18 dc18 pm18 an18 cd18 ct18), (PySem.W.fnOf "_law_cell" "_law_cell" (defArgs s_law_cell) (defBody s_law_cell) (defScope s_law_cell) .none kV19 dc19 pm19 an19 cd19 ct19), (PySem.W.fnOf "_law_draws" "_law_draws" (defArgs s_law_draws) (defBody s_law_draws) (defScope s_law_draws) .none kV20 dc20 pm20 an20 cd20 ct20), (PySem.W.fnOf "_law_next" "_law_next" (defArgs s_law_next) (defBody s_law_next) (defScope s_law_next) .none kV21 dc21 pm21 an21 cd21 ct21), (PySem.W.fnOf "_law_is_prime" "_law_is_prime" (defArgs s_law_is_prime) (defBody s_law_is_prime) (defScope s_law_is_prime) .none kV22 dc22 pm22 an22 cd22 ct22), (PySem.W.fnOf "_law_prime" "_law_prime" (defArgs s_law_prime) (defBody s_law_prime) (defScope s_law_prime) .none kV23 dc23 pm23 an23 cd23 ct23), (PySem.W.fnOf "_law_same" "_law_same" (defArgs s_law_same) (defBody s_law_same) (defScope s_law_same) .none kV24 dc24 pm24 an24 cd24 ct24), (PySem.W.fnOf "_law_product" "_law_product" (defArgs s_law_product) (defBody s_law_product) (defScope s_law_product) .none kV25 dc25 pm25 an25 cd25 ct25), (PySem.W.fnOf "_law_applied" "_law_applied" (defArgs s_law_applied) (defBody s_law_applied) (defScope s_law_applied) .none kV26 dc26 pm26 an26 cd26 ct26), (PySem.W.fnOf "_law_drawn" "_law_drawn" (defArgs s_law_drawn) (defBody s_law_drawn) (defScope s_law_drawn) .none kV27 dc27 pm27 an27 cd27 ct27), (PySem.W.fnOf "_law_is_matrix" "_law_is_matrix" (defArgs s_law_is_matrix) (defBody s_law_is_matrix) (defScope s_law_is_matrix) .none kV28 dc28 pm28 an28 cd28 ct28), (PySem.W.fnOf "_law_fails" "_law_fails" (defArgs s_law_fails) (defBody s_law_fails) (defScope s_law_fails) .none kV29 dc29 pm29 an29 cd29 ct29), (PySem.W.fnOf "law" "law" (defArgs s_law) (defBody s_law) (defScope s_law) .none kV30 dc30 pm30 an30 cd30 ct30)] : List FuncData).getD n (PySem.W.fnOf "law" "law" (defArgs s_law) (defBody s_law) (defScope s_law) .none kV30 dc30 pm30 an30 cd30 ct30)) :=
    ⟨⟨PySem.W.mg_none_of X G z_len, PySem.W.mg_none_of X G z_int, PySem.W.mg_none_of X G z_abs, PySem.W.mg_none_of X G z_range, PySem.W.mg_none_of X G z_isi, PySem.W.mg_none_of X G z_tuple, PySem.W.mg_none_of X G z_list, PySem.W.mg_none_of X G z_bool, PySem.W.mg_none_of X G z_str, PySem.W.mg_none_of X G z_sum, PySem.W.mg_none_of X G z_zip, PySem.W.mg_none_of X G z_all, PySem.W.mg_none_of X G z_any, PySem.W.mg_none_of X G z_repr, PySem.W.mg_none_of X G z_verr⟩,
    fun_mk (st := s_wall) l0 c0 k0,
    PySem.W.mg_of X G a0,
    (fun_mk (st := s_wall) l0 c0 k0).binds (ps := ["k"]) fun _ _ _ _ _ _ us hl => match us, hl with | [_], _ => rfl,
    PySem.W.mg_of X G a1,
    x1,
    PySem.W.mg_of X G a2,
    x2,
    PySem.W.mg_of X G a3,
    fun H => .inr ⟨_, its3, n3, l3, rfl, rfl, w3, v3⟩,
    fun_mk (st := s_is_base) l4 c4 k4,
    PySem.W.mg_of X G a4,
    (fun_mk (st := s_is_base) l4 c4 k4).binds (ps := ["number"]) fun _ _ _ _ _ _ us hl => match us, hl with | [_], _ => rfl,
    fun_mk (st := s_dot) l5 c5 k5,
    PySem.W.mg_of X G a5,
    PySem.W.mg_of X G a6,
    y6,
    q6,
    n6_base,
    n6_width,
    n6_rows,
    fun_mk (st := s_Matrix_init) l7 c7 k7,
    (fun_mk (st := s_Matrix_init) l7 c7 k7).binds (ps := ["self", "base", "width", "rows"]) fun _ _ _ _ _ _ us hl => match us, hl with | [_, _, _, _], _ => rfl,
    ⟨r6, a7, i7, q6.k⟩,
    fun_mk (st := s_Matrix_height) l8 c8 k8,
    (fun_mk (st := s_Matrix_height) l8 c8 k8).binds (ps := ["self"]) fun _ _ _ _ _ _ us hl => match us, hl with | [_], _ => rfl,
    ⟨pp8, a8, g8, t8, _, r8⟩,
    fun_mk (st := s_Matrix_column) l9 c9 k9,
    (fun_mk (st := s_Matrix_column) l9 c9 k9).binds (ps := ["self", "place"]) fun _ _ _ _ _ _ us hl => match us, hl with | [_, _], _ => rfl,
    ⟨a9, i9, k9⟩,
    fun_mk (st := s_Matrix_apply) l10 c10 k10,
    (fun_mk (st := s_Matrix_apply) l10 c10 k10).binds (ps := ["self", "vector"]) fun _ _ _ _ _ _ us hl => match us, hl with | [_, _], _ => rfl,
    ⟨a10, i10, k10⟩,
    fun_mk (st := s_Matrix_mul) l11 c11 k11,
    (fun_mk (st := s_Matrix_mul) l11 c11 k11).binds (ps := ["self", "other"]) fun _ _ _ _ _ _ us hl => match us, hl with | [_, _], _ => rfl,
    ⟨a11, i11, k11⟩,
    fun_mk (st := s_Matrix_add) l12 c12 k12,
    (fun_mk (st := s_Matrix_add) l12 c12 k12).binds (ps := ["self", "other"]) fun _ _ _ _ _ _ us hl => match us, hl with | [_, _], _ => rfl,
    ⟨a12, i12, k12⟩,
    fun_mk (st := s_Matrix_sub) l13 c13 k13,
    (fun_mk (st := s_Matrix_sub) l13 c13 k13).binds (ps := ["self", "other"]) fun _ _ _ _ _ _ us hl => match us, hl with | [_, _], _ => rfl,
    ⟨a13, i13, k13⟩,
    fun_mk (st := s_Matrix_eq) l14 c14 k14,
    (fun_mk (st := s_Matrix_eq) l14 c14 k14).binds (ps := ["self", "other"]) fun _ _ _ _ _ _ us hl => match us, hl with | [_, _], _ => rfl,
    ⟨a14, i14, k14⟩,
    fun_mk (st := s_is_vector) l15 c15 k15,
    PySem.W.mg_of X G a15,
    (fun_mk (st := s_is_vector) l15 c15 k15).binds (ps := ["entries", "length", "base"]) fun _ _ _ _ _ _ us hl => match us, hl with | [_, _, _], _ => rfl,
    fun_mk (st := s_check_bases) l16 c16 k16,
    PySem.W.mg_of X G a16,
    (fun_mk (st := s_check_bases) l16 c16 k16).binds (ps := ["first", "second"]) fun _ _ _ _ _ _ us hl => match us, hl with | [_, _], _ => rfl,
    fun_mk (st := s_sum_of_rows) l17 c17 k17,
    PySem.W.mg_of X G a17,
    (fun_mk (st := s_sum_of_rows) l17 c17 k17).binds (ps := ["factors", "matrix"]) fun _ _ _ _ _ _ us hl => match us, hl with | [_, _], _ => rfl,
    fun_mk (st := s_plus_times) l18 c18 k18,
    PySem.W.mg_of X G a18,
    (fun_mk (st := s_plus_times) l18 c18 k18).binds (ps := ["first", "factor", "second"]) fun _ _ _ _ _ _ us hl => match us, hl with | [_, _, _], _ => rfl,
    fun_mk (st := s_law_cell) l19 c19 k19,
    PySem.W.mg_of X G a19,
    (fun_mk (st := s_law_cell) l19 c19 k19).binds (ps := ["script", "k"]) fun _ _ _ _ _ _ us hl => match us, hl with | [_, _], _ => rfl,
    fun_mk (st := s_law_draws) l20 c20 k20,
    PySem.W.mg_of X G a20,
    (fun_mk (st := s_law_draws) l20 c20 k20).binds (ps := ["cell"]) fun _ _ _ _ _ _ us hl => match us, hl with | [_], _ => rfl,
    fun_mk (st := s_law_next) l21 c21 k21,
    PySem.W.mg_of X G a21,
    (fun_mk (st := s_law_next) l21 c21 k21).binds (ps := ["draws", "many"]) fun _ _ _ _ _ _ us hl => match us, hl with | [_, _], _ => rfl,
    fun_mk (st := s_law_is_prime) l22 c22 k22,
    PySem.W.mg_of X G a22,
    (fun_mk (st := s_law_is_prime) l22 c22 k22).binds (ps := ["number"]) fun _ _ _ _ _ _ us hl => match us, hl with | [_], _ => rfl,
    fun_mk (st := s_law_prime) l23 c23 k23,
    PySem.W.mg_of X G a23,
    (fun_mk (st := s_law_prime) l23 c23 k23).binds (ps := ["draws"]) fun _ _ _ _ _ _ us hl => match us, hl with | [_], _ => rfl,
    fun_mk (st := s_law_same) l24 c24 k24,
    PySem.W.mg_of X G a24,
    (fun_mk (st := s_law_same) l24 c24 k24).binds (ps := ["actual", "expected"]) fun _ _ _ _ _ _ us hl => match us, hl with | [_, _], _ => rfl,
    fun_mk (st := s_law_product) l25 c25 k25,
    PySem.W.mg_of X G a25,
    (fun_mk (st := s_law_product) l25 c25 k25).binds (ps := ["left", "right", "width", "base"]) fun _ _ _ _ _ _ us hl => match us, hl with | [_, _, _, _], _ => rfl,
    fun_mk (st := s_law_applied) l26 c26 k26,
    PySem.W.mg_of X G a26,
    (fun_mk (st := s_law_applied) l26 c26 k26).binds (ps := ["rows", "vector", "base"]) fun _ _ _ _ _ _ us hl => match us, hl with | [_, _, _], _ => rfl,
    fun_mk (st := s_law_drawn) l27 c27 k27,
    PySem.W.mg_of X G a27,
    (fun_mk (st := s_law_drawn) l27 c27 k27).binds (ps := ["draws", "base", "height", "width"]) fun _ _ _ _ _ _ us hl => match us, hl with | [_, _, _, _], _ => rfl,
    fun_mk (st := s_law_is_matrix) l28 c28 k28,
    PySem.W.mg_of X G a28,
    (fun_mk (st := s_law_is_matrix) l28 c28 k28).binds (ps := ["actual", "base", "width", "rows"]) fun _ _ _ _ _ _ us hl => match us, hl with | [_, _, _, _], _ => rfl,
    fun_mk (st := s_law_fails) l29 c29 k29,
    PySem.W.mg_of X G a29,
    (fun_mk (st := s_law_fails) l29 c29 k29).binds (ps := ["pick", "left", "right", "vector"]) fun _ _ _ _ _ _ us hl => match us, hl with | [_, _, _, _], _ => rfl,
    fun_mk (st := s_law) l30 c30 k30,
    PySem.W.mg_of X G a30,
    (fun_mk (st := s_law) l30 c30 k30).binds (ps := ["script"]) fun _ _ _ _ _ _ us hl => match us, hl with | [_], _ => rfl,
    s_WovenError_InvalidMatrix,
    s_InvalidMatrix_WovenError⟩
  rw [efa]
  exact ⟨(PySem.W.fnOf "law" "law" (defArgs s_law) (defBody s_law) (defScope s_law) .none kV30 dc30 pm30 an30 cd30 ct30), fun s v => .of_eq rfl, fun base _ _ => ok_law T⟩
theorem walk_law {l : PySem.W.OpenLaw} {q : Program} {loose : List Str} {XP : (Str → Option Value) → Heap → Prop} {YP : World → Heap → Prop} {d : DefRec} {K : Params → PySem.W.Frag} (hn : l.most = some 63) (hdf : d.params.defaults = [])
    (hY : ∀ (w : World) (h : Heap), YP w h → (K w.params).In h)
    (F : ∀ (w : World) (mg : Str → Option Value) (fa : Addr) (h : Heap), (K w.params).In h → h.Ns mainGlobals mg → mg d.name = some (.ref fa) →
      ∃ fd : FuncData, (∀ (s : Shared) (u : Value), BindsTo s fd ⟨[u], []⟩ [("script", u)]) ∧ ∀ base : Heap, (K w.params).In base → base.Ns mainGlobals mg → FnOk l.prog w (K w.params) mg base CX0 6 fa fd ["script"] (spLaw (K w.params))) :
    PySem.W.WalkO q loose XP YP l.row.toRowW d [] (fun f vs => PySem.call f vs) :=
  L2.walk_of (n := 63) (k := 6) (x := "script") (CX := fun _ => CX0) (sp := fun w => spLaw (K w.params)) hn (by decide) hdf ⟨rfl, by decide, by decide⟩ hY F (fun _ _ a ns hl _ hS => ⟨a, ns, rfl, hS, fun _ => rfl⟩) fun _ _ _ _ _ z => z
end Bw
open PySem PySem.W PyProof.Rows
set_option maxRecDepth 100000 in
set_option maxHeartbeats 0 in
theorem PySem.Challenge.cw_barswoven_k03_products_holds : PySem.Challenge.rw_barswoven_k03_products.Holds := by
  w_on; o_law; k_head; (case hw => w_witness2)
  k_fill
  refine Bw.walk_law (l := PySem.Challenge.rw_barswoven_k03_products) rfl rfl (fun w h Y => PySem.W.kIn_of Y) ?F
  case F =>
    intro w mg fa h KX G hmg
    refine' Bw.all_mk KX G hmg ?a0 ?l0 ?c0 ?k0 ?a1 ?x1 ?a2 ?x2 ?a3 ?l3 ?v3 ?w3 ?a4 ?l4 ?c4 ?k4 ?a5 ?l5 ?c5 ?k5 ?a6 ?y6 ?q6 ?r6 ?n6_base ?n6_width ?n6_rows ?a7 ?i7 ?l7 ?c7 ?k7 ?a8 ?g8 ?t8 ?r8 ?l8 ?c8 ?k8 ?a9 ?i9 ?l9 ?c9 ?k9 ?a10 ?i10 ?l10 ?c10 ?k10 ?a11 ?i11 ?l11 ?c11 ?k11 ?a12 ?i12 ?l12 ?c12 ?k12 ?a13 ?i13 ?l13 ?c13 ?k13 ?a14 ?i14 ?l14 ?c14 ?k14 ?a15 ?l15 ?c15 ?k15 ?a16 ?l16 ?c16 ?k16 ?a17 ?l17 ?c17 ?k17 ?a18 ?l18 ?c18 ?k18 ?a19 ?l19 ?c19 ?k19 ?a20 ?l20 ?c20 ?k20 ?a21 ?l21 ?c21 ?k21 ?a22 ?l22 ?c22 ?k22 ?a23 ?l23 ?c23 ?k23 ?a24 ?l24 ?c24 ?k24 ?a25 ?l25 ?c25 ?k25 ?a26 ?l26 ?c26 ?k26 ?a27 ?l27 ?c27 ?k27 ?a28 ?l28 ?c28 ?k28 ?a29 ?l29 ?c29 ?k29 ?a30 ?l30 ?c30 ?k30 ?s_WovenError_InvalidMatrix ?s_InvalidMatrix_WovenError ?z_len ?z_int ?z_abs ?z_range ?z_isi ?z_tuple ?z_list ?z_bool ?z_str ?z_sum ?z_zip ?z_all ?z_any ?z_repr ?z_verr
    (case a0 => k_is)
    (case l0 => k_is)
    (case c0 => k_is)
    (case k0 => k_is)
    (case a1 => k_is)
    (case x1 => exact ⟨by (first | k_exc | k_is), by k_is, by k_is, by k_is, by k_is, by first | k_is | decide +kernel, by k_is, by k_is, by k_is, by k_is, by k_is, by k_is, by k_is, by k_is⟩)
    (case a2 => k_is)
    (case x2 => exact ⟨by (first | k_exc | k_is), by k_is, by k_is, by k_is, by k_is, by first | k_is | decide +kernel, by k_is, by k_is, by k_is, by k_is, by k_is, by k_is, by k_is, by k_is⟩)
    (case a3 => k_is)
    (case l3 => k_is)
    (case v3 => (repeat (first | exact Paired.nil | refine Paired.cons ⟨_, rfl⟩ ?_ | exact .nil | refine .cons ⟨_, rfl⟩ ?_)))
    (case w3 => (exact Bw.line_of (by decide)))
    (case a4 => k_is)
    (case l4 => k_is)
    (case c4 => k_is)
    (case k4 => k_is)
    (case a5 => k_is)
    (case l5 => k_is)
    (case c5 => k_is)
    (case k5 => k_is)
    (case a6 => k_is)
    (case y6 => exact ⟨by k_is, by k_is, by k_is, by k_is⟩)
    (case q6 => exact ⟨by k_is, by k_is, by k_is, by k_is, by k_is, by k_is, by k_is, by k_is⟩)
    (case r6 => k_is)
    (case n6_base => k_is)
    (case n6_width => k_is)
    (case n6_rows => k_is)
    (case a7 => k_is)
    (case i7 => k_is)
    (case l7 => k_is)
    (case c7 => k_is)
    (case k7 => k_is)
    (case a8 => k_is)
    (case g8 => k_is)
    (case t8 => k_is)
    (case r8 => k_is)
    (case l8 => k_is)
    (case c8 => k_is)
    (case k8 => k_is)
    (case a9 => k_is)
    (case i9 => k_is)
    (case l9 => k_is)
    (case c9 => k_is)
    (case k9 => k_is)
    (case a10 => k_is)
    (case i10 => k_is)
    (case l10 => k_is)
    (case c10 => k_is)
    (case k10 => k_is)
    (case a11 => k_is)
    (case i11 => k_is)
    (case l11 => k_is)
    (case c11 => k_is)
    (case k11 => k_is)
    (case a12 => k_is)
    (case i12 => k_is)
    (case l12 => k_is)
    (case c12 => k_is)
    (case k12 => k_is)
    (case a13 => k_is)
    (case i13 => k_is)
    (case l13 => k_is)
    (case c13 => k_is)
    (case k13 => k_is)
    (case a14 => k_is)
    (case i14 => k_is)
    (case l14 => k_is)
    (case c14 => k_is)
    (case k14 => k_is)
    (case a15 => k_is)
    (case l15 => k_is)
    (case c15 => k_is)
    (case k15 => k_is)
    (case a16 => k_is)
    (case l16 => k_is)
    (case c16 => k_is)
    (case k16 => k_is)
    (case a17 => k_is)
    (case l17 => k_is)
    (case c17 => k_is)
    (case k17 => k_is)
    (case a18 => k_is)
    (case l18 => k_is)
    (case c18 => k_is)
    (case k18 => k_is)
    (case a19 => k_is)
    (case l19 => k_is)
    (case c19 => k_is)
    (case k19 => k_is)
    (case a20 => k_is)
    (case l20 => k_is)
    (case c20 => k_is)
    (case k20 => k_is)
    (case a21 => k_is)
    (case l21 => k_is)
    (case c21 => k_is)
    (case k21 => k_is)
    (case a22 => k_is)
    (case l22 => k_is)
    (case c22 => k_is)
    (case k22 => k_is)
    (case a23 => k_is)
    (case l23 => k_is)
    (case c23 => k_is)
    (case k23 => k_is)
    (case a24 => k_is)
    (case l24 => k_is)
    (case c24 => k_is)
    (case k24 => k_is)
    (case a25 => k_is)
    (case l25 => k_is)
    (case c25 => k_is)
    (case k25 => k_is)
    (case a26 => k_is)
    (case l26 => k_is)
    (case c26 => k_is)
    (case k26 => k_is)
    (case a27 => k_is)
    (case l27 => k_is)
    (case c27 => k_is)
    (case k27 => k_is)
    (case a28 => k_is)
    (case l28 => k_is)
    (case c28 => k_is)
    (case k28 => k_is)
    (case a29 => k_is)
    (case l29 => k_is)
    (case c29 => k_is)
    (case k29 => k_is)
    (case a30 => k_is)
    (case l30 => k_is)
    (case c30 => k_is)
    (case k30 => k_is)
    (case s_WovenError_InvalidMatrix => k_is)
    (case s_InvalidMatrix_WovenError => k_is)
    (case z_len => k_is)
    (case z_int => k_is)
    (case z_abs => k_is)
    (case z_range => k_is)
    (case z_isi => k_is)
    (case z_tuple => k_is)
    (case z_list => k_is)
    (case z_bool => k_is)
    (case z_str => k_is)
    (case z_sum => k_is)
    (case z_zip => k_is)
    (case z_all => k_is)
    (case z_any => k_is)
    (case z_repr => k_is)
    (case z_verr => k_is)
