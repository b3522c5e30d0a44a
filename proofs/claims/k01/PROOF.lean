import PyProof.Rows.All
import Wide.All
import OpenK.AllK
import Wide.FinOn
import HandS.ForMost
import HandS.Exc
import HandS.TryOnly
import HandS.ExcOwn
import HandS.WordsExc
import HandS.IsInst
import HandS.Defaults
import HandS.ExcIs
import HandS.Zip
import HandS.Walk
import HandS.Conv
import HandS.Style
import PySem.Challenge.RW_barswoven_k01_field
set_option Elab.async false
set_option linter.all false
set_option maxRecDepth 100000
set_option maxHeartbeats 4000000
namespace Bw
open PySem PySem.Spec PyProof.Rows L2

abbrev vI (ns : List Int) : List V := ns.map V.int
/-- all that was tracked stays, but for what stands at d -/
def KeepBut (d : Addr) (H H' : Hp) : Prop := ∀ b o, b ≠ d → H b = some o → H' b = some o
theorem KeepBut.trans {d : Addr} {H H1 H2 : Hp} (a : KeepBut d H H1) (b : KeepBut d H1 H2) : KeepBut d H H2 := fun c o n h => b c o n (a c o n h)
theorem KeepBut.refl (d : Addr) (H : Hp) : KeepBut d H H := fun _ _ _ h => h
theorem KeepBut.of {d : Addr} {H H' : Hp} (s : Same H H') : KeepBut d H H' := fun c o _ h => s c o h
theorem KeepBut.same {d : Addr} {H0 H H' : Hp} (k : KeepBut d H H') (s : Same H0 H) (f : H0 d = none) : Same H0 H' := fun c o h => k c o (ne_of_none h f) (s c o h)
/-- the heap behind a new object -/
theorem same_new {H : Hp} {p : Addr} {o : HO} (h : H p = none) : Same H (upd H p o) := fun b u e => by
  rw [upd_ne (ne_of_none e h)]
  exact e
theorem Same.add {H0 H : Hp} {p : Addr} {o : HO} (s : Same H0 H) (h : H p = none) : Same H0 (upd H p o) := s.trans (same_new h)
theorem Same.at {H H' : Hp} (s : Same H H') {b : Addr} {o : HO} (h : H b = some o) : H' b = some o := s b o h
/-- draws as the law makes them: at d a list of a list at r and of the number of draws so far -/
def Dr (H : Hp) (d r : Addr) (c : Nat) : Prop := r ≠ d ∧ H d = some (.lst [.ref r, .int (c : Int)]) ∧ ∃ ns : List Int, H r = some (.lst (vI ns)) ∧ ns.length ≤ 1000
theorem Dr.same {H H' : Hp} {d r : Addr} {c : Nat} (h : Dr H d r c) (s : Same H H') : Dr H' d r c := by
  obtain ⟨n, h1, ns, h2, l⟩ := h
  exact ⟨n, s _ _ h1, ns, s _ _ h2, l⟩
theorem Dr.some {H : Hp} {d r : Addr} {c : Nat} (h : Dr H d r c) : ∃ o, H d = Option.some o := ⟨_, h.2.1⟩
theorem Dr.ne {H : Hp} {d r D : Addr} {c : Nat} (h : Dr H d r c) (e : H D = none) : D ≠ d ∧ D ≠ r := by
  obtain ⟨n, h1, ns, h2, l⟩ := h
  exact ⟨fun z => (by rw [z, h1] at e; cases e), fun z => (by rw [z, h2] at e; cases e)⟩
/-- another object changed -/
theorem Dr.put {H : Hp} {d r D : Addr} {c : Nat} {o : HO} (h : Dr H d r c) (n : D ≠ d ∧ D ≠ r) : Dr (upd H D o) d r c := by
  obtain ⟨m, h1, ns, h2, l⟩ := h
  exact ⟨m, by rw [upd_ne n.1.symm]; exact h1, ns, by rw [upd_ne n.2.symm]; exact h2, l⟩
/-- what is new behind a step that changed d alone was free ahead of it -/
theorem KeepBut.free {d p : Addr} {H H' : Hp} {o : HO} (k : KeepBut d H H') (hd : H' d = some o) (h : H' p = none) : H p = none := by
  cases q : H p with
  | none => rfl
  | some u =>
    have n : p ≠ d := fun e => by
      rw [e, hd] at h
      cases h
    rw [k p u n q] at h
    cases h
theorem SqL.keep {K : PySem.W.Frag} {d a : Addr} {H H' : Hp} {xs : List V} (k : KeepBut d H H') (n : a ≠ d) (h : SqL K H a xs) : SqL K H' a xs := by
  rcases h with (h | ⟨o, h⟩) | h
  · exact .inl (.inl (k _ _ n h))
  · exact .inl (.inr ⟨o, k _ _ n h⟩)
  · exact .inr h
theorem SqT.keep {K : PySem.W.Frag} {d a : Addr} {H H' : Hp} {xs : List V} (k : KeepBut d H H') (n : a ≠ d) (h : SqT K H a xs) : SqT K H' a xs := by
  rcases h with (h | ⟨o, h⟩) | h
  · exact .inl (.inl (k _ _ n h))
  · exact .inl (.inr ⟨o, k _ _ n h⟩)
  · exact .inr h
theorem SqT.same {K : PySem.W.Frag} {a : Addr} {H H' : Hp} {xs : List V} (k : Same H H') (h : SqT K H a xs) : SqT K H' a xs := by
  rcases h with (h | ⟨o, h⟩) | h
  · exact .inl (.inl (k _ _ h))
  · exact .inl (.inr ⟨o, k _ _ h⟩)
  · exact .inr h
/-- the built-ins' names are the built-ins' still -/
structure BI (mg : Str → Option Value) : Prop where
  len : mg "len" = none
  int : mg "int" = none
  abs : mg "abs" = none
  range : mg "range" = none
  isi : mg "isinstance" = none
  tuple : mg "tuple" = none
  list : mg "list" = none
  bool : mg "bool" = none
  str : mg "str" = none
  sum : mg "sum" = none
  zip : mg "zip" = none
  all : mg "all" = none
  any : mg "any" = none
  repr : mg "repr" = none
  verr : mg "ValueError" = none
/-- the turn's item of a list of vI -/
theorem item_int {ns : List Int} {i : Nat} {y : V} (hi : (vI ns)[i]? = some y) : ∃ z, ns[i]? = some z ∧ y = V.int z := by
  rw [List.getElem?_map] at hi
  cases e : ns[i]? with
  | none =>
    rw [e] at hi
    cases hi
  | some z =>
    rw [e] at hi
    exact ⟨z, rfl, (Option.some.inj hi).symm⟩
theorem ints_at {ns : List Int} {j : Nat} (h : j < ns.length) : (vI ns)[j]? = some (V.int ns[j]) := by
  rw [List.getElem?_map, List.getElem?_eq_getElem h]
  rfl
theorem if_t {c : Bool} {A B : Prop} (hc : c = true) (h : A) : if c = true then A else B := by
  rw [if_pos hc]
  exact h
theorem if_f {c : Bool} {A B : Prop} (hc : c = false) (h : B) : if c = true then A else B := by
  rw [hc, if_neg Bool.false_ne_true]
  exact h
theorem line_of {n : Nat} (h : n ≤ 16777216) : n ≤ sizeLine := by
  rw [sizeLine_eq]
  exact h
theorem line_lt {n : Nat} (h : n < 16777216) : n < sizeLine := by
  rw [sizeLine_eq]
  exact h
/-- a comprehension without ifs -/
theorem lc_yes {σ : L2.St} {H : Hp} {T N : Hp → Prop} (h : T H) : tYes σ H fun b H3 => if b = true then T H3 else N H3 := by
  show (if true = true then T H else N H)
  rw [if_pos rfl]
  exact h
theorem take_succ {α : Type} {l : List α} {i : Nat} {x : α} (h : l[i]? = some x) : l.take (i + 1) = l.take i ++ [x] := by
  rw [List.take_add_one, h]
  rfl
/-- data of ints: a list's, a tuple's items -/
def dI (ns : List Int) : List PyData := ns.map PyData.int
theorem dp_ints {K : PySem.W.Frag} {H : Hp} : ∀ ns : List Int, DpAll K H (vI ns) (dI ns)
  | [] => .nil
  | n :: ns => .cons (.int n) (dp_ints ns)
theorem lay_map {α : Type} (f : α → PyData) (h : ∀ x, (f x).canLay0 = true) : ∀ xs : List α, PyData.canLayAll0 (xs.map f) = true
  | [] => by simp [PyData.canLayAll0]
  | x :: xs => by
    have e := lay_map f h xs
    show PyData.canLayAll0 (f x :: xs.map f) = true
    simp [PyData.canLayAll0, h x, e]
theorem dep_map {α : Type} (f : α → PyData) (n : Nat) (h : ∀ x, (f x).depth ≤ n) : ∀ xs : List α, PyData.depthAll (xs.map f) ≤ n
  | [] => by simp [PyData.depthAll]
  | x :: xs => by
    have e := dep_map f n h xs
    show PyData.depthAll (f x :: xs.map f) ≤ n
    simp only [PyData.depthAll]
    exact Nat.max_le.mpr ⟨h x, e⟩
theorem lay_list {ds : List PyData} (h : PyData.canLayAll0 ds = true) : (PyData.list ds).canLay0 = true := by simpa [PyData.canLay0] using h
theorem lay_tuple {ds : List PyData} (h : PyData.canLayAll0 ds = true) : (PyData.tuple ds).canLay0 = true := by simpa [PyData.canLay0] using h
theorem dep_list {ds : List PyData} {n : Nat} (h : PyData.depthAll ds ≤ n) : (PyData.list ds).depth ≤ n + 1 := by
  simp only [PyData.depth]
  omega
theorem dep_tuple {ds : List PyData} {n : Nat} (h : PyData.depthAll ds ≤ n) : (PyData.tuple ds).depth ≤ n + 1 := by
  simp only [PyData.depth]
  omega
theorem lay_ints (ns : List Int) : PyData.canLayAll0 (dI ns) = true := lay_map _ (fun x => by simp [PyData.canLay0]) ns
theorem dep_ints (ns : List Int) : PyData.depthAll (dI ns) ≤ 0 := dep_map _ 0 (fun x => by simp [PyData.depth]) ns
theorem shaped_of {d : PyData} (h : d.canLay0 = true) (n : d.depth ≤ 64) : SeqAt.shaped d = true := Bool.and_eq_true_iff.mpr ⟨h, decide_eq_true n⟩
/-! the layer's rules with the written part told (within a comprehension) -/
section
variable {X : Cx} {K : PySem.W.Frag}
theorem ix_listK (e : X.K = K) : IxR X (rIxL K) := e ▸ ix_list
theorem ix_tupK (e : X.K = K) : IxR X (rIxT K) := e ▸ ix_tup
theorem ix_seqK (e : X.K = K) : IxR X (rIx K) := e ▸ ix_seq
theorem call_lenK (e : X.K = K) : CallR X (.builtin "len") (fun xs H Q => ∃ p ys, xs = [.ref p] ∧ (SqL K H p ys ∨ SqT K H p ys) ∧ Q (.int ys.length) H) := e ▸ call_len_seq
theorem call_listK (e : X.K = K) : CallR X (.type "list") (fun xs H Q => ∃ p ys, xs = [.ref p] ∧ (SqL K H p ys ∨ SqT K H p ys) ∧ ∀ l, H l = none → Q (.ref l) (upd H l (.lst ys))) := e ▸ call_list_of
theorem call_tupleK (e : X.K = K) : CallR X (.type "tuple") (fun xs H Q => ∃ p ys, xs = [.ref p] ∧ ((SqL K H p ys ∧ ∀ l, H l = none → Q (.ref l) (upd H l (.tup ys))) ∨ (SqT K H p ys ∧ Q (.ref p) H))) := e ▸ call_tuple_of
theorem call_sumK (c : X.calm = true) (e : X.K = K) : CallR X (.builtin "sum") (rSum K) := e ▸ cr_sum c
theorem pi_listK {tg l : Expr} {tl : TE} (e : X.K = K) (hl : PE X l tl) : PI X tg l (iList K tl) := e ▸ pi_list hl
theorem pi_tupK {tg l : Expr} {tl : TE} (e : X.K = K) (hl : PE X l tl) : PI X tg l (iTup K tl) := e ▸ pi_tup hl
end
section
variable {P : Program} {w : World} {K : PySem.W.Frag} {mg : Str → Option Value} {base : Heap}
/-! ### zip of two sequences, each a list or a tuple -/
def nmS (k : Bool) : String := if k = true then "list" else "tuple"
def nmI (k : Bool) : String := if k = true then "list_iterator" else "tuple_iterator"
/-- a list (k true) or tuple (k false) of these items stands at l -/
def SeqB (k : Bool) (h : Heap) (l : Addr) (its : Array Value) : Prop := match k with
  | true => h.IsList l its
  | false => h.IsTuple l its
def IterB (k : Bool) (h : Heap) (it l : Addr) (i : Nat) : Prop := match k with
  | true => h.IsListIter it l i
  | false => h.IsTupleIter it l i
def SqB (K : PySem.W.Frag) (k : Bool) (H : Hp) (a : Addr) (xs : List V) : Prop := match k with
  | true => SqL K H a xs
  | false => SqT K H a xs
theorem SeqB.over {k : Bool} {h h' : Heap} {a b : Addr} {its : Array Value} (x : SeqB k h a its) (e : Heap.ExtBut b h h') (n : a ≠ b) : SeqB k h' a its := by
  cases k
  · exact Heap.IsTuple.extBut x e n
  · exact Heap.IsList.extBut x e n
theorem IterB.over {k : Bool} {h h' : Heap} {a b l : Addr} {i : Nat} (x : IterB k h a l i) (e : Heap.ExtBut b h h') (n : a ≠ b) : IterB k h' a l i := by
  cases k
  · exact Heap.IsTupleIter.extBut x e n
  · exact Heap.IsListIter.extBut x e n
theorem IterB.to {k : Bool} {h h' : Heap} {a l : Addr} {i : Nat} (x : IterB k h a l i) (e : ∀ o, h.get? a = some o → h'.get? a = some o) : IterB k h' a l i := by
  cases k
  · exact Heap.IsTupleIter.at x e
  · exact Heap.IsListIter.at x e
theorem IterB.obj {k : Bool} {h : Heap} {a l : Addr} {i : Nat} (x : IterB k h a l i) : ∃ o, h.get? a = some o ∧ o.data = .fields #[.ref l, .int i 0] := by
  cases k
  · obtain ⟨o, e1, _, e2⟩ := (show Heap.IsTupleIter h a l i from x)
    exact ⟨o, e1, e2⟩
  · obtain ⟨o, e1, _, e2⟩ := (show Heap.IsListIter h a l i from x)
    exact ⟨o, e1, e2⟩
theorem SeqB.lt {k : Bool} {h : Heap} {a : Addr} {its : Array Value} (x : SeqB k h a its) : a < h.objs.size := by
  cases k
  · obtain ⟨o, e, _⟩ := (show Heap.IsTuple h a its from x)
    exact Heap.lt_size e
  · obtain ⟨o, e, _⟩ := (show Heap.IsList h a its from x)
    exact Heap.lt_size e
section
variable {prog : Program} {A : Around} {E : Value → Shared → Prop} {s : Shared}
theorem next_of {k : Bool} {it l : Addr} {i : Nat} {its : Array Value} {x : Value} {Q : Value → Shared → Prop} (c : IterB k s.heap it l i) (d : SeqB k s.heap l its) (e : its[i]? = some x)
    (q : ∀ h', IterB k h' it l (i + 1) → Heap.SameBut it s.heap h' → Q x { s with heap := h' }) : wpAny (model prog w) A (Builtin.SmallTypes.nextOf (.ref it)) Q E s := by
  cases k
  · exact RZ.nextOf_tuple_item c d e q
  · exact wpAny_nextOf_list_item c d e q
theorem next_no {k : Bool} {it l : Addr} {i : Nat} {its : Array Value} {Q : Value → Shared → Prop} (hh : A.handled = none) (c : IterB k s.heap it l i) (d : SeqB k s.heap l its) (e : its[i]? = none)
    (q : ∀ h' u, Heap.ExtBut it s.heap h' → (∃ o, h'.get? u = some o ∧ o.cls = .type "StopIteration") → E (.ref u) { s with heap := h' }) : wpAny (model prog w) A (Builtin.SmallTypes.nextOf (.ref it)) Q E s := by
  cases k
  · exact RZ.nextOf_tuple_end hh c d e q
  · exact wpAny_nextOf_list_end hh c d e q
/-- one turn: both have an item -/
theorem turn_item {k1 k2 : Bool} {zo ti to j1 j2 a1 a2 : Addr} {i : Nat} {xs ys : Array Value} {x y u v : Value} {Q : Value → Shared → Prop} (D : ZipApart zo ti to j1 j2 a1 a2)
    (cz : IsZip s.heap zo ti to .none) (ci : IsPair s.heap ti (.ref j1) (.ref j2)) (co : IsPair s.heap to u v)
    (c1 : IterB k1 s.heap j1 a1 i) (c2 : IterB k2 s.heap j2 a2 i) (d1 : SeqB k1 s.heap a1 xs) (d2 : SeqB k2 s.heap a2 ys) (ex : xs[i]? = some x) (ey : ys[i]? = some y)
    (q : ∀ h', IsZip h' zo ti to (rawInt s.heap.objs.size) → IsPair h' to x y → IterB k1 h' j1 a1 (i + 1) → IterB k2 h' j2 a2 (i + 1) → IsPair h' s.heap.objs.size x y → h'.objs.size = s.heap.objs.size + 1 →
      (∀ c o, c ≠ zo → c ≠ to → c ≠ j1 → c ≠ j2 → s.heap.get? c = some o → h'.get? c = some o) → Q (.ref s.heap.objs.size) { s with heap := h' }) :
    wpAny (model prog w) A (Builtin.«zip.__next__» ⟨[.ref zo], []⟩) (fun fin st => ∃ r, fin = .done (.ret r) ∧ Q r st) E s := by
  show wpAny _ _ (field (.ref zo) 2 >>= _) _ _ _
  refine wpAny_bind (wpAny_field cz rfl (x := .bool false) rfl ?_); show wpAny _ _ (field (.ref zo) 3 >>= _) _ _ _
  refine wpAny_bind (wpAny_field cz rfl (x := .ref ti) rfl ?_)
  refine wpAny_bind (wpAny_seqItems ci rfl ?_); show wpAny _ _ (Builtin.SmallTypes.ownedTupleIsFree (.ref zo) >>= _) _ _ _
  refine wpAny_bind ?_; unfold Builtin.SmallTypes.ownedTupleIsFree
  refine wpAny_bind (wpAny_field cz rfl (x := .none) rfl (wpAny_pure ?_)); simp only [if_true]
  refine wpAny_bind (wpAny_rule ?_); refine wpAny_bind (wpAny_field cz rfl (x := .ref to) rfl ?_)
  refine wpAny_bind (wpAny_setField_rec cz (by simp) fun g1 z1 s1 => ?_)
  replace z1 : IsZip g1 zo ti to .ellipsis := z1
  refine wpAny_bind ?_; simp only [List.forIn_cons, List.forIn_nil, List.zipIdx_cons, List.zipIdx_nil]
  refine wpAny_bind (wpAny_bind (wpAny_onRaise ?_)); show wpAny _ _ (Builtin.SmallTypes.nextOf (.ref j1) >>= _) _ _ _
  refine wpAny_bind (next_of (c1.over s1.extBut D.i1z) (d1.over s1.extBut D.l1z) ex fun g2 i1 s2 => wpAny_pure ?_)
  have o2 : IsPair g2 to u v := s2.extBut _ _ D.TOi1 (s1.extBut _ _ D.TOz co)
  refine wpAny_bind (wpAny_seqItems o2 rfl ?_); refine wpAny_bind (wpAny_updateSeq_pair o2 fun g3 o3 s3 => ?_)
  replace o3 : IsPair g3 to x v := o3
  refine wpAny_bind (wpAny_letGo (wpAny_pure ?_)); refine wpAny_bind (wpAny_bind (wpAny_onRaise ?_))
  show wpAny _ _ (Builtin.SmallTypes.nextOf (.ref j2) >>= _) _ _ _
  refine wpAny_bind (next_of (((c2.over s1.extBut D.i2z).over s2.extBut D.i12.symm).over s3.extBut D.TOi2.symm) (((d2.over s1.extBut D.l2z).over s2.extBut D.l2i1).over s3.extBut D.l2TO) ey fun g4 i2 s4 => wpAny_pure ?_)
  have o4 : IsPair g4 to x v := s4.extBut _ _ D.TOi2 o3
  refine wpAny_bind (wpAny_seqItems o4 rfl ?_); refine wpAny_bind (wpAny_updateSeq_pair o4 fun g5 o5 s5 => ?_)
  replace o5 : IsPair g5 to x y := o5
  refine wpAny_bind (wpAny_letGo (wpAny_pure (wpAny_pure ?_))); refine wpAny_bind (wpAny_seqItems o5 rfl ?_); refine wpAny_bind (wpAny_newTuple ?_)
  have sz : g5.objs.size = s.heap.objs.size := by rw [s5.1, s4.1, s3.1, s2.1, s1.1]
  have z5 : IsZip g5 zo ti to .ellipsis := s5.extBut _ _ D.TOz.symm (s4.extBut _ _ D.i2z.symm (s3.extBut _ _ D.TOz.symm (s2.extBut _ _ D.i1z.symm z1)))
  have old : ∀ c o, c ≠ zo → c ≠ to → c ≠ j1 → c ≠ j2 → s.heap.get? c = some o → g5.get? c = some o := fun c o n1 n2 n3 n4 e =>
    s5.extBut _ _ n2 (s4.extBut _ _ n4 (s3.extBut _ _ n2 (s2.extBut _ _ n3 (s1.extBut _ _ n1 e))))
  have i5 : IterB k1 g5 j1 a1 (i + 1) := ((i1.over s3.extBut D.TOi1.symm).over s4.extBut D.i12).over s5.extBut D.TOi1.symm
  have i6 : IterB k2 g5 j2 a2 (i + 1) := i2.over s5.extBut D.TOi2.symm
  have lz : zo < g5.objs.size := Heap.lt_size z5
  show wpAny _ _ (Builtin.SmallTypes.ownedTupleHandOut (.ref zo) (.ref g5.objs.size) >>= _) _ _ _
  refine wpAny_bind ?_; unfold Builtin.SmallTypes.ownedTupleHandOut
  have z6 : IsZip (g5.push { cls := .type "tuple", data := .seq #[x, y] }) zo ti to .ellipsis := Heap.get?_push_of_some _ z5
  refine wpAny_bind (wpAny_setField_rec z6 (by simp) fun g7 z7 s7 => ?_)
  replace z7 : IsZip g7 zo ti to (rawInt g5.objs.size) := z7
  refine wpAny_setField_rec z7 (by simp) fun g8 z8 s8 => ?_
  replace z8 : IsZip g8 zo ti to (rawInt g5.objs.size) := z8
  have up : ∀ c o, c ≠ zo → g5.get? c = some o → g8.get? c = some o := fun c o n e => s8.extBut _ _ n (s7.extBut _ _ n (Heap.get?_push_of_some _ e))
  have t8 : IsPair g8 g5.objs.size x y := s8.extBut _ _ (Nat.ne_of_gt lz) (s7.extBut _ _ (Nat.ne_of_gt lz) (Heap.get?_push_size _ rfl))
  have w8 : g8.objs.size = g5.objs.size + 1 := by rw [s8.1, s7.1, Heap.size_push]
  rw [sz] at z8 t8 w8
  refine wpAny_pure ⟨_, rfl, ?_⟩; show Q (.ref g5.objs.size) _
  rw [sz]
  exact q g8 z8 (up _ _ D.TOz o5) (i5.to fun o e => up _ o D.i1z e) (i6.to fun o e => up _ o D.i2z e) t8 w8 fun c o n1 n2 n3 n4 e => up c o n1 (old c o n1 n2 n3 n4 e)
/-- the turn at which one of the two is at its end -/
theorem turn_end {k1 k2 : Bool} {zo ti to j1 j2 a1 a2 : Addr} {i : Nat} {xs ys : Array Value} {u v : Value} {Q : Fin → Shared → Prop} (hh : A.handled = none) (D : ZipApart zo ti to j1 j2 a1 a2)
    (cz : IsZip s.heap zo ti to .none) (ci : IsPair s.heap ti (.ref j1) (.ref j2)) (co : IsPair s.heap to u v)
    (c1 : IterB k1 s.heap j1 a1 i) (c2 : IterB k2 s.heap j2 a2 i) (d1 : SeqB k1 s.heap a1 xs) (d2 : SeqB k2 s.heap a2 ys) (fin : xs[i]? = none ∨ ys[i]? = none)
    (q : ∀ h' r, (∀ c o, c ≠ zo → c ≠ to → c ≠ j1 → c ≠ j2 → s.heap.get? c = some o → h'.get? c = some o) → (∃ o, h'.get? r = some o ∧ o.cls = .type "StopIteration") → E (.ref r) { s with heap := h' }) :
    wpAny (model prog w) A (Builtin.«zip.__next__» ⟨[.ref zo], []⟩) Q E s := by
  show wpAny _ _ (field (.ref zo) 2 >>= _) _ _ _
  refine wpAny_bind (wpAny_field cz rfl (x := .bool false) rfl ?_); show wpAny _ _ (field (.ref zo) 3 >>= _) _ _ _
  refine wpAny_bind (wpAny_field cz rfl (x := .ref ti) rfl ?_)
  refine wpAny_bind (wpAny_seqItems ci rfl ?_); show wpAny _ _ (Builtin.SmallTypes.ownedTupleIsFree (.ref zo) >>= _) _ _ _
  refine wpAny_bind ?_; unfold Builtin.SmallTypes.ownedTupleIsFree
  refine wpAny_bind (wpAny_field cz rfl (x := .none) rfl (wpAny_pure ?_)); simp only [if_true]
  refine wpAny_bind (wpAny_rule ?_); refine wpAny_bind (wpAny_field cz rfl (x := .ref to) rfl ?_)
  refine wpAny_bind (wpAny_setField_rec cz (by simp) fun g1 z1 s1 => ?_)
  replace z1 : IsZip g1 zo ti to .ellipsis := z1
  refine wpAny_bind ?_; simp only [List.forIn_cons, List.forIn_nil, List.zipIdx_cons, List.zipIdx_nil]
  refine wpAny_bind (wpAny_bind (wpAny_onRaise ?_)); show wpAny _ _ (Builtin.SmallTypes.nextOf (.ref j1) >>= _) _ _ _
  cases ex : xs[i]? with
  | none =>
    refine wpAny_bind (next_no hh (c1.over s1.extBut D.i1z) (d1.over s1.extBut D.l1z) ex fun g2 r s2 hr => ?_)
    obtain ⟨or, h1, h2⟩ := hr
    have z2 : IsZip g2 zo ti to .ellipsis := s2 _ _ D.i1z.symm z1
    have n : r ≠ zo := fun e => by
      rw [e, z2] at h1
      cases h1
      simp at h2
    exact wpAny_setField_rec z2 (by simp) fun g3 _ s3 => q g3 r (fun c o n1 _ n3 _ e => s3.extBut _ _ n1 (s2 _ _ n3 (s1.extBut _ _ n1 e))) ⟨or, s3.extBut _ _ n h1, h2⟩
  | some x =>
    have ey : ys[i]? = none := by
      rcases fin with e | e
      · rw [ex] at e; cases e
      · exact e
    refine wpAny_bind (next_of (c1.over s1.extBut D.i1z) (d1.over s1.extBut D.l1z) ex fun g2 i1 s2 => wpAny_pure ?_)
    have o2 : IsPair g2 to u v := s2.extBut _ _ D.TOi1 (s1.extBut _ _ D.TOz co)
    refine wpAny_bind (wpAny_seqItems o2 rfl ?_); refine wpAny_bind (wpAny_updateSeq_pair o2 fun g3 o3 s3 => ?_)
    refine wpAny_bind (wpAny_letGo (wpAny_pure ?_)); refine wpAny_bind (wpAny_bind (wpAny_onRaise ?_))
    show wpAny _ _ (Builtin.SmallTypes.nextOf (.ref j2) >>= _) _ _ _
    refine wpAny_bind (next_no hh (((c2.over s1.extBut D.i2z).over s2.extBut D.i12.symm).over s3.extBut D.TOi2.symm) (((d2.over s1.extBut D.l2z).over s2.extBut D.l2i1).over s3.extBut D.l2TO) ey fun g4 r s4 hr => ?_)
    obtain ⟨or, h1, h2⟩ := hr
    have z4 : IsZip g4 zo ti to .ellipsis := s4 _ _ D.i2z.symm (s3.extBut _ _ D.TOz.symm (s2.extBut _ _ D.i1z.symm z1))
    have n : r ≠ zo := fun e => by
      rw [e, z4] at h1
      cases h1
      simp at h2
    exact wpAny_setField_rec z4 (by simp) fun g5 _ s5 => q g5 r (fun c o n1 n2 n3 n4 e => s5.extBut _ _ n1 (s4 _ _ n4 (s3.extBut _ _ n2 (s2.extBut _ _ n3 (s1.extBut _ _ n1 e))))) ⟨or, s5.extBut _ _ n h1, h2⟩
/-! the zip object made -/
abbrev hz1 (k1 : Bool) (h : Heap) (a1 : Addr) : Heap := h.push { cls := .type (nmI k1), data := .fields #[.ref a1, .int 0 0] }
abbrev hz2 (k1 k2 : Bool) (h : Heap) (a1 a2 : Addr) : Heap := (hz1 k1 h a1).push { cls := .type (nmI k2), data := .fields #[.ref a2, .int 0 0] }
abbrev hz3 (k1 k2 : Bool) (h : Heap) (a1 a2 : Addr) : Heap := (hz2 k1 k2 h a1 a2).push { cls := .type "tuple", data := .seq #[.ref h.objs.size, .ref (hz1 k1 h a1).objs.size] }
abbrev hz4 (k1 k2 : Bool) (h : Heap) (a1 a2 : Addr) : Heap := (hz3 k1 k2 h a1 a2).push { cls := .type "tuple", data := .seq #[.none, .none] }
abbrev hz5 (k1 k2 : Bool) (h : Heap) (a1 a2 : Addr) : Heap := (hz4 k1 k2 h a1 a2).push { cls := .type "zip", data := .fields #[.none, .bool false, .bool false, .ref (hz2 k1 k2 h a1 a2).objs.size, .ref (hz3 k1 k2 h a1 a2).objs.size] }
theorem new_zip (k1 k2 : Bool) (a1 a2 : Addr) (xs ys : Array Value) :
    Meets (Builtin.«zip.__new__» ⟨[.type "zip", .ref a1, .ref a2], []⟩) (fun _ R s => SeqB k1 s.heap a1 xs ∧ SeqB k2 s.heap a2 ys ∧ R (.ok (.ret (.ref (hz4 k1 k2 s.heap a1 a2).objs.size))) { s with heap := hz5 k1 k2 s.heap a1 a2 }) :=
  .of_wp fun prog w A R s hyp => by
    obtain ⟨hp, gs, dr, tk, os⟩ := s
    obtain ⟨e1, e2, fin⟩ := hyp
    have issub := sub_zip
    cases k1 <;> cases k2
    · have f1 : Heap.IsTuple (Shared.heap ⟨hp, gs, dr, tk, os⟩) a1 xs := e1
      have f2 : Heap.IsTuple (Shared.heap ⟨hp.push { cls := .type "tuple_iterator", data := .fields #[.ref a1, .int 0 0] }, gs, dr, tk, os⟩) a2 ys := Heap.IsTuple.push e2 _
      wp_walk using wpAny_pyIter_tuple f1, wpAny_pyIter_tuple f2
      exact ⟨_, rfl, fin⟩
    · have f1 : Heap.IsTuple (Shared.heap ⟨hp, gs, dr, tk, os⟩) a1 xs := e1
      have f2 : Heap.IsList (Shared.heap ⟨hp.push { cls := .type "tuple_iterator", data := .fields #[.ref a1, .int 0 0] }, gs, dr, tk, os⟩) a2 ys := Heap.IsList.push e2 _
      wp_walk using wpAny_pyIter_tuple f1, wpAny_pyIter_list f2
      exact ⟨_, rfl, fin⟩
    · have f1 : Heap.IsList (Shared.heap ⟨hp, gs, dr, tk, os⟩) a1 xs := e1
      have f2 : Heap.IsTuple (Shared.heap ⟨hp.push { cls := .type "list_iterator", data := .fields #[.ref a1, .int 0 0] }, gs, dr, tk, os⟩) a2 ys := Heap.IsTuple.push e2 _
      wp_walk using wpAny_pyIter_list f1, wpAny_pyIter_tuple f2
      exact ⟨_, rfl, fin⟩
    · have f1 : Heap.IsList (Shared.heap ⟨hp, gs, dr, tk, os⟩) a1 xs := e1
      have f2 : Heap.IsList (Shared.heap ⟨hp.push { cls := .type "list_iterator", data := .fields #[.ref a1, .int 0 0] }, gs, dr, tk, os⟩) a2 ys := Heap.IsList.push e2 _
      wp_walk using wpAny_pyIter_list f1, wpAny_pyIter_list f2
      exact ⟨_, rfl, fin⟩
theorem IterB.mk {k : Bool} {h : Heap} {it l : Addr} (e : h.get? it = some { cls := .type (nmI k), data := .fields #[.ref l, .int 0 0] }) : IterB k h it l 0 := by
  cases k
  · exact ⟨_, e, rfl, rfl⟩
  · exact ⟨_, e, rfl, rfl⟩
theorem call_zipB {k1 k2 : Bool} {a1 a2 : Addr} {xs ys : Array Value} {Q : Value → Shared → Prop} (e1 : SeqB k1 s.heap a1 xs) (e2 : SeqB k2 s.heap a2 ys)
    (q : ∀ h', IsZip h' (s.heap.objs.size + 4) (s.heap.objs.size + 2) (s.heap.objs.size + 3) .none → IsPair h' (s.heap.objs.size + 2) (.ref s.heap.objs.size) (.ref (s.heap.objs.size + 1)) → IsPair h' (s.heap.objs.size + 3) .none .none →
      IterB k1 h' s.heap.objs.size a1 0 → IterB k2 h' (s.heap.objs.size + 1) a2 0 → h'.objs.size = s.heap.objs.size + 5 → (∀ c o, s.heap.get? c = some o → h'.get? c = some o) → Q (.ref (s.heap.objs.size + 4)) { s with heap := h' }) :
    wpAny (model prog w) A (call (.type "zip") [.ref a1, .ref a2]) Q E s := by
  refine callType_new F.called_zip (by decide) (F.typeCall_zip_2 _ _) (F.newCall_zip_2 _ _) (fun ob => F.args_object_init_3 ob _ _) F.entry_zip_new (new_zip k1 k2 a1 a2 xs ys) ⟨e1, e2, ?_⟩
  have w1 : (hz1 k1 s.heap a1).objs.size = s.heap.objs.size + 1 := Heap.size_push ..
  have w2 : (hz2 k1 k2 s.heap a1 a2).objs.size = s.heap.objs.size + 2 := by rw [Heap.size_push, w1]
  have w3 : (hz3 k1 k2 s.heap a1 a2).objs.size = s.heap.objs.size + 3 := by rw [Heap.size_push, w2]
  have w4 : (hz4 k1 k2 s.heap a1 a2).objs.size = s.heap.objs.size + 4 := by rw [Heap.size_push, w3]
  have w5 : (hz5 k1 k2 s.heap a1 a2).objs.size = s.heap.objs.size + 5 := by rw [Heap.size_push, w4]
  have g5 : (hz5 k1 k2 s.heap a1 a2).get? (hz4 k1 k2 s.heap a1 a2).objs.size = some _ := Heap.get?_push_size _ rfl
  have g4 : (hz5 k1 k2 s.heap a1 a2).get? (hz3 k1 k2 s.heap a1 a2).objs.size = some _ := Heap.get?_push_of_some _ (Heap.get?_push_size _ rfl)
  have g3 : (hz5 k1 k2 s.heap a1 a2).get? (hz2 k1 k2 s.heap a1 a2).objs.size = some _ := Heap.get?_push_of_some _ (Heap.get?_push_of_some _ (Heap.get?_push_size _ rfl))
  have g2 : (hz5 k1 k2 s.heap a1 a2).get? (hz1 k1 s.heap a1).objs.size = some _ := Heap.get?_push_of_some _ (Heap.get?_push_of_some _ (Heap.get?_push_of_some _ (Heap.get?_push_size _ rfl)))
  have g1 : (hz5 k1 k2 s.heap a1 a2).get? s.heap.objs.size = some _ := Heap.get?_push_of_some _ (Heap.get?_push_of_some _ (Heap.get?_push_of_some _ (Heap.get?_push_of_some _ (Heap.get?_push_size _ rfl))))
  show _ ∧ _
  rw [w2, w3, w4] at g5
  rw [w1, w2] at g3
  rw [w3] at g4
  rw [w1] at g2
  rw [w4]
  exact ⟨⟨_, g5, rfl⟩, q _ g5 g3 g4 (IterB.mk g1) (IterB.mk g2) w5 fun c o e => Heap.get?_push_of_some _ (Heap.get?_push_of_some _ (Heap.get?_push_of_some _ (Heap.get?_push_of_some _ (Heap.get?_push_of_some _ e))))⟩
end
/-! the walk over it -/
theorem seqB_of {X : Cx} {pins : List (Addr × Obj)} {σ : L2.St} {H : Hp} {s : Shared} {k : Bool} {a : Addr} {xs : List V} (I : Inv X pins σ H s) (h : SqB X.K k H a xs) : ∃ its : List Value, Vals xs its ∧ SeqB k s.heap a its.toArray := by
  cases k
  · obtain ⟨its, r, p, _⟩ := I.tuple h
    exact ⟨its, r, p⟩
  · obtain ⟨its, r, p, _⟩ := I.list h
    exact ⟨its, r, p.isList⟩
theorem seqB_one {X : Cx} {pins : List (Addr × Obj)} {σ : L2.St} {H : Hp} {s : Shared} {k : Bool} {a : Addr} {xs ys : List V} (I : Inv X pins σ H s) (h : SqB X.K k H a xs) (h' : SqB X.K k H a ys) : xs = ys := by
  cases k
  · exact I.tuple_inj h h'
  · exact I.list_inj h h'
/-- the sequences at a and b as they stand at each turn, their items in new pairs -/
def ItzB (K : PySem.W.Frag) (k1 k2 : Bool) (a b : Addr) : It :=
  ⟨fun i H => ∃ (xs ys : List V) (x y : V), SqB K k1 H a xs ∧ SqB K k2 H b ys ∧ xs[i]? = some x ∧ ys[i]? = some y,
    fun i H v H' => ∃ T x y, v = .ref T ∧ H T = none ∧ H' = upd H T (.tup [x, y]) ∧ (∀ xs, SqB K k1 H a xs → xs[i]? = some x) ∧ ∀ ys, SqB K k2 H b ys → ys[i]? = some y,
    fun i H => ∃ xs ys : List V, SqB K k1 H a xs ∧ SqB K k2 H b ys ∧ (xs.length ≤ i ∨ ys.length ≤ i)⟩
theorem turn_zipB {k1 k2 : Bool} {elts : List Expr} {kk : Nat} {tpos : Pos} {a b zo ti to j1 j2 : Addr} (D : ZipApart zo ti to j1 j2 a b) :
    Turn P w K (.Tuple elts kk tpos) (ItzB K k1 k2 a b) [zo, ti, to, j1, j2] zo (fun i h => IsZip h zo ti to .none ∧ IsPair h ti (.ref j1) (.ref j2) ∧ (∃ x y, IsPair h to x y) ∧ IterB k1 h j1 a i ∧ IterB k2 h j2 b i) where
  mem := by simp
  obj := fun i h ⟨cz, ci, ⟨x, y, co⟩, c1, c2⟩ c hc => by
    have e : c = zo ∨ c = ti ∨ c = to ∨ c = j1 ∨ c = j2 := by simpa using hc
    rcases e with e | e | e | e | e
    · rw [e]; exact ⟨_, cz, fun v z => nomatch z⟩
    · rw [e]; exact ⟨_, ci, fun v z => nomatch z⟩
    · rw [e]; exact ⟨_, co, fun v z => nomatch z⟩
    · obtain ⟨o, e1, e2⟩ := c1.obj
      exact ⟨o, e ▸ e1, fun v z => by rw [e2] at z; cases z⟩
    · obtain ⟨o, e1, e2⟩ := c2.obj
      exact ⟨o, e ▸ e1, fun v z => by rw [e2] at z; cases z⟩
  keep := fun i h h' ⟨cz, ci, ⟨x, y, co⟩, c1, c2⟩ kp =>
    ⟨kp zo (by simp) _ cz, kp ti (by simp) _ ci, ⟨x, y, kp to (by simp) _ co⟩, c1.to fun o z => kp j1 (by simp) o z, c2.to fun o z => kp j2 (by simp) o z⟩
  item := by
    intro X e1 e2 e3 calm i pins s σ H E I free st go
    subst e1 e2 e3
    obtain ⟨cz, ci, ⟨x0, y0, co⟩, c1, c2⟩ := st
    obtain ⟨xs, ys, x, y, qx, qy, hx, hy⟩ := go
    obtain ⟨its, rv, p⟩ := seqB_of I qx
    obtain ⟨jts, rv2, p2⟩ := seqB_of I qy
    obtain ⟨u, hu, ru⟩ := rv.get hx
    obtain ⟨v, hv, rv'⟩ := rv2.get hy
    have lz : zo < s.heap.objs.size := Heap.lt_size cz
    have typ : s.TypeIs (.ref zo) "zip" := ⟨_, cz, rfl⟩
    unfold pyNext
    refine wpAny_bind (wpAny_attempt (wpAny_callSpecial?_slot (name := Str.ofString "__next__") typ F.slot_zip_next (wpAny_call_entry F.slot_zip_next typ F.entry_zip_next (turn_item D cz ci co c1 c2 p p2 (x := u) (y := v) (by simpa using hu) (by simpa using hv) fun g z' o' i1 i2 pr sz kp => wpAny_pure ?_) (F.args_zip_next_1 _))))
    refine ⟨_, rfl, wpAny_letOwnedTupleGo_zip (s := { s with heap := g }) z' fun g' z'' sb => ?_⟩
    have pr2 : g'.get? s.heap.objs.size = some { cls := .type "tuple", data := .seq #[u, v] } := (sb.2 _ (Nat.ne_of_gt lz)).trans pr
    have fresh : ObjOk X.prog X.w (upd H s.heap.objs.size (.tup [x, y])) g' s.heap.objs.size (.tup [x, y]) := ⟨by show 2 ≤ sizeLine; decide, [u, v], .cons ru (.cons rv' .nil), ⟨_, pr2, rfl, _, rfl⟩⟩
    have J : Inv X pins σ (upd H s.heap.objs.size (.tup [x, y])) { s with heap := g' } :=
      I.turnedNew (t' := s.toks) (ch := [zo, ti, to, j1, j2]) (fun c o n e => by
        simp only [List.mem_cons, List.not_mem_nil, or_false, not_or] at n
        exact (sb.2 c n.1).trans (kp c o n.1 n.2.2.1 n.2.2.2.1 n.2.2.2.2 e)) free (Nat.le_refl _) fresh
    refine ⟨.ref s.heap.objs.size, _, J, rfl, ⟨_, x, y, rfl, I.hok.fresh (Nat.le_refl _), rfl, fun l hl => by rw [seqB_one I hl qx]; exact hx, fun l hl => by rw [seqB_one I hl qy]; exact hy⟩,
      ⟨z'', (sb.2 _ D.TIz).trans (kp _ _ D.TIz D.TITO D.TIi1 D.TIi2 ci), ⟨u, v, (sb.2 _ D.TOz).trans o'⟩, i1.to fun o z => (sb.2 _ D.i1z).trans z, i2.to fun o z => (sb.2 _ D.i2z).trans z⟩, fun c hc => ?_⟩
    have lc : c < s.heap.objs.size := by
      have e : c = zo ∨ c = ti ∨ c = to ∨ c = j1 ∨ c = j2 := by simpa using hc
      rcases e with e | e | e | e | e
      · exact e ▸ lz
      · exact e ▸ Heap.lt_size ci
      · exact e ▸ Heap.lt_size co
      · obtain ⟨o, z, _⟩ := c1.obj
        exact e ▸ Heap.lt_size z
      · obtain ⟨o, z, _⟩ := c2.obj
        exact e ▸ Heap.lt_size z
    rw [upd_ne (Nat.ne_of_lt lc)]
    exact (free c hc).1
  done := by
    intro X e1 e2 e3 calm i pins s σ H E I free st stop
    subst e1 e2 e3
    obtain ⟨cz, ci, ⟨x0, y0, co⟩, c1, c2⟩ := st
    obtain ⟨xs, ys, qx, qy, fin⟩ := stop
    obtain ⟨its, rv, p⟩ := seqB_of I qx
    obtain ⟨jts, rv2, p2⟩ := seqB_of I qy
    have n1 := rv.length
    have n2 := rv2.length
    have fin2 : its.toArray[i]? = none ∨ jts.toArray[i]? = none := by
      rcases fin with e | e
      · exact .inl (by simp; omega)
      · exact .inr (by simp; omega)
    have typ : s.TypeIs (.ref zo) "zip" := ⟨_, cz, rfl⟩
    unfold pyNext
    refine wpAny_bind (wpAny_attempt (wpAny_callSpecial?_slot (name := Str.ofString "__next__") typ F.slot_zip_next (wpAny_call_entry F.slot_zip_next typ F.entry_zip_next (turn_end (I.ok.hd calm) D cz ci co c1 c2 p p2 fin2 fun g r kp hr => ?_) (F.args_zip_next_1 _))))
    obtain ⟨o, h1, h2⟩ := hr
    refine wpAny_bind (wpAny_isInstance (T := "StopIteration") (b := true) ⟨o, h1, h2⟩ isSubtype_stop ?_)
    refine wpAny_pure ⟨rfl, I.turnedL (t' := s.toks) (ch := [zo, ti, to, j1, j2]) (fun c o n e => ?_) free⟩
    simp only [List.mem_cons, List.not_mem_nil, or_false, not_or] at n
    exact kp c o n.1 n.2.2.1 n.2.2.2.1 n.2.2.2.2 e
  self := fun A i s Q E st h => wpAny_pyIter_zip st.1 h
def iZipB (K : PySem.W.Frag) (ta : TA) : TI := fun σ H R => ta σ H fun vs H1 => ∃ (k1 k2 : Bool) (a b : Addr) (xs ys : List V), vs = [.ref a, .ref b] ∧ SqB K k1 H1 a xs ∧ SqB K k2 H1 b ys ∧ R (ItzB K k1 k2 a b) H1
theorem pi_zipB {X : Cx} {e e2 : Expr} {ta : TA} {p pos tpos : Pos} {elts : List Expr} {kk : Nat} (gl : Gl X "zip") (no : X.mg "zip" = none) (pa : PA X [e, e2] ta)
    (h1 : starEach [e, e2] X.env = (false, eval e X.env) :: starEach [e2] X.env := by rfl) (h2 : (backTo pos (starEach [e2] X.env)).any (·.1) = false := by rfl) : PI X (.Tuple elts kk tpos) (.Call (.Name "zip" p) [e, e2] [] pos) (iZipB X.K ta) := by
  constructor
  intro pins s σ H R I h
  refine Call_ (ld_blt I gl no PyProof.Rows.boot_zip (PyProof.Rows.callWith_type1 (thn (pa.run pos pins s σ H _ I h) fun us st z => ?_) h1 h2))
  obtain ⟨vs, H1, J, rel, k1, k2, a, b, xs, ys, rfl, qx, qy, fin⟩ := z
  obtain ⟨u1, u2, rfl, ra, rb⟩ := vals2 rel
  cases ra
  cases rb
  obtain ⟨its, rv, p1⟩ := seqB_of J qx
  obtain ⟨jts, rv2, p2⟩ := seqB_of J qy
  refine call_zipB p1 p2 fun g cz ci co c1 c2 sz kp => wpAny_pyIter_zip cz ?_
  have J2 : Inv X pins σ H1 { st with heap := g } := J.kept (t' := st.toks) kp
  refine ⟨st.heap.objs.size + 4, [st.heap.objs.size + 4, st.heap.objs.size + 2, st.heap.objs.size + 3, st.heap.objs.size, st.heap.objs.size + 1], _, _, H1, rfl, J2, turn_zipB (PySem.W.ktu_apart st.heap.objs.size a b p1.lt p2.lt), ⟨cz, ci, ⟨_, _, co⟩, c1, c2⟩, fun c hc => ?_, fin⟩
  have le : st.heap.objs.size ≤ c := by
    simp only [List.mem_cons, List.not_mem_nil, or_false] at hc
    rcases hc with e | e | e | e | e <;> (rw [e]; first | exact Nat.le_add_right _ _ | exact Nat.le_refl _)
  exact J.fpOk le (J.hok.fresh le)
theorem walk_zipB {k1 k2 : Bool} {a b : Addr} {xs ys : List V} {n : Nat} (hn : n = min xs.length ys.length) : Walk (ItzB K k1 k2 a b) n (fun H => SqB K k1 H a xs ∧ SqB K k2 H b ys) (YPair (fun i => xs[i]?) (fun i => ys[i]?)) where
  goes := fun i H hi q => by
    have l1 : i < xs.length := by omega
    have l2 : i < ys.length := by omega
    exact ⟨xs, ys, xs[i], ys[i], q.1, q.2, List.getElem?_eq_getElem l1, List.getElem?_eq_getElem l2⟩
  stops := fun H q => ⟨xs, ys, q.1, q.2, by omega⟩
  yields := fun i H v H' _ q y => by
    obtain ⟨T, x, z, h1, h2, h3, h4, h5⟩ := y
    exact ⟨T, x, z, h1, h2, h3, h4 xs q.1, h5 ys q.2⟩
/-! ### own errors: facts of a class, isinstance of a caught one, calls with keywords that may raise -/
/-- what stands of an own error class at C, over ValueError -/
structure XC (K : PySem.W.Frag) (C : Addr) : Prop where
  x : PySem.W.excIn K C [.type "ValueError", .type "Exception", .type "BaseException", .type "object"] "ValueError.__new__" = true
  k : PySem.W.keepIn K (.ref C) = true
  t : PySem.W.typeIn K (.ref C) = some (.type "type")
  cl : PySem.W.isClsIn K C = true
  s : PySem.W.subIn K (.ref C) (.ref C) = some true
  v : PySem.W.subIn K (.ref C) (.type "ValueError") = some true
  hg : PySem.W.findIn K (.ref C) "__getattribute__" = some (some (.builtin "BaseException.__getattribute__"))
  hk : PySem.W.findIn K (.ref C) "__getattr__" = some none
  hs : PySem.W.subIn K (.ref C) (.type "BaseException") = some true
  hd : PySem.W.hasDictIn K C = true
  ha : PySem.W.findIn K (.ref C) "__class__" = some (some (.builtin "object.__class__"))
  hn : PySem.W.specialIn K (.builtin "object.__class__") "__get__" = some (some (.builtin "getset_descriptor.__get__"))
  ht : PySem.W.takesIn K (.builtin "object.__class__") = some true
  hm : PySem.W.mroIn K C (.type "object") = some true
theorem XC.ec {C : Addr} (x : XC K C) : ExcC K C := ⟨x.hg, x.hk, x.hs, x.hd, x.ha, x.hn, x.ht, x.hm⟩
theorem XC.exm {C D : Addr} {b : Bool} (x : XC K C) (h : PySem.W.subIn K (.ref D) (.ref C) = some b) : PySem.W.exmOne K (.ref D) (.ref C) = some b := PySem.W.exm_ref x.hs x.hd x.t h
theorem XC.kit {C : Addr} {t : Value} {b : Bool} (x : XC K C) (h : PySem.W.subIn K t (.ref C) = some b) : PySem.W.kitOne K t (.ref C) = some b := by
  unfold PySem.W.kitOne
  by_cases e : (t == .ref C) = true
  · rw [if_pos e]
    have e2 := beq_iff_eq.mp e
    rw [e2, x.s] at h
    exact h
  · rw [if_neg e]
    have h2 : (PySem.W.clsIn K C).isSome = true := x.cl
    have h3 : ((PySem.W.clsIn K C).isSome && PySem.W.typeIn K (.ref C) == some (.type "type")) = true := by
      rw [h2, x.t]
      rfl
    show (if ((PySem.W.clsIn K C).isSome && PySem.W.typeIn K (.ref C) == some (.type "type")) = true then PySem.W.subIn K t (.ref C) else none) = some b
    rw [if_pos h3]
    exact h
theorem XC.kitV {C : Addr} (x : XC K C) : PySem.W.kitOne K (.ref C) (.type "ValueError") = some true := by
  unfold PySem.W.kitOne
  rw [if_neg (by simp)]
  show (if PySem.W.kitMeta "ValueError" = true then PySem.W.subIn K (.ref C) (.type "ValueError") else none) = some true
  rw [if_pos (by decide +kernel)]
  exact x.v
/-- isinstance of the error that the suite holds, its class told in the reading -/
def rIsX (K : PySem.W.Frag) (cls : Value) (d : Option Addr) (a : Addr) : List V → Hp → VK → Prop := fun xs H Q => ∃ (D : Addr) (c : V) (cv : Value) (b : Bool), cls = .ref D ∧ d = none ∧ XC K D ∧ xs = [.ref a, c] ∧ ClsV c cv ∧ PySem.W.kitOne K (.ref D) cv = some b ∧ Q (.bl b) H
theorem call_isX {X : Cx} {a : Addr} {oe : Obj} {pn : List (Addr × Obj)} {cls : Value} {d : Option Addr} (hz : Zc cls d oe) (hf : ∃ vs, oe.data = .fields vs) : CallR (X.suite a ((a, oe) :: pn)) (.builtin "isinstance") (rIsX X.K cls d a) := by
  intro pins st σ H xs us Q inv rel ⟨D, c, cv, b, e1, e2, C, e3, cc, e4, q⟩
  subst e1 e2
  exact call_isE C.ec hz hf pins st σ H xs us Q inv rel ⟨c, cv, b, e3, fun u r => cc.eq r, e4, q⟩
/-- f(e, .., k = v, ..), what is raised wished for at the caller's slots -/
def tKwS (n m : Nat) (sp : Sp) (gV : List V → List V → List V) (E : L2.St → XK) (t tk : TA) : TE := fun σ H Q => t σ H fun vs H1 => tk σ H1 fun zs H2 => vs.length = n ∧ zs.length = m ∧ sp (gV vs zs) H2 Q (E σ)
theorem pe_kwS {X : Cx} {CX : CXT} {k n : Nat} {f : Addr} {fd : FuncData} {ps ks : List Str} {sp : Sp} {E : L2.St → XK} {x : Str} {p pos : Pos} {e : Expr} {es : List Expr} {kws : List Keyword} {t tk : TA} {g : List Value → List Value → List Value} {gV : List V → List V → List V}
    (G : FnOk X.prog X.w X.K X.mg X.base CX k f fd ps sp) (room : Room k X.A) (gl : Gl X x) (gm : X.mg x = some (.ref f)) (kp : PySem.W.keepIn X.K (.ref f) = true) (kb : KBn X.K fd ps n ks g gV) (out : ∀ σ, PassesAt CX X σ (E σ))
    (pa : PA X (e :: es) t) (pk : PK X kws tk) (h1 : (backToKw pos (keywordEach kws X.env)).all (·.1.isSome) = true := by rfl) (h2 : (backToKw pos (keywordEach kws X.env)).filterMap (·.1) = ks := by rfl)
    (h3 : (x == ("__debug__" : Str)) = false := by decide) (h4 : starEach (e :: es) X.env = (false, eval e X.env) :: starEach es X.env := by rfl)
    (h5 : ((backTo pos (starEach (e :: es) X.env)).any (·.1) || (backToKw pos (keywordEach kws X.env)).any (·.1.isNone)) = false := by rfl) :
    PE X (.Call (.Name x p) (e :: es) kws pos) (tKwS n ks.length sp gV E t tk) := by
  constructor
  intro pins st σ H Q inv z
  refine wpAny_Call_Name_kw (ld_glob inv gl gm ?_ h3)
  refine PySem.W.callWith_KW (h₀ := X.base) inv.ok.mod.kin kp h1 (thn (pa.run pos pins st σ H _ inv z) fun us s1 z1 => ?_) h5 h4
  obtain ⟨vs, H1, inv1, r1, z2⟩ := z1
  refine thn (pk.run pos pins s1 σ H1 _ inv1 z2) fun ws s2 z3 => ?_
  obtain ⟨zs, H2, inv2, r2, l1, l2, z4⟩ := z3
  refine ⟨inv2.kIn, ?_⟩
  rw [h2]
  have b := kb.to s2 us ws inv2.kIn (r1.length.symm.trans l1) (r2.length.symm.trans l2)
  refine wpAny_call (codeAny_mono (G.run X.A X.stack s2 H2 ⟨us, ks.zip ws⟩ (g us ws) (gV vs zs) Q (E σ) room inv2.env0 b (kb.rel r1 r2) z4) fun res st3 fin => ?_)
  rcases res with err | flow
  · exact out σ pins H2 s2 err st3 inv2 fin
  · rcases flow with _ | u | _ | _
    all_goals first | exact False.elim fin | exact inv2.after fin
end

/-! The program's text by places, and what its top leaves. -/
def topS (i : Nat) : Stmt := PySem.Challenge.pw_barswoven_k01_field.main.body.getD i (.Pass ⟨0, 0, 0, 0⟩)
abbrev s_is_base : Stmt := topS 6
abbrev s_inverse_of : Stmt := topS 7
abbrev s_dot : Stmt := topS 8
abbrev s_law_cell : Stmt := topS 10
abbrev s_law_draws : Stmt := topS 11
abbrev s_law_next : Stmt := topS 12
abbrev s_law_is_prime : Stmt := topS 13
abbrev s_law_prime : Stmt := topS 14
abbrev s_law_same : Stmt := topS 15
abbrev s_law_has_no_inverse : Stmt := topS 16
abbrev s_law : Stmt := topS 17
abbrev i_WovenError : Nat := 0
abbrev i_NoInverse : Nat := 1
abbrev i_InvalidMatrix : Nat := 2
abbrev i_BASES : Nat := 3
abbrev i_is_base : Nat := 4
abbrev i_inverse_of : Nat := 5
abbrev i_dot : Nat := 6
abbrev i_law_cell : Nat := 7
abbrev i_law_draws : Nat := 8
abbrev i_law_next : Nat := 9
abbrev i_law_is_prime : Nat := 10
abbrev i_law_prime : Nat := 11
abbrev i_law_same : Nat := 12
abbrev i_law_has_no_inverse : Nat := 13
abbrev i_law : Nat := 14
structure TX (K : PySem.W.Frag) (mg : Str → Option Value) (a : Nat → Addr) (d : Nat → FuncData) : Prop where
  B : BI mg
  g_WovenError : mg "WovenError" = some (.ref (a 0))
  x_WovenError : XC K (a 0)
  g_NoInverse : mg "NoInverse" = some (.ref (a 1))
  x_NoInverse : XC K (a 1)
  g_InvalidMatrix : mg "InvalidMatrix" = some (.ref (a 2))
  x_InvalidMatrix : XC K (a 2)
  g_BASES : mg "BASES" = some (.ref (a 3))
  h_BASES : ∀ H, SqT K H (a 3) (vI ([2, 3, 5, 7, 11, 13, 17, 19, 23, 29, 31, 37, 41, 43, 47, 53, 59, 61, 67, 71, 73, 79, 83, 89, 97] : List Int))
  F_is_base : Fun K "is_base" "is_base" s_is_base (a 4) (d 4)
  g_is_base : mg "is_base" = some (.ref (a 4))
  b_is_base : Binds K (d 4) ["number"] []
  F_inverse_of : Fun K "inverse_of" "inverse_of" s_inverse_of (a 5) (d 5)
  g_inverse_of : mg "inverse_of" = some (.ref (a 5))
  F_dot : Fun K "dot" "dot" s_dot (a 6) (d 6)
  g_dot : mg "dot" = some (.ref (a 6))
  F_law_cell : Fun K "_law_cell" "_law_cell" s_law_cell (a 7) (d 7)
  g_law_cell : mg "_law_cell" = some (.ref (a 7))
  b_law_cell : Binds K (d 7) ["script", "k"] []
  F_law_draws : Fun K "_law_draws" "_law_draws" s_law_draws (a 8) (d 8)
  g_law_draws : mg "_law_draws" = some (.ref (a 8))
  b_law_draws : Binds K (d 8) ["cell"] []
  F_law_next : Fun K "_law_next" "_law_next" s_law_next (a 9) (d 9)
  g_law_next : mg "_law_next" = some (.ref (a 9))
  b_law_next : Binds K (d 9) ["draws", "many"] []
  F_law_is_prime : Fun K "_law_is_prime" "_law_is_prime" s_law_is_prime (a 10) (d 10)
  g_law_is_prime : mg "_law_is_prime" = some (.ref (a 10))
  b_law_is_prime : Binds K (d 10) ["number"] []
  F_law_prime : Fun K "_law_prime" "_law_prime" s_law_prime (a 11) (d 11)
  g_law_prime : mg "_law_prime" = some (.ref (a 11))
  b_law_prime : Binds K (d 11) ["draws"] []
  F_law_same : Fun K "_law_same" "_law_same" s_law_same (a 12) (d 12)
  g_law_same : mg "_law_same" = some (.ref (a 12))
  b_law_same : Binds K (d 12) ["actual", "expected"] []
  F_law_has_no_inverse : Fun K "_law_has_no_inverse" "_law_has_no_inverse" s_law_has_no_inverse (a 13) (d 13)
  g_law_has_no_inverse : mg "_law_has_no_inverse" = some (.ref (a 13))
  b_law_has_no_inverse : Binds K (d 13) ["base"] []
  F_law : Fun K "law" "law" s_law (a 14) (d 14)
  g_law : mg "law" = some (.ref (a 14))
  b_law : Binds K (d 14) ["script"] []
  s_WovenError_NoInverse : PySem.W.subIn K (.ref (a 0)) (.ref (a 1)) = some false
  s_WovenError_InvalidMatrix : PySem.W.subIn K (.ref (a 0)) (.ref (a 2)) = some false
  s_NoInverse_WovenError : PySem.W.subIn K (.ref (a 1)) (.ref (a 0)) = some true
  s_NoInverse_InvalidMatrix : PySem.W.subIn K (.ref (a 1)) (.ref (a 2)) = some false
  s_InvalidMatrix_WovenError : PySem.W.subIn K (.ref (a 2)) (.ref (a 0)) = some true
  s_InvalidMatrix_NoInverse : PySem.W.subIn K (.ref (a 2)) (.ref (a 1)) = some false
section
variable {P : Program} {w : World} {K : PySem.W.Frag} {mg : Str → Option Value} {base : Heap}
/-! ### _law_cell -/
def spCell (K : PySem.W.Frag) : Sp := fun vs H Q _ => ∃ (a : Addr) (ns : List Int) (k : Nat), vs = [.ref a, .int (k : Int)] ∧ SqL K H a (vI ns) ∧ ∀ z : Int, Q (.int z) H
theorem sc_cell : FnScope ["script", "k"] ["script", "k"] (defScope s_law_cell) := ⟨rfl, rfl, rfl, by decide +kernel, rfl, by decide +kernel, by decide +kernel⟩
theorem ok_cell {f : Addr} {fd : FuncData} (F : Fun K "_law_cell" "_law_cell" s_law_cell f fd) (B : BI mg) : FnOk P w K mg base CX0 1 f fd ["script", "k"] (spCell K) := by
  refine F.ok sc_cell (fun vs H Q E h => ?_) (fun cdv A outer s H vs Q E hr h => ?_)
  · obtain ⟨a, ns, k, rfl, _⟩ := h
    rfl
  · obtain ⟨a, ns, k, rfl, hS, q⟩ := h
    refine ⟨_, pss_cons (ps_if (pt_cmpR op_lt (pv 1) (pe_callB call_len_seq (by rfl) B.len PySem.boot_len (pa_cons (pv 0) pa_nil)) (nomark _)) (pss_one (ps_ret (pe_ix ix_list (pv 0) (pv 1) (fun _ _ => rfl)))) pss_nil)
      (pss_one (ps_ret pe_int)), ?_⟩
    refine ⟨_, rfl, _, rfl, a, _, rfl, .inl hS, _, _, rfl, rfl, _, rfl, ?_⟩
    refine ite2 (fun c => ?_) (fun _ => q 0)
    have c1 : k < ns.length := by
      have z := of_decide_eq_true c
      rw [List.length_map] at z
      omega
    exact ⟨_, rfl, _, rfl, a, _, _, _, rfl, rfl, hS, atI_nat (ints_at c1), q _⟩
/-! ### _law_next -/
def spNext : Sp := fun vs H Q _ => ∃ (d r : Addr) (c : Nat) (many : Int), vs = [.ref d, .int many] ∧ Dr H d r c ∧ c ≤ 100000 ∧ 0 < many ∧
  ∀ (z : Int) (H' : Hp), 0 ≤ z → z < many → KeepBut d H H' → Dr H' d r (c + 1) → Q (.int z) H'
theorem sc_next : FnScope ["draws", "many", "row", "at"] ["draws", "many"] (defScope s_law_next) := ⟨rfl, rfl, rfl, by decide +kernel, rfl, by decide +kernel, by decide +kernel⟩
theorem ok_next {f : Addr} {fd : FuncData} (F : Fun K "_law_next" "_law_next" s_law_next f fd) (B : BI mg) : FnOk P w K mg base CX0 1 f fd ["draws", "many"] spNext := by
  refine F.ok sc_next (fun vs H Q E h => ?_) (fun cdv A outer s H vs Q E hr h => ?_)
  · obtain ⟨d, r, c, many, rfl, _⟩ := h
    rfl
  · obtain ⟨d, r, c, many, rfl, ⟨hne, hd, ns, hrow, hlen⟩, hc, hm, q⟩ := h
    refine ⟨_, pss_cons (ps_set (i := 2) sc_next.nd rfl (Or.inl rfl) (pe_ix ix_list (pv 0) pe_int (fun _ _ => rfl)))
      (pss_cons (ps_set (i := 3) sc_next.nd rfl (Or.inl rfl) (pe_ix ix_list (pv 0) pe_int (fun _ _ => rfl)))
      (pss_cons (ps_asg (pe_op op_add (pv 3) pe_int) (pg_sub (pv 0) pe_int set_list))
      (pss_cons (ps_if (pt_cmpR op_lt (pv 3) (pe_callB call_len_seq (by rfl) B.len PySem.boot_len (pa_cons (pv 2) pa_nil)) (nomark _))
        (pss_one (ps_ret (pe_op op_mod (pe_callTy call_int1 (by rfl) B.int (by decide +kernel) (pa_cons (pe_ix ix_list (pv 2) (pv 3) (fun _ _ => rfl)) pa_nil)) (pv 1)))) pss_nil)
      (pss_one (ps_ret (pe_op op_mod (pe_callTy call_int1 (by rfl) B.int (by decide +kernel) (pa_cons (pe_op op_add (pe_op op_mul (pe_op op_mul (pv 3) (pv 3)) pe_int) (pv 3)) pa_nil)) (pv 1))))))), ?_⟩
    have k1 : KeepBut d H (upd H d (.lst [.ref r, .int ((c : Int) + 1)])) := fun b o n e => by
      rw [upd_ne n]
      exact e
    have d1 : Dr (upd H d (.lst [.ref r, .int ((c : Int) + 1)])) d r (c + 1) := ⟨hne, upd_same, ns, by rw [upd_ne hne]; exact hrow, hlen⟩
    have hrow1 : (upd H d (.lst [.ref r, .int ((c : Int) + 1)])) r = some (.lst (vI ns)) := by
      rw [upd_ne hne]
      exact hrow
    have fin : ∀ z : Int, Q (.int (z % many)) (upd H d (.lst [.ref r, .int ((c : Int) + 1)])) := fun z =>
      q _ _ (Int.emod_nonneg z (Int.ne_of_gt hm)) (Int.emod_lt_of_pos z hm) k1 d1
    refine ⟨_, rfl, d, _, _, _, rfl, rfl, SqL.of hd, atI_nat (j := 0) rfl, ?_⟩
    refine ⟨_, rfl, d, _, _, _, rfl, rfl, SqL.of hd, atI_nat (j := 1) rfl, ?_⟩
    refine ⟨_, rfl, _, _, rfl, rfl, _, rfl, d, _, 1, 1, rfl, rfl, hd, rfl, ?_⟩
    refine ⟨_, rfl, _, rfl, r, _, rfl, .inl (SqL.of hrow1), _, _, rfl, rfl, _, rfl, ?_⟩
    refine ite2 (fun e => ?_) (fun _ => ?_)
    · have c1 : c < ns.length := by
        have z := of_decide_eq_true e
        rw [List.length_map] at z
        omega
      exact ⟨_, rfl, _, rfl, r, _, _, _, rfl, rfl, SqL.of hrow1, atI_nat (ints_at c1), .inl ⟨_, rfl, _, rfl, _, _, rfl, rfl, hm, fin _⟩⟩
    · refine ⟨_, rfl, _, rfl, _, _, rfl, rfl, .inl ⟨by omega, by omega⟩, _, _, rfl, rfl, .inr (by decide), _, rfl, _, _, rfl, rfl, .inl ⟨_, rfl, _, rfl, _, _, rfl, rfl, hm, fin _⟩⟩
/-! ### _law_draws -/
def spDraws : Sp := fun vs H Q _ => ∃ z : Int, vs = [.int z] ∧ ∀ (H' : Hp) (d r : Addr), Same H H' → H d = none → Dr H' d r 0 → Q (.ref d) H'
theorem sc_draws : FnScope ["cell", "row", "rest", "mixed", "is_great", "k"] ["cell"] (defScope s_law_draws) := ⟨rfl, rfl, rfl, by decide +kernel, rfl, by decide +kernel, by decide +kernel⟩
theorem ok_draws {f : Addr} {fd : FuncData} (F : Fun K "_law_draws" "_law_draws" s_law_draws f fd) (B : BI mg) : FnOk P w K mg base CX0 1 f fd ["cell"] spDraws := by
  refine F.ok sc_draws (fun vs H Q E h => ?_) (fun cdv A outer s H vs Q E hr h => ?_)
  · obtain ⟨z, rfl, _⟩ := h
    rfl
  · obtain ⟨z, rfl, q⟩ := h
    refine ⟨_, pss_cons (ps_set (i := 1) sc_draws.nd rfl (Or.inl rfl) (pe_lst pa_nil))
      (pss_cons (ps_set (i := 2) sc_draws.nd rfl (Or.inl rfl) (pe_callB call_abs (by rfl) B.abs (by decide +kernel) (pa_cons (pv 0) pa_nil)))
      (pss_cons (ps_set (i := 3) sc_draws.nd rfl (Or.inl rfl) (pe_op op_mod (pe_callTy call_int1 (by rfl) B.int (by decide +kernel) (pa_cons (pv 2) pa_nil)) pe_int))
      (pss_cons (ps_set (i := 4) sc_draws.nd rfl (Or.inl rfl) (pe_cmpR op_ge (pv 2) (pe_op op_pow pe_int pe_int) (nomark _)))
      (pss_cons (ps_for PassesOwn.never rfl (pi_range1 (by rfl) B.range (pa_cons pe_int pa_nil)) (pg_name (i := 5) sc_draws.nd rfl (Or.inl rfl))
        (pss_one (ps_if (PW.pt (pw_and (pt_val (pv 4)) (pw_and1 (pt_cmpR op_gt (pv 2) pe_int (nomark _)))))
          (pss_cons (ps_expr (pe_bm PySem.F.plainAttrs_list PySem.F.slot_list_append PySem.F.type_list_append mt_append (pv 1) (pa_cons (pe_op op_mod (pe_callTy call_int1 (by rfl) B.int (by decide +kernel) (pa_cons (pv 2) pa_nil)) pe_int) pa_nil)))
          (pss_one (ps_set (i := 2) sc_draws.nd rfl (Or.inl rfl) (pe_op op_fdiv (pv 2) pe_int))))
          (pss_cons (ps_set (i := 3) sc_draws.nd rfl (Or.inl rfl) (pe_op op_mod (pe_callTy call_int1 (by rfl) B.int (by decide +kernel) (pa_cons (pe_op op_add (pe_op op_mul (pv 3) pe_int) pe_int) pa_nil)) pe_int))
          (pss_one (ps_expr (pe_bm PySem.F.plainAttrs_list PySem.F.slot_list_append PySem.F.type_list_append mt_append (pv 1) (pa_cons (pe_op op_fdiv (pe_op op_mod (pe_callTy call_int1 (by rfl) B.int (by decide +kernel) (pa_cons (pe_op op_add (pe_op op_mul (pv 3) pe_int) pe_int) pa_nil)) pe_int) pe_int) pa_nil))))))))
      (pss_one (ps_ret (pe_lst (pa_cons (pv 1) (pa_cons pe_int pa_nil))))))))), ?_⟩
    refine ⟨Nat.zero_le _, fun r hr0 => ?_⟩
    refine ⟨_, rfl, _, rfl, ?_⟩
    refine ⟨_, rfl, .inl ⟨_, rfl, _, _, rfl, rfl, (by show (0 : Int) < 2147483647; decide), ?_⟩⟩
    refine ⟨_, rfl, _, _, rfl, rfl, ⟨by decide, by decide, by decide⟩, _, _, rfl, rfl, ?_⟩
    refine ⟨200, rfl, by decide, by decide, for_range (lo := 0) (n := 200) (fun i σ H' => ∃ (rest mixed : Int) (g : Bool) (v : Option V) (ns : List Int), σ = [some (.int z), some (.ref r), some (.int rest), some (.int mixed), some (.bl g), v] ∧ 0 ≤ mixed ∧ mixed < 2147483647 ∧ H' r = some (.lst (vI ns)) ∧ ns.length = i ∧ ∀ b o, H b = some o → H' b = some o)
      ⟨_, _, _, none, [], rfl, Int.emod_nonneg _ (by decide), Int.emod_lt_of_pos _ (by decide), upd_same, rfl, same_new hr0⟩ ?_ ?_⟩
    · rintro i σ H' hi ⟨rest, mixed, g, v, ns, rfl, m0, m1, hrow, hl, hs⟩
      have put : ∀ y : Int, ∀ b o, H b = some o → (upd H' r (.lst (vI ns ++ [V.int y]))) b = some o := fun y b o e => by
        rw [upd_ne (ne_of_none e hr0)]
        exact hs b o e
      have row : ∀ y : Int, (upd H' r (.lst (vI ns ++ [V.int y]))) r = some (.lst (vI (ns ++ [y]))) := fun y => by
        rw [upd_same]
        simp [vI]
      have len : ∀ y : Int, (ns ++ [y]).length = i + 1 := fun y => by
        rw [List.length_append, hl]
        rfl
      have small : (vI ns).length < sizeLine := by
        rw [List.length_map, hl]
        exact line_lt (by omega)
      refine ⟨_, rfl, g, rfl, ?_⟩
      cases g with
      | true =>
        refine iteT ⟨_, rfl, _, _, rfl, rfl, _, rfl, ite2 (fun _ => ?_) (fun _ => ?_)⟩
        · refine ⟨_, rfl, .inl ⟨rfl, _, SqL.of hrow⟩, _, rfl, .inl ⟨_, rfl, _, _, rfl, rfl, (by show (0 : Int) < 1000; decide), r, _, _, rfl, rfl, hrow, small, ?_⟩⟩
          refine ⟨_, rfl, _, _, rfl, rfl, ⟨by decide, by decide⟩, ?_⟩
          exact ⟨_, _, _, _, _, rfl, m0, m1, row _, len _, put _⟩
        · refine ⟨_, rfl, _, _, rfl, rfl, .inl ⟨by omega, by omega⟩, _, _, rfl, rfl, .inl ⟨_, rfl, _, _, rfl, rfl, (by show (0 : Int) < 2147483647; decide), ?_⟩⟩
          refine ⟨_, rfl, .inl ⟨rfl, _, SqL.of hrow⟩, _, rfl, _, _, rfl, rfl, .inl ⟨by have := Int.emod_nonneg (mixed * 48271 + 7919) (show (2147483647 : Int) ≠ 0 by decide); omega, by have := Int.emod_lt_of_pos (mixed * 48271 + 7919) (show (0 : Int) < 2147483647 by decide); omega⟩, _, _, rfl, rfl, .inl ⟨_, rfl, _, _, rfl, rfl, (by show (0 : Int) < 2147483629; decide), _, _, rfl, rfl, ⟨by decide, by decide⟩, r, _, _, rfl, rfl, hrow, small, ?_⟩⟩
          exact ⟨_, _, _, _, _, rfl, Int.emod_nonneg _ (by decide), Int.emod_lt_of_pos _ (by decide), row _, len _, put _⟩
      | false =>
        refine iteF ?_
        refine ⟨_, rfl, _, _, rfl, rfl, .inl ⟨by omega, by omega⟩, _, _, rfl, rfl, .inl ⟨_, rfl, _, _, rfl, rfl, (by show (0 : Int) < 2147483647; decide), ?_⟩⟩
        refine ⟨_, rfl, .inl ⟨rfl, _, SqL.of hrow⟩, _, rfl, _, _, rfl, rfl, .inl ⟨by have := Int.emod_nonneg (mixed * 48271 + 7919) (show (2147483647 : Int) ≠ 0 by decide); omega, by have := Int.emod_lt_of_pos (mixed * 48271 + 7919) (show (0 : Int) < 2147483647 by decide); omega⟩, _, _, rfl, rfl, .inl ⟨_, rfl, _, _, rfl, rfl, (by show (0 : Int) < 2147483629; decide), _, _, rfl, rfl, ⟨by decide, by decide⟩, r, _, _, rfl, rfl, hrow, small, ?_⟩⟩
        exact ⟨_, _, _, _, _, rfl, Int.emod_nonneg _ (by decide), Int.emod_lt_of_pos _ (by decide), row _, len _, put _⟩
    · rintro σ H' ⟨rest, mixed, g, v, ns, rfl, m0, m1, hrow, hl, hs⟩
      refine ⟨_, rfl, (by show 2 ≤ sizeLine; decide), fun d hd => ?_⟩
      have nrd : r ≠ d := ne_of_none hrow hd
      refine q _ d r (fun b o e => ?_) ?_ ⟨nrd, upd_same, ns, by rw [upd_ne nrd]; exact hrow, by omega⟩
      · rw [upd_ne (ne_of_none (hs b o e) hd)]
        exact hs b o e
      · cases e : H d with
        | none => rfl
        | some o =>
          rw [hs d o e] at hd
          cases hd
/-! ### _law_same: what it is asked of is always the same data -/
/-- x and y hold the same data, of depth at most n -/
def Eqd (K : PySem.W.Frag) : Nat → Hp → V → V → Prop
  | 0, _, x, y => x = y ∧ ((∃ i, x = .int i) ∨ (∃ b, x = .bl b) ∨ x = .non ∨ ∃ z, x = .str z)
  | n + 1, H, x, y => (x = y ∧ ((∃ i, x = .int i) ∨ (∃ b, x = .bl b) ∨ x = .non ∨ ∃ z, x = .str z)) ∨
      ∃ (a b : Addr) (xs ys : List V), x = .ref a ∧ y = .ref b ∧ ((SqL K H a xs ∧ SqL K H b ys) ∨ (SqT K H a xs ∧ SqT K H b ys)) ∧ xs.length = ys.length ∧ ys.length ≤ 1000 ∧
        ∀ (i : Nat) (u v : V), xs[i]? = some u → ys[i]? = some v → Eqd K n H u v
theorem Eqd.same : ∀ {n : Nat} {H H' : Hp} {x y : V}, Same H H' → Eqd K n H x y → Eqd K n H' x y
  | 0, _, _, _, _, _, h => h
  | n + 1, _, _, _, _, s, h => by
    rcases h with h | ⟨a, b, xs, ys, e1, e2, hs, l1, l2, al⟩
    · exact .inl h
    · refine .inr ⟨a, b, xs, ys, e1, e2, ?_, l1, l2, fun i u v h1 h2 => Eqd.same s (al i u v h1 h2)⟩
      rcases hs with ⟨h1, h2⟩ | ⟨h1, h2⟩
      · exact .inl ⟨s.seq h1, s.seq h2⟩
      · exact .inr ⟨SqT.same s h1, SqT.same s h2⟩
theorem Eqd.scal {H : Hp} {x y : V} : ∀ {n : Nat}, Eqd K 0 H x y → Eqd K n H x y
  | 0, h => h
  | n + 1, h => .inl h
theorem Eqd.split : ∀ {n : Nat} {H : Hp} {x y : V}, Eqd K n H x y → (x = y ∧ ((∃ i, x = .int i) ∨ (∃ b, x = .bl b) ∨ x = .non ∨ ∃ z, x = .str z)) ∨
    ∃ (m : Nat) (a b : Addr) (xs ys : List V), n = m + 1 ∧ x = .ref a ∧ y = .ref b ∧ ((SqL K H a xs ∧ SqL K H b ys) ∨ (SqT K H a xs ∧ SqT K H b ys)) ∧ xs.length = ys.length ∧ ys.length ≤ 1000 ∧
        ∀ (i : Nat) (u v : V), xs[i]? = some u → ys[i]? = some v → Eqd K m H u v
  | 0, _, _, _, h => .inl h
  | n + 1, _, _, _, h => by
    rcases h with h | ⟨a, b, xs, ys, h⟩
    · exact .inl h
    · exact .inr ⟨n, a, b, xs, ys, rfl, h⟩
theorem Eqd.int (n : Nat) (H : Hp) (i : Int) : Eqd K n H (.int i) (.int i) := Eqd.scal ⟨rfl, .inl ⟨i, rfl⟩⟩
theorem Eqd.bl (n : Nat) (H : Hp) (b : Bool) : Eqd K n H (.bl b) (.bl b) := Eqd.scal ⟨rfl, .inr (.inl ⟨b, rfl⟩)⟩
theorem tyx_list {H : Hp} {a : Addr} {xs : List V} (h : SqL K H a xs) : TyX K H (.ref a) (.type "list") := by
  rcases h with (h | ⟨o, h⟩) | ⟨o, its, n, h1, h2, _⟩
  · exact .base (.lst h)
  · exact .base (.frz h)
  · exact .kList h1 h2
theorem tyx_tup {H : Hp} {a : Addr} {xs : List V} (h : SqT K H a xs) : TyX K H (.ref a) (.type "tuple") := by
  rcases h with (h | ⟨o, h⟩) | ⟨o, its, n, h1, h2, _⟩
  · exact .base (.tup h)
  · exact .fTuple h
  · exact .kTuple h1 h2
theorem kit2 {t a b : String} {r1 r2 : Bool} (h1 : kitB t a = some r1) (h2 : kitB t b = some r2) : PySem.W.kitAny K (.type t) [.type a, .type b] = some (r1 || r2) :=
  kitAny_cons (kit_ty h1) (fun e => kitAny_cons (kit_ty h2) (fun e2 => by rw [e, e2]; exact kitAny_nil) (fun e2 => by rw [e2, Bool.or_true])) (fun e => by rw [e, Bool.true_or])
/-- isinstance of the value in slot i and of one built-in class -/
theorem rd_isi {σ : L2.St} {H : Hp} {Q : VK} {i : Nat} {x : V} {t T : String} {b : Bool} (h : σ[i]? = some (some x)) (ty : TyX K H x (.type t)) (e : kitB t T = some b) (q : Q (.bl b) H) :
    tCB (rIsi K) (tCons (tVar i) (tCons (tC (.ty T)) tNil)) σ H Q := ⟨x, h, x, .ty T, .type t, .type T, b, rfl, .ty T, ty, kit_ty e, q⟩
/-- .. and of the pair of tuple and list -/
theorem rd_isiT {σ : L2.St} {H : Hp} {Q : VK} {i : Nat} {x : V} {t : String} {r1 r2 : Bool} (h : σ[i]? = some (some x)) (ty : ∀ H', Same H H' → TyX K H' x (.type t)) (h1 : kitB t "tuple" = some r1) (h2 : kitB t "list" = some r2)
    (q : ∀ H', Same H H' → Q (.bl (r1 || r2)) H') : tCB (rIsiT K) (tCons (tVar i) (tCons (tTup (tCons (tC (.ty "tuple")) (tCons (tC (.ty "list")) tNil))) tNil)) σ H Q :=
  ⟨x, h, (by show 2 ≤ sizeLine; decide), fun p hp => ⟨x, p, [.ty "tuple", .ty "list"], .type t, [.type "tuple", .type "list"], _, rfl, upd_same, .cons (.ty "tuple") (.cons (.ty "list") .nil), ty _ (same_new hp), kit2 h1 h2, q _ (same_new hp)⟩⟩
def spSame (K : PySem.W.Frag) (n : Nat) : Sp := fun vs H Q _ => ∃ x y : V, vs = [x, y] ∧ Eqd K n H x y ∧ ∀ H', Same H H' → Q (.bl true) H'
def spSameLt (K : PySem.W.Frag) : Nat → Sp
  | 0 => fun _ _ _ _ => False
  | n + 1 => spSame K n
theorem sc_same : FnScope ["actual", "expected", "k"] ["actual", "expected"] (defScope s_law_same) := ⟨rfl, rfl, rfl, by decide +kernel, rfl, by decide +kernel, by decide +kernel⟩
theorem ok_same_step {f : Addr} {fd : FuncData} (n : Nat) (F : Fun K "_law_same" "_law_same" s_law_same f fd) (B : BI mg) (gS : mg "_law_same" = some (.ref f)) (bS : Binds K fd ["actual", "expected"] [])
    (G : FnOk P w K mg base CX0 n f fd ["actual", "expected"] (spSameLt K n)) : FnOk P w K mg base CX0 (n + 1) f fd ["actual", "expected"] (spSame K n) := by
  refine F.ok sc_same (fun vs H Q E h => ?_) (fun cdv A outer s H vs Q E hr h => ?_)
  · obtain ⟨x, y, rfl, _⟩ := h
    rfl
  · obtain ⟨x, y, rfl, he, q⟩ := h
    refine ⟨_, pss_cons (ps_if (pt_val (pe_callB call_isiT (by rfl) B.isi (by decide +kernel) (pa_cons (pv 1) (pa_cons (pe_tup (pa_cons (pe_bltn (v := .ty "tuple") (by rfl) B.tuple (by decide +kernel) rfl) (pa_cons (pe_bltn (v := .ty "list") (by rfl) B.list (by decide +kernel) rfl) pa_nil))) pa_nil))))
        (pss_cons (ps_if (PW.pt (pw_or
            (pt_cmpR op_ne (pe_callB call_isi (by rfl) B.isi (by decide +kernel) (pa_cons (pv 0) (pa_cons (pe_bltn (v := .ty "tuple") (by rfl) B.tuple (by decide +kernel) rfl) pa_nil))) (pe_callB call_isi (by rfl) B.isi (by decide +kernel) (pa_cons (pv 1) (pa_cons (pe_bltn (v := .ty "tuple") (by rfl) B.tuple (by decide +kernel) rfl) pa_nil))) (nomark _))
            (pw_or1 (pt_cmpR op_ne (pe_callB call_isi (by rfl) B.isi (by decide +kernel) (pa_cons (pv 0) (pa_cons (pe_bltn (v := .ty "list") (by rfl) B.list (by decide +kernel) rfl) pa_nil))) (pe_callB call_isi (by rfl) B.isi (by decide +kernel) (pa_cons (pv 1) (pa_cons (pe_bltn (v := .ty "list") (by rfl) B.list (by decide +kernel) rfl) pa_nil))) (nomark _)))))
          (pss_one (ps_ret pe_bl)) pss_nil)
        (pss_cons (ps_if (pt_cmpR op_ne (pe_callB call_len_seq (by rfl) B.len PySem.boot_len (pa_cons (pv 0) pa_nil)) (pe_callB call_len_seq (by rfl) B.len PySem.boot_len (pa_cons (pv 1) pa_nil)) (nomark _)) (pss_one (ps_ret pe_bl)) pss_nil)
        (pss_cons (ps_for PassesOwn.never rfl (pi_range1 (by rfl) B.range (pa_cons (pe_callB call_len_seq (by rfl) B.len PySem.boot_len (pa_cons (pv 1) pa_nil)) pa_nil)) (pg_name (i := 2) sc_same.nd rfl (Or.inl rfl))
          (pss_one (ps_if (pt_not (pt_val (pe_call G hr rfl gS F.kp bS .nil pass0 (pa_cons (pe_ix ix_seq (pv 0) (pv 2) (fun _ _ => rfl)) (pa_cons (pe_ix ix_seq (pv 1) (pv 2) (fun _ _ => rfl)) pa_nil))))) (pss_one (ps_ret pe_bl)) pss_nil)))
        (pss_one (ps_ret pe_bl))))) pss_nil)
      (pss_cons (ps_if (PW.pt (pw_or (pt_val (pe_callB call_isi (by rfl) B.isi (by decide +kernel) (pa_cons (pv 1) (pa_cons (pe_bltn (v := .ty "bool") (by rfl) B.bool (by decide +kernel) rfl) pa_nil))))
          (pw_or1 (pt_val (pe_callB call_isi (by rfl) B.isi (by decide +kernel) (pa_cons (pv 0) (pa_cons (pe_bltn (v := .ty "bool") (by rfl) B.bool (by decide +kernel) rfl) pa_nil)))))))
        (pss_one (ps_ret (pe_and (pe_callB call_isi (by rfl) B.isi (by decide +kernel) (pa_cons (pv 0) (pa_cons (pe_bltn (v := .ty "bool") (by rfl) B.bool (by decide +kernel) rfl) pa_nil)))
          (pe_and (pe_callB call_isi (by rfl) B.isi (by decide +kernel) (pa_cons (pv 1) (pa_cons (pe_bltn (v := .ty "bool") (by rfl) B.bool (by decide +kernel) rfl) pa_nil)))
          (pe_one (pe_cmpR op_eq (pv 0) (pv 1) (nomark _))))))) pss_nil)
      (pss_cons (ps_if (pt_cmpR op_isN (pv 1) pe_non (nomark _)) (pss_one (ps_ret (pe_cmpR op_isN (pv 0) pe_non (nomark _)))) pss_nil)
      (pss_cons (ps_if (pt_val (pe_callB call_isi (by rfl) B.isi (by decide +kernel) (pa_cons (pv 1) (pa_cons (pe_bltn (v := .ty "int") (by rfl) B.int (by decide +kernel) rfl) pa_nil))))
        (pss_one (ps_ret (pe_and (pe_callB call_isi (by rfl) B.isi (by decide +kernel) (pa_cons (pv 0) (pa_cons (pe_bltn (v := .ty "int") (by rfl) B.int (by decide +kernel) rfl) pa_nil))) (pe_one (pe_cmpR op_eq (pv 0) (pv 1) (nomark _)))))) pss_nil)
      (pss_one (ps_ret (pe_and (pe_callB call_isi (by rfl) B.isi (by decide +kernel) (pa_cons (pv 0) (pa_cons (pe_bltn (v := .ty "str") (by rfl) B.str (by decide +kernel) rfl) pa_nil))) (pe_one (pe_cmpR op_eq (pv 0) (pv 1) (nomark _))))))))), ?_⟩
    have self : ∀ (z : V) (H' : Hp), Same H H' → Q (.bl (decide (z = z))) H' := fun z H' s => by
      rw [decide_eq_true rfl]
      exact q H' s
    -- a value that is no list and no tuple
    rcases Eqd.split he with he | ⟨m, a, b, xs, ys, rfl, rfl, rfl, hs, hl, hl2, al⟩
    rotate_left
    · have hty : ∃ t r1 r2, (∀ H', Same H H' → TyX K H' (.ref a) (.type t)) ∧ (∀ H', Same H H' → TyX K H' (.ref b) (.type t)) ∧ kitB t "tuple" = some r1 ∧ kitB t "list" = some r2 ∧ (r1 || r2) = true := by
        rcases hs with ⟨h1, h2⟩ | ⟨h1, h2⟩
        · exact ⟨"list", false, true, fun H' s => tyx_list (s.seq h1), fun H' s => tyx_list (s.seq h2), by decide +kernel, by decide +kernel, rfl⟩
        · exact ⟨"tuple", true, false, fun H' s => tyx_tup (SqT.same s h1), fun H' s => tyx_tup (SqT.same s h2), by decide +kernel, by decide +kernel, rfl⟩
      obtain ⟨t, r1, r2, ta, tb, k1, k2, kk⟩ := hty
      refine rd_isiT rfl tb k1 k2 fun H1 s1 => ⟨_, rfl, ?_⟩
      rw [kk]
      refine iteT ?_
      refine rd_isi rfl (ta _ s1) k1 (rd_isi rfl (tb _ s1) k1 ⟨rfl, _, rfl, ?_⟩)
      refine if_f (by simp) ?_
      refine rd_isi rfl (ta _ s1) k2 (rd_isi rfl (tb _ s1) k2 ⟨rfl, _, rfl, ?_⟩)
      refine if_f (by simp) ?_
      have ls : ∀ H', Same H H' → (SqL K H' a xs ∨ SqT K H' a xs) ∧ (SqL K H' b ys ∨ SqT K H' b ys) := fun H' s => by
        rcases hs with ⟨h1, h2⟩ | ⟨h1, h2⟩
        · exact ⟨.inl (s.seq h1), .inl (s.seq h2)⟩
        · exact ⟨.inr (SqT.same s h1), .inr (SqT.same s h2)⟩
      have ixs : ∀ (H' : Hp) (i : Nat) (u : V) (R : VK), Same H H' → xs[i]? = some u → R u H' → rIx K (.ref a) (.int (0 + (i : Int))) H' R := fun H' i u R s hu r => by
        have e := atI_nat hu
        rw [← Int.zero_add (i : Int)] at e
        rcases hs with ⟨h1, h2⟩ | ⟨h1, h2⟩
        · exact .inl ⟨a, xs, _, u, rfl, rfl, s.seq h1, e, r⟩
        · exact .inr (.inl ⟨a, xs, _, u, rfl, rfl, SqT.same s h1, e, r⟩)
      have iys : ∀ (H' : Hp) (i : Nat) (u : V) (R : VK), Same H H' → ys[i]? = some u → R u H' → rIx K (.ref b) (.int (0 + (i : Int))) H' R := fun H' i u R s hu r => by
        have e := atI_nat hu
        rw [← Int.zero_add (i : Int)] at e
        rcases hs with ⟨h1, h2⟩ | ⟨h1, h2⟩
        · exact .inl ⟨b, ys, _, u, rfl, rfl, s.seq h2, e, r⟩
        · exact .inr (.inl ⟨b, ys, _, u, rfl, rfl, SqT.same s h2, e, r⟩)
      refine ⟨_, rfl, a, xs, rfl, (ls _ s1).1, _, rfl, b, ys, rfl, (ls _ s1).2, rfl, _, rfl, ?_⟩
      refine if_f (by rw [hl]; simp) ?_
      refine ⟨_, rfl, b, ys, rfl, (ls _ s1).2, (ys.length : Int), rfl, by omega, by omega, for_range (lo := 0) (n := ys.length) (fun i σ H' => (∃ v, σ = [some (.ref a), some (.ref b), v]) ∧ Same H H') ⟨⟨_, rfl⟩, s1⟩ ?_ ?_⟩
      · rintro i σ H' hi ⟨⟨v, rfl⟩, s2⟩
        have hx : xs[i]? = some xs[i] := List.getElem?_eq_getElem (by omega)
        have hy : ys[i]? = some ys[i] := List.getElem?_eq_getElem hi
        refine ⟨_, rfl, _, rfl, ixs _ i _ _ s2 hx ⟨_, rfl, _, rfl, iys _ i _ _ s2 hy ?_⟩⟩
        refine ⟨_, _, rfl, Eqd.same s2 (al i _ _ hx hy), fun H3 s3 => ⟨_, rfl, ?_⟩⟩
        exact iteF ⟨⟨_, rfl⟩, s2.trans s3⟩
      · rintro σ H' ⟨⟨v, rfl⟩, s2⟩
        exact q _ s2
    · obtain ⟨rfl, hh⟩ := he
      rcases hh with ⟨i, rfl⟩ | ⟨b, rfl⟩ | rfl | ⟨z, rfl⟩
      · refine rd_isiT (t := "int") (r1 := false) (r2 := false) rfl (fun _ _ => .base (.int i)) (by decide +kernel) (by decide +kernel) fun H1 s1 => ⟨_, rfl, iteF ?_⟩
        refine rd_isi (t := "int") (b := false) rfl (.base (.int i)) (by decide +kernel) ⟨_, rfl, iteF ?_⟩
        refine rd_isi (t := "int") (b := false) rfl (.base (.int i)) (by decide +kernel) ⟨_, rfl, iteF ?_⟩
        refine ⟨_, rfl, rfl, _, rfl, if_f (by simp) ?_⟩
        refine rd_isi (t := "int") (b := true) rfl (.base (.int i)) (by decide +kernel) ⟨_, rfl, iteT ?_⟩
        refine rd_isi (t := "int") (b := true) rfl (.base (.int i)) (by decide +kernel) ⟨_, rfl, iteT ?_⟩
        exact ⟨_, rfl, _, rfl, rfl, self _ _ s1⟩
      · refine rd_isiT (t := "bool") (r1 := false) (r2 := false) rfl (fun _ _ => .base (.bl b)) (by decide +kernel) (by decide +kernel) fun H1 s1 => ⟨_, rfl, iteF ?_⟩
        refine rd_isi (t := "bool") (b := true) rfl (.base (.bl b)) (by decide +kernel) ⟨_, rfl, iteT ?_⟩
        refine rd_isi (t := "bool") (b := true) rfl (.base (.bl b)) (by decide +kernel) ⟨_, rfl, iteT ?_⟩
        refine rd_isi (t := "bool") (b := true) rfl (.base (.bl b)) (by decide +kernel) ⟨_, rfl, iteT ?_⟩
        exact ⟨_, rfl, _, rfl, rfl, self _ _ s1⟩
      · refine rd_isiT (t := "NoneType") (r1 := false) (r2 := false) rfl (fun _ _ => .base .non) (by decide +kernel) (by decide +kernel) fun H1 s1 => ⟨_, rfl, iteF ?_⟩
        refine rd_isi (t := "NoneType") (b := false) rfl (.base .non) (by decide +kernel) ⟨_, rfl, iteF ?_⟩
        refine rd_isi (t := "NoneType") (b := false) rfl (.base .non) (by decide +kernel) ⟨_, rfl, iteF ?_⟩
        refine ⟨_, rfl, rfl, _, rfl, if_t (by simp) ?_⟩
        exact ⟨_, rfl, rfl, self _ _ s1⟩
      · refine rd_isiT (t := "str") (r1 := false) (r2 := false) rfl (fun _ _ => .base (.str z)) (by decide +kernel) (by decide +kernel) fun H1 s1 => ⟨_, rfl, iteF ?_⟩
        refine rd_isi (t := "str") (b := false) rfl (.base (.str z)) (by decide +kernel) ⟨_, rfl, iteF ?_⟩
        refine rd_isi (t := "str") (b := false) rfl (.base (.str z)) (by decide +kernel) ⟨_, rfl, iteF ?_⟩
        refine ⟨_, rfl, rfl, _, rfl, if_f (by simp) ?_⟩
        refine rd_isi (t := "str") (b := false) rfl (.base (.str z)) (by decide +kernel) ⟨_, rfl, iteF ?_⟩
        refine rd_isi (t := "str") (b := true) rfl (.base (.str z)) (by decide +kernel) ⟨_, rfl, iteT ?_⟩
        exact ⟨_, rfl, _, rfl, rfl, self _ _ s1⟩
theorem ok_same {f : Addr} {fd : FuncData} (F : Fun K "_law_same" "_law_same" s_law_same f fd) (B : BI mg) (gS : mg "_law_same" = some (.ref f)) (bS : Binds K fd ["actual", "expected"] []) :
    ∀ n : Nat, FnOk P w K mg base CX0 (n + 1) f fd ["actual", "expected"] (spSame K n)
  | 0 => ok_same_step 0 F B gS bS ⟨fun _ _ _ _ h => h.elim, fun _ _ _ _ _ _ _ _ _ _ _ _ _ h => h.elim⟩
  | n + 1 => ok_same_step (n + 1) F B gS bS (ok_same F B gS bS n)
/-! ### _law_is_prime, _law_prime -/
def isP (n : Int) : Bool := decide (1 < n) && (List.range (n - 2).toNat).all fun j => !decide (n.fmod (2 + (j : Int)) = 0)
def stepP (n : Int) : Int := if isP n = true then n else n + 1
def iterP : Nat → Int → Int
  | 0, n => n
  | k + 1, n => stepP (iterP k n)
def primes : List Int := [2, 3, 5, 7, 11, 13, 17, 19, 23, 29, 31, 37, 41, 43, 47, 53, 59, 61, 67, 71, 73, 79, 83, 89, 97]
theorem iterP_in : ∀ n ∈ (List.range 96).map (fun j : Nat => (2 : Int) + j), iterP 20 n ∈ primes := by decide +kernel
theorem iterP_low : ∀ (k : Nat) (n : Int), n ≤ iterP k n ∧ iterP k n ≤ n + k
  | 0, n => ⟨Int.le_refl _, by simp [iterP]⟩
  | k + 1, n => by
    have ih := iterP_low k n
    show n ≤ stepP (iterP k n) ∧ stepP (iterP k n) ≤ n + ((k + 1 : Nat) : Int)
    unfold stepP
    split <;> omega
theorem primes_bd : ∀ p ∈ primes, 2 ≤ p ∧ p ≤ 97 := by decide +kernel
def spIsPrime : Sp := fun vs H Q _ => ∃ n : Int, vs = [.int n] ∧ -1000 ≤ n ∧ n ≤ 100000 ∧ Q (.bl (isP n)) H
theorem sc_is_prime : FnScope ["number", "k"] ["number"] (defScope s_law_is_prime) := ⟨rfl, rfl, rfl, by decide +kernel, rfl, by decide +kernel, by decide +kernel⟩
theorem ok_is_prime {f : Addr} {fd : FuncData} (F : Fun K "_law_is_prime" "_law_is_prime" s_law_is_prime f fd) (B : BI mg) : FnOk P w K mg base CX0 1 f fd ["number"] spIsPrime := by
  refine F.ok sc_is_prime (fun vs H Q E h => ?_) (fun cdv A outer s H vs Q E hr h => ?_)
  · obtain ⟨n, rfl, _⟩ := h
    rfl
  · obtain ⟨n, rfl, lo, hi, q⟩ := h
    refine ⟨_, pss_cons (ps_for PassesOwn.never rfl (pi_range2 (by rfl) B.range (pa_cons pe_int (pa_cons (pv 0) pa_nil))) (pg_name (i := 1) sc_is_prime.nd rfl (Or.inl rfl))
        (pss_one (ps_if (pt_cmpR op_eq (pe_op op_modN (pv 0) (pv 1)) pe_int (nomark _)) (pss_one (ps_ret pe_bl)) pss_nil)))
      (pss_one (ps_ret (pe_cmpR op_gt (pv 0) pe_int (nomark _)))), ?_⟩
    refine ⟨_, rfl, 2, n, rfl, ⟨by decide, by decide, by omega, by omega⟩, for_range (lo := 2) (n := (n - 2).toNat) (fun i σ H' => (∃ v, σ = [some (.int n), v]) ∧ H' = H ∧ ∀ j : Nat, j < i → n.fmod (2 + (j : Int)) ≠ 0)
      ⟨⟨_, rfl⟩, rfl, fun j hj => absurd hj (Nat.not_lt_zero j)⟩ ?_ ?_⟩
    · rintro i σ H' hi ⟨⟨v, rfl⟩, rfl, al⟩
      refine ⟨_, rfl, _, rfl, _, _, rfl, rfl, by omega, rfl, _, rfl, ?_⟩
      refine ite2 (fun e => ?_) (fun e => ?_)
      · have e1 : n.fmod (2 + (i : Int)) = 0 := by
          have z := of_decide_eq_true e
          exact V.int.inj z
        have e2 : isP n = false := by
          unfold isP
          rw [Bool.and_eq_false_iff]
          refine .inr (List.all_eq_false.mpr ⟨i, List.mem_range.mpr hi, ?_⟩)
          rw [decide_eq_true e1]
          decide
        rw [e2] at q
        exact q
      · refine ⟨⟨_, rfl⟩, rfl, fun j hj => ?_⟩
        by_cases ej : j = i
        · rw [ej]
          intro z
          exact e (decide_eq_true (congrArg V.int z))
        · exact al j (by omega)
    · rintro σ H' ⟨⟨v, rfl⟩, rfl, al⟩
      have e2 : isP n = decide (1 < n) := by
        unfold isP
        have z : ((List.range (n - 2).toNat).all fun j => !decide (n.fmod (2 + (j : Int)) = 0)) = true := by
          rw [List.all_eq_true]
          intro j hj
          rw [decide_eq_false (al j (List.mem_range.mp hj))]
          rfl
        rw [z, Bool.and_true]
      rw [e2] at q
      exact ⟨_, rfl, _, _, rfl, rfl, q⟩
def spPrime : Sp := fun vs H Q _ => ∃ (d r : Addr) (c : Nat), vs = [.ref d] ∧ Dr H d r c ∧ c ≤ 10000 ∧
  ∀ (p : Int) (H' : Hp) (c' : Nat), c' ≤ c + 2 → p ∈ primes → KeepBut d H H' → Dr H' d r c' → Q (.int p) H'
theorem sc_prime : FnScope ["draws", "pick", "number", "k"] ["draws"] (defScope s_law_prime) := ⟨rfl, rfl, rfl, by decide +kernel, rfl, by decide +kernel, by decide +kernel⟩
theorem ok_prime {f fN fI : Addr} {fd fdN fdI : FuncData} (F : Fun K "_law_prime" "_law_prime" s_law_prime f fd) (B : BI mg)
    (FN : Fun K "_law_next" "_law_next" s_law_next fN fdN) (gN : mg "_law_next" = some (.ref fN)) (bN : Binds K fdN ["draws", "many"] [])
    (FI : Fun K "_law_is_prime" "_law_is_prime" s_law_is_prime fI fdI) (gI : mg "_law_is_prime" = some (.ref fI)) (bI : Binds K fdI ["number"] []) : FnOk P w K mg base CX0 2 f fd ["draws"] spPrime := by
  have GN : FnOk P w K mg base CX0 1 fN fdN ["draws", "many"] spNext := ok_next FN B
  have GI : FnOk P w K mg base CX0 1 fI fdI ["number"] spIsPrime := ok_is_prime FI B
  refine F.ok sc_prime (fun vs H Q E h => ?_) (fun cdv A outer s H vs Q E hr h => ?_)
  · obtain ⟨d, r, c, rfl, _⟩ := h
    rfl
  · obtain ⟨d, r, c, rfl, hd, hc, q⟩ := h
    refine ⟨_, pss_cons (ps_set (i := 1) sc_prime.nd rfl (Or.inl rfl) (pe_call GN hr rfl gN FN.kp bN .nil pass0 (pa_cons (pv 0) (pa_cons pe_int pa_nil))))
      (pss_cons (ps_if (pt_cmpR op_lt (pv 1) pe_int (nomark _)) (pss_one (ps_ret (pe_op op_add pe_int (pv 1)))) pss_nil)
      (pss_cons (ps_set (i := 2) sc_prime.nd rfl (Or.inl rfl) (pe_op op_add pe_int (pe_call GN hr rfl gN FN.kp bN .nil pass0 (pa_cons (pv 0) (pa_cons pe_int pa_nil)))))
      (pss_cons (ps_for PassesOwn.never rfl (pi_range1 (by rfl) B.range (pa_cons pe_int pa_nil)) (pg_name (i := 3) sc_prime.nd rfl (Or.inl rfl))
        (pss_one (ps_if (pt_not (pt_val (pe_call GI hr rfl gI FI.kp bI .nil pass0 (pa_cons (pv 2) pa_nil)))) (pss_one (ps_set (i := 2) sc_prime.nd rfl (Or.inl rfl) (pe_op op_add (pv 2) pe_int))) pss_nil)))
      (pss_one (ps_ret (pv 2)))))), ?_⟩
    refine ⟨_, rfl, d, r, c, 4, rfl, hd, by omega, by decide, fun z H1 z0 z4 k1 d1 => ?_⟩
    refine ⟨_, rfl, _, _, rfl, rfl, _, rfl, ?_⟩
    refine ite2 (fun e => ?_) (fun _ => ?_)
    · have e1 : z < 2 := of_decide_eq_true e
      refine ⟨_, rfl, _, _, rfl, rfl, q _ _ _ (Nat.le_succ _) ?_ k1 d1⟩
      have e2 : z = 0 ∨ z = 1 := by omega
      rcases e2 with rfl | rfl <;> decide +kernel
    · refine ⟨_, rfl, d, r, c + 1, 96, rfl, d1, by omega, by decide, fun y H2 y0 y4 k2 d2 => ⟨_, _, rfl, rfl, ?_⟩⟩
      refine ⟨20, rfl, by decide, by decide, for_range (lo := 0) (n := 20) (fun i σ H' => (∃ v, σ = [some (.ref d), some (.int z), some (.int (iterP i (2 + y))), v]) ∧ H' = H2) ⟨⟨_, rfl⟩, rfl⟩ ?_ ?_⟩
      · rintro i σ H' hi ⟨⟨v, rfl⟩, rfl⟩
        have b1 := iterP_low i (2 + y)
        refine ⟨_, rfl, _, rfl, by omega, by omega, _, rfl, ?_⟩
        cases e : isP (iterP i (2 + y)) with
        | true =>
          refine iteF ⟨⟨some (.int (0 + (i : Int))), ?_⟩, rfl⟩
          show _ = [_, _, some (V.int (stepP (iterP i (2 + y)))), _]
          unfold stepP
          rw [if_pos e]
          rfl
        | false =>
          refine iteT ⟨_, rfl, _, _, rfl, rfl, ⟨some (.int (0 + (i : Int))), ?_⟩, rfl⟩
          show _ = [_, _, some (V.int (stepP (iterP i (2 + y)))), _]
          unfold stepP
          rw [if_neg (by rw [e]; decide)]
          rfl
      · rintro σ H' ⟨⟨v, rfl⟩, rfl⟩
        refine ⟨_, rfl, q _ _ _ (Nat.le_refl _) (iterP_in _ ?_) (k1.trans k2) d2⟩
        rw [List.mem_map]
        exact ⟨y.toNat, List.mem_range.mpr (by omega), by omega⟩
/-! ### is_base, inverse_of -/
theorem in_ints (n : Int) : ∀ ns : List Int, inV (.int n) (vI ns) = decide (n ∈ ns)
  | [] => rfl
  | m :: ns => by
    have ih := in_ints n ns
    show (eqV (.int m) (.int n) || inV (.int n) (vI ns)) = _
    rw [ih]
    show ((m == n) || decide (n ∈ ns)) = _
    by_cases e : m = n
    · subst e
      simp
    · have e2 : ¬ n = m := fun z => e z.symm
      simp [e, e2]
theorem flat_ints : ∀ ns : List Int, (vI ns).all flatV = true
  | [] => rfl
  | _ :: ns => flat_ints ns
def spIsBase : Sp := fun vs H Q _ => ∃ n : Int, vs = [.int n] ∧ Q (.bl (decide (n ∈ primes))) H
theorem sc_is_base : FnScope ["number"] ["number"] (defScope s_is_base) := ⟨rfl, rfl, rfl, by decide +kernel, rfl, by decide +kernel, by decide +kernel⟩
theorem ok_is_base {f aB : Addr} {fd : FuncData} (F : Fun K "is_base" "is_base" s_is_base f fd) (gB : mg "BASES" = some (.ref aB)) (hB : ∀ H, SqT K H aB (vI primes)) : FnOk P w K mg base CX0 1 f fd ["number"] spIsBase := by
  refine F.ok sc_is_base (fun vs H Q E h => ?_) (fun cdv A outer s H vs Q E hr h => ?_)
  · obtain ⟨n, rfl, _⟩ := h
    rfl
  · obtain ⟨n, rfl, q⟩ := h
    refine ⟨_, pss_one (ps_ret (pe_cmpR op_in_seq (pv 0) (pe_glob (v := .ref aB) rfl gB rfl) (by rfl))), ?_⟩
    refine ⟨_, rfl, aB, _, rfl, .inr (hB _), rfl, flat_ints _, ?_⟩
    show Q (.bl (inV (.int n) (vI primes))) H
    rw [in_ints]
    exact q
/-- Euclid's steps -/
def euc : Nat → Int → Int → Int → Int → Int × Int
  | 0, _, r, _, f => (r, f)
  | k + 1, l, r, b, f => if 1 < r then euc k r (l - l / r * r) f (b - l / r * f) else (r, f)
theorem euc_ok : ∀ p ∈ primes, ∀ v : Nat, v < p.toNat → ((euc 100 p v 0 1).1 = if v = 0 then 0 else 1) ∧ (v ≠ 0 → (euc 100 p v 0 1).2 % p * v % p = 1) := by
  decide +kernel
def spInv (C : Addr) : Sp := fun vs H Q E => ∃ v p : Int, vs = [.int v, .int p] ∧ p ∈ primes ∧ (v % p = 0 → ∀ H', Same H H' → E (.ref C) none H') ∧ (v % p ≠ 0 → ∀ (f : Int) (H' : Hp), Same H H' → 0 ≤ f → f < p → f * v % p = 1 → Q (.int f) H')
theorem sc_inverse_of : FnScope ["value", "base", "left", "right", "before", "factor", "share"] ["value", "base"] (defScope s_inverse_of) := ⟨rfl, rfl, rfl, by decide +kernel, rfl, by decide +kernel, by decide +kernel⟩
theorem kb_inverse_of {f : Addr} {fd : FuncData} (F : Fun K "inverse_of" "inverse_of" s_inverse_of f fd) : KBn K fd ["value", "base"] 1 ["base"] (fun us ws => us ++ ws) (fun vs zs => vs ++ zs) := by
  obtain ⟨oc, od, kV, doc, pm, an, cdv, ct, osl, rfl, lk, hcd⟩ := F.ex
  exact ⟨fun s us ws X l1 l2 => match us, ws, l1, l2 with | [_], [_], _, _ => .of_eq rfl, fun r1 r2 => r1.append r2⟩
theorem ok_inverse_of {f C : Addr} {fd : FuncData} (F : Fun K "inverse_of" "inverse_of" s_inverse_of f fd) (gC : mg "NoInverse" = some (.ref C)) (xC : XC K C) : FnOk P w K mg base (L2.CX P w) 1 f fd ["value", "base"] (spInv C) := by
  refine F.okX sc_inverse_of (fun vs H Q E h => ?_) (fun cdv A outer s H vs Q E hr h => ?_)
  · obtain ⟨v, p, rfl, _⟩ := h
    rfl
  · obtain ⟨v, p, rfl, hp, kR, kS⟩ := h
    have hp2 := primes_bd p hp
    refine ⟨_, pss_cons (ps_par (i := 2) (j := 3) (by rfl) sc_inverse_of.nd rfl rfl (by decide) rfl rfl (pa_cons (pv 1) (pa_cons (pe_op op_mod (pv 0) (pv 1)) pa_nil)) (by rfl))
      (pss_cons (ps_asg (pe_tup (pa_cons pe_int (pa_cons pe_int pa_nil))) (pg_tup (by rfl) (pgs_cons (pg_name (i := 4) sc_inverse_of.nd rfl (Or.inl rfl)) (pgs_cons (pg_name (i := 5) sc_inverse_of.nd rfl (Or.inl rfl)) pgs_nil))))
      (pss_cons (ps_while (passes_of rfl) (pt_cmpR op_gt (pv 3) pe_int (nomark _))
        (pss_cons (ps_set (i := 6) sc_inverse_of.nd rfl (Or.inl rfl) (pe_op op_fdiv (pv 2) (pv 3)))
        (pss_cons (ps_par (i := 2) (j := 3) (by rfl) sc_inverse_of.nd rfl rfl (by decide) rfl rfl (pa_cons (pv 3) (pa_cons (pe_op op_sub (pv 2) (pe_op op_mul (pv 6) (pv 3))) pa_nil)) (by rfl))
        (pss_one (ps_par (i := 4) (j := 5) (by rfl) sc_inverse_of.nd rfl rfl (by decide) rfl rfl (pa_cons (pv 5) (pa_cons (pe_op op_sub (pv 4) (pe_op op_mul (pv 6) (pv 5))) pa_nil)) (by rfl))))))
      (pss_cons (ps_if (pt_cmpR op_eq (pv 3) pe_int (nomark _)) (pss_one (ps_raise rfl (takes_of rfl rfl rfl rfl) (pmk_own PySem.F.excBase_ValueError xC.x gC xC.k (raises_own xC.hs xC.t) rfl))) pss_nil)
      (pss_one (ps_ret (pe_op op_mod (pv 5) (pv 1))))))), ?_⟩
    refine ⟨_, rfl, _, rfl, _, rfl, _, _, rfl, rfl, by omega, _, _, rfl, ?_⟩
    refine ⟨(by show 2 ≤ sizeLine; decide), fun tp htp => ⟨tp, _, rfl, SqT.of upd_same, rfl, _, _, rfl, _, _, rfl, rfl, ?_⟩⟩
    have b0 : 0 ≤ v % p := Int.emod_nonneg _ (by omega)
    have b1 : v % p < p := Int.emod_lt_of_pos _ (by omega)
    refine while_by (fun σ H' => Same H H' ∧ ∃ (l r b f : Int) (sh : Option V) (k : Nat), σ = [some (.int v), some (.int p), some (.int l), some (.int r), some (.int b), some (.int f), sh] ∧ 0 ≤ l ∧ l ≤ 97 ∧ 0 ≤ r ∧ r ≤ 97 ∧ r.toNat ≤ k ∧ euc k l r b f = euc 100 p (v % p) 0 1)
      (fun σ _ => match σ with | [_, _, _, some (.int r), _, _, _] => r.toNat | _ => 0) ⟨same_new htp, _, _, _, _, none, 100, rfl, by omega, by omega, by omega, by omega, by omega, rfl⟩ ?_ ?_
    · rintro σ H' ⟨hs, l, r, b, f, sh, k, rfl, l0, l1, r0, r1, hk, he⟩
      refine ⟨_, rfl, _, _, rfl, rfl, _, rfl, ?_⟩
      by_cases hr1 : 1 < r
      · refine if_t (decide_eq_true hr1) ?_
        have hq0 : 0 ≤ l / r := Int.ediv_nonneg l0 r0
        have hq1 : l / r ≤ 97 := Int.le_trans (Int.ediv_le_self _ l0) l1
        have hm : l - l / r * r = l % r := by
          have e := Int.emod_def l r
          rw [Int.mul_comm] at e
          exact e.symm
        have hm0 : 0 ≤ l % r := Int.emod_nonneg _ (by omega)
        have hm1 : l % r < r := Int.emod_lt_of_pos _ (by omega)
        refine ⟨_, rfl, _, rfl, _, _, rfl, rfl, ⟨by omega, by omega⟩, ?_⟩
        refine ⟨_, rfl, _, rfl, _, rfl, _, rfl, _, _, rfl, rfl, .inl ⟨by omega, by omega⟩, _, _, rfl, rfl, _, _, rfl, ?_⟩
        refine ⟨_, rfl, _, rfl, _, rfl, _, rfl, _, _, rfl, rfl, .inl ⟨by omega, by omega⟩, _, _, rfl, rfl, _, _, rfl, ?_⟩
        refine ⟨⟨hs, _, _, _, _, _, k - 1, rfl, r0, r1, by rw [hm]; omega, by rw [hm]; omega, by rw [hm]; omega, ?_⟩, ?_⟩
        · rw [← he]
          obtain ⟨j, rfl⟩ : ∃ j, k = j + 1 := ⟨k - 1, by omega⟩
          show euc j _ _ _ _ = if 1 < r then _ else _
          rw [if_pos hr1]
        · show (l - l / r * r).toNat < r.toNat
          rw [hm]
          omega
      · refine if_f (decide_eq_false hr1) ?_
        have e1 : (r, f) = euc 100 p (v % p) 0 1 := by
          rw [← he]
          cases k with
          | zero => rfl
          | succ j =>
            show _ = if 1 < r then _ else _
            rw [if_neg hr1]
        have ok := euc_ok p hp (v % p).toNat (by omega)
        have ev : (((v % p).toNat : Nat) : Int) = v % p := by omega
        rw [ev, ← e1] at ok
        obtain ⟨o1, o2⟩ := ok
        refine ⟨_, rfl, rfl, _, rfl, ?_⟩
        by_cases hz : v % p = 0
        · rw [if_pos (by omega)] at o1
          refine if_t (decide_eq_true (congrArg V.int o1)) ?_
          exact kR hz _ hs
        · rw [if_neg (by omega)] at o1
          have o1' : r = 1 := o1
          refine if_f (decide_eq_false fun z => ?_) ?_
          · have := V.int.inj z
            omega
          · refine ⟨_, rfl, _, rfl, _, _, rfl, rfl, by omega, kS hz _ _ hs (Int.emod_nonneg _ (by omega)) (Int.emod_lt_of_pos _ (by omega)) ?_⟩
            have o3 := o2 (by omega)
            rw [← o3, Int.mul_emod, Int.mul_emod (f % p) (v % p), Int.emod_emod_of_dvd _ (Int.dvd_refl p), Int.emod_emod_of_dvd v (Int.dvd_refl p)]
            try rfl
    · rintro σ H' Q' Q'' imp ⟨x1, h1, i, j, h2, h3, b, h4, h5⟩
      exact ⟨x1, h1, i, j, h2, h3, b, h4, imp _ _ h5⟩
/-! ### _law_has_no_inverse -/
def spNoInv : Sp := fun vs H Q _ => ∃ p : Int, vs = [.int p] ∧ p ∈ primes ∧ ∀ H', Same H H' → Q (.bl true) H'
theorem sc_noinv : FnScope ["base", "e"] ["base"] (defScope s_law_has_no_inverse) := ⟨rfl, rfl, rfl, by decide +kernel, rfl, by decide +kernel, by decide +kernel⟩
theorem ok_noinv {f fI CW CN CM : Addr} {fd fdI : FuncData} (F : Fun K "_law_has_no_inverse" "_law_has_no_inverse" s_law_has_no_inverse f fd) (B : BI mg)
    (FI : Fun K "inverse_of" "inverse_of" s_inverse_of fI fdI) (gI : mg "inverse_of" = some (.ref fI))
    (gW : mg "WovenError" = some (.ref CW)) (xW : XC K CW) (gN : mg "NoInverse" = some (.ref CN)) (xN : XC K CN) (gM : mg "InvalidMatrix" = some (.ref CM)) (xM : XC K CM)
    (nw : PySem.W.subIn K (.ref CN) (.ref CW) = some true) (nm : PySem.W.subIn K (.ref CN) (.ref CM) = some false) : FnOk P w K mg base CX0 2 f fd ["base"] spNoInv := by
  have GI : FnOk P w K mg base (L2.CX P w) 1 fI fdI ["value", "base"] (spInv CN) := ok_inverse_of FI gN xN
  refine F.ok sc_noinv (fun vs H Q E h => ?_) (fun cdv A outer s H vs Q E hr h => ?_)
  · obtain ⟨p, rfl, _⟩ := h
    rfl
  · obtain ⟨p, rfl, hp, q⟩ := h
    have hp2 := primes_bd p hp
    refine ⟨_, pss_cons (ps_try_as (i := 1) (Wout := fun _ _ _ _ => False) rfl rfl sc_noinv.nd rfl rfl ⟨rfl, by decide, .inl gW⟩ takes0
        (fun W pn xe tk _ => pss_one (ps_expr (pe_kwS (E := WE W) GI hr rfl gI FI.kp (kb_inverse_of FI) (fun σ => passAt tk σ) (pa_cons pe_int pa_nil) (pk_cons (pv 0) pk_nil))))
        (fun a oe cls d pn hz hf => pss_one (ps_ret (pe_and (pe_callB (call_isX hz hf) (by rfl) B.isi (by decide +kernel) (pa_cons (pv 1) (pa_cons (pe_glob (v := .ref CN) rfl gN rfl) pa_nil)))
          (pe_and (pe_callB (call_isX hz hf) (by rfl) B.isi (by decide +kernel) (pa_cons (pv 1) (pa_cons (pe_bltn (v := .ty "ValueError") (by rfl) B.verr (by decide +kernel) rfl) pa_nil)))
          (pe_one (pe_not (pe_callB (call_isX hz hf) (by rfl) B.isi (by decide +kernel) (pa_cons (pv 1) (pa_cons (pe_glob (v := .ref CM) rfl gM rfl) pa_nil))))))))))
      (pss_one (ps_ret pe_bl)), ?_⟩
    refine ⟨_, rfl, rfl, rfl, 0, p, rfl, hp, fun _ H1 s1 => ?_, fun z => absurd (Int.zero_emod p) z⟩
    refine ⟨true, xW.exm nw, fun _ a0 ha0 => ?_, fun z => Bool.noConfusion z⟩
    refine ⟨_, rfl, CN, _, _, true, rfl, rfl, xN, rfl, .own CN, xN.kit xN.s, true, rfl, iteT ?_⟩
    refine ⟨_, rfl, CN, _, _, true, rfl, rfl, xN, rfl, .ty "ValueError", xN.kitV, true, rfl, iteT ?_⟩
    refine ⟨_, rfl, CN, _, _, false, rfl, rfl, xN, rfl, .own CM, xM.kit nm, false, rfl, q _ s1⟩
/-! ### dot -/
def dotI (ns ms : List Int) : Int := (List.zipWith (· * ·) ns ms).sum
def spDot (K : PySem.W.Frag) : Sp := fun vs H Q _ => ∃ (k1 k2 : Bool) (a b : Addr) (ns ms : List Int) (p : Int), vs = [.ref a, .ref b, .int p] ∧ SqB K k1 H a (vI ns) ∧ SqB K k2 H b (vI ms) ∧ ns.length = ms.length ∧ ns.length ≤ 1000 ∧ (∀ n ∈ ns, -(2 ^ 64) < n ∧ n < 2 ^ 64) ∧ 0 < p ∧
  ∀ H', Same H H' → Q (.int (dotI ns ms % p)) H'
theorem SqB.same {k : Bool} {a : Addr} {H H' : Hp} {xs : List V} (s : Same H H') (h : SqB K k H a xs) : SqB K k H' a xs := by
  cases k
  · exact SqT.same s h
  · exact s.seq h
theorem sc_dot : FnScope ["first", "second", "base", "one", "other"] ["first", "second", "base"] (defScope s_dot) := ⟨rfl, rfl, rfl, by decide +kernel, rfl, by decide +kernel, by decide +kernel⟩
theorem kb_dot {f : Addr} {fd : FuncData} (F : Fun K "dot" "dot" s_dot f fd) : KBn K fd ["first", "second", "base"] 2 ["base"] (fun us ws => us ++ ws) (fun vs zs => vs ++ zs) := by
  obtain ⟨oc, od, kV, doc, pm, an, cdv, ct, osl, rfl, lk, hcd⟩ := F.ex
  exact ⟨fun s us ws X l1 l2 => match us, ws, l1, l2 with | [_, _], [_], _, _ => .of_eq rfl, fun r1 r2 => r1.append r2⟩
theorem ok_dot {f : Addr} {fd : FuncData} (F : Fun K "dot" "dot" s_dot f fd) (B : BI mg) : FnOk P w K mg base CX0 1 f fd ["first", "second", "base"] (spDot K) := by
  refine F.ok sc_dot (fun vs H Q E h => ?_) (fun cdv A outer s H vs Q E hr h => ?_)
  · obtain ⟨k1, k2, a, b, ns, ms, p, rfl, _⟩ := h
    rfl
  · obtain ⟨k1, k2, a, b, ns, ms, p, rfl, ha, hb, hl, hl2, bd, hp, q⟩ := h
    refine ⟨_, pss_one (ps_ret (pe_op op_mod (pe_callB (cr_sum rfl) (by rfl) B.sum (by decide +kernel) (pa_cons
        (pe_lc (own := [("one", 3), ("other", 4)]) (g := gTup K 2 (gCons (gName 3) (gCons (gName 4) gNil))) (tt := tYes) rfl sc_dot.nd (pi_zipB (by rfl) B.zip (pa_cons (pv 0) (pa_cons (pv 1) pa_nil))) (blkOk_by (N := ["first", "second", "base", "one", "other"]) (sc := defScope s_dot) (by decide +kernel))
          (fun _ _ _ _ _ => pg_tup rfl (pgs_cons (pg_name (i := 3) sc_dot.nd rfl (Or.inl rfl)) (pgs_cons (pg_name (i := 4) sc_dot.nd rfl (Or.inl rfl)) pgs_nil)))
          (fun _ _ _ _ _ => pts_nil) (fun _ _ _ _ _ => pe_op op_mul (pv 3) (pv 4))) pa_nil)) (pv 2))), ?_⟩
    refine ⟨_, rfl, _, rfl, k1, k2, a, b, _, _, rfl, ha, hb, fun D hD => lc_it (walk_zipB (n := ns.length) (by simp [hl])) (fun i H' => Same H H' ∧ H' D = some (.lst (vI ((List.zipWith (· * ·) ns ms).take i)))) ⟨same_new hD, upd_same⟩
      (fun i H' _ ⟨s, _⟩ => ⟨SqB.same s ha, SqB.same s hb⟩) ?_ ?_⟩
    · rintro i v H1 H2 hi ⟨s1, hacc⟩ ⟨T, x, y, rfl, hT, rfl, hx, hy⟩
      obtain ⟨n, hn, rfl⟩ := item_int hx
      obtain ⟨m, hm, rfl⟩ := item_int hy
      have nDT : D ≠ T := ne_of_none hacc hT
      refine ⟨T, _, rfl, SqT.of upd_same, rfl, _, _, rfl, _, _, rfl, rfl, rfl, ?_⟩
      refine lc_yes ?_
      refine ⟨_, rfl, _, rfl, _, _, rfl, rfl, .inl (bd n (List.mem_of_getElem? hn)), vI ((List.zipWith (· * ·) ns ms).take i), ?_, ?_, ?_, ?_⟩
      · rw [upd_ne nDT]
        exact hacc
      · rw [List.length_map]
        refine line_lt ?_
        have : ((List.zipWith (· * ·) ns ms).take i).length ≤ i := List.length_take_le _ _
        omega
      · intro c o e
        rw [upd_ne (ne_of_none e hD), upd_ne (ne_of_none (s1 _ _ e) hT)]
        exact s1 _ _ e
      · rw [upd_same]
        have hz : (List.zipWith (· * ·) ns ms)[i]? = some (n * m) := by
          rw [List.getElem?_zipWith, hn, hm]
        rw [take_succ hz]
        simp [vI]
    · rintro H1 ⟨s1, hacc⟩
      have full : (List.zipWith (· * ·) ns ms).take ns.length = List.zipWith (· * ·) ns ms := by
        rw [List.take_of_length_le]
        rw [List.length_zipWith]
        omega
      rw [full] at hacc
      exact ⟨D, _, rfl, SqL.of hacc, _, rfl, _, _, rfl, rfl, hp, q _ s1⟩
/-! ### the law -/
theorem base_prime : ∀ x : Int, -3 ≤ x → x ≤ 110 → decide (x ∈ primes) = (isP x && decide (x ≤ 97)) := by
  have h : ∀ j ∈ List.range 114, decide (((j : Int) - 3) ∈ primes) = (isP ((j : Int) - 3) && decide (((j : Int) - 3) ≤ 97)) := by decide +kernel
  intro x h1 h2
  have e := h (x + 3).toNat (List.mem_range.mpr (by omega))
  have e2 : (((x + 3).toNat : Nat) : Int) - 3 = x := by omega
  rw [e2] at e
  exact e
theorem great_no {x : Int} (h : 97 < x) : decide (x ∈ primes) = false := decide_eq_false fun z => by
  have := (primes_bd x z).2
  omega
def spLaw (K : PySem.W.Frag) : Sp := fun vs H Q _ => ∃ (a : Addr) (ns : List Int), vs = [.ref a] ∧ SqL K H a (vI ns) ∧ ∀ H', Q (.bl true) H'
abbrev nLaw : List Str := ["script", "draws", "number", "base", "value", "other", "first", "k", "second", "handed", "due"]
theorem sc_law : FnScope nLaw ["script"] (defScope s_law) := ⟨rfl, rfl, rfl, by decide +kernel, rfl, by decide +kernel, by decide +kernel⟩
/-- what a comprehension of draws has made behind i turns -/
def Drawn (Hs : Hp) (d r D : Addr) (p : Int) (c0 i : Nat) (H : Hp) : Prop := KeepBut d Hs H ∧ ∃ (ns : List Int) (c : Nat), H D = some (.lst (vI ns)) ∧ ns.length = i ∧ (∀ n ∈ ns, 0 ≤ n ∧ n < p) ∧ Dr H d r c ∧ c ≤ c0 + i
theorem drawn_0 {Hs : Hp} {d r D : Addr} {p : Int} {c0 : Nat} (hD : Hs D = none) (D0 : Dr Hs d r c0) : Drawn Hs d r D p c0 0 (upd Hs D (.lst [])) :=
  ⟨KeepBut.of (same_new hD), [], c0, upd_same, rfl, fun _ h => (by cases h), D0.same (same_new hD), Nat.le_refl _⟩
theorem drawn_next {Hs H : Hp} {d r D : Addr} {p : Int} {c0 i : Nat} (hD : Hs D = none) (D0 : Dr Hs d r c0) (hp : 0 < p) (hi : c0 + i ≤ 100000) (h : Drawn Hs d r D p c0 i H) :
    spNext [.ref d, .int p] H (fun y H4 => ∃ acc, H4 D = some (.lst acc) ∧ acc.length < sizeLine ∧ Drawn Hs d r D p c0 (i + 1) (upd H4 D (.lst (acc ++ [y])))) E0 := by
  have n := D0.ne hD
  obtain ⟨kb, ns, c, hL, hl, hb, Dd, hc⟩ := h
  refine ⟨d, r, c, p, rfl, Dd, by omega, hp, fun z H' z0 z1 k1 D1 => ⟨vI ns, k1 _ _ n.1 hL, ?_, ?_, ns ++ [z], c + 1, ?_, ?_, ?_, D1.put n, ?_⟩⟩
  · rw [List.length_map, hl]
    exact line_lt (by omega)
  · intro b o' nb e
    rw [upd_ne (ne_of_none e hD)]
    exact k1 _ _ nb (kb _ _ nb e)
  · rw [upd_same]
    simp [vI]
  · rw [List.length_append, hl]
    rfl
  · intro x hx
    rcases List.mem_append.mp hx with hx | hx
    · exact hb x hx
    · rw [List.mem_singleton.mp hx]
      exact ⟨z0, z1⟩
  · omega
/-- c and a test that is known -/
theorem and_join {c e : Bool} {tb : TE} {σ : L2.St} {H : Hp} {Q : V → Hp → Prop} (hb : ∀ R : V → Hp → Prop, R (.bl e) H → tb σ H R) (q : Q (.bl (c && e)) H) : if c = true then tb σ H Q else Q (.bl false) H := by
  cases c with
  | true => exact iteT (hb _ q)
  | false => exact iteF q
theorem ok_law {a : Nat → Addr} {d : Nat → FuncData} (T : TX K mg a d) : FnOk P w K mg base CX0 3 (a i_law) (d i_law) ["script"] (spLaw K) := by
  have B := T.B
  have G_law_cell := ok_cell (P := P) (w := w) (base := base) T.F_law_cell B
  have G_law_draws := ok_draws (P := P) (w := w) (base := base) T.F_law_draws B
  have G_law_next := ok_next (P := P) (w := w) (base := base) T.F_law_next B
  have G_law_is_prime := ok_is_prime (P := P) (w := w) (base := base) T.F_law_is_prime B
  have G_law_prime := ok_prime (P := P) (w := w) (base := base) T.F_law_prime B T.F_law_next T.g_law_next T.b_law_next T.F_law_is_prime T.g_law_is_prime T.b_law_is_prime
  have G_law_same := ok_same (P := P) (w := w) (base := base) T.F_law_same B T.g_law_same T.b_law_same 0
  have G_is_base := ok_is_base (P := P) (w := w) (base := base) T.F_is_base T.g_BASES T.h_BASES
  have G_inverse_of := ok_inverse_of (P := P) (w := w) (base := base) T.F_inverse_of T.g_NoInverse T.x_NoInverse
  have G_law_has_no_inverse := ok_noinv (P := P) (w := w) (base := base) T.F_law_has_no_inverse B T.F_inverse_of T.g_inverse_of T.g_WovenError T.x_WovenError T.g_NoInverse T.x_NoInverse T.g_InvalidMatrix T.x_InvalidMatrix T.s_NoInverse_WovenError T.s_NoInverse_InvalidMatrix
  have G_dot := ok_dot (P := P) (w := w) (base := base) T.F_dot B
  refine T.F_law.ok sc_law (fun vs H Q E h => ?_) (fun cdv A outer s H vs Q E hr h => ?_)
  · obtain ⟨a, ns, rfl, _⟩ := h
    rfl
  · obtain ⟨sa, ns, rfl, hS, q⟩ := h
    refine ⟨_, pss_cons (ps_set (i := 1) sc_law.nd rfl (Or.inr rfl) (pe_call G_law_draws (hr.mono (by decide)) rfl T.g_law_draws T.F_law_draws.kp T.b_law_draws .nil pass0 (pa_cons (pe_call G_law_cell (hr.mono (by decide)) rfl T.g_law_cell T.F_law_cell.kp T.b_law_cell .nil pass0 (pa_cons (pv 0) (pa_cons pe_int pa_nil))) pa_nil)))
      (pss_cons (ps_set (i := 2) sc_law.nd rfl (Or.inl rfl) (pe_op op_sub (pe_call G_law_next (hr.mono (by decide)) rfl T.g_law_next T.F_law_next.kp T.b_law_next .nil pass0 (pa_cons (pv 1) (pa_cons pe_int pa_nil))) pe_int))
      (pss_cons (ps_if (pt_not (pt_val (pe_call G_law_same (hr.mono (by decide)) rfl T.g_law_same T.F_law_same.kp T.b_law_same .nil pass0 (pa_cons (pe_call G_is_base (hr.mono (by decide)) rfl T.g_is_base T.F_is_base.kp T.b_is_base .nil pass0 (pa_cons (pv 2) pa_nil)) (pa_cons (pe_and (pe_call G_law_is_prime (hr.mono (by decide)) rfl T.g_law_is_prime T.F_law_is_prime.kp T.b_law_is_prime .nil pass0 (pa_cons (pv 2) pa_nil)) (pe_one (pe_cmpR op_le (pv 2) pe_int (nomark _)))) pa_nil))))) (pss_one (ps_ret pe_bl)) pss_nil)
      (pss_cons (ps_if (pt_not (pt_val (pe_call G_law_same (hr.mono (by decide)) rfl T.g_law_same T.F_law_same.kp T.b_law_same .nil pass0 (pa_cons (pe_call G_is_base (hr.mono (by decide)) rfl T.g_is_base T.F_is_base.kp T.b_is_base .nil pass0 (pa_cons (pe_op op_add (pe_op op_add (pe_op op_pow pe_int pe_int) pe_int) (pe_op op_mul pe_int (pe_call G_law_next (hr.mono (by decide)) rfl T.g_law_next T.F_law_next.kp T.b_law_next .nil pass0 (pa_cons (pv 1) (pa_cons pe_int pa_nil))))) pa_nil)) (pa_cons pe_bl pa_nil))))) (pss_one (ps_ret pe_bl)) pss_nil)
      (pss_cons (ps_set (i := 3) sc_law.nd rfl (Or.inr rfl) (pe_call G_law_prime (hr.mono (by decide)) rfl T.g_law_prime T.F_law_prime.kp T.b_law_prime .nil pass0 (pa_cons (pv 1) pa_nil)))
      (pss_cons (ps_if (PW.pt (pw_or (pt_cmpR op_notBl (pe_call G_is_base (hr.mono (by decide)) rfl T.g_is_base T.F_is_base.kp T.b_is_base .nil pass0 (pa_cons (pv 3) pa_nil)) pe_bl (nomark _)) (pw_or1 (pt_not (pt_val (pe_call G_law_has_no_inverse (hr.mono (by decide)) rfl T.g_law_has_no_inverse T.F_law_has_no_inverse.kp T.b_law_has_no_inverse .nil pass0 (pa_cons (pv 3) pa_nil))))))) (pss_one (ps_ret pe_bl)) pss_nil)
      (pss_cons (ps_set (i := 4) sc_law.nd rfl (Or.inl rfl) (pe_op op_add pe_int (pe_call G_law_next (hr.mono (by decide)) rfl T.g_law_next T.F_law_next.kp T.b_law_next .nil pass0 (pa_cons (pv 1) (pa_cons (pe_op op_sub (pv 3) pe_int) pa_nil)))))
      (pss_cons (ps_set (i := 5) sc_law.nd rfl (Or.inl rfl) (pe_callN G_inverse_of (hr.mono (by decide)) rfl T.g_inverse_of T.F_inverse_of.kp (kb_inverse_of T.F_inverse_of) passL (pa_cons (pv 4) pa_nil) (pk_cons (pv 3) pk_nil)))
      (pss_cons (ps_if (PW.pt (pw_or (pt_not (pt_val (pe_callB call_isi (by rfl) B.isi (by decide +kernel) (pa_cons (pv 5) (pa_cons (pe_bltn (v := .ty "int") (by rfl) B.int (by decide +kernel) rfl) pa_nil))))) (pw_or (pt_val (pe_callB call_isi (by rfl) B.isi (by decide +kernel) (pa_cons (pv 5) (pa_cons (pe_bltn (v := .ty "bool") (by rfl) B.bool (by decide +kernel) rfl) pa_nil)))) (pw_or (pt_not (pt_chain op_le op_lt pe_int (pv 5) (pv 3))) (pw_or1 (pt_cmpR op_ne (pe_op op_mod (pe_op op_mul (pv 5) (pv 4)) (pv 3)) pe_int (nomark _))))))) (pss_one (ps_ret pe_bl)) pss_nil)
      (pss_cons (ps_set (i := 6) sc_law.nd rfl (Or.inr rfl) (pe_lc (own := [("k", 7)]) (g := gName 7) (tt := tYes) rfl sc_law.nd (pi_range1 (by rfl) B.range (pa_cons (pe_call G_law_next (hr.mono (by decide)) rfl T.g_law_next T.F_law_next.kp T.b_law_next .nil pass0 (pa_cons (pv 1) (pa_cons pe_int pa_nil))) pa_nil)) (blkOk_by (N := nLaw) (sc := (defScope s_law)) (by decide +kernel)) (fun _ _ _ _ _ => (pg_name (i := 7) sc_law.nd rfl (Or.inl rfl))) (fun _ _ _ _ _ => pts_nil) (fun _ _ _ _ _ => (pe_call G_law_next (hr.mono (by decide)) rfl T.g_law_next T.F_law_next.kp T.b_law_next .nil pass0 (pa_cons (pv 1) (pa_cons (pv 3) pa_nil))))))
      (pss_cons (ps_set (i := 8) sc_law.nd rfl (Or.inr rfl) (pe_lc (own := [("k", 7)]) (g := gName 7) (tt := tYes) rfl sc_law.nd (pi_range1 (by rfl) B.range (pa_cons (pe_callB call_len_seq (by rfl) B.len (by decide +kernel) (pa_cons (pv 6) pa_nil)) pa_nil)) (blkOk_by (N := nLaw) (sc := (defScope s_law)) (by decide +kernel)) (fun _ _ _ _ _ => (pg_name (i := 7) sc_law.nd rfl (Or.inl rfl))) (fun _ _ _ _ _ => pts_nil) (fun _ _ _ _ _ => (pe_call G_law_next (hr.mono (by decide)) rfl T.g_law_next T.F_law_next.kp T.b_law_next .nil pass0 (pa_cons (pv 1) (pa_cons (pv 3) pa_nil))))))
      (pss_cons (ps_set (i := 9) sc_law.nd rfl (Or.inl rfl) (pe_lst (pa_cons (pe_callTy call_list_of (by rfl) B.list (by decide +kernel) (pa_cons (pv 6) pa_nil)) (pa_cons (pe_callTy call_tuple_of (by rfl) B.tuple (by decide +kernel) (pa_cons (pv 8) pa_nil)) pa_nil))))
      (pss_cons (ps_set (i := 10) sc_law.nd rfl (Or.inl rfl) (pe_op op_mod (pe_callTy call_int1 (by rfl) B.int (by decide +kernel) (pa_cons (pe_callB (cr_sum rfl) (by rfl) B.sum (by decide +kernel) (pa_cons (pe_lc (own := [("k", 7)]) (g := gName 7) (tt := tYes) rfl sc_law.nd (pi_range1 (by rfl) B.range (pa_cons (pe_callB call_len_seq (by rfl) B.len (by decide +kernel) (pa_cons (pv 6) pa_nil)) pa_nil)) (blkOk_by (N := nLaw) (sc := (defScope s_law)) (by decide +kernel)) (fun _ _ _ _ _ => (pg_name (i := 7) sc_law.nd rfl (Or.inl rfl))) (fun _ _ _ _ _ => pts_nil) (fun _ _ _ _ _ => (pe_op op_mul (pe_ix (ix_listK (K := K) rfl) (pv 6) (pv 7) (fun _ _ => rfl)) (pe_ix (ix_listK (K := K) rfl) (pv 8) (pv 7) (fun _ _ => rfl))))) pa_nil)) pa_nil)) (pv 3)))
      (pss_one (ps_ret (pe_and (pe_call G_law_same (hr.mono (by decide)) rfl T.g_law_same T.F_law_same.kp T.b_law_same .nil pass0 (pa_cons (pe_callN G_dot (hr.mono (by decide)) rfl T.g_dot T.F_dot.kp (kb_dot T.F_dot) pass0 (pa_cons (pe_ix ix_list (pv 9) pe_int (fun _ _ => rfl)) (pa_cons (pe_ix ix_list (pv 9) pe_int (fun _ _ => rfl)) pa_nil)) (pk_cons (pv 3) pk_nil)) (pa_cons (pv 10) pa_nil))) (pe_one (pe_cmpR (op_eqD hr.units) (pv 9) (pe_lst (pa_cons (pv 6) (pa_cons (pe_callTy call_tuple_of (by rfl) B.tuple (by decide +kernel) (pa_cons (pv 8) pa_nil)) pa_nil))) (nomark _)))))))))))))))))), ?_⟩
    -- draws = _law_draws(_law_cell(script, 0))
    refine ⟨_, rfl, sa, ns, 0, rfl, hS, fun z => ⟨z, rfl, fun H1 dr rr s1 f1 D1 => ?_⟩⟩
    -- number
    refine ⟨_, rfl, dr, rr, 0, 114, rfl, D1, by omega, by decide, fun x H2 x0 x1 k2 D2 => ⟨_, _, rfl, rfl, ?_⟩⟩
    -- is_base is the law's word of primes
    refine ⟨_, rfl, x - 3, rfl, _, rfl, x - 3, rfl, by omega, by omega, _, rfl, ?_⟩
    refine and_join (e := decide (x - 3 ≤ 97)) (fun R r => ⟨_, rfl, _, _, rfl, rfl, r⟩) ?_
    refine ⟨_, _, rfl, by rw [base_prime _ (by omega) (by omega)]; exact Eqd.bl _ _ _, fun H3 s3 => ⟨_, rfl, iteF ?_⟩⟩
    have D3 := D2.same s3
    -- a great number
    refine ⟨_, _, rfl, rfl, ⟨by decide, by decide, by decide⟩, _, _, rfl, rfl, _, rfl, dr, rr, 1, 1000, rfl, D3, by omega, by decide, fun y H4 y0 y1 k4 D4 => ⟨_, _, rfl, rfl, .inl ⟨by decide, by decide⟩, _, _, rfl, rfl, _, rfl, ?_⟩⟩
    have gr : decide ((10 : Int) ^ (19 : Int).toNat + 1 + 2 * y ∈ primes) = false := great_no (by
      have e : (10 : Int) ^ (19 : Int).toNat = 10000000000000000000 := by decide +kernel
      rw [e]
      omega)
    refine ⟨_, _, rfl, by rw [gr]; exact Eqd.bl _ _ _, fun H5 s5 => ⟨_, rfl, iteF ?_⟩⟩
    have D5 := D4.same s5
    -- base
    refine ⟨_, rfl, dr, rr, 2, rfl, D5, by omega, fun p H6 c6 hc6 hp k6 D6 => ?_⟩
    have hp2 := primes_bd p hp
    refine ⟨_, rfl, p, rfl, _, _, rfl, rfl, _, rfl, if_f (by rw [decide_eq_true hp]; rfl) ?_⟩
    refine ⟨_, rfl, p, rfl, hp, fun H7 s7 => ⟨_, rfl, iteF ?_⟩⟩
    have D7 := D6.same s7
    -- value, other
    refine ⟨_, rfl, _, rfl, _, _, rfl, rfl, dr, rr, c6, p - 1, rfl, D7, by omega, by omega, fun v H8 v0 v1 k8 D8 => ⟨_, _, rfl, rfl, ?_⟩⟩
    have hv : (1 + v) % p = 1 + v := Int.emod_eq_of_lt (by omega) (by omega)
    refine ⟨_, rfl, _, rfl, rfl, rfl, 1 + v, p, rfl, hp, fun z => absurd z (by omega), fun _ f H9 s9 f0 f1 fe => ?_⟩
    have D9 := D8.same s9
    refine rd_isi (t := "int") (b := true) rfl (.base (.int f)) (by decide +kernel) ⟨_, rfl, iteF ?_⟩
    refine rd_isi (t := "int") (b := false) rfl (.base (.int f)) (by decide +kernel) ⟨_, rfl, iteF ?_⟩
    refine ⟨_, rfl, _, _, rfl, rfl, _, rfl, if_t (decide_eq_true f0) ?_⟩
    refine ⟨_, rfl, _, _, rfl, rfl, _, rfl, if_f (by rw [decide_eq_true f1]; rfl) ?_⟩
    refine ⟨_, rfl, _, rfl, _, _, rfl, rfl, .inl ⟨by omega, by omega⟩, _, rfl, _, _, rfl, rfl, by omega, rfl, _, rfl, if_f (by show (!decide (V.int (f * (1 + v) % p) = V.int 1)) = false; rw [fe]; simp) ?_⟩
    -- first
    refine ⟨_, rfl, dr, rr, c6 + 1, 9, rfl, D9, by omega, by decide, fun n H10 n0 n9 k10 D10 => ⟨n, rfl, by omega, by omega, fun L1 hL1 => ?_⟩⟩
    refine lc_it (walk_range (lo := 0)) (Drawn H10 dr rr L1 p (c6 + 2)) (drawn_0 hL1 D10) (fun _ _ _ _ => True.intro) ?_ ?_
    · rintro i u Ha Hb hi hP ⟨rfl, rfl⟩
      exact ⟨rfl, lc_yes ⟨_, rfl, _, rfl, drawn_next hL1 D10 (by omega) (by omega) hP⟩⟩
    rintro H11 ⟨k11, ns1, c11, hF, l1, b1, D11, hc11⟩
    -- second
    refine ⟨_, rfl, L1, _, rfl, .inl (SqL.of hF), _, rfl, by omega, by rw [List.length_map]; omega, fun L2 hL2 => ?_⟩
    refine lc_it (walk_range (lo := 0)) (Drawn H11 dr rr L2 p c11) (drawn_0 hL2 D11) (fun _ _ _ _ => True.intro) ?_ ?_
    · rintro i u Ha Hb hi hP ⟨rfl, rfl⟩
      rw [List.length_map] at hi
      exact ⟨rfl, lc_yes ⟨_, rfl, _, rfl, drawn_next hL2 D11 (by omega) (by omega) hP⟩⟩
    rintro H12 ⟨k12, ns2, c12, hG, l2, b2, D12, hc12⟩
    rw [List.length_map] at l2
    have hl12 : ns1.length = ns2.length := by omega
    have hF2 : H12 L1 = some (.lst (vI ns1)) := k12 _ _ (D10.ne hL1).1 hF
    -- handed
    refine ⟨_, rfl, L1, _, rfl, .inl (SqL.of hF2), fun M1 hM1 => ?_⟩
    have s13 := same_new (o := .lst (vI ns1)) hM1
    refine ⟨_, rfl, L2, _, rfl, .inl ⟨SqL.of (s13 _ _ hG), fun M2 hM2 => ⟨(by show 2 ≤ sizeLine; decide), fun M3 hM3 => ?_⟩⟩⟩
    have s14 := same_new (o := .tup (vI ns2)) hM2
    have s15 := same_new (o := .lst [.ref M1, .ref M2]) hM3
    have s25 := s14.trans s15
    have s35 := s13.trans s25
    have e1 := s25 _ _ (upd_same (H := H12) (a := M1) (o := .lst (vI ns1)))
    have e2 := s15 _ _ (upd_same (H := upd H12 M1 (.lst (vI ns1))) (a := M2) (o := .tup (vI ns2)))
    have e3 := upd_same (H := upd (upd H12 M1 (.lst (vI ns1))) M2 (.tup (vI ns2))) (a := M3) (o := .lst [.ref M1, .ref M2])
    have eF := s35 _ _ hF2
    have eG := s35 _ _ hG
    revert e1 e2 e3 eF eG
    generalize upd (upd (upd H12 M1 (.lst (vI ns1))) M2 (.tup (vI ns2))) M3 (.lst [.ref M1, .ref M2]) = H15
    intro e1 e2 e3 eF eG
    -- due
    refine ⟨_, rfl, L1, _, rfl, .inl (SqL.of eF), _, rfl, by omega, by rw [List.length_map]; omega, fun L4 hL4 => ?_⟩
    refine lc_it (walk_range (lo := 0)) (fun i H' => Same H15 H' ∧ H' L4 = some (.lst (vI ((List.zipWith (· * ·) ns1 ns2).take i)))) ⟨same_new hL4, upd_same⟩ (fun _ _ _ _ => True.intro) ?_ ?_
    · rintro i u Ha Hb hi ⟨sa, hacc⟩ ⟨rfl, rfl⟩
      rw [List.length_map] at hi
      have hi' : i < ns1.length := by omega
      have hj' : i < ns2.length := by omega
      have ex := atI_nat (ints_at hi')
      have ey := atI_nat (ints_at hj')
      rw [← Int.zero_add (i : Int)] at ex ey
      have bd := b1 _ (List.getElem_mem hi')
      refine ⟨rfl, lc_yes ⟨_, rfl, _, rfl, L1, _, _, _, rfl, rfl, SqL.of (sa _ _ eF), ex, _, rfl, _, rfl, L2, _, _, _, rfl, rfl, SqL.of (sa _ _ eG), ey, _, _, rfl, rfl, .inl ⟨by omega, by omega⟩, _, hacc, ?_, ?_, ?_⟩⟩
      · rw [List.length_map]
        refine line_lt ?_
        have : ((List.zipWith (· * ·) ns1 ns2).take i).length ≤ i := List.length_take_le _ _
        omega
      · intro b o e
        rw [upd_ne (ne_of_none e hL4)]
        exact sa _ _ e
      · rw [upd_same]
        have hz : (List.zipWith (· * ·) ns1 ns2)[i]? = some (ns1[i] * ns2[i]) := by
          rw [List.getElem?_zipWith, List.getElem?_eq_getElem hi', List.getElem?_eq_getElem hj']
        rw [take_succ hz]
        simp [vI]
    rintro H16 ⟨s16, hacc⟩
    have full : (List.zipWith (· * ·) ns1 ns2).take (((vI ns1).length : Int)).toNat = List.zipWith (· * ·) ns1 ns2 := by
      rw [List.take_of_length_le]
      rw [List.length_zipWith, List.length_map]
      omega
    rw [full] at hacc
    refine ⟨L4, _, rfl, SqL.of hacc, .inl ⟨_, rfl, _, rfl, _, _, rfl, rfl, by omega, ?_⟩⟩
    -- the last row
    refine ⟨_, rfl, M3, _, _, _, rfl, rfl, SqL.of (s16 _ _ e3), atI_nat (j := 0) rfl, _, rfl, M3, _, _, _, rfl, rfl, SqL.of (s16 _ _ e3), atI_nat (j := 1) rfl, _, rfl, rfl, rfl, true, false, M1, M2, ns1, ns2, p, rfl, SqL.of (s16 _ _ e1), SqT.of (s16 _ _ e2), hl12, by omega,
      fun n hn => by have := b1 n hn; omega, by omega, fun H17 s17 => ⟨_, rfl, _, _, rfl, Eqd.int _ _ _, fun H18 s18 => ⟨_, rfl, iteT ?_⟩⟩⟩
    have s68 := s17.trans s18
    have s58 := s16.trans s68
    refine ⟨_, rfl, _, rfl, _, rfl, L2, _, rfl, .inl ⟨SqL.of (s58 _ _ eG), fun M5 hM5 => ⟨(by show 2 ≤ sizeLine; decide), fun M6 hM6 => ?_⟩⟩⟩
    have s19 := same_new (o := .tup (vI ns2)) hM5
    have s20 := same_new (o := .lst [.ref L1, .ref M5]) hM6
    have s9' := s58.trans (s19.trans s20)
    have dl : DpAll K _ [.ref M1, .ref M2] [.list (dI ns1), .tuple (dI ns2)] := .cons (.lst (SqL.of (s9' _ _ e1)) (dp_ints ns1)) (.cons (.tup (SqT.of (s9' _ _ e2)) (dp_ints ns2)) .nil)
    have dr' : DpAll K _ [.ref L1, .ref M5] [.list (dI ns1), .tuple (dI ns2)] := .cons (.lst (SqL.of (s9' _ _ eF)) (dp_ints ns1)) (.cons (.tup (SqT.of (s20 _ _ upd_same)) (dp_ints ns2)) .nil)
    have lay : (PyData.list [.list (dI ns1), .tuple (dI ns2)]).canLay0 = true := lay_list (by simp [PyData.canLayAll0, lay_list (lay_ints ns1), lay_tuple (lay_ints ns2)])
    have dep : (PyData.list [.list (dI ns1), .tuple (dI ns2)]).depth ≤ 64 := by
      have d1 := dep_list (dep_ints ns1)
      have d2 := dep_tuple (dep_ints ns2)
      refine Nat.le_trans (dep_list (n := 1) ?_) (by decide)
      simp only [PyData.depthAll]
      omega
    refine ⟨_, _, .lst (SqL.of (s9' _ _ e3)) dl, .lst (SqL.of upd_same) dr', shaped_of lay dep, shaped_of lay dep, ?_⟩
    rw [SeqAt.eqv_refl _ lay]
    exact q _
end
/-! ### the top's facts, the head -/
theorem all_mk {l : PySem.W.OpenLaw} {w : World} {K : PySem.W.Frag} {h : Heap} {mg : Str → Option Value} {fa e0 e1 e2 e3 e4 e5 e6 e7 e8 e9 e10 e11 e12 e13 e14 : Addr} (X : K.In h) (G : h.Ns mainGlobals mg) (hfa : mg "law" = some (.ref fa))
    {od3 : Option Addr} {its3 : Array Value} {n3 : Nat} {sl3 : Array (Option Value)} {oc4 kV4 dc4 pm4 cd4 ct4 : Value} {od4 an4 : Option Addr} {sl4 : Array (Option Value)} {oc5 kV5 dc5 pm5 cd5 ct5 : Value} {od5 an5 : Option Addr} {sl5 : Array (Option Value)} {oc6 kV6 dc6 pm6 cd6 ct6 : Value} {od6 an6 : Option Addr} {sl6 : Array (Option Value)} {oc7 kV7 dc7 pm7 cd7 ct7 : Value} {od7 an7 : Option Addr} {sl7 : Array (Option Value)} {oc8 kV8 dc8 pm8 cd8 ct8 : Value} {od8 an8 : Option Addr} {sl8 : Array (Option Value)} {oc9 kV9 dc9 pm9 cd9 ct9 : Value} {od9 an9 : Option Addr} {sl9 : Array (Option Value)} {oc10 kV10 dc10 pm10 cd10 ct10 : Value} {od10 an10 : Option Addr} {sl10 : Array (Option Value)} {oc11 kV11 dc11 pm11 cd11 ct11 : Value} {od11 an11 : Option Addr} {sl11 : Array (Option Value)} {oc12 kV12 dc12 pm12 cd12 ct12 : Value} {od12 an12 : Option Addr} {sl12 : Array (Option Value)} {oc13 kV13 dc13 pm13 cd13 ct13 : Value} {od13 an13 : Option Addr} {sl13 : Array (Option Value)} {oc14 kV14 dc14 pm14 cd14 ct14 : Value} {od14 an14 : Option Addr} {sl14 : Array (Option Value)}
    (a0 : PySem.W.nsIn K mainGlobals "WovenError" = some (some (.ref e0)))
    (x0 : XC K e0)
    (a1 : PySem.W.nsIn K mainGlobals "NoInverse" = some (some (.ref e1)))
    (x1 : XC K e1)
    (a2 : PySem.W.nsIn K mainGlobals "InvalidMatrix" = some (some (.ref e2)))
    (x2 : XC K e2)
    (a3 : PySem.W.nsIn K mainGlobals "BASES" = some (some (.ref e3)))
    (l3 : K.lookup e3 = some ⟨.type "tuple", od3, .seq its3 n3, sl3⟩)
    (v3 : Vals (vI ([2, 3, 5, 7, 11, 13, 17, 19, 23, 29, 31, 37, 41, 43, 47, 53, 59, 61, 67, 71, 73, 79, 83, 89, 97] : List Int)) its3.toList)
    (w3 : its3.size ≤ sizeLine)
    (a4 : PySem.W.nsIn K mainGlobals "is_base" = some (some (.ref e4)))
    (l4 : K.lookup e4 = some ⟨oc4, od4, .func (PySem.W.fnOf "is_base" "is_base" (defArgs s_is_base) (defBody s_is_base) (defScope s_is_base) .none kV4 dc4 pm4 an4 cd4 ct4), sl4⟩)
    (c4 : PySem.W.codeIn K cd4 "is_base" = true)
    (k4 : PySem.W.keepIn K (.ref e4) = true)
    (a5 : PySem.W.nsIn K mainGlobals "inverse_of" = some (some (.ref e5)))
    (l5 : K.lookup e5 = some ⟨oc5, od5, .func (PySem.W.fnOf "inverse_of" "inverse_of" (defArgs s_inverse_of) (defBody s_inverse_of) (defScope s_inverse_of) .none kV5 dc5 pm5 an5 cd5 ct5), sl5⟩)
    (c5 : PySem.W.codeIn K cd5 "inverse_of" = true)
    (k5 : PySem.W.keepIn K (.ref e5) = true)
    (a6 : PySem.W.nsIn K mainGlobals "dot" = some (some (.ref e6)))
    (l6 : K.lookup e6 = some ⟨oc6, od6, .func (PySem.W.fnOf "dot" "dot" (defArgs s_dot) (defBody s_dot) (defScope s_dot) .none kV6 dc6 pm6 an6 cd6 ct6), sl6⟩)
    (c6 : PySem.W.codeIn K cd6 "dot" = true)
    (k6 : PySem.W.keepIn K (.ref e6) = true)
    (a7 : PySem.W.nsIn K mainGlobals "_law_cell" = some (some (.ref e7)))
    (l7 : K.lookup e7 = some ⟨oc7, od7, .func (PySem.W.fnOf "_law_cell" "_law_cell" (defArgs s_law_cell) (defBody s_law_cell) (defScope s_law_cell) .none kV7 dc7 pm7 an7 cd7 ct7), sl7⟩)
    (c7 : PySem.W.codeIn K cd7 "_law_cell" = true)
    (k7 : PySem.W.keepIn K (.ref e7) = true)
    (a8 : PySem.W.nsIn K mainGlobals "_law_draws" = some (some (.ref e8)))
    (l8 : K.lookup e8 = some ⟨oc8, od8, .func (PySem.W.fnOf "_law_draws" "_law_draws" (defArgs s_law_draws) (defBody s_law_draws) (defScope s_law_draws) .none kV8 dc8 pm8 an8 cd8 ct8), sl8⟩)
    (c8 : PySem.W.codeIn K cd8 "_law_draws" = true)
    (k8 : PySem.W.keepIn K (.ref e8) = true)
    (a9 : PySem.W.nsIn K mainGlobals "_law_next" = some (some (.ref e9)))
    (l9 : K.lookup e9 = some ⟨oc9, od9, .func (PySem.W.fnOf "_law_next" "_law_next" (defArgs s_law_next) (defBody s_law_next) (defScope s_law_next) .none kV9 dc9 pm9 an9 cd9 ct9), sl9⟩)
    (c9 : PySem.W.codeIn K cd9 "_law_next" = true)
    (k9 : PySem.W.keepIn K (.ref e9) = true)
    (a10 : PySem.W.nsIn K mainGlobals "_law_is_prime" = some (some (.ref e10)))
    (l10 : K.lookup e10 = some ⟨oc10, od10, .func (PySem.W.fnOf "_law_is_prime" "_law_is_prime" (defArgs s_law_is_prime) (defBody s_law_is_prime) (defScope s_law_is_prime) .none kV10 dc10 pm10 an10 cd10 ct10), sl10⟩)
    (c10 : PySem.W.codeIn K cd10 "_law_is_prime" = true)
    (k10 : PySem.W.keepIn K (.ref e10) = true)
    (a11 : PySem.W.nsIn K mainGlobals "_law_prime" = some (some (.ref e11)))
    (l11 : K.lookup e11 = some ⟨oc11, od11, .func (PySem.W.fnOf "_law_prime" "_law_prime" (defArgs s_law_prime) (defBody s_law_prime) (defScope s_law_prime) .none kV11 dc11 pm11 an11 cd11 ct11), sl11⟩)
    (c11 : PySem.W.codeIn K cd11 "_law_prime" = true)
    (k11 : PySem.W.keepIn K (.ref e11) = true)
    (a12 : PySem.W.nsIn K mainGlobals "_law_same" = some (some (.ref e12)))
    (l12 : K.lookup e12 = some ⟨oc12, od12, .func (PySem.W.fnOf "_law_same" "_law_same" (defArgs s_law_same) (defBody s_law_same) (defScope s_law_same) .none kV12 dc12 pm12 an12 cd12 ct12), sl12⟩)
    (c12 : PySem.W.codeIn K cd12 "_law_same" = true)
    (k12 : PySem.W.keepIn K (.ref e12) = true)
    (a13 : PySem.W.nsIn K mainGlobals "_law_has_no_inverse" = some (some (.ref e13)))
    (l13 : K.lookup e13 = some ⟨oc13, od13, .func (PySem.W.fnOf "_law_has_no_inverse" "_law_has_no_inverse" (defArgs s_law_has_no_inverse) (defBody s_law_has_no_inverse) (defScope s_law_has_no_inverse) .none kV13 dc13 pm13 an13 cd13 ct13), sl13⟩)
    (c13 : PySem.W.codeIn K cd13 "_law_has_no_inverse" = true)
    (k13 : PySem.W.keepIn K (.ref e13) = true)
    (a14 : PySem.W.nsIn K mainGlobals "law" = some (some (.ref e14)))
    (l14 : K.lookup e14 = some ⟨oc14, od14, .func (PySem.W.fnOf "law" "law" (defArgs s_law) (defBody s_law) (defScope s_law) .none kV14 dc14 pm14 an14 cd14 ct14), sl14⟩)
    (c14 : PySem.W.codeIn K cd14 "law" = true)
    (k14 : PySem.W.keepIn K (.ref e14) = true)
    (s_WovenError_NoInverse : PySem.W.subIn K (.ref e0) (.ref e1) = some false)
    (s_WovenError_InvalidMatrix : PySem.W.subIn K (.ref e0) (.ref e2) = some false)
    (s_NoInverse_WovenError : PySem.W.subIn K (.ref e1) (.ref e0) = some true)
    (s_NoInverse_InvalidMatrix : PySem.W.subIn K (.ref e1) (.ref e2) = some false)
    (s_InvalidMatrix_WovenError : PySem.W.subIn K (.ref e2) (.ref e0) = some true)
    (s_InvalidMatrix_NoInverse : PySem.W.subIn K (.ref e2) (.ref e1) = some false)
    (z_len : PySem.W.nsIn K mainGlobals "len" = some none)
    (z_int : PySem.W.nsIn K mainGlobals "int" = some none)
    (z_abs : PySem.W.nsIn K mainGlobals "abs" = some none)
    (z_range : PySem.W.nsIn K mainGlobals "range" = some none)
    (z_isi : PySem.W.nsIn K mainGlobals "isinstance" = some none)
    (z_tuple : PySem.W.nsIn K mainGlobals "tuple" = some none)
    (z_list : PySem.W.nsIn K mainGlobals "list" = some none)
    (z_bool : PySem.W.nsIn K mainGlobals "bool" = some none)
    (z_str : PySem.W.nsIn K mainGlobals "str" = some none)
    (z_sum : PySem.W.nsIn K mainGlobals "sum" = some none)
    (z_zip : PySem.W.nsIn K mainGlobals "zip" = some none)
    (z_all : PySem.W.nsIn K mainGlobals "all" = some none)
    (z_any : PySem.W.nsIn K mainGlobals "any" = some none)
    (z_repr : PySem.W.nsIn K mainGlobals "repr" = some none)
    (z_verr : PySem.W.nsIn K mainGlobals "ValueError" = some none) :
    ∃ fd : FuncData, (∀ (s : Shared) (v : Value), BindsTo s fd ⟨[v], []⟩ [("script", v)]) ∧ ∀ base : Heap, K.In base → base.Ns mainGlobals mg → FnOk l.prog w K mg base CX0 3 fa fd ["script"] (spLaw K) := by
  have efa : fa = e14 := Value.ref.inj (Option.some.inj (hfa.symm.trans (PySem.W.mg_of X G a14)))
  have T : TX K mg (fun n => ([e0, e1, e2, e3, e4, e5, e6, e7, e8, e9, e10, e11, e12, e13, e14] : List Addr).getD n 0) (fun n => ([(PySem.W.fnOf "law" "law" (defArgs s_law) (defBody s_law) (defScope s_law) .none kV14 dc14 pm14 an14 cd14 ct14), (PySem.W.fnOf "law" "law" (defArgs s_law) (defBody s_law) (defScope s_law) .none kV14 dc14 pm14 an14 cd14 ct14), (PySem.W.fnOf "law" "law" (defArgs s_law) (defBody s_law) (defScope s_law) .none kV14 dc14 pm14 an14 cd14 ct14), (PySem.W.fnOf "law" "law" (defArgs s_law) (defBody s_law) (defScope s_law) .none kV14 dc14 pm14 an14 cd14 ct14), (PySem.W.fnOf "is_base" "is_base" (defArgs s_is_base) (defBody s_is_base) (defScope s_is_base) .none kV4 dc4 pm4 an4 cd4 ct4), (PySem.W.fnOf "inverse_of" "inverse_of" (defArgs s_inverse_of) (defBody s_inverse_of) (defScope s_inverse_of) .none kV5 dc5 pm5 an5 cd5 ct5), (PySem.W.fnOf "dot" "dot" (defArgs s_dot) (defBody s_dot) (defScope s_dot) .none kV6 dc6 pm6 an6 cd6 ct6), (PySem.W.fnOf "_law_cell" "_law_cell" (defArgs s_law_cell) (defBody s_law_cell) (defScope s_law_cell) .none kV7 dc7 pm7 an7 cd7 ct7), (PySem.W.fnOf "_law_draws" "_law_draws" (defArgs s_law_draws) (defBody s_law_draws) (defScope s_law_draws) .none kV8 dc8 pm8 an8 cd8 ct8), (PySem.W.fnOf "_law_next" "_law_next" (defArgs s_law_next) (defBody s_law_next) (defScope s_law_next) .none kV9 dc9 pm9 an9 cd9 ct9), (PySem.W.fnOf "_law_is_prime" "_law_is_prime" (defArgs s_law_is_prime) (defBody s_law_is_prime) (defScope s_law_is_prime) .none kV10 dc10 pm10 an10 cd10 ct10), (PySem.W.fnOf "_law_prime" "_law_prime" (defArgs s_law_prime) (defBody s_law_prime) (defScope s_law_prime) .none kV11 dc11 pm11 an11 cd11 ct11), (PySem.W.fnOf "_law_same" "_law_same" (defArgs s_law_same) (defBody s_law_same) (defScope s_law_same) .none kV12 dc12 pm12 an12 cd12 ct12), (PySem.W.fnOf "_law_has_no_inverse" "_law_has_no_inverse" (defArgs s_law_has_no_inverse) (defBody s_law_has_no_inverse) (defScope s_law_has_no_inverse) .none kV13 dc13 pm13 an13 cd13 ct13), (PySem.W.fnOf "law" "law" (defArgs s_law) (defBody s_law) (defScope s_law) .none kV14 dc14 pm14 an14 cd14 ct14)] : List FuncData).getD n (PySem.W.fnOf "law" "law" (defArgs s_law) (defBody s_law) (defScope s_law) .none kV14 dc14 pm14 an14 cd14 ct14)) :=
    ⟨⟨PySem.W.mg_none_of X G z_len, PySem.W.mg_none_of X G z_int, PySem.W.mg_none_of X G z_abs, PySem.W.mg_none_of X G z_range, PySem.W.mg_none_of X G z_isi, PySem.W.mg_none_of X G z_tuple, PySem.W.mg_none_of X G z_list, PySem.W.mg_none_of X G z_bool, PySem.W.mg_none_of X G z_str, PySem.W.mg_none_of X G z_sum, PySem.W.mg_none_of X G z_zip, PySem.W.mg_none_of X G z_all, PySem.W.mg_none_of X G z_any, PySem.W.mg_none_of X G z_repr, PySem.W.mg_none_of X G z_verr⟩,
    PySem.W.mg_of X G a0,
    x0,
    PySem.W.mg_of X G a1,
    x1,
    PySem.W.mg_of X G a2,
    x2,
    PySem.W.mg_of X G a3,
    fun H => .inr ⟨_, its3, n3, l3, rfl, rfl, w3, v3⟩,
    fun_mk (st := s_is_base) l4 c4 k4,
    PySem.W.mg_of X G a4,
    (fun_mk (st := s_is_base) l4 c4 k4).binds (ps := ["number"]) fun _ _ _ _ _ _ us hl => match us, hl with | [_], _ => rfl,
    fun_mk (st := s_inverse_of) l5 c5 k5,
    PySem.W.mg_of X G a5,
    fun_mk (st := s_dot) l6 c6 k6,
    PySem.W.mg_of X G a6,
    fun_mk (st := s_law_cell) l7 c7 k7,
    PySem.W.mg_of X G a7,
    (fun_mk (st := s_law_cell) l7 c7 k7).binds (ps := ["script", "k"]) fun _ _ _ _ _ _ us hl => match us, hl with | [_, _], _ => rfl,
    fun_mk (st := s_law_draws) l8 c8 k8,
    PySem.W.mg_of X G a8,
    (fun_mk (st := s_law_draws) l8 c8 k8).binds (ps := ["cell"]) fun _ _ _ _ _ _ us hl => match us, hl with | [_], _ => rfl,
    fun_mk (st := s_law_next) l9 c9 k9,
    PySem.W.mg_of X G a9,
    (fun_mk (st := s_law_next) l9 c9 k9).binds (ps := ["draws", "many"]) fun _ _ _ _ _ _ us hl => match us, hl with | [_, _], _ => rfl,
    fun_mk (st := s_law_is_prime) l10 c10 k10,
    PySem.W.mg_of X G a10,
    (fun_mk (st := s_law_is_prime) l10 c10 k10).binds (ps := ["number"]) fun _ _ _ _ _ _ us hl => match us, hl with | [_], _ => rfl,
    fun_mk (st := s_law_prime) l11 c11 k11,
    PySem.W.mg_of X G a11,
    (fun_mk (st := s_law_prime) l11 c11 k11).binds (ps := ["draws"]) fun _ _ _ _ _ _ us hl => match us, hl with | [_], _ => rfl,
    fun_mk (st := s_law_same) l12 c12 k12,
    PySem.W.mg_of X G a12,
    (fun_mk (st := s_law_same) l12 c12 k12).binds (ps := ["actual", "expected"]) fun _ _ _ _ _ _ us hl => match us, hl with | [_, _], _ => rfl,
    fun_mk (st := s_law_has_no_inverse) l13 c13 k13,
    PySem.W.mg_of X G a13,
    (fun_mk (st := s_law_has_no_inverse) l13 c13 k13).binds (ps := ["base"]) fun _ _ _ _ _ _ us hl => match us, hl with | [_], _ => rfl,
    fun_mk (st := s_law) l14 c14 k14,
    PySem.W.mg_of X G a14,
    (fun_mk (st := s_law) l14 c14 k14).binds (ps := ["script"]) fun _ _ _ _ _ _ us hl => match us, hl with | [_], _ => rfl,
    s_WovenError_NoInverse,
    s_WovenError_InvalidMatrix,
    s_NoInverse_WovenError,
    s_NoInverse_InvalidMatrix,
    s_InvalidMatrix_WovenError,
    s_InvalidMatrix_NoInverse⟩
  rw [efa]
  exact ⟨(PySem.W.fnOf "law" "law" (defArgs s_law) (defBody s_law) (defScope s_law) .none kV14 dc14 pm14 an14 cd14 ct14), fun s v => .of_eq rfl, fun base _ _ => ok_law T⟩
theorem walk_law {l : PySem.W.OpenLaw} {q : Program} {loose : List Str} {XP : (Str → Option Value) → Heap → Prop} {YP : World → Heap → Prop} {d : DefRec} {K : Params → PySem.W.Frag} (hn : l.most = some 63) (hdf : d.params.defaults = [])
    (hY : ∀ (w : World) (h : Heap), YP w h → (K w.params).In h)
    (F : ∀ (w : World) (mg : Str → Option Value) (fa : Addr) (h : Heap), (K w.params).In h → h.Ns mainGlobals mg → mg d.name = some (.ref fa) →
      ∃ fd : FuncData, (∀ (s : Shared) (u : Value), BindsTo s fd ⟨[u], []⟩ [("script", u)]) ∧ ∀ base : Heap, (K w.params).In base → base.Ns mainGlobals mg → FnOk l.prog w (K w.params) mg base CX0 3 fa fd ["script"] (spLaw (K w.params))) :
    PySem.W.WalkO q loose XP YP l.row.toRowW d [] (fun f vs => PySem.call f vs) :=
  L2.walk_of (n := 63) (k := 3) (x := "script") (CX := fun _ => CX0) (sp := fun w => spLaw (K w.params)) hn (by decide) hdf ⟨rfl, by decide, by decide⟩ hY F (fun _ _ a ns hl _ hS => ⟨a, ns, rfl, hS, fun _ => rfl⟩) fun _ _ _ _ _ z => z
end Bw
open PySem PySem.W PyProof.Rows
set_option maxRecDepth 100000 in
set_option maxHeartbeats 0 in
theorem PySem.Challenge.cw_barswoven_k01_field_holds : PySem.Challenge.rw_barswoven_k01_field.Holds := by
  w_on; o_law; k_head; (case hw => w_witness2)
  k_fill
  refine Bw.walk_law (l := PySem.Challenge.rw_barswoven_k01_field) rfl rfl (fun w h Y => PySem.W.kIn_of Y) ?F
  case F =>
    intro w mg fa h KX G hmg
    refine' Bw.all_mk KX G hmg ?a0 ?x0 ?a1 ?x1 ?a2 ?x2 ?a3 ?l3 ?v3 ?w3 ?a4 ?l4 ?c4 ?k4 ?a5 ?l5 ?c5 ?k5 ?a6 ?l6 ?c6 ?k6 ?a7 ?l7 ?c7 ?k7 ?a8 ?l8 ?c8 ?k8 ?a9 ?l9 ?c9 ?k9 ?a10 ?l10 ?c10 ?k10 ?a11 ?l11 ?c11 ?k11 ?a12 ?l12 ?c12 ?k12 ?a13 ?l13 ?c13 ?k13 ?a14 ?l14 ?c14 ?k14 ?s_WovenError_NoInverse ?s_WovenError_InvalidMatrix ?s_NoInverse_WovenError ?s_NoInverse_InvalidMatrix ?s_InvalidMatrix_WovenError ?s_InvalidMatrix_NoInverse ?z_len ?z_int ?z_abs ?z_range ?z_isi ?z_tuple ?z_list ?z_bool ?z_str ?z_sum ?z_zip ?z_all ?z_any ?z_repr ?z_verr
    (case a0 => k_is)
    (case x0 => exact ⟨by (first | k_exc | k_is), by k_is, by k_is, by k_is, by k_is, by first | k_is | decide +kernel, by k_is, by k_is, by k_is, by k_is, by k_is, by k_is, by k_is, by k_is⟩)
    (case a1 => k_is)
    (case x1 => exact ⟨by (first | k_exc | k_is), by k_is, by k_is, by k_is, by k_is, by first | k_is | decide +kernel, by k_is, by k_is, by k_is, by k_is, by k_is, by k_is, by k_is, by k_is⟩)
    (case a2 => k_is)
    (case x2 => exact ⟨by (first | k_exc | k_is), by k_is, by k_is, by k_is, by k_is, by first | k_is | decide +kernel, by k_is, by k_is, by k_is, by k_is, by k_is, by k_is, by k_is, by k_is⟩)
    (case a3 => k_is)
    (case l3 => k_is)
    (case v3 => (repeat (first | exact Paired.nil | refine Paired.cons ⟨_, rfl⟩ ?_ | exact .nil | refine .cons ⟨_, rfl⟩ ?_)))
    (case w3 => (exact Bw.line_of (by decide)))
    (case a4 => k_is)
    (case l4 => k_is)
    (case c4 => k_is)
    (case k4 => k_is)
    (case a5 => k_is)
    (case l5 => k_is)
    (case c5 => k_is)
    (case k5 => k_is)
    (case a6 => k_is)
    (case l6 => k_is)
    (case c6 => k_is)
    (case k6 => k_is)
    (case a7 => k_is)
    (case l7 => k_is)
    (case c7 => k_is)
    (case k7 => k_is)
    (case a8 => k_is)
    (case l8 => k_is)
    (case c8 => k_is)
    (case k8 => k_is)
    (case a9 => k_is)
    (case l9 => k_is)
    (case c9 => k_is)
    (case k9 => k_is)
    (case a10 => k_is)
    (case l10 => k_is)
    (case c10 => k_is)
    (case k10 => k_is)
    (case a11 => k_is)
    (case l11 => k_is)
    (case c11 => k_is)
    (case k11 => k_is)
    (case a12 => k_is)
    (case l12 => k_is)
    (case c12 => k_is)
    (case k12 => k_is)
    (case a13 => k_is)
    (case l13 => k_is)
    (case c13 => k_is)
    (case k13 => k_is)
    (case a14 => k_is)
    (case l14 => k_is)
    (case c14 => k_is)
    (case k14 => k_is)
    (case s_WovenError_NoInverse => k_is)
    (case s_WovenError_InvalidMatrix => k_is)
    (case s_NoInverse_WovenError => k_is)
    (case s_NoInverse_InvalidMatrix => k_is)
    (case s_InvalidMatrix_WovenError => k_is)
    (case s_InvalidMatrix_NoInverse => k_is)
    (case z_len => k_is)
    (case z_int => k_is)
    (case z_abs => k_is)
    (case z_range => k_is)
    (case z_isi => k_is)
    (case z_tuple => k_is)
    (case z_list => k_is)
    (case z_bool => k_is)
    (case z_str => k_is)
    (case z_sum => k_is)
    (case z_zip => k_is)
    (case z_all => k_is)
    (case z_any => k_is)
    (case z_repr => k_is)
    (case z_verr => k_is)
