import PyProof.Rows.All
import Wide.All
import OpenK.AllK
import Wide.FinOn
import HandS.ForMost
import HandS.TupAny
import HandS.Conv
import HandS.IsInst
import HandS.Style
import KE.GoesEnum
import PyProof.TupleOfSeq
import KE.GoesMore
import HandS.Wide
import HandS.Walk
import HandS.Codes
import KE.KSortedM
import KE.KxText
import PySem.Challenge.RW_oneofeach_k07_atoms_of_a_formula
set_option Elab.async false
set_option linter.all false
set_option maxRecDepth 100000
namespace Nz
open PySem PySem.Spec PyProof.Rows L2
/-! ### sorted(t), t a tuple of ints -/
section
variable {prog : Program} {w : World} {A : Around} {E : Value → Shared → Prop} {s : Shared}
/-- the heap behind the collecting of vs -/
def gath (h : Heap) (vs : List Value) : Heap :=
  (h.push (seqObj "list" #[] 0)).update h.objs.size (Obj.mapSeq (· ++ vs.toArray))
theorem gath_size (h : Heap) (vs : List Value) : (gath h vs).objs.size = h.objs.size + 1 :=
  (Heap.size_update ..).trans (size_push' _ _)
theorem gath_old {h : Heap} {vs : List Value} {b : Addr} {o : Obj} (e : h.get? b = some o) : (gath h vs).get? b = some o :=
  (Heap.get?_update_other _ _ (Nat.ne_of_gt (Heap.lt_size e))).trans (Heap.get?_push_of_some _ e)
set_option maxHeartbeats 1000000 in
theorem gather_tup {t : Addr} {vs : List Value} {Q : List Value → Shared → Prop} (ht : IsTup s.heap t vs.toArray)
    (hz : vs.length ≤ sizeLine) (fin : Q vs { s with heap := gath s.heap vs }) : wpAny (model prog w) A (collect (.ref t)) Q E s := by
  obtain ⟨o, ho, hc, n, hd⟩ := ht
  have new0 : (s.heap.push (seqObj "list" #[] 0)).get? s.heap.objs.size = some (seqObj "list" #[] 0) := Heap.get?_push_size _ rfl
  have old : (s.heap.push (seqObj "list" #[] 0)).get? t = some o := Heap.get?_push_of_some _ ho
  unfold collect
  refine wpAny_bind (wpAny_runValue (codeAny_builtin entry_proto_collect' (?k : wpAny _ _
    (do again (.builtin "list.__iadd__" ⟨[← newList [], .ref t], []⟩)) _ _ s)))
  refine wpAny_bind (wpAny_newList (wpAny_pure ⟨Code.quiet_builtin _ (by decide +kernel), codeAny_builtin entry_list_iadd'
    (?k2 : wpAny _ _ (Builtin.List.listExtendWith (.ref s.heap.objs.size) (.ref t) (.ref s.heap.objs.size)) _ _
      { s with heap := s.heap.push (seqObj "list" #[] 0) })⟩))
  unfold Builtin.List.listExtendWith
  refine wpAny_bind (wpAny_typeOf (T := "tuple") ⟨o, old, hc⟩ ?_)
  have tt : (Value.type "tuple" == Value.type "tuple") = true := by rfl
  rw [if_pos (by simp [tt])]
  refine wpAny_bind (listItems_at old hd (wpAny_bind (listItems_at (xs := #[]) (n := 0) new0 rfl ?_)))
  rw [if_neg (by simp)]
  refine wpAny_bind (listUpdate_at (xs := #[]) (n := 0) new0 rfl ?_ (Nat.zero_le _) (by
    show (#[] ++ vs.toArray).size ≤ sizeLine + 1
    simp only [Array.size_append, List.size_toArray, List.length_nil]
    omega))
  refine wpAny_pure (?k3 : wpAny (model prog w) A (do
      match (← load s.heap.objs.size).data with
      | .seq xs _ => pure xs.toList
      | _ => unsupported "internal:collect") Q E { s with heap := gath s.heap vs })
  refine wpAny_bind (wpAny_load (get?_update_seq new0 _) ?_)
  have e : ((#[] : Array Value) ++ vs.toArray).toList = vs := by simp
  exact wpAny_pure (e.symm ▸ fin)
set_option maxHeartbeats 1000000 in
theorem sort_tup {t : Addr} {vs : List Value} {ns : List Int} {Q : Value → Shared → Prop}
    (ht : IsTup s.heap t vs.toArray) (hI : IntsAre vs ns) (lt : vs.length < 64)
    (fin : ∀ (out : List Value) (ms : List Int) (p : Addr) (g : Heap) (ep : Nat), IntsAre out ms → ms.Perm ns →
      ms.Pairwise (· ≤ ·) → s.heap.objs.size ≤ p → (∀ b o, s.heap.get? b = some o → g.get? b = some o) →
      g.get? p = some (seqObj "list" out.toArray ep) → Q (.ref p) { s with heap := g }) :
    wpAny (model prog w) A (call (.builtin "sorted") [.ref t]) Q E s := by
  have hz : vs.length ≤ sizeLine := by
    rw [sizeLine_eq]
    omega
  refine (fun z => Calls.call_function_entry kind_sorted plain_sorted entry_sorted (args_sorted1 _) z) ?_
  unfold Builtin.«sorted»
  refine wpAny_bind (m := checkCount "sorted" 1 1 [Value.ref t].length) (wpAny_pure (wpAny_bind (gather_tup ht hz (wpAny_bind (wpAny_newList ?_ hz)))))
  have hoL : ((gath s.heap vs).push (seqObj "list" vs.toArray 0)).get? (gath s.heap vs).objs.size = some (seqObj "list" vs.toArray 0) :=
    Heap.get?_push_size _ rfl
  refine wpAny_bind (s := { s with heap := (gath s.heap vs).push (seqObj "list" vs.toArray 0) }) (wpAny_holding (wpAny_call_entry slot_list_sort
    ⟨_, hoL, rfl⟩ entry_list_sort (list_sort_tree hoL hI lt fun out ms a1 a2 a3 => ⟨_, rfl, ?_⟩) (args_list_sort _)))
  obtain ⟨ep, he⟩ := sortedHeap_at (vs := vs) (out := out) hoL
  have hgs : s.heap.objs.size ≤ (gath s.heap vs).objs.size := by
    rw [gath_size]
    exact Nat.le_succ _
  refine wpAny_pure ⟨_, rfl, fin out.toList ms _ _ ep a1 a2 a3 hgs (fun b u hb => ?_) ?_⟩
  · have hb1 := gath_old (vs := vs) hb
    have hb2 := Heap.get?_push_of_some (seqObj "list" vs.toArray 0) hb1
    rw [sortedHeap_old (Nat.ne_of_lt (Heap.lt_size hb1)) (Heap.lt_size hb2)]
    exact hb2
  · exact he
end
section
variable {X : Cx}
def rSortT (K : PySem.W.Frag) : List V → Hp → VK → Prop := fun vs H Q => ∃ (a : Addr) (ns : List Int), vs = [V.ref a] ∧
  SqT K H a (ns.map V.int) ∧ ns.length < 64 ∧
  ∀ (ms : List Int) (p : Addr), ms.Perm ns → ms.Pairwise (· ≤ ·) → H p = none → Q (.ref p) (upd H p (.lst (ms.map V.int)))
theorem cr_sortTup : CallR X (.builtin "sorted") (rSortT X.K) := by
  intro pins s σ H vs us Q I r ⟨a, ns, e0, hs, h64, q⟩
  subst e0
  obtain ⟨its, rv, hl, _⟩ := I.tuple hs
  rw [Vals.ref1 r]
  have hi := rv.ints
  refine sort_tup hl hi (by rw [hi.length]; exact h64) fun out ms p g ep h1 h2 h3 hp hk he => ?_
  have hlen : (ms.map V.int).length ≤ sizeLine := by
    rw [List.length_map, h2.length_eq]
    exact small64 h64
  exact ⟨.ref p, upd H p (.lst (ms.map V.int)), I.laid (t' := s.toks) hk hp ⟨hlen, out, ep, vals_of_ints h1, he⟩, rfl,
    q ms p h2 h3 (I.hok.fresh hp)⟩
end
end Nz
namespace Nz
open PySem PySem.Spec PyProof.Rows L2
/-! ### enumerate(t), t a tuple -/
abbrev enumO (n : Nat) : Obj :=
  { cls := .type "enumerate", data := .fields #[.none, .bool false, .ref n, rawInt 0, .none, .none] }
set_option maxHeartbeats 1000000 in
theorem meets_enumT {t : Addr} {o : Obj} {H : Heap → Prop} (B : Begins (.ref t) o H) :
    Meets (Builtin.«enumerate.__new__» ⟨[.type "enumerate", .ref t], []⟩) (fun _ R s => H s.heap ∧
      R (.ok (.ret (.ref (s.heap.push o).objs.size))) { s with heap := (s.heap.push o).push (enumO s.heap.objs.size) }) :=
  .of_wp fun prog w A R s h => by
    obtain ⟨hp, g, d, tk, os⟩ := s
    obtain ⟨h1, h⟩ := h
    have hsub := sub_enumerate
    have q1 : ∀ {A' : Around} {E : Value → Shared → Prop} {Q : Value → Shared → Prop}, Q (.ref hp.objs.size) ⟨hp.push o, g, d, tk, os⟩ →
        wpAny (model prog w) A' (pyIter (.ref t)) Q E ⟨hp, g, d, tk, os⟩ := fun q => B.iter prog w _ _ ⟨hp, g, d, tk, os⟩ _ h1 q
    wp_walk using q1
    refine wpAny_stack_any fun st => wpAny_pure ?_
    split
    · rename_i c _ _ _ _ _
      cases (c == Value.type "enumerate")
      all_goals
        wp_walk using q1
        exact ⟨_, rfl, h⟩
    · wp_walk using q1
      exact ⟨_, rfl, h⟩
section
variable {prog : Program} {w : World} {A : Around} {E : Value → Shared → Prop} {s : Shared}
theorem call_enumT {t : Addr} {o : Obj} {H : Heap → Prop} {Q : Value → Shared → Prop} (B : Begins (.ref t) o H) (h1 : H s.heap)
    (fin : ∀ g, IsEnum g (s.heap.objs.size + 1) s.heap.objs.size 0 .none → g.get? s.heap.objs.size = some o →
      g.objs.size = s.heap.objs.size + 2 → (∀ b u, s.heap.get? b = some u → g.get? b = some u) → Q (.ref (s.heap.objs.size + 1)) { s with heap := g }) :
    wpAny (model prog w) A (call (.type "enumerate") [.ref t]) Q E s := by
  have hz : (s.heap.push o).objs.size = s.heap.objs.size + 1 := Heap.size_push ..
  have new := Heap.get?_push_size (s.heap.push o)
    (o := enumO s.heap.objs.size) rfl
  rw [hz] at new
  refine callType_new F.called_enumerate (by decide) (F.typeCall_enumerate_1 _) (F.newCall_enumerate_1 _)
    (fun obj => F.args_object_init_2 obj _) F.entry_enumerate_new (meets_enumT B) ⟨h1, ?_⟩
  refine (?g : _ ∧ _)
  rw [hz]
  exact ⟨⟨_, new, rfl⟩, fin _ new (Heap.get?_push_of_some _ (Heap.get?_push_size _ B.free)) (by rw [Heap.size_push, hz])
    fun b u x => Heap.get?_push_of_some _ (Heap.get?_push_of_some _ x)⟩
end
/-- the tuple at a, item by item, each in a new pair with its place -/
def IteT (K : PySem.W.Frag) (a : Addr) : It :=
  ⟨fun i H => ∃ (xs : List V) (x : V), SqT K H a xs ∧ xs[i]? = some x,
   fun i H v H' => ∃ T x, v = .ref T ∧ H T = none ∧ H' = upd H T (.tup [.int (i : Nat), x]) ∧ ∀ xs, SqT K H a xs → xs[i]? = some x,
   fun i H => ∃ xs : List V, SqT K H a xs ∧ xs.length ≤ i⟩
theorem apartE {h : Heap} {a e it : Addr} {k : Int} {old : Value} {its : Array Value} {i : Nat} (ht : h.IsTuple a its)
    (he : IsEnum h e it k old) (hi : h.IsTupleIter it a i) : a ≠ it ∧ e ∉ [it, a] ∧ e ≠ it := by
  obtain ⟨o1, g1, c1, _⟩ := ht
  obtain ⟨o2, g2, c2, _⟩ := hi
  have g3 : h.get? e = some _ := he
  have ne1 : a ≠ it := fun z => by
    subst z
    rw [g1] at g2
    cases g2
    rw [c1] at c2
    revert c2
    decide
  have ne2 : e ≠ it := fun z => by
    subst z
    rw [g3] at g2
    cases g2
    exact absurd (show Value.type "enumerate" = .type "tuple_iterator" from c2) (by simp)
  have ne3 : e ≠ a := fun z => by
    subst z
    rw [g3] at g1
    cases g1
    exact absurd (show Value.type "enumerate" = .type "tuple" from c1) (by simp)
  exact ⟨ne1, by simp [ne2, ne3], ne2⟩
theorem turn_enumT {P : Program} {w : World} {K : PySem.W.Frag} {elts : List Expr} {kk : Nat} {tpos : Pos} (a e it : Addr) :
    Turn P w K (.Tuple elts kk tpos) (IteT K a) [e, it] e
      (fun i h => (∃ old, IsEnum h e it ((i : Nat) : Int) old) ∧ h.IsTupleIter it a i) where
  mem := by simp
  obj := fun i h st b hb => by
    obtain ⟨⟨old, he⟩, o, ho, hc, hd⟩ := st
    rcases (show b = e ∨ b = it by simpa using hb) with rfl | rfl
    · exact ⟨_, he, fun v q => nomatch q⟩
    · exact ⟨o, ho, fun v q => by rw [hd] at q; cases q⟩
  keep := fun i h h' ⟨⟨old, he⟩, hi⟩ k => ⟨⟨old, k e (by simp) _ he⟩, hi.at fun o q => k it (by simp) o q⟩
  item := by
    intro X hP hw hK hc i pins s σ H E I hf st hg
    subst hP hw hK
    obtain ⟨⟨old, he⟩, hit⟩ := st
    obtain ⟨xs, x, hq, hx⟩ := hg
    obtain ⟨its, rv, p, hz⟩ := I.tuple hq
    obtain ⟨u, hu, ru⟩ := rv.get hx
    have p' : s.heap.IsTuple a its.toArray := p
    obtain ⟨na, nin, ne⟩ := apartE p' he hit
    have hel : e < s.heap.objs.size := Heap.lt_size he
    have hil : it < s.heap.objs.size := by
      obtain ⟨_, q, _⟩ := hit
      exact Heap.lt_size q
    have hlt : i < its.toArray.size := by
      have := (List.getElem?_eq_some_iff.mp hu).1
      simpa using this
    refine wpAny_pyNext_enum_itemD (Draws.tuple (A := X.A.in1) (I.ok.hd hc) it a na its.toArray) he ⟨hit, p'⟩ hlt ne nin
      fun y g tk hy ho st1 hT hsz hk => ?_
    have ey : y = u := by
      have h2 : its.toArray[i]? = some u := by simpa using hu
      exact Option.some.inj (hy.symm.trans h2)
    subst ey
    refine ⟨_, rfl, wpAny_letOwnedTupleGo_enum (s := { s with heap := g, toks := tk + 1 }) ho fun g2 he2 sb => ?_⟩
    have hT2 : g2.get? s.heap.objs.size = some { cls := .type "tuple", data := .seq #[.int i tk, y] } :=
      (sb.2 _ (Nat.ne_of_gt hel)).trans hT
    have new : ObjOk X.prog X.w (upd H s.heap.objs.size (.tup [.int (i : Nat), x])) g2 s.heap.objs.size (.tup [.int (i : Nat), x]) :=
      ⟨by show 2 ≤ sizeLine; decide, [.int i tk, y], .cons ⟨_, rfl⟩ (.cons ru .nil), ⟨_, hT2, rfl, _, rfl⟩⟩
    have I1 : Inv X pins σ (upd H s.heap.objs.size (.tup [.int (i : Nat), x])) { s with heap := g2, toks := tk + 1 } :=
      I.turnedNew (ch := [e, it]) (fun b ob hb q => (sb.2 b (fun z => hb (by simp [z]))).trans
        (hk b ob (fun z => hb (by simp [z])) (fun z => hb (by simp [z])) q)) hf (Nat.le_refl _) new
    refine ⟨.ref s.heap.objs.size, _, I1, rfl, ⟨_, x, rfl, I.hok.fresh (Nat.le_refl _), rfl, fun ys hy => by
      rw [I.tuple_inj hy hq]
      exact hx⟩, ⟨⟨y, ?_⟩, st1.1.at fun o q => (sb.2 it (Ne.symm ne)).trans q⟩, fun b hb => ?_⟩
    · rw [show ((i + 1 : Nat) : Int) = (i : Int) + 1 by omega]
      exact he2
    · have hb' : b < s.heap.objs.size := by
        rcases (show b = e ∨ b = it by simpa using hb) with rfl | rfl
        · exact hel
        · exact hil
      rw [upd_ne (Nat.ne_of_lt hb')]
      exact (hf b hb).1
  done := by
    intro X hP hw hK hc i pins s σ H E I hf st hg
    subst hP hw hK
    obtain ⟨⟨old, he⟩, hit⟩ := st
    obtain ⟨xs, hq, hx⟩ := hg
    obtain ⟨its, rv, p, hz⟩ := I.tuple hq
    have p' : s.heap.IsTuple a its.toArray := p
    obtain ⟨na, nin, ne⟩ := apartE p' he hit
    obtain ⟨f0, f1, f2, f3, f4, f5⟩ := hf it (by simp)
    have hl := rv.length
    have none_at : its.toArray[i]? = none := by
      simp
      omega
    unfold pyNext
    have hT : s.TypeIs (.ref e) "enumerate" := ⟨_, he, rfl⟩
    refine wpAny_bind (wpAny_attempt (wpAny_callSpecial?_slot (name := Str.ofString "__next__") hT F.slot_enumerate_next (wpAny_call_entry
      F.slot_enumerate_next hT F.entry_enumerate_next (?g : wpAny _ _ (field (.ref e) 2 >>= _) _ _ _) (F.args_enumerate_next_1 _))))
    refine wpAny_bind (wpAny_field he rfl (x := .ref it) rfl (wpAny_bind (wpAny_nextOf_tuple_end (I.ok.hd hc) hit p' none_at fun g x hx' hs => ?_)))
    obtain ⟨o, ho, hcls⟩ := hs
    refine wpAny_bind (wpAny_isInstance (T := "StopIteration") (b := true) ⟨o, ho, hcls⟩ isSubtype_stop (wpAny_pure ⟨rfl, ?_⟩))
    exact I.turned (t' := s.toks) (fun b o hb q => hx' b o hb q) f0 f1 f3 f4 f5
  self := fun A i s Q E ⟨⟨_, he⟩, _⟩ h => wpAny_pyIter_enum he h
end Nz
namespace Nz
open PySem PySem.Spec PyProof.Rows L2
def iEnumT (K : PySem.W.Frag) (ta : TA) : TI := fun σ H R => ta σ H fun vs H1 => ∃ a xs, vs = [.ref a] ∧ SqT K H1 a xs ∧ R (IteT K a) H1
theorem pi_enumT {X : Cx} {e : Expr} {ta : TA} {p pos tpos : Pos} {elts : List Expr} {kk : Nat} (hg : Gl X "enumerate")
    (hm : X.mg "enumerate" = none) (ha : PA X [e] ta) (hs : starEach [e] X.env = [(false, eval e X.env)] := by rfl) :
    PI X (.Tuple elts kk tpos) (.Call (.Name "enumerate" p) [e] [] pos) (iEnumT X.K ta) := by
  refine ⟨fun pins s σ H R I h => Call_ (ld_blt I hg hm boot_enumerate (PyProof.Rows.callWith_type1 (thn (ha.run pos pins s σ H _ I h)
    fun us s1 ⟨vs, H1, I1, r1, a, xs, ex, hq, q⟩ => ?_) hs rfl))⟩
  subst ex
  rcases r1 with _ | ⟨r, rr⟩
  cases rr
  cases r
  obtain ⟨its, rv, p', hz⟩ := I1.tuple hq
  refine call_enumT (begins_tuple a its.toArray) (show s1.heap.IsTuple a its.toArray from p') fun g he hit hsz hk => wpAny_pyIter_enum he ?_
  have I2 : Inv X pins σ H1 { s1 with heap := g } := I1.kept (t' := s1.toks) hk
  refine ⟨s1.heap.objs.size + 1, [s1.heap.objs.size + 1, s1.heap.objs.size], _, _, H1, rfl, I2,
    turn_enumT a (s1.heap.objs.size + 1) s1.heap.objs.size, ⟨⟨.none, he⟩, ⟨_, hit, rfl, rfl⟩⟩, fun b hb => ?_, q⟩
  have hle : s1.heap.objs.size ≤ b := by
    rcases (show b = s1.heap.objs.size + 1 ∨ b = s1.heap.objs.size by simpa using hb) with z | z
    · rw [z]
      exact Nat.le_succ _
    · rw [z]
      exact Nat.le_refl _
  exact I1.fpOk hle (I1.hok.fresh hle)
end Nz
namespace Nz
open PySem PySem.Spec PyProof.Rows L2
/-! ### t[::-1], t a tuple -/
section
variable {prog : Program} {w : World} {A : Around} {E : Value → Shared → Prop} {s : Shared}
theorem fm_congr {α β : Type} {f g : α → Option β} : ∀ l : List α, (∀ x ∈ l, f x = g x) → l.filterMap f = l.filterMap g
  | [], _ => rfl
  | a :: r, h => by
    have ih := fm_congr r fun x hx => h x (List.mem_cons_of_mem _ hx)
    rw [List.filterMap_cons, List.filterMap_cons, h a List.mem_cons_self, ih]
theorem pick_back (xs : Array Value) : ((List.range xs.size).filterMap fun (m : Nat) => xs[(((xs.size : Int) - 1) + (m : Int) * (-1)).toNat]?).toArray = xs.toList.reverse.toArray := by
  congr 1
  apply List.ext_getElem?
  intro i
  have e : ((List.range xs.size).filterMap fun (m : Nat) => xs[(((xs.size : Int) - 1) + (m : Int) * (-1)).toNat]?) =
      (List.range xs.size).filterMap fun (m : Nat) => xs.toList.reverse[m]? := by
    refine fm_congr _ fun m hm => ?_
    have hm := List.mem_range.mp hm
    have h2 : (((xs.size : Int) - 1) + (m : Int) * (-1)).toNat = xs.size - 1 - m := by omega
    rw [h2, List.getElem?_reverse (by simpa using hm)]
    simp
  rw [e]
  have all : ∀ l : List Value, ((List.range l.length).filterMap fun m => l[m]?) = l := by
    intro l
    induction l with
    | nil => rfl
    | cons a t ih =>
      rw [List.length_cons, List.range_succ_eq_map, List.filterMap_cons, List.filterMap_map]
      simp only [List.getElem?_cons_zero]
      congr 1
  have := all xs.toList.reverse
  rw [List.length_reverse, Array.length_toList] at this
  rw [this]
theorem adjust_back (n : Nat) : Builtin.Slice.sliceAdjust none none (-1) (n : Int) = ((n : Int) - 1, -1) := by
  unfold Builtin.Slice.sliceAdjust
  simp
theorem places_back (n : Nat) : Builtin.Slice.slicePlaces ((n : Int) - 1) (-1) (-1) = n := by
  unfold Builtin.Slice.slicePlaces
  have h1 : ¬ ((-1 : Int) > 0) := by decide
  simp only [h1, if_false]
  split
  · rw [show (- -1 : Int) = 1 by decide, Int.ediv_one]
    omega
  · omega
theorem applied_back {sl : Addr} {vs : Value} {n : Nat} {Q : Int × Int × Nat → Shared → Prop} (hs : s.heap.IsSliceOf sl .none .none vs) (ps : IsPart vs (some (-1)))
    (h : Q ((n : Int) - 1, -1, n) s) : wpAny (model prog w) A (Builtin.Slice.sliceApplied (.ref sl) (pure (n : Int))) Q E s := by
  obtain ⟨os, hos, hcs, hds⟩ := id hs
  unfold Builtin.Slice.sliceApplied Builtin.Slice.sliceFields
  refine wpAny_bind (wpAny_bind (wpAny_field hos hds (x := .none) rfl (wpAny_bind (wpAny_field hos hds (x := .none) rfl
    (wpAny_bind (wpAny_field hos hds (x := vs) rfl (wpAny_pure ?_)))))))
  refine wpAny_bind (HT.slicePart_ ps ?_)
  refine (?g1 : wpAny _ _ (if ((-1 : Int) == 0) = true then _ else _) _ _ s)
  rw [if_neg (by decide)]
  refine wpAny_bind (HT.slicePart_ .none (wpAny_bind (HT.slicePart_ .none (wpAny_bind (wpAny_pure ?_)))))
  refine (?g2 : wpAny _ _ (match Builtin.Slice.sliceAdjust none none (-1) (n : Int) with
    | (lo, hi) => pure (lo, (-1 : Int), Builtin.Slice.slicePlaces lo hi (-1))) _ _ s)
  rw [adjust_back n]
  refine (?g3 : wpAny _ _ (pure ((n : Int) - 1, (-1 : Int), Builtin.Slice.slicePlaces ((n : Int) - 1) (-1) (-1))) _ _ s)
  rw [places_back]
  exact wpAny_pure h
theorem item_back {t sl : Addr} {items : Array Value} {vs : Value} {Q : Value → Shared → Prop} (ht : IsTup s.heap t items) (hs : s.heap.IsSliceOf sl .none .none vs) (ps : IsPart vs (some (-1)))
    (h : Q (.ref s.heap.objs.size) { s with heap := s.heap.push { cls := .type "tuple", data := .seq items.toList.reverse.toArray } }) (hz : items.size ≤ sizeLine) :
    wpAny (model prog w) A (getItem (.ref t) (.ref sl)) Q E s := by
  have z : items.toList.reverse.toArray.size ≤ sizeLine := by
    rw [List.size_toArray, List.length_reverse, Array.length_toList]
    exact hz
  have fit : sizeOk (.seq items.toList.reverse.toArray) := z
  obtain ⟨os, hos, hcs, hds⟩ := id hs
  have hTs : s.TypeIs (.ref sl) "slice" := ⟨os, hos, hcs⟩
  unfold getItem
  try with_reducible refine wpAny_holding ?_
  first | refine wpAny_bind (wpAny_pure ?_) | skip
  refine wpAny_bind (wpAny_sequenceKey ht.typeIs (by decide) ?_)
  have entry := args_tuple_getitem (.ref t) (.ref sl)
  refine wpAny_bind (wpAny_callSpecial?_slot (name := Str.ofString "__getitem__") ht.typeIs PyProof.Rows.slot_tuple_getitem (wpAny_call_entry
    PyProof.Rows.slot_tuple_getitem ht.typeIs entry_tuple_getitem ?_ entry))
  refine (?g5 : wpAny _ _ (Builtin.Tuple.tupleItemsOf (.ref t) >>= _) _ _ s)
  refine wpAny_bind (tupleItemsOf_ ht (wpAny_bind (wpAny_typeOf hTs ?_)))
  rw [if_pos (by decide)]
  refine wpAny_bind (applied_back hs ps ?_)
  have no : ¬ ((((items.size : Int) - 1) == 0 && (-1 : Int) == 1 && items.size == items.size) = true) := by simp
  refine (?g4 : wpAny _ _ (if (((items.size : Int) - 1) == 0 && (-1 : Int) == 1 && items.size == items.size) = true then _ else _) _ _ s)
  rw [if_neg no, pick_back]
  first
    | exact wpAny_bind (m := Builtin.Tuple.tupleExact _) (wpAny_newObj_type (wpAny_pure ⟨_, rfl, wpAny_pure h⟩) fit)
    | exact wpAny_bind (m := Builtin.Tuple.tupleExact _) (wpAny_newObj_type (wpAny_bind (wpAny_pure (wpAny_pure ⟨_, rfl, wpAny_pure h⟩))) fit)
end
section
variable {X : Cx}
def tRevT (K : PySem.W.Frag) (te : TE) : TE := fun σ H Q => te σ H fun x H1 => ∃ a xs, x = .ref a ∧ SqT K H1 a xs ∧ ∀ p, H1 p = none → Q (.ref p) (upd H1 p (.tup xs.reverse))
theorem pe_revT {e : Expr} {te : TE} {k : Nat} {p1 p2 p3 pos : Pos} (he : PE X e te) :
    PE X (.Subscript e (.Slice none none (some (.UnaryOp .USub (.Constant (.int 1) k p1) p2)) p3) pos) (tRevT X.K te) := by
  refine ⟨fun pins s σ H Q I h => Subscript_ (thn (he.run pins s σ H _ I h) fun v s1 ⟨x, H1, I1, r1, a, xs, ex, hx, q⟩ => ?_)⟩
  subst ex
  cases r1
  have hst : PO X (some (.UnaryOp .USub (.Constant (.int 1) k p1) p2)) (tPart (tUn (rU fun i => .int (-i)) (tC (.int 1)))) :=
    po_some (pe_un un_neg pe_int)
  refine wpAny_Slice ?_
  rw [evalPart_none]
  refine wpAny_pure (wpAny_pure ?_)
  refine thn (hst.run pins s1 σ H1 (fun o H4 => o = some (-1) ∧ H4 = H1) I1 ⟨1, rfl, -1, rfl, rfl, rfl⟩) fun vs s4 ⟨o, H4, I4, ps, eo, e4⟩ => ?_
  subst eo e4
  have I5 : Inv X pins σ H4 { s4 with heap := s4.heap.push { cls := .type "slice", data := .fields #[.none, .none, vs] } } :=
    I4.kept (t' := s4.toks) fun b ob q => Heap.get?_push_of_some _ q
  obtain ⟨its, r, ht, hz⟩ := I5.tuple hx
  have hlen := r.length
  refine tail_any (ops := [.ref a, .ref s4.heap.objs.size]) ht.typeIs PyProof.Rows.slot_tuple_getitem.lookup ?_ (by with_unfolding_all rfl)
  refine item_back ht (Heap.IsSliceOf.new _ .none .none vs) ps ?_ (by rw [List.size_toArray]; omega)
  refine ⟨.ref _, _, I5.laid (t' := s4.toks) (o := .tup xs.reverse) (fun b ob q => Heap.get?_push_of_some _ q) (Nat.le_refl _) ?_, rfl, q _ (I5.hok.fresh (Nat.le_refl _))⟩
  exact ⟨by rw [List.length_reverse]; exact hz, _, r.reverse, ⟨_, Heap.get?_push_size _ rfl, rfl, _, rfl⟩⟩
end
end Nz
namespace Nz
open PySem PySem.Spec PyProof.Rows L2
/-! ### rules that take several kinds of values -/
section
variable {X : Cx} {K : PySem.W.Frag}
theorem or_op {f : Value → Value → Sem Value} {r r' : R2} (h : OpR X f r) (h' : OpR X f r') : OpR X f (fun x y H Q => r x y H Q ∨ r' x y H Q) := by
  intro pins s σ H x y v u Q I rx ry q
  rcases q with q | q
  · exact h pins s σ H x y v u Q I rx ry q
  · exact h' pins s σ H x y v u Q I rx ry q
theorem or_call {f : Value} {r r' : List V → Hp → VK → Prop} (h : CallR X f r) (h' : CallR X f r') : CallR X f (fun x H Q => r x H Q ∨ r' x H Q) := by
  intro pins s σ H xs us Q I rx q
  rcases q with q | q
  · exact h pins s σ H xs us Q I rx q
  · exact h' pins s σ H xs us Q I rx q
theorem or_iter {tg e : Expr} {t t' : TI} (h : PI X tg e t) (h' : PI X tg e t') : PI X tg e (fun σ H R => t σ H R ∨ t' σ H R) :=
  ⟨fun pins s σ H R I q => q.elim (h.run pins s σ H R I) (h'.run pins s σ H R I)⟩
/-- len of a list or tuple; of a text -/
def rLn (K : PySem.W.Frag) : List V → Hp → VK → Prop := fun vs H Q => (∃ p ys, vs = [.ref p] ∧ (SqL K H p ys ∨ SqT K H p ys) ∧ Q (.int ys.length) H) ∨ ∃ z, vs = [.str z] ∧ z.length ≤ sizeLine ∧ Q (.int z.length) H
theorem c_len : CallR X (.builtin "len") (rLn X.K) := or_call call_len_seq call_len_str
def rTupOf (K : PySem.W.Frag) : List V → Hp → VK → Prop := fun vs H Q => ∃ p ys, vs = [.ref p] ∧ ((SqL K H p ys ∧ ∀ l, H l = none → Q (.ref l) (upd H l (.tup ys))) ∨ (SqT K H p ys ∧ Q (.ref p) H))
theorem c_tuple : CallR X (.type "tuple") (rTupOf X.K) := call_tuple_of
def rLstOf (K : PySem.W.Frag) : List V → Hp → VK → Prop := fun vs H Q => ∃ p ys, vs = [.ref p] ∧ (SqL K H p ys ∨ SqT K H p ys) ∧ ∀ l, H l = none → Q (.ref l) (upd H l (.lst ys))
theorem c_list : CallR X (.type "list") (rLstOf X.K) := call_list_of
def rIntOf : List V → Hp → VK → Prop := fun vs H Q => ∃ i, vs = [.int i] ∧ Q (.int i) H
theorem c_int : CallR X (.type "int") rIntOf := by
  intro pins s σ H xs us Q I r ⟨i, e, q⟩
  exact call_int1 pins s σ H xs us Q I r (.inl ⟨i, e, q⟩)
/-- a slice of a list, a tuple, a text -/
def rSl (K : PySem.W.Frag) : V → Option Int → Option Int → Hp → VK → Prop := fun x lo hi H Q => rSlL K x lo hi H Q ∨ rSlA K x lo hi H Q ∨ rSlS x lo hi H Q
theorem sl_any : SlR X (rSl X.K) := sl_list.or (sl_tupA.or sl_str)
/-- + of ints; of texts; of lists; of tuples -/
def rAd (K : PySem.W.Frag) : R2 := fun x y H Q => (∃ i j, x = .int i ∧ y = .int j ∧ Q (.int (i + j)) H) ∨ (∃ i j, x = .str i ∧ y = .str j ∧ i.length + j.length ≤ sizeLine ∧ Q (.str (i ++ j)) H) ∨ rCat x y H Q ∨ rCatA K x y H Q
theorem ad_any : OpR X (binaryOp .Add) (rAd X.K) := or_op op_add (or_op op_add_str (or_op op_cat op_catA))
def rAdS : R2 := fun x y H Q => ∃ i j, x = .str i ∧ y = .str j ∧ i.length + j.length ≤ sizeLine ∧ Q (.str (i ++ j)) H
theorem ad_str : OpR X (binaryOp .Add) rAdS := op_add_str
/-- == of flat things; of data -/
def rEqA (K : PySem.W.Frag) : R2 := fun x y H Q => (scal x y = true ∧ Q (.bl (decide (x = y))) H) ∨ rEqD K x y H Q
theorem eq_any (hu : X.A.units + 64 < cLine) : OpR X (compareOp .Eq) (rEqA X.K) := or_op op_eq (op_eqD hu)
def rNeA (K : PySem.W.Frag) : R2 := fun x y H Q => (scal x y = true ∧ Q (.bl (!decide (x = y))) H) ∨ rNeD K x y H Q
theorem ne_any (hu : X.A.units + 64 < cLine) : OpR X (compareOp .NotEq) (rNeA X.K) := or_op op_ne (op_neD hu)
/-- a for over a list or a tuple -/
def iSeq (K : PySem.W.Frag) (tl : TE) : TI := fun σ H R => iList K tl σ H R ∨ iTup K tl σ H R
theorem pi_seq {tg l : Expr} {tl : TE} (hl : PE X l tl) : PI X tg l (iSeq X.K tl) := or_iter (pi_list hl) (pi_tup hl)
end
end Nz
namespace Nz
open PySem PySem.Spec PyProof.Rows L2
/-! ### the mathematics -/
def rng (n : Int) : List Int := (List.range n.toNat).map fun i => ((i : Nat) : Int)
theorem rng_length (n : Int) : (rng n).length = n.toNat := by
  unfold rng
  rw [List.length_map, List.length_range]
theorem rgV_rng (n : Int) : rgV 0 n = (rng n).map V.int := by
  unfold rgV rng
  rw [List.map_map, Int.sub_zero]
  refine List.map_congr_left fun i _ => ?_
  show V.int (0 + (i : Nat)) = V.int ((i : Nat) : Int)
  rw [Int.zero_add]
theorem rng_sorted (n : Int) : (rng n).Pairwise (· ≤ ·) := by
  unfold rng
  rw [List.pairwise_map]
  exact List.pairwise_lt_range.imp fun h => by omega
def isRen (ns : List Int) (n : Int) : Bool := (rng n).isPerm ns
theorem ren_eq {ns ms : List Int} (n : Int) (hp : ms.Perm ns) (hs : ms.Pairwise (· ≤ ·)) : decide (ms = rng n) = isRen ns n := by
  unfold isRen
  rw [Bool.eq_iff_iff, decide_eq_true_iff, List.isPerm_iff]
  exact ⟨fun e => e ▸ hp, fun h => PySem.W.ksm_same (hp.trans h.symm) hs (rng_sorted n)⟩
/-! ### data -/
theorem dpInts {K : PySem.W.Frag} {H : Hp} : ∀ ns : List Int, DpAll K H (ns.map V.int) (ns.map PyData.int)
  | [] => .nil
  | n :: r => .cons (.int n) (dpInts r)
theorem layInts : ∀ ns : List Int, PyData.canLayAll0 (ns.map PyData.int) = true
  | [] => by simp [PyData.canLayAll0]
  | n :: r => by simp [PyData.canLayAll0, PyData.canLay0, layInts r]
theorem depInts : ∀ ns : List Int, PyData.depthAll (ns.map PyData.int) ≤ 1
  | [] => by simp [PyData.depthAll]
  | n :: r => by
    have := depInts r
    simp [PyData.depthAll, PyData.depth]
    try omega
theorem shInts (ns : List Int) : SeqAt.shaped (.list (ns.map PyData.int)) = true := by
  have h := depInts ns
  have h2 : PyData.depthAll (ns.map PyData.int) + 1 ≤ 64 := by omega
  simpa [SeqAt.shaped, PyData.canLay0, layInts ns, PyData.depth] using h2
theorem shIntsT (ns : List Int) : SeqAt.shaped (.tuple (ns.map PyData.int)) = true := by
  have h := depInts ns
  have h2 : PyData.depthAll (ns.map PyData.int) + 1 ≤ 64 := by omega
  simpa [SeqAt.shaped, PyData.canLay0, layInts ns, PyData.depth] using h2
theorem eqvInts : ∀ ms ns : List Int, PyData.eqvAll (ms.map PyData.int) (ns.map PyData.int) = decide (ms = ns)
  | [], [] => by simp [PyData.eqvAll]
  | [], _ :: _ => by simp [PyData.eqvAll]
  | _ :: _, [] => by simp [PyData.eqvAll]
  | m :: r, n :: t => by
    simp only [List.map_cons, PyData.eqvAll, eqvInts r t]
    by_cases h : m = n <;> by_cases h2 : r = t <;> simp [h, h2, PyData.eqv]
theorem eqvL (ms ns : List Int) : PyData.eqv (.list (ms.map .int)) (.list (ns.map .int)) = decide (ms = ns) := by
  rw [← eqvInts]
  simp [PyData.eqv]
theorem eqvT (ms ns : List Int) : PyData.eqv (.tuple (ms.map .int)) (.tuple (ns.map .int)) = decide (ms = ns) := by
  rw [← eqvInts]
  simp [PyData.eqv]
theorem same_new {H : Hp} {p : Addr} {o : HO} (h : H p = none) : Same H (upd H p o) := fun b x e => by
  rw [upd_ne (ne_of_none e h)]
  exact e
theorem upd_more {H : Hp} {p : Addr} {o : HO} {ds : List Int} {d : Int} : upd (upd H p o) p (.lst (ds.map V.int ++ [.int d])) = upd H p (.lst ((ds ++ [d]).map V.int)) := by
  rw [upd_upd, List.map_append]
  rfl
theorem taken_perm {α : Type} {l : List α} {i : Nat} {y : α} (h : l[i]? = some y) : (y :: l.eraseIdx i).Perm l := by
  obtain ⟨hi, e⟩ := List.getElem?_eq_some_iff.mp h
  have e2 : l = l.take i ++ y :: l.drop (i + 1) := by
    rw [← e, ← List.drop_eq_getElem_cons hi, List.take_append_drop]
  rw [List.eraseIdx_eq_take_drop_succ]
  conv => rhs; rw [e2]
  exact List.perm_middle.symm
theorem pop_perm {α : Type} {ns rs all : List α} {i : Nat} {y : α} (h : rs[i]? = some y) (p : (ns ++ rs).Perm all) : ((ns ++ [y]) ++ rs.eraseIdx i).Perm all := by
  refine List.Perm.trans ?_ p
  rw [List.append_assoc]
  exact List.Perm.append_left ns (taken_perm h)
theorem mem_rng {n : Nat} {x : Int} (h : x ∈ rng n) : 0 ≤ x ∧ x < n := by
  unfold rng at h
  obtain ⟨i, hi, e⟩ := List.mem_map.mp h
  have := List.mem_range.mp hi
  omega
theorem nodup_rng (n : Int) : (rng n).Nodup := by
  unfold rng
  unfold List.Nodup
  rw [List.pairwise_map]
  exact List.pairwise_lt_range.imp fun h => by omega
theorem at_map {ns : List Int} {i : Nat} (h : i < ns.length) : (ns.map V.int)[i]? = some (.int ns[i]) := by
  rw [List.getElem?_map, List.getElem?_eq_getElem h]
  rfl
theorem sameT {K : PySem.W.Frag} {H H' : Hp} {a : Addr} {xs : List V} (e : Same H H') (h : SqT K H a xs) : SqT K H' a xs := by
  rcases h with (h | ⟨o, h⟩) | h
  · exact .inl (.inl (e _ _ h))
  · exact .inl (.inr ⟨o, e _ _ h⟩)
  · exact .inr h
theorem tyL {K : PySem.W.Frag} {H : Hp} {a : Addr} {xs : List V} (h : SqL K H a xs) : TyX K H (.ref a) (.type "list") := by
  rcases h with (h | ⟨o, h⟩) | ⟨o, its, n, h, hc, _⟩
  · exact .base (.lst h)
  · exact .base (.frz h)
  · exact .kList h hc
theorem tyT {K : PySem.W.Frag} {H : Hp} {a : Addr} {xs : List V} (h : SqT K H a xs) : TyX K H (.ref a) (.type "tuple") := by
  rcases h with (h | ⟨o, h⟩) | ⟨o, its, n, h, hc, _⟩
  · exact .base (.tup h)
  · exact .fTuple h
  · exact .kTuple h hc
theorem line6 {n : Nat} (h : n ≤ 1000000) : n < sizeLine := by
  rw [sizeLine_eq]
  omega
theorem free_same {H H' : Hp} (e : Same H H') {p : Addr} (h : H' p = none) : H p = none := e.free h
end Nz
namespace Nz
open PySem PySem.Spec PyProof.Rows L2
/-! ### formulas as trees of the heap -/
inductive Fm where
  | atom (x : V)
  | con (x : V)
  | neg (x : V) (f : Fm)
  | bin (x : V) (f g : Fm)
namespace Fm
def root : Fm → V
  | atom x => x
  | con x => x
  | neg x _ => x
  | bin x _ _ => x
def kids : Fm → List Fm
  | atom _ => []
  | con _ => []
  | neg _ f => [f]
  | bin _ f g => [f, g]
def nodes : Fm → Nat
  | atom _ => 1
  | con _ => 1
  | neg _ f => f.nodes + 1
  | bin _ f g => f.nodes + g.nodes + 1
def atoms : Fm → List V
  | atom x => [x]
  | con _ => []
  | neg _ f => f.atoms
  | bin _ f g => f.atoms ++ g.atoms
def isAtom : Fm → Bool
  | atom _ => true
  | _ => false
def dep : Fm → Nat
  | atom _ => 1
  | con _ => 1
  | neg _ f => f.dep + 1
  | bin _ f g => max f.dep g.dep + 1
def At (H : Hp) : Fm → Prop
  | atom x => ∃ q p n v vs, x = .ref q ∧ H q = some (.tup [.str "is", .str n, .ref p, .int v]) ∧ H p = some (.tup (List.map V.int vs)) ∧ vs.length ≤ 3
  | con x => ∃ q s, x = .ref q ∧ V.str s ≠ .str "is" ∧ H q = some (.tup [.str s])
  | neg x f => ∃ q s, x = .ref q ∧ V.str s ≠ .str "is" ∧ H q = some (.tup [.str s, f.root]) ∧ f.At H
  | bin x f g => ∃ q s, x = .ref q ∧ V.str s ≠ .str "is" ∧ H q = some (.tup [.str s, f.root, g.root]) ∧ f.At H ∧ g.At H
theorem at_same {H H' : Hp} (e : Same H H') : ∀ t : Fm, t.At H → t.At H'
  | atom _, ⟨q, p, n, v, vs, h1, h2, h3, h4⟩ => ⟨q, p, n, v, vs, h1, e _ _ h2, e _ _ h3, h4⟩
  | con _, ⟨q, s, h1, h2, h3⟩ => ⟨q, s, h1, h2, e _ _ h3⟩
  | neg _ f, ⟨q, s, h1, h2, h3, h4⟩ => ⟨q, s, h1, h2, e _ _ h3, at_same e f h4⟩
  | bin _ f g, ⟨q, s, h1, h2, h3, h4, h5⟩ => ⟨q, s, h1, h2, e _ _ h3, at_same e f h4, at_same e g h5⟩
theorem nodes_pos : ∀ t : Fm, 1 ≤ t.nodes
  | atom _ => Nat.le_refl _
  | con _ => Nat.le_refl _
  | neg _ _ => Nat.le_add_left _ _
  | bin _ _ _ => Nat.le_add_left _ _
theorem dep_pos : ∀ t : Fm, 1 ≤ t.dep
  | atom _ => Nat.le_refl _
  | con _ => Nat.le_refl _
  | neg _ _ => Nat.le_add_left _ _
  | bin _ _ _ => Nat.le_add_left _ _
theorem dep_le : ∀ t : Fm, t.dep ≤ t.nodes
  | atom _ => Nat.le_refl _
  | con _ => Nat.le_refl _
  | neg _ f => Nat.succ_le_succ (dep_le f)
  | bin _ f g => by
    have h1 := dep_le f
    have h2 := dep_le g
    simp only [dep, nodes]
    omega
theorem atoms_le : ∀ t : Fm, t.atoms.length ≤ t.nodes
  | atom _ => Nat.le_refl _
  | con _ => Nat.zero_le _
  | neg _ f => Nat.le_succ_of_le (atoms_le f)
  | bin _ f g => by
    have h1 := atoms_le f
    have h2 := atoms_le g
    simp only [atoms, nodes, List.length_append]
    omega
/-- what stands at the root: an atom, or a word and the parts -/
theorem look {H : Hp} : ∀ t : Fm, t.At H → ∃ q s r, t.root = .ref q ∧ H q = some (.tup (.str s :: r)) ∧ ((t.isAtom = true ∧ V.str s = .str "is" ∧ t.atoms = [t.root]) ∨ (t.isAtom = false ∧ V.str s ≠ .str "is" ∧ r = t.kids.map root))
  | atom _, ⟨q, p, n, v, vs, h1, h2, h3, h4⟩ => ⟨q, _, _, h1, h2, .inl ⟨rfl, rfl, rfl⟩⟩
  | con _, ⟨q, s, h1, h2, h3⟩ => ⟨q, s, _, h1, h3, .inr ⟨rfl, h2, rfl⟩⟩
  | neg _ f, ⟨q, s, h1, h2, h3, h4⟩ => ⟨q, s, _, h1, h3, .inr ⟨rfl, h2, rfl⟩⟩
  | bin _ f g, ⟨q, s, h1, h2, h3, h4, h5⟩ => ⟨q, s, _, h1, h3, .inr ⟨rfl, h2, rfl⟩⟩
theorem kids_at {H : Hp} : ∀ t : Fm, t.At H → ∀ k ∈ t.kids, k.At H
  | atom _, _, _, h => by simp [kids] at h
  | con _, _, _, h => by simp [kids] at h
  | neg _ f, ⟨_, _, _, _, _, h4⟩, k, h => by
    simp only [kids, List.mem_singleton] at h
    exact h ▸ h4
  | bin _ f g, ⟨_, _, _, _, _, h4, h5⟩, k, h => by
    simp only [kids, List.mem_cons, List.not_mem_nil, or_false] at h
    rcases h with rfl | rfl
    · exact h4
    · exact h5
theorem kids_dep : ∀ t : Fm, ∀ k ∈ t.kids, k.dep + 1 ≤ t.dep
  | atom _, _, h => by simp [kids] at h
  | con _, _, h => by simp [kids] at h
  | neg _ f, k, h => by
    simp only [kids, List.mem_singleton] at h
    exact h ▸ Nat.le_refl _
  | bin _ f g, k, h => by
    simp only [kids, List.mem_cons, List.not_mem_nil, or_false] at h
    rcases h with rfl | rfl
    · simp only [dep]
      omega
    · simp only [dep]
      omega
theorem kids_nodes : ∀ t : Fm, (t.kids.map nodes).sum + 1 = t.nodes
  | atom _ => rfl
  | con _ => rfl
  | neg _ f => by simp [kids, nodes]
  | bin _ f g => by simp [kids, nodes]
theorem kids_atoms : ∀ t : Fm, t.isAtom = false → t.kids.flatMap atoms = t.atoms
  | atom _, h => by cases h
  | con _, _ => rfl
  | neg _ f, _ => by simp [kids, atoms]
  | bin _ f g, _ => by simp [kids, atoms]
theorem kids_len : ∀ t : Fm, t.kids.length ≤ 2
  | atom _ => by simp [kids]
  | con _ => by simp [kids]
  | neg _ f => by simp [kids]
  | bin _ f g => by simp [kids]
end Fm
/-! ### slices of tuples of any values -/
theorem cut_from1 (xs : List V) : cutV xs (some 1) none = xs.drop 1 := by
  unfold cutV
  have e : HT.sIx xs.length 0 (some 1) = min 1 xs.length := HT.sIx_nat xs.length 0 1
  rw [e, HT.sIx_none]
  cases xs with
  | nil => rfl
  | cons x r =>
    have m : min 1 (x :: r).length = 1 := by
      rw [List.length_cons]
      omega
    rw [m]
    exact List.take_of_length_le (by rw [List.length_drop]; omega)
theorem cut_whole {xs : List V} {lo hi : Option Int} (h : HT.sIx xs.length 0 lo = 0 ∧ HT.sIx xs.length xs.length hi = xs.length) : cutV xs lo hi = xs := by
  unfold cutV
  rw [h.1, h.2]
  simp
theorem slA_gen {K : PySem.W.Frag} {a : Addr} {xs : List V} {lo hi : Option Int} {H : Hp} {Q : VK} (h : SqT K H a xs)
    (q : ∀ p H', Same H H' → SqT K H' p (cutV xs lo hi) → Q (.ref p) H') : rSlA K (.ref a) lo hi H Q :=
  ⟨a, _, rfl, h, fun w => q a H (Same.refl H) (by rw [cut_whole w]; exact h), fun _ p np => q p _ (same_new np) (SqT.of upd_same)⟩
end Nz
namespace Nz
open PySem PySem.Spec PyProof.Rows L2
theorem updT {K : PySem.W.Frag} {H : Hp} {b o : Addr} {xs ys : List V} {u : HO} (h : SqT K H b xs) (e : H o = some (.lst ys)) : SqT K (upd H o u) b xs := by
  rcases h with (h | ⟨z, h⟩) | h
  · refine .inl (.inl ?_)
    rw [upd_ne (ne_of h e (by intro z; cases z))]
    exact h
  · refine .inl (.inr ⟨z, ?_⟩)
    rw [upd_ne (ne_of h e (by intro z; cases z))]
    exact h
  · exact .inr h
end Nz
namespace Nz
theorem mem_le_sum : ∀ {l : List Nat} {x : Nat}, x ∈ l → x ≤ l.sum
  | [], _, h => by simp at h
  | a :: r, x, h => by
    rw [List.sum_cons]
    rcases List.mem_cons.mp h with rfl | h
    · omega
    · have := mem_le_sum h
      omega
def sumN (ts : List Fm) : Nat := (ts.map Fm.nodes).sum
theorem sumN_app (a b : List Fm) : sumN (a ++ b) = sumN a + sumN b := by simp [sumN]
theorem sumN_rev (a : List Fm) : sumN a.reverse = sumN a := by simp [sumN]
theorem sumN_zero {ts : List Fm} (h : sumN ts = 0) : ts = [] := by
  cases ts with
  | nil => rfl
  | cons t r =>
    have := t.nodes_pos
    simp [sumN] at h
    omega
end Nz
namespace Nz
open PySem PySem.Spec PyProof.Rows L2
/-- tuples stay -/
def TupSame (H H' : Hp) : Prop := ∀ b xs, H b = some (.tup xs) → H' b = some (.tup xs)
theorem Fm.at_tup {H H' : Hp} (e : TupSame H H') : ∀ t : Fm, t.At H → t.At H'
  | .atom _, ⟨q, p, n, v, vs, h1, h2, h3, h4⟩ => ⟨q, p, n, v, vs, h1, e _ _ h2, e _ _ h3, h4⟩
  | .con _, ⟨q, s, h1, h2, h3⟩ => ⟨q, s, h1, h2, e _ _ h3⟩
  | .neg _ f, ⟨q, s, h1, h2, h3, h4⟩ => ⟨q, s, h1, h2, e _ _ h3, at_tup e f h4⟩
  | .bin _ f g, ⟨q, s, h1, h2, h3, h4, h5⟩ => ⟨q, s, h1, h2, e _ _ h3, at_tup e f h4, at_tup e g h5⟩
theorem Same.tup {H H' : Hp} (e : L2.Same H H') : TupSame H H' := fun b xs h => e b _ h
theorem tup_upd {H : Hp} {l : Addr} {xs : List V} {u : HO} (e : H l = some (.lst xs)) : TupSame H (upd H l u) := fun b ys h => by
  rw [upd_ne (ne_of h e (by intro z; cases z))]
  exact h
theorem TupSame.trans {A B C : Hp} (h : TupSame A B) (g : TupSame B C) : TupSame A C := fun b xs e => g b xs (h b xs e)
end Nz
namespace Nz
theorem len_le_sumN : ∀ us : List Fm, us.length ≤ sumN us
  | [] => Nat.zero_le _
  | v :: r => by
    have h1 := v.nodes_pos
    have h2 := len_le_sumN r
    simp only [sumN, List.map_cons, List.sum_cons, List.length_cons] at h2 ⊢
    omega
end Nz
namespace Nz
open PySem PySem.Spec PyProof.Rows L2
/-! ### texts -/
theorem len_app (a b : Str) : (a ++ b).length = a.length + b.length := by
  simp only [Str.length]
  rw [show (a ++ b).cps = a.cps ++ b.cps from rfl, Array.size_append]
theorem len_one (c : Nat) : (⟨#[c]⟩ : Str).length = 1 := rfl
theorem len_join0 : ∀ ys : List Str, (Str.join ⟨#[]⟩ ys).length ≤ (ys.map (·.length)).sum
  | [] => Nat.zero_le _
  | [y] => by simp [Str.join]
  | y :: z :: r => by
    have ih := len_join0 (z :: r)
    have e : Str.join ⟨#[]⟩ (y :: z :: r) = y ++ ⟨#[]⟩ ++ Str.join ⟨#[]⟩ (z :: r) := rfl
    have e0 : (⟨#[]⟩ : Str).length = 0 := rfl
    rw [e, len_app, len_app, List.map_cons, List.sum_cons, e0]
    omega
theorem sum_ones : ∀ {ys : List Str}, (∀ y ∈ ys, y.length = 1) → (ys.map (·.length)).sum = ys.length
  | [], _ => rfl
  | y :: r, h => by
    rw [List.map_cons, List.sum_cons, h y List.mem_cons_self, sum_ones fun z hz => h z (List.mem_cons_of_mem _ hz), List.length_cons]
    omega
theorem all_flat (zs : List Str) : (zs.map V.str).all flatV = true := by simp [flatV]
theorem at_maps {zs : List Str} {i : Nat} (h : i < zs.length) : (zs.map V.str)[i]? = some (.str zs[i]) := by
  rw [List.getElem?_map, List.getElem?_eq_getElem h]
  rfl
/-- a sign of a text, at a place within -/
theorem sign_at {K : PySem.W.Frag} {z : Str} {i : Int} {H : Hp} {Q : VK} (hz : z.length ≤ sizeLine) (h0 : 0 ≤ i) (h1 : i < z.length) (q : ∀ c, Q (.str ⟨#[c]⟩) H) : rIx K (.str z) (.int i) H Q := by
  have hk : i.toNat < z.cps.toList.length := by
    rw [Array.length_toList]
    have h2 : i < z.cps.size := h1
    omega
  have e : ((i.toNat : Nat) : Int) = i := by omega
  have a := atI_nat (List.getElem?_eq_getElem hk)
  rw [e] at a
  exact .inr (.inr ⟨z, i, _, rfl, rfl, hz, a, q _⟩)
theorem int_at {K : PySem.W.Frag} {a : Addr} {ds : List Int} {i : Int} {H : Hp} {Q : VK} (hs : SqL K H a (ds.map V.int)) (h0 : 0 ≤ i) (h1 : i < ds.length) (q : ∀ d ∈ ds, Q (.int d) H) : rIx K (.ref a) (.int i) H Q := by
  have hk : i.toNat < ds.length := by omega
  have e : ((i.toNat : Nat) : Int) = i := by omega
  have b := atI_nat (at_map hk)
  rw [e] at b
  exact .inl ⟨a, _, _, _, rfl, rfl, hs, b, q _ (List.getElem_mem hk)⟩
theorem str_at {K : PySem.W.Frag} {a : Addr} {zs : List Str} {i : Int} {H : Hp} {Q : VK} (hs : SqL K H a (zs.map V.str)) (h0 : 0 ≤ i) (h1 : i < zs.length) (q : ∀ z ∈ zs, Q (.str z) H) : rIx K (.ref a) (.int i) H Q := by
  have hk : i.toNat < zs.length := by omega
  have e : ((i.toNat : Nat) : Int) = i := by omega
  have b := atI_nat (at_maps hk)
  rw [e] at b
  exact .inl ⟨a, _, _, _, rfl, rfl, hs, b, q _ (List.getElem_mem hk)⟩
theorem cutV_ints (ns : List Int) (lo hi : Option Int) : ∃ ms : List Int, cutV (ns.map V.int) lo hi = ms.map V.int ∧ (∀ m ∈ ms, m ∈ ns) ∧
    ms.length = HT.sIx ns.length ns.length hi - HT.sIx ns.length 0 lo := by
  refine ⟨((ns.drop (HT.sIx ns.length 0 lo)).take (HT.sIx ns.length ns.length hi - HT.sIx ns.length 0 lo)), ?_, fun m hm => List.mem_of_mem_drop (List.mem_of_mem_take hm), ?_⟩
  · unfold cutV
    rw [List.length_map, List.map_take, List.map_drop]
  · rw [List.length_take, List.length_drop]
    have := HT.sIx_le ns.length ns.length (Nat.le_refl _) hi
    omega
end Nz
namespace Nz
open PySem PySem.Spec PyProof.Rows L2
/-! ### the text -/
def topS (i : Nat) : Stmt := PySem.Challenge.pw_oneofeach_k07_atoms_of_a_formula.main.body.getD i (.Pass ⟨0, 0, 0, 0⟩)
abbrev s_atoms_of : Stmt := topS 1
theorem sc_atoms_of : FnScope ["formula", "atoms", "part"] ["formula"] (defScope s_atoms_of) :=
  ⟨rfl, rfl, rfl, by decide +kernel, rfl, by decide +kernel, by decide +kernel⟩

abbrev s_cell : Stmt := topS 3
theorem sc_cell : FnScope ["script", "k"] ["script", "k"] (defScope s_cell) :=
  ⟨rfl, rfl, rfl, by decide +kernel, rfl, by decide +kernel, by decide +kernel⟩

abbrev s_digits : Stmt := topS 4
theorem sc_digits : FnScope ["cell", "many", "count", "digits", "rest", "k", "mixed"] ["cell", "many", "count"] (defScope s_digits) :=
  ⟨rfl, rfl, rfl, by decide +kernel, rfl, by decide +kernel, by decide +kernel⟩

abbrev s_equal : Stmt := topS 5
theorem sc_equal : FnScope ["actual", "expected", "k"] ["actual", "expected"] (defScope s_equal) :=
  ⟨rfl, rfl, rfl, by decide +kernel, rfl, by decide +kernel, by decide +kernel⟩

abbrev s_names : Stmt := topS 6
theorem sc_names : FnScope ["cell", "count", "words", "small", "inner", "digits", "names", "k", "row", "way", "name", "at", "middle", "j"] ["cell", "count"] (defScope s_names) :=
  ⟨rfl, rfl, rfl, by decide +kernel, rfl, by decide +kernel, by decide +kernel⟩

abbrev s_offered : Stmt := topS 7
theorem sc_offered : FnScope ["names", "cell", "offered", "k"] ["names", "cell"] (defScope s_offered) :=
  ⟨rfl, rfl, rfl, by decide +kernel, rfl, by decide +kernel, by decide +kernel⟩

abbrev s_atom : Stmt := topS 8
theorem sc_atom : FnScope ["digit", "count", "relations", "fitting", "relation", "rest", "variables", "chosen", "k", "at"] ["digit", "count", "relations"] (defScope s_atom) :=
  ⟨rfl, rfl, rfl, by decide +kernel, rfl, by decide +kernel, by decide +kernel⟩

abbrev s_formula : Stmt := topS 9
theorem sc_formula : FnScope ["cell", "count", "relations", "most", "digits", "trees", "k", "choice", "rest", "second"] ["cell", "count", "relations", "most"] (defScope s_formula) :=
  ⟨rfl, rfl, rfl, by decide +kernel, rfl, by decide +kernel, by decide +kernel⟩

abbrev s_atoms : Stmt := topS 10
theorem sc_atoms : FnScope ["formula", "atoms", "left", "k", "tree", "inner"] ["formula"] (defScope s_atoms) :=
  ⟨rfl, rfl, rfl, by decide +kernel, rfl, by decide +kernel, by decide +kernel⟩

abbrev s_law : Stmt := topS 11
theorem sc_law : FnScope ["script", "offered", "count", "formula", "rest", "k", "expected", "actual"] ["script"] (defScope s_law) :=
  ⟨rfl, rfl, rfl, by decide +kernel, rfl, by decide +kernel, by decide +kernel⟩

end Nz
namespace Nz
open PySem PySem.Spec PyProof.Rows L2
section
variable {P : Program} {w : World} {K : PySem.W.Frag} {mg : Str → Option Value} {base : Heap}
/-! ### _law_cell -/
def spCell (K : PySem.W.Frag) : Sp := fun vs H Q _ => ∃ (a : Addr) (ns : List Int) (k : Nat), vs = [.ref a, .int k] ∧ SqL K H a (ns.map V.int) ∧ ns.length ≤ 63 ∧ k ≤ 1000 ∧ ∀ c : Int, Q (.int c) H
theorem ok_cell {k : Nat} {f : Addr} {fd : FuncData} (F : Fun K "_law_cell" "_law_cell" s_cell f fd) (m_len : mg "len" = none) (m_int : mg "int" = none) :
    FnOk P w K mg base CX0 (k + 1) f fd ["script", "k"] (spCell K) := by
  refine F.ok sc_cell (fun vs H Q E h => ?_) (fun cdv A outer s H vs Q E hr h => ?_)
  · obtain ⟨a, ns, k, rfl, _⟩ := h
    rfl
  obtain ⟨a, ns, k, rfl, hS, h63, hk, q⟩ := h
  refine ⟨_, (pss_cons (ps_if (pt_cmpR op_lt (pv 1) (pe_callB (r := rLn K) c_len rfl m_len (by decide +kernel) (pa_cons (pv 0) pa_nil)) (nomark _)) (pss_one (ps_ret (pe_ix (r := rIx K) ix_seq (pv 0) (pv 1) (fun _ _ => rfl)))) pss_nil)
    (pss_cons (ps_if (pt_cmpR op_eq (pe_callB (r := rLn K) c_len rfl m_len (by decide +kernel) (pa_cons (pv 0) pa_nil)) pe_int (nomark _)) (pss_one (ps_ret (pe_op op_mul (pv 1) pe_int))) pss_nil)
    (pss_one (ps_ret (pe_op op_add (pe_op op_mul (pe_ix (r := rIx K) ix_seq (pv 0) (pe_op op_mod (pe_callTy (r := rIntOf) c_int rfl m_int (by decide +kernel) (pa_cons (pv 1) pa_nil)) (pe_callB (r := rLn K) c_len rfl m_len (by decide +kernel) (pa_cons (pv 0) pa_nil))) (fun _ _ => rfl)) pe_int) (pe_op op_mul (pv 1) pe_int)))))), ?_⟩
  have at_ : ∀ j : Nat, j < ns.length → ∀ Q' : VK, (∀ c, Q' (.int c) H) → rIx K (.ref a) (.int j) H Q' := fun j hj Q' q' =>
    .inl ⟨a, _, _, _, rfl, rfl, hS, atI_nat (at_map hj), q' _⟩
  refine ⟨_, rfl, _, rfl, .inl ⟨a, _, rfl, .inl hS, _, _, rfl, rfl, _, rfl, ite2 (fun c => ?_) (fun c => ?_)⟩⟩
  · have c' : (k : Int) < (((ns.map V.int).length : Nat) : Int) := of_decide_eq_true c
    rw [List.length_map] at c'
    exact ⟨_, rfl, _, rfl, at_ k (by omega) _ q⟩
  refine ⟨_, rfl, .inl ⟨a, _, rfl, .inl hS, rfl, _, rfl, ite2 (fun c => ?_) (fun c => ?_)⟩⟩
  · exact ⟨_, rfl, _, _, rfl, rfl, .inr ⟨by decide, by decide⟩, q _⟩
  · have c' : ¬ ((((ns.map V.int).length : Nat) : Int) = 0) := fun z => c (by rw [decide_eq_true_iff, z])
    rw [List.length_map] at c'
    have pos : (0 : Int) < (((ns.map V.int).length : Nat) : Int) := by
      rw [List.length_map]
      omega
    have e0 := Int.emod_nonneg (k : Int) (show (((ns.map V.int).length : Nat) : Int) ≠ 0 by omega)
    have e1 := Int.emod_lt_of_pos (k : Int) pos
    rw [List.length_map] at e0 e1
    refine ⟨_, rfl, _, rfl, _, rfl, _, rfl, .inl ⟨a, _, rfl, .inl hS, _, _, rfl, rfl, pos, ?_⟩⟩
    dsimp only
    rw [List.length_map]
    obtain ⟨j, hj⟩ : ∃ j : Nat, (k : Int) % (ns.length : Int) = (j : Int) := ⟨((k : Int) % (ns.length : Int)).toNat, by omega⟩
    rw [hj]
    exact at_ j (by omega) _ fun c => ⟨_, _, rfl, rfl, .inr ⟨by decide, by decide⟩, _, rfl, _, _, rfl, rfl, .inr ⟨by decide, by decide⟩, _, _, rfl, rfl, q _⟩
/-! ### _law_digits -/
def spDig (K : PySem.W.Frag) : Sp := fun vs H Q _ => ∃ (c many n : Int), vs = [.int c, .int many, .int n] ∧ 0 < many ∧ many < 2 ^ 200 ∧ 0 ≤ n ∧ n ≤ 10000 ∧
  ∀ (ds : List Int) (p : Addr), ds.length = n.toNat → (∀ d ∈ ds, 0 ≤ d ∧ d < many) → H p = none → Q (.ref p) (upd H p (.lst (ds.map V.int)))
theorem ok_digits {k : Nat} {f : Addr} {fd : FuncData} (F : Fun K "_law_digits" "_law_digits" s_digits f fd) (m_range : mg "range" = none) (m_int : mg "int" = none) :
    FnOk P w K mg base CX0 (k + 1) f fd ["cell", "many", "count"] (spDig K) := by
  refine F.ok sc_digits (fun vs H Q E h => ?_) (fun cdv A outer s H vs Q E hr h => ?_)
  · obtain ⟨c, many, n, rfl, _⟩ := h
    rfl
  obtain ⟨c, many, n, rfl, m0, m1, n0, hn, q⟩ := h
  refine ⟨_, (pss_cons (ps_set (i := 3) sc_digits.nd rfl (.inl rfl) (pe_lst pa_nil))
    (pss_cons (ps_set (i := 4) sc_digits.nd rfl (.inl rfl) (pv 0))
    (pss_cons (ps_for PassesOwn.never rfl (pi_range1 rfl m_range (pa_cons (pv 2) pa_nil)) (pg_name (i := 5) sc_digits.nd rfl (.inl rfl))
      (pss_one (ps_if (pt_cmpR op_ge (pv 0) (pe_op op_pow pe_int pe_int) (nomark _)) (pss_cons (ps_expr (pe_bm PySem.F.plainAttrs_list PySem.F.slot_list_append PySem.F.type_list_append mt_append (pv 3) (pa_cons (pe_op op_mod (pe_callTy (r := rIntOf) c_int rfl m_int (by decide +kernel) (pa_cons (pv 4) pa_nil)) (pv 1)) pa_nil)))
    (pss_one (ps_set (i := 4) sc_digits.nd rfl (.inl rfl) (pe_op op_fdivW (pv 4) (pv 1))))) (pss_cons (ps_set (i := 6) sc_digits.nd rfl (.inl rfl) (pe_op op_mod (pe_callTy (r := rIntOf) c_int rfl m_int (by decide +kernel) (pa_cons (pe_op op_add (pe_op op_add (pe_op op_mul (pv 0) pe_int) (pe_op op_mul (pv 5) pe_int)) pe_int) pa_nil)) pe_int))
    (pss_cons (ps_set (i := 6) sc_digits.nd rfl (.inl rfl) (pe_op op_mod (pe_callTy (r := rIntOf) c_int rfl m_int (by decide +kernel) (pa_cons (pe_op op_add (pe_op op_add (pe_op op_mul (pv 6) (pv 6)) (pe_op op_mul pe_int (pv 6))) (pe_op op_mul pe_int (pv 5))) pa_nil)) pe_int))
    (pss_one (ps_expr (pe_bm PySem.F.plainAttrs_list PySem.F.slot_list_append PySem.F.type_list_append mt_append (pv 3) (pa_cons (pe_op op_mod (pe_callTy (r := rIntOf) c_int rfl m_int (by decide +kernel) (pa_cons (pe_op op_fdivW (pv 6) pe_int) pa_nil)) (pv 1)) pa_nil)))))))))
    (pss_one (ps_ret (pv 3)))))), ?_⟩
  have wide : CDivW 0 many := wide_div (b := 200) m0 (by omega) (by decide) (by decide)
  have w31 : ∀ x : Int, ∀ y : Int, 0 < y → y < 1000 → CDivW x y := fun x y h0 h1 => wide_div (b := 10) h0 (by omega) (by decide) (by decide)
  refine ⟨Nat.zero_le _, fun p np => ?_⟩
  refine ⟨.int c, rfl, .int n, rfl, n, rfl, by omega, by omega, ?_⟩
  refine for_range (lo := 0) (n := n.toNat) (fun i σ H1 => ∃ (r : Int) (kv mv : Option V) (ds : List Int),
      σ = [some (.int c), some (.int many), some (.int n), some (.ref p), some (.int r), kv, mv] ∧ ds.length = i ∧ (∀ d ∈ ds, 0 ≤ d ∧ d < many) ∧
      H1 = upd H p (.lst (ds.map V.int))) ⟨c, none, none, [], rfl, rfl, by simp, rfl⟩ ?_ ?_
  · rintro i σ H1 hi ⟨r, kv, mv, ds, rfl, hl, hd, rfl⟩
    have hi' : (i : Int) < n := by omega
    have more : ∀ d : Int, 0 ≤ d → d < many → ∀ e ∈ ds ++ [d], 0 ≤ e ∧ e < many := fun d h1 h2 e he => by
      rcases List.mem_append.mp he with h | h
      · exact hd e h
      · rw [List.mem_singleton.mp h]
        exact ⟨h1, h2⟩
    have z : (ds.map V.int).length < sizeLine := by
      rw [List.length_map]
      exact line6 (by omega)
    refine ⟨.int c, rfl, _, _, rfl, rfl, ⟨by decide, by decide, by decide⟩, _, _, rfl, rfl, _, rfl, ite2 (fun _ => ?_) (fun _ => ?_)⟩
    · refine ⟨.ref p, rfl, .inl ⟨rfl, _, .inl (.inl upd_same)⟩, .int r, rfl, r, rfl, .int many, rfl, r, many, rfl, rfl, m0, p, _, _, rfl, rfl, upd_same, z, ?_⟩
      refine ⟨.int r, rfl, .int many, rfl, r, many, rfl, rfl, wide, r / many, _, mv, ds ++ [r % many], rfl, by simp [hl],
        more _ (Int.emod_nonneg _ (by omega)) (Int.emod_lt_of_pos _ m0), upd_more⟩
    · refine ⟨.int c, rfl, c, _, rfl, rfl, .inr ⟨by decide, by decide⟩, .int (0 + (i : Nat)), rfl, _, _, rfl, rfl, .inr ⟨by decide, by decide⟩, _, _, rfl, rfl, _, _, rfl, rfl,
        _, rfl, _, _, rfl, rfl, (by decide : (0 : Int) < 2147483647), ?_⟩
      refine ⟨_, rfl, _, rfl, _, _, rfl, rfl, .inl ⟨Int.lt_of_lt_of_le (by decide) (Int.emod_nonneg _ (by decide)), Int.lt_trans (Int.emod_lt_of_pos _ (by decide)) (by decide)⟩,
        _, rfl, _, _, rfl, rfl, .inl ⟨by decide, by decide⟩, _, _, rfl, rfl, .int (0 + (i : Nat)), rfl, _, _, rfl, rfl, .inl ⟨by decide, by decide⟩, _, _, rfl, rfl, _, rfl, _, _, rfl, rfl, (by decide : (0 : Int) < 2147483629), ?_⟩
      refine ⟨.ref p, rfl, .inl ⟨rfl, _, .inl (.inl upd_same)⟩, _, rfl, _, _, rfl, rfl, w31 _ _ (by decide) (by decide), _, rfl, .int many, rfl, _, many, rfl, rfl, m0, p, _, _, rfl, rfl, upd_same, z, ?_⟩
      refine ⟨r, _, _, ds ++ [_], rfl, by simp [hl], ?m, upd_more⟩
      exact more _ (Int.emod_nonneg _ (by omega)) (Int.emod_lt_of_pos _ m0)
  · rintro σ H1 ⟨r, kv, mv, ds, rfl, hl, hd, rfl⟩
    exact ⟨.ref p, rfl, q ds p (by omega) hd np⟩
end
end Nz
namespace Nz
open PySem PySem.Spec PyProof.Rows L2
/-! ### _law_equal: equal data are told to be equal -/
/-- data of ints, bools, texts, lists and tuples, less than n deep, not too long -/
def Pl : Nat → PyData → Prop
  | 0, _ => False
  | _ + 1, .int _ => True
  | _ + 1, .bool _ => True
  | _ + 1, .str _ => True
  | n + 1, .list ds => ds.length ≤ 1000000 ∧ ∀ d ∈ ds, Pl n d
  | n + 1, .tuple ds => ds.length ≤ 1000000 ∧ ∀ d ∈ ds, Pl n d
  | _ + 1, _ => False
section
variable {K : PySem.W.Frag} {H H' : Hp}
mutual
theorem dpSame (e : Same H H') : ∀ (d : PyData) (x : V), Dp K H x d → Dp K H' x d
  | .none, _, h => by
    cases h
    exact .non
  | .bool _, _, h => by
    cases h
    exact .bl _
  | .int _, _, h => by
    cases h
    exact .int _
  | .str _, _, h => by
    cases h
    exact .str _
  | .list ds, _, h => by
    cases h with
    | lst hs ha => exact .lst (e.seq hs) (dpSameAll e ds _ ha)
  | .tuple ds, _, h => by
    cases h with
    | tup hs ha => exact .tup (sameT e hs) (dpSameAll e ds _ ha)
  | .dict _, _, h => by cases h
theorem dpSameAll (e : Same H H') : ∀ (ds : List PyData) (xs : List V), DpAll K H xs ds → DpAll K H' xs ds
  | [], _, h => by
    cases h
    exact .nil
  | d :: ds, _, h => by
    cases h with
    | cons h1 h2 => exact .cons (dpSame e d _ h1) (dpSameAll e ds _ h2)
end
theorem dpLen : ∀ {ds : List PyData} {xs : List V}, DpAll K H xs ds → xs.length = ds.length
  | [], _, h => by
    cases h
    rfl
  | d :: ds, _, h => by
    cases h with
    | cons h1 h2 => rw [List.length_cons, List.length_cons, dpLen h2]
theorem dpAt : ∀ {ds : List PyData} {xs : List V} {i : Nat}, DpAll K H xs ds → i < ds.length → ∃ x d, xs[i]? = some x ∧ ds[i]? = some d ∧ Dp K H x d
  | [], _, _, _, h => absurd h (Nat.not_lt_zero _)
  | d :: ds, _, 0, h, _ => by
    cases h with
    | cons h1 h2 => exact ⟨_, _, rfl, rfl, h1⟩
  | d :: ds, _, i + 1, h, hi => by
    cases h with
    | cons h1 h2 =>
      obtain ⟨x, e, a, b, c⟩ := dpAt (i := i) h2 (by
        rw [List.length_cons] at hi
        omega)
      exact ⟨x, e, a, b, c⟩
end
section
variable {P : Program} {w : World} {K : PySem.W.Frag} {mg : Str → Option Value} {base : Heap}
def spEq (K : PySem.W.Frag) (n : Nat) : Sp := fun vs H Q _ => ∃ x y d, vs = [x, y] ∧ Dp K H x d ∧ Dp K H y d ∧ Pl n d ∧ ∀ H', Same H H' → Q (.bl true) H'
theorem eq0 {f : Addr} {fd : FuncData} : FnOk P w K mg base CX0 0 f fd ["actual", "expected"] (spEq K 0) := by
  have no : ∀ vs H Q E, ¬ spEq K 0 vs H Q E := fun vs H Q E ⟨x, y, d, _, _, _, h, _⟩ => h
  exact ⟨fun vs H Q E h => absurd h (no vs H Q E), fun A outer s H args us vs Q E _ _ _ _ h => absurd h (no vs H Q E)⟩
set_option maxHeartbeats 1000000 in
theorem eq_more {n : Nat} {f : Addr} {fd : FuncData} (F : Fun K "_law_equal" "_law_equal" s_equal f fd) (G_equal : FnOk P w K mg base CX0 n f fd ["actual", "expected"] (spEq K n)) (b_equal : Binds K fd ["actual", "expected"] []) (k_equal : PySem.W.keepIn K (.ref f) = true) (g_equal : mg "_law_equal" = some (.ref f))
    (m_all : mg "all" = none) (m_bool : mg "bool" = none) (m_int : mg "int" = none) (m_isinstance : mg "isinstance" = none) (m_len : mg "len" = none) (m_list : mg "list" = none) (m_range : mg "range" = none) (m_str : mg "str" = none) (m_tuple : mg "tuple" = none) : FnOk P w K mg base CX0 (n + 1) f fd ["actual", "expected"] (spEq K (n + 1)) := by
  refine F.ok sc_equal (fun vs H Q E h => ?_) (fun cdv A outer s H vs Q E hr h => ?_)
  · obtain ⟨x, y, d, rfl, _⟩ := h
    rfl
  have hr_equal := hr
  obtain ⟨x, y, d, rfl, hx, hy, hp, q⟩ := h
  refine ⟨_, (pss_cons (ps_if (PW.pt (pw_or (pt_val (pe_callB (r := rIsi K) call_isi rfl m_isinstance (by decide +kernel) (pa_cons (pv 1) (pa_cons (pe_bltn (v := .ty "list") (u := .type "list") rfl m_list (by decide +kernel) rfl) pa_nil)))) (pw_or1 (pt_val (pe_callB (r := rIsi K) call_isi rfl m_isinstance (by decide +kernel) (pa_cons (pv 1) (pa_cons (pe_bltn (v := .ty "tuple") (u := .type "tuple") rfl m_tuple (by decide +kernel) rfl) pa_nil))))))) (pss_cons (ps_if (PW.pt (pw_and (pt_val (pe_callB (r := rIsi K) call_isi rfl m_isinstance (by decide +kernel) (pa_cons (pv 1) (pa_cons (pe_bltn (v := .ty "list") (u := .type "list") rfl m_list (by decide +kernel) rfl) pa_nil)))) (pw_and1 (pt_not (pt_val (pe_callB (r := rIsi K) call_isi rfl m_isinstance (by decide +kernel) (pa_cons (pv 0) (pa_cons (pe_bltn (v := .ty "list") (u := .type "list") rfl m_list (by decide +kernel) rfl) pa_nil)))))))) (pss_one (ps_ret pe_bl)) pss_nil)
    (pss_cons (ps_if (PW.pt (pw_and (pt_val (pe_callB (r := rIsi K) call_isi rfl m_isinstance (by decide +kernel) (pa_cons (pv 1) (pa_cons (pe_bltn (v := .ty "tuple") (u := .type "tuple") rfl m_tuple (by decide +kernel) rfl) pa_nil)))) (pw_and1 (pt_not (pt_val (pe_callB (r := rIsi K) call_isi rfl m_isinstance (by decide +kernel) (pa_cons (pv 0) (pa_cons (pe_bltn (v := .ty "tuple") (u := .type "tuple") rfl m_tuple (by decide +kernel) rfl) pa_nil)))))))) (pss_one (ps_ret pe_bl)) pss_nil)
    (pss_cons (ps_if (pt_cmpR op_ne (pe_callB (r := rLn K) c_len rfl m_len (by decide +kernel) (pa_cons (pv 0) pa_nil)) (pe_callB (r := rLn K) c_len rfl m_len (by decide +kernel) (pa_cons (pv 1) pa_nil)) (nomark _)) (pss_one (ps_ret pe_bl)) pss_nil)
    (pss_one (ps_ret (pe_callB (r := rAll K) (cr_all rfl) rfl m_all (by decide +kernel) (pa_cons (pe_lc (own := [("k", 2)]) (g := gName 2) rfl sc_equal.nd (pi_range1 rfl m_range (pa_cons (pe_callB (r := rLn K) c_len rfl m_len (by decide +kernel) (pa_cons (pv 1) pa_nil)) pa_nil)) (blkOk_by (own := [("k", 2)]) (N := ["actual", "expected", "k"]) (sc := defScope s_equal) (by decide +kernel)) (fun _ _ _ _ _ => (pg_name (i := 2) sc_equal.nd rfl (.inl rfl))) (fun _ _ _ _ _ => pts_nil) (fun _ _ _ _ _ => (pe_call G_equal hr_equal rfl g_equal k_equal b_equal .nil pass0 (pa_cons (pe_ix (r := rIx K) ix_seq (pv 0) (pv 2) (fun _ _ => rfl)) (pa_cons (pe_ix (r := rIx K) ix_seq (pv 1) (pv 2) (fun _ _ => rfl)) pa_nil))))) pa_nil))))))) pss_nil)
    (pss_cons (ps_if (pt_val (pe_callB (r := rIsi K) call_isi rfl m_isinstance (by decide +kernel) (pa_cons (pv 1) (pa_cons (pe_bltn (v := .ty "bool") (u := .type "bool") rfl m_bool (by decide +kernel) rfl) pa_nil)))) (pss_one (ps_ret (pe_and (pe_callB (r := rIsi K) call_isi rfl m_isinstance (by decide +kernel) (pa_cons (pv 0) (pa_cons (pe_bltn (v := .ty "bool") (u := .type "bool") rfl m_bool (by decide +kernel) rfl) pa_nil))) (pe_one (pe_cmpR (r := rEqA K) (eq_any hr.units) (pv 0) (pv 1) (nomark _)))))) pss_nil)
    (pss_cons (ps_if (pt_val (pe_callB (r := rIsi K) call_isi rfl m_isinstance (by decide +kernel) (pa_cons (pv 1) (pa_cons (pe_bltn (v := .ty "int") (u := .type "int") rfl m_int (by decide +kernel) rfl) pa_nil)))) (pss_one (ps_ret (pe_and (pe_callB (r := rIsi K) call_isi rfl m_isinstance (by decide +kernel) (pa_cons (pv 0) (pa_cons (pe_bltn (v := .ty "int") (u := .type "int") rfl m_int (by decide +kernel) rfl) pa_nil))) (pe_and (pe_not (pe_callB (r := rIsi K) call_isi rfl m_isinstance (by decide +kernel) (pa_cons (pv 0) (pa_cons (pe_bltn (v := .ty "bool") (u := .type "bool") rfl m_bool (by decide +kernel) rfl) pa_nil)))) (pe_one (pe_cmpR (r := rEqA K) (eq_any hr.units) (pv 0) (pv 1) (nomark _))))))) pss_nil)
    (pss_one (ps_ret (pe_and (pe_callB (r := rIsi K) call_isi rfl m_isinstance (by decide +kernel) (pa_cons (pv 0) (pa_cons (pe_bltn (v := .ty "str") (u := .type "str") rfl m_str (by decide +kernel) rfl) pa_nil))) (pe_one (pe_cmpR (r := rEqA K) (eq_any hr.units) (pv 0) (pv 1) (nomark _))))))))), ?_⟩
  cases d with
  | none => exact hp.elim
  | dict _ => exact hp.elim
  | int i =>
    cases hx
    cases hy
    refine ⟨_, rfl, _, .ty "list", .type "int", .type "list", false, rfl, .ty _, .base (.int i), kit_ty (by decide +kernel), false, rfl, iteF ?_⟩
    refine ⟨_, rfl, _, .ty "tuple", .type "int", .type "tuple", false, rfl, .ty _, .base (.int i), kit_ty (by decide +kernel), false, rfl, iteF ?_⟩
    refine ⟨_, rfl, _, .ty "bool", .type "int", .type "bool", false, rfl, .ty _, .base (.int i), kit_ty (by decide +kernel), false, rfl, iteF ?_⟩
    refine ⟨_, rfl, _, .ty "int", .type "int", .type "int", true, rfl, .ty _, .base (.int i), kit_ty (by decide +kernel), true, rfl, iteT ?_⟩
    refine ⟨_, rfl, _, .ty "int", .type "int", .type "int", true, rfl, .ty _, .base (.int i), kit_ty (by decide +kernel), true, rfl, iteT ?_⟩
    refine ⟨_, rfl, _, .ty "bool", .type "int", .type "bool", false, rfl, .ty _, .base (.int i), kit_ty (by decide +kernel), false, rfl, true, rfl, iteT ?_⟩
    refine ⟨_, rfl, _, rfl, .inl ⟨rfl, ?_⟩⟩
    rw [decide_eq_true rfl]
    exact q H (Same.refl H)
  | bool b =>
    cases hx
    cases hy
    refine ⟨_, rfl, _, .ty "list", .type "bool", .type "list", false, rfl, .ty _, .base (.bl b), kit_ty (by decide +kernel), false, rfl, iteF ?_⟩
    refine ⟨_, rfl, _, .ty "tuple", .type "bool", .type "tuple", false, rfl, .ty _, .base (.bl b), kit_ty (by decide +kernel), false, rfl, iteF ?_⟩
    refine ⟨_, rfl, _, .ty "bool", .type "bool", .type "bool", true, rfl, .ty _, .base (.bl b), kit_ty (by decide +kernel), true, rfl, iteT ?_⟩
    refine ⟨_, rfl, _, .ty "bool", .type "bool", .type "bool", true, rfl, .ty _, .base (.bl b), kit_ty (by decide +kernel), true, rfl, iteT ?_⟩
    refine ⟨_, rfl, _, rfl, .inl ⟨rfl, ?_⟩⟩
    rw [decide_eq_true rfl]
    exact q H (Same.refl H)
  | str z =>
    cases hx
    cases hy
    refine ⟨_, rfl, _, .ty "list", .type "str", .type "list", false, rfl, .ty _, .base (.str z), kit_ty (by decide +kernel), false, rfl, iteF ?_⟩
    refine ⟨_, rfl, _, .ty "tuple", .type "str", .type "tuple", false, rfl, .ty _, .base (.str z), kit_ty (by decide +kernel), false, rfl, iteF ?_⟩
    refine ⟨_, rfl, _, .ty "bool", .type "str", .type "bool", false, rfl, .ty _, .base (.str z), kit_ty (by decide +kernel), false, rfl, iteF ?_⟩
    refine ⟨_, rfl, _, .ty "int", .type "str", .type "int", false, rfl, .ty _, .base (.str z), kit_ty (by decide +kernel), false, rfl, iteF ?_⟩
    refine ⟨_, rfl, _, .ty "str", .type "str", .type "str", true, rfl, .ty _, .base (.str z), kit_ty (by decide +kernel), true, rfl, iteT ?_⟩
    refine ⟨_, rfl, _, rfl, .inl ⟨rfl, ?_⟩⟩
    rw [decide_eq_true rfl]
    exact q H (Same.refl H)
  | list ds =>
    cases hx with
    | lst sx ax =>
    cases hy with
    | lst sy ay =>
    rename_i a xs b ys
    have lx := dpLen ax
    have ly := dpLen ay
    have l6 : ds.length ≤ 1000000 := hp.1
    refine ⟨_, rfl, _, .ty "list", .type "list", .type "list", true, rfl, .ty _, tyL sy, kit_ty (by decide +kernel), true, rfl, iteT (iteT ?_)⟩
    refine ⟨_, rfl, _, .ty "list", .type "list", .type "list", true, rfl, .ty _, tyL sy, kit_ty (by decide +kernel), true, rfl, iteT ?_⟩
    refine ⟨_, rfl, _, .ty "list", .type "list", .type "list", true, rfl, .ty _, tyL sx, kit_ty (by decide +kernel), true, rfl, iteF ?_⟩
    refine ⟨_, rfl, _, .ty "tuple", .type "list", .type "tuple", false, rfl, .ty _, tyL sy, kit_ty (by decide +kernel), false, rfl, iteF (iteF ?_)⟩
    refine ⟨_, rfl, .inl ⟨a, _, rfl, .inl sx, _, rfl, .inl ⟨b, _, rfl, .inl sy, rfl, _, rfl, iteNS (by rw [lx, ly]) ?_⟩⟩⟩
    refine ⟨_, rfl, .inl ⟨b, _, rfl, .inl sy, _, rfl, by omega, by omega, fun D nD => ?_⟩⟩
    refine lc_range (lo := 0) (n := ((ys.length : Nat) : Int).toNat) (fun i H1 => Same H H1 ∧ H1 D = some (.lst ((List.replicate i true).map V.bl))) ⟨same_new nD, upd_same⟩ ?_ ?_
    · rintro i H1 hi ⟨sm, eD⟩
      obtain ⟨x, d, h1, h2, h3⟩ := dpAt (i := i) ax (by omega)
      obtain ⟨y, d', h4, h5, h6⟩ := dpAt (i := i) ay (by omega)
      cases h2.symm.trans h5
      refine ⟨rfl, _, rfl, _, rfl, .inl ⟨a, _, _, _, rfl, rfl, sm.seq sx, ?_, _, rfl, _, rfl, .inl ⟨b, _, _, _, rfl, rfl, sm.seq sy, ?_, x, y, d, rfl, dpSame sm d x h3, dpSame sm d y h6,
        hp.2 d (List.mem_of_getElem? h2), fun H2 s2 => ⟨_, s2 _ _ eD, ?_, fun c u e => ?_, ?_⟩⟩⟩⟩
      · rw [Int.zero_add]
        exact atI_nat h1
      · rw [Int.zero_add]
        exact atI_nat h4
      · rw [List.length_map, List.length_replicate]
        exact line6 (by omega)
      · rw [upd_ne (ne_of_none e nD)]
        exact s2 c u (sm c u e)
      · rw [upd_same, List.replicate_succ', List.map_append]
        rfl
    · rintro H1 ⟨sm, eD⟩
      have e : (List.replicate ((ys.length : Nat) : Int).toNat true).all id = true := by simp
      refine ⟨D, _, rfl, SqL.of eD, ?_⟩
      rw [e]
      exact q H1 sm
  | tuple ds =>
    cases hx with
    | tup sx ax =>
    cases hy with
    | tup sy ay =>
    rename_i a xs b ys
    have lx := dpLen ax
    have ly := dpLen ay
    have l6 : ds.length ≤ 1000000 := hp.1
    refine ⟨_, rfl, _, .ty "list", .type "tuple", .type "list", false, rfl, .ty _, tyT sy, kit_ty (by decide +kernel), false, rfl, iteF ?_⟩
    refine ⟨_, rfl, _, .ty "tuple", .type "tuple", .type "tuple", true, rfl, .ty _, tyT sy, kit_ty (by decide +kernel), true, rfl, iteT ?_⟩
    refine ⟨_, rfl, _, .ty "list", .type "tuple", .type "list", false, rfl, .ty _, tyT sy, kit_ty (by decide +kernel), false, rfl, iteF (iteF ?_)⟩
    refine ⟨_, rfl, _, .ty "tuple", .type "tuple", .type "tuple", true, rfl, .ty _, tyT sy, kit_ty (by decide +kernel), true, rfl, iteT ?_⟩
    refine ⟨_, rfl, _, .ty "tuple", .type "tuple", .type "tuple", true, rfl, .ty _, tyT sx, kit_ty (by decide +kernel), true, rfl, iteF ?_⟩
    refine ⟨_, rfl, .inl ⟨a, _, rfl, .inr sx, _, rfl, .inl ⟨b, _, rfl, .inr sy, rfl, _, rfl, iteNS (by rw [lx, ly]) ?_⟩⟩⟩
    refine ⟨_, rfl, .inl ⟨b, _, rfl, .inr sy, _, rfl, by omega, by omega, fun D nD => ?_⟩⟩
    refine lc_range (lo := 0) (n := ((ys.length : Nat) : Int).toNat) (fun i H1 => Same H H1 ∧ H1 D = some (.lst ((List.replicate i true).map V.bl))) ⟨same_new nD, upd_same⟩ ?_ ?_
    · rintro i H1 hi ⟨sm, eD⟩
      obtain ⟨x, d, h1, h2, h3⟩ := dpAt (i := i) ax (by omega)
      obtain ⟨y, d', h4, h5, h6⟩ := dpAt (i := i) ay (by omega)
      cases h2.symm.trans h5
      refine ⟨rfl, _, rfl, _, rfl, .inr (.inl ⟨a, _, _, _, rfl, rfl, sameT sm sx, ?_, _, rfl, _, rfl, .inr (.inl ⟨b, _, _, _, rfl, rfl, sameT sm sy, ?_, x, y, d, rfl, dpSame sm d x h3, dpSame sm d y h6,
        hp.2 d (List.mem_of_getElem? h2), fun H2 s2 => ⟨_, s2 _ _ eD, ?_, fun c u e => ?_, ?_⟩⟩)⟩)⟩
      · rw [Int.zero_add]
        exact atI_nat h1
      · rw [Int.zero_add]
        exact atI_nat h4
      · rw [List.length_map, List.length_replicate]
        exact line6 (by omega)
      · rw [upd_ne (ne_of_none e nD)]
        exact s2 c u (sm c u e)
      · rw [upd_same, List.replicate_succ', List.map_append]
        rfl
    · rintro H1 ⟨sm, eD⟩
      have e : (List.replicate ((ys.length : Nat) : Int).toNat true).all id = true := by simp
      refine ⟨D, _, rfl, SqL.of eD, ?_⟩
      rw [e]
      exact q H1 sm
theorem ok_equal {f : Addr} {fd : FuncData} (F : Fun K "_law_equal" "_law_equal" s_equal f fd) (b_equal : Binds K fd ["actual", "expected"] []) (k_equal : PySem.W.keepIn K (.ref f) = true) (g_equal : mg "_law_equal" = some (.ref f))
    (m_all : mg "all" = none) (m_bool : mg "bool" = none) (m_int : mg "int" = none) (m_isinstance : mg "isinstance" = none) (m_len : mg "len" = none) (m_list : mg "list" = none) (m_range : mg "range" = none) (m_str : mg "str" = none) (m_tuple : mg "tuple" = none) : ∀ n : Nat, FnOk P w K mg base CX0 n f fd ["actual", "expected"] (spEq K n)
  | 0 => eq0
  | n + 1 => eq_more F (ok_equal F b_equal k_equal g_equal m_all m_bool m_int m_isinstance m_len m_list m_range m_str m_tuple n) b_equal k_equal g_equal m_all m_bool m_int m_isinstance m_len m_list m_range m_str m_tuple
end
end Nz
namespace Nz
open PySem PySem.Spec PyProof.Rows L2
section
variable {P : Program} {w : World} {K : PySem.W.Frag} {mg : Str → Option Value} {base : Heap}
/-! ### atoms_of -/
def spAt (K : PySem.W.Frag) (n : Nat) : Sp := fun vs H Q _ => ∃ t : Fm, vs = [t.root] ∧ t.At H ∧ t.dep ≤ n ∧ t.nodes ≤ 1000 ∧
  ∀ p H', Same H H' → H p = none → H' p = some (.lst t.atoms) → Q (.ref p) H'
theorem at0 {f : Addr} {fd : FuncData} : FnOk P w K mg base CX0 0 f fd ["formula"] (spAt K 0) := by
  have no : ∀ vs H Q E, ¬ spAt K 0 vs H Q E := fun vs H Q E ⟨t, _, _, h, _⟩ => by
    have := t.dep_pos
    omega
  exact ⟨fun vs H Q E h => absurd h (no vs H Q E), fun A outer s H args us vs Q E _ _ _ _ h => absurd h (no vs H Q E)⟩
theorem at_more {n : Nat} {f : Addr} {fd : FuncData} (F : Fun K "atoms_of" "atoms_of" s_atoms_of f fd) (G_atoms_of : FnOk P w K mg base CX0 n f fd ["formula"] (spAt K n)) (b_atoms_of : Binds K fd ["formula"] []) (k_atoms_of : PySem.W.keepIn K (.ref f) = true) (g_atoms_of : mg "atoms_of" = some (.ref f)) :
    FnOk P w K mg base CX0 (n + 1) f fd ["formula"] (spAt K (n + 1)) := by
  refine F.ok sc_atoms_of (fun vs H Q E h => ?_) (fun cdv A outer s H vs Q E hr h => ?_)
  · obtain ⟨t, rfl, _⟩ := h
    rfl
  have hr_atoms_of := hr
  obtain ⟨t, rfl, hA, hd, hn, q⟩ := h
  refine ⟨_, (pss_cons (ps_if (pt_cmpR op_eq (pe_ix (r := rIx K) ix_seq (pv 0) pe_int (fun _ _ => rfl)) pe_str (nomark _)) (pss_one (ps_ret (pe_lst (pa_cons (pv 0) pa_nil)))) pss_nil)
    (pss_cons (ps_set (i := 1) sc_atoms_of.nd rfl (.inl rfl) (pe_lst pa_nil))
    (pss_cons (ps_for PassesOwn.never rfl (pi_seq (pe_slice (r := rSl K) sl_any (pv 0) (po_some pe_int) po_none)) (pg_name (i := 2) sc_atoms_of.nd rfl (.inl rfl))
      (pss_one (ps_expr (pe_bm PySem.F.plainAttrs_list PySem.F.slot_list_extend PySem.F.type_list_extend mt_extend (pv 1) (pa_cons (pe_call G_atoms_of hr_atoms_of rfl g_atoms_of k_atoms_of b_atoms_of .nil pass0 (pa_cons (pv 2) pa_nil)) pa_nil)))))
    (pss_one (ps_ret (pv 1)))))), ?_⟩
  obtain ⟨a, z, r, ea, ha, hw⟩ := t.look hA
  rw [ea]
  refine ⟨_, rfl, .inr (.inl ⟨a, _, 0, _, rfl, rfl, SqT.of ha, atI_nat (j := 0) rfl, rfl, _, rfl, ite2 (fun c => ?_) (fun c => ?_)⟩)⟩
  · have c' : V.str z = .str "is" := of_decide_eq_true c
    rcases hw with ⟨_, _, et⟩ | ⟨_, ne, _⟩
    · refine ⟨_, rfl, (by show 1 ≤ sizeLine; decide), fun p np => q p _ (same_new np) np ?_⟩
      rw [upd_same, et, ea]
    · exact absurd c' ne
  · have c' : V.str z ≠ .str "is" := fun e => c (decide_eq_true e)
    rcases hw with ⟨_, e, _⟩ | ⟨na, _, er⟩
    · exact absurd e c'
    refine ⟨Nat.zero_le _, fun o no => ?_⟩
    have s1 : Same H (upd H o (.lst [])) := same_new no
    refine .inr ⟨_, rfl, 1, rfl, .inr (.inl (slA_gen (SqT.of (s1 _ _ ha)) fun b H1 s2 hb => ⟨b, rfl, ⟨_, hb⟩, ?_⟩))⟩
    rw [cut_from1, List.drop_one, List.tail_cons, er] at hb
    have eo : H1 o = some (.lst []) := s2 _ _ upd_same
    refine for_tup (K := K) (xs := t.kids.map Fm.root) (fun i σ H2 => ∃ v, σ = [some (.ref a), some (.ref o), v] ∧ Same H H2 ∧ SqT K H2 b (t.kids.map Fm.root) ∧
      H2 o = some (.lst ((t.kids.take i).flatMap Fm.atoms))) ⟨none, rfl, s1.trans s2, hb, eo⟩ ?_ ?_ ?_
    · rintro i σ H2 _ ⟨v, rfl, _, hb2, _⟩
      exact hb2
    · rintro i x σ H2 hx ⟨v, rfl, sm, hb2, eo2⟩
      rw [List.getElem?_map] at hx
      obtain ⟨k, hk, rfl⟩ := Option.map_eq_some_iff.mp hx
      have mk := List.mem_of_getElem? hk
      have kd := t.kids_dep k mk
      have kn : k.nodes ≤ 1000 := by
        have h1 := t.kids_nodes
        have h2 : k.nodes ≤ (t.kids.map Fm.nodes).sum := mem_le_sum (List.mem_map_of_mem mk)
        omega
      refine ⟨_, rfl, .inl ⟨rfl, _, .inl (.inl eo2)⟩, _, rfl, k, rfl, k.at_same sm (t.kids_at hA k mk), by omega, kn, fun p H3 s3 np e3 => ?_⟩
      refine ⟨o, p, _, _, rfl, rfl, s3 _ _ eo2, e3, ?_, ?_⟩
      · have h1 : ((t.kids.take i).flatMap Fm.atoms).length ≤ t.atoms.length := by
          rw [← t.kids_atoms na]
          conv => rhs; rw [← List.take_append_drop i t.kids, List.flatMap_append, List.length_append]
          omega
        have h2 := t.atoms_le
        have h3 := k.atoms_le
        exact Nat.le_of_lt (line6 (by omega))
      · refine ⟨_, rfl, fun c u e => ?_, ?_, ?_⟩
        · rw [upd_ne (ne_of_none e no)]
          exact s3 c u (sm c u e)
        · exact updT (sameT s3 hb2) (s3 _ _ eo2)
        · rw [upd_same, List.take_add_one, hk, List.flatMap_append]
          simp
    · rintro σ H2 ⟨v, rfl, sm, _, eo2⟩
      rw [List.length_map, List.take_of_length_le (Nat.le_refl _), t.kids_atoms na] at eo2
      exact ⟨_, rfl, q o H2 sm no eo2⟩
theorem ok_atoms_of {f : Addr} {fd : FuncData} (F : Fun K "atoms_of" "atoms_of" s_atoms_of f fd) (b_atoms_of : Binds K fd ["formula"] []) (k_atoms_of : PySem.W.keepIn K (.ref f) = true) (g_atoms_of : mg "atoms_of" = some (.ref f)) :
    ∀ n : Nat, FnOk P w K mg base CX0 n f fd ["formula"] (spAt K n)
  | 0 => at0
  | n + 1 => at_more F (ok_atoms_of F b_atoms_of k_atoms_of g_atoms_of n) b_atoms_of k_atoms_of g_atoms_of
/-! ### _law_atoms -/
def spLa (K : PySem.W.Frag) : Sp := fun vs H Q _ => ∃ t : Fm, vs = [t.root] ∧ t.At H ∧ t.nodes ≤ 600 ∧
  ∀ p H', Same H H' → H p = none → H' p = some (.lst t.atoms) → Q (.ref p) H'
theorem ok_atoms {k : Nat} {f : Addr} {fd : FuncData} (F : Fun K "_law_atoms" "_law_atoms" s_atoms f fd) (m_len : mg "len" = none) (m_range : mg "range" = none) : FnOk P w K mg base CX0 (k + 1) f fd ["formula"] (spLa K) := by
  refine F.ok sc_atoms (fun vs H Q E h => ?_) (fun cdv A outer s H vs Q E hr h => ?_)
  · obtain ⟨t, rfl, _⟩ := h
    rfl
  obtain ⟨t, rfl, hA, hn, q⟩ := h
  refine ⟨_, (pss_cons (ps_set (i := 1) sc_atoms.nd rfl (.inl rfl) (pe_lst pa_nil))
    (pss_cons (ps_set (i := 2) sc_atoms.nd rfl (.inl rfl) (pe_lst (pa_cons (pv 0) pa_nil)))
    (pss_cons (ps_for PassesOwn.never rfl (pi_range1 rfl m_range (pa_cons pe_int pa_nil)) (pg_name (i := 3) sc_atoms.nd rfl (.inl rfl))
      (pss_one (ps_if (pt_cmpR op_gt (pe_callB (r := rLn K) c_len rfl m_len (by decide +kernel) (pa_cons (pv 2) pa_nil)) pe_int (nomark _)) (pss_cons (ps_set (i := 4) sc_atoms.nd rfl (.inl rfl) (pe_bm0 PySem.F.plainAttrs_list PySem.F.slot_list_pop PySem.F.type_list_pop mt_pop (pv 2)))
    (pss_one (ps_if (pt_cmpR op_eq (pe_ix (r := rIx K) ix_seq (pv 4) pe_int (fun _ _ => rfl)) pe_str (nomark _)) (pss_one (ps_expr (pe_bm PySem.F.plainAttrs_list PySem.F.slot_list_append PySem.F.type_list_append mt_append (pv 1) (pa_cons (pv 4) pa_nil)))) (pss_one (ps_for PassesOwn.never rfl (pi_seq (pe_revT (pe_slice (r := rSl K) sl_any (pv 4) (po_some pe_int) po_none))) (pg_name (i := 5) sc_atoms.nd rfl (.inl rfl))
      (pss_one (ps_expr (pe_bm PySem.F.plainAttrs_list PySem.F.slot_list_append PySem.F.type_list_append mt_append (pv 2) (pa_cons (pv 5) pa_nil))))))))) pss_nil)))
    (pss_one (ps_ret (pv 1)))))), ?_⟩
  refine ⟨Nat.zero_le _, fun o no => ?_⟩
  have s1 : Same H (upd H o (.lst [])) := same_new no
  refine ⟨_, rfl, (by show 1 ≤ sizeLine; decide), fun l nl => ?_⟩
  have s2 : Same _ (upd (upd H o (.lst [])) l (.lst [t.root])) := same_new nl
  have nl0 : H l = none := s1.free nl
  have nlo : o ≠ l := fun z => by
    subst z
    rw [upd_same] at nl
    cases nl
  refine ⟨600, rfl, by decide, by decide, ?_⟩
  refine for_range (lo := 0) (n := ((600 : Int)).toNat) (fun i σ H2 => ∃ (kv tv iv : Option V) (ts : List Fm) (acc : List V), σ = [some t.root, some (.ref o), some (.ref l), kv, tv, iv] ∧
      Same H H2 ∧ (∀ k ∈ ts, k.At H2) ∧ acc ++ ts.reverse.flatMap Fm.atoms = t.atoms ∧ sumN ts ≤ 600 - i ∧
      H2 o = some (.lst acc) ∧ H2 l = some (.lst (ts.map Fm.root))) ⟨none, none, none, [t], [], rfl, s1.trans s2, ?_, by simp, by simp [sumN]; omega, ?_, ?_⟩ ?_ ?_
  · intro k hk
    rw [List.mem_singleton.mp hk]
    exact t.at_same (s1.trans s2) hA
  · exact s2 _ _ upd_same
  · rw [upd_same]
    rfl
  · rintro i σ H2 hi ⟨kv, tv, iv, ts, acc, rfl, sm, hts, hacc, hsum, eO, eL⟩
    have hi' : i < 600 := hi
    refine ⟨_, rfl, .inl ⟨l, _, rfl, .inl (SqL.of eL), _, _, rfl, rfl, _, rfl, ite2 (fun c => ?_) (fun c => ?_)⟩⟩
    · have c' : (0 : Int) < (((ts.map Fm.root).length : Nat) : Int) := of_decide_eq_true c
      rw [List.length_map] at c'
      have ne : ts ≠ [] := fun z => by
        subst z
        simp at c'
      obtain ⟨us, u, rfl⟩ : ∃ us u, ts = us ++ [u] := ⟨ts.dropLast, ts.getLast ne, (List.dropLast_concat_getLast ne).symm⟩
      have eL2 : H2 l = some (.lst (us.map Fm.root ++ [u.root])) := by
        rw [eL, List.map_append]
        rfl
      refine ⟨_, rfl, .inl ⟨rfl, _, .inl (.inl eL2)⟩, l, _, u.root, rfl, rfl, eL2, by simp, ?_⟩
      have eDl : (us.map Fm.root ++ [u.root]).dropLast = us.map Fm.root := by simp
      rw [eDl]
      have hu : u.At H2 := hts u (by simp)
      obtain ⟨a, z, r, ea, ha, hw⟩ := u.look hu
      have up : ∀ b (x : HO), H2 b = some x → b ≠ l → (upd H2 l (.lst (us.map Fm.root))) b = some x := fun b x e ne => by
        rw [upd_ne ne]
        exact e
      have nal : a ≠ l := ne_of ha eL (by intro z; cases z)
      have smL : ∀ (H3 : Hp) (ys : List V), Same H H3 → Same H (upd H3 l (.lst ys)) := fun H3 ys sm3 b x e => by
        rw [upd_ne (ne_of_none e nl0)]
        exact sm3 b x e
      have hsum2 : sumN us + u.nodes ≤ 600 - i := by
        rw [sumN_app] at hsum
        simpa [sumN] using hsum
      rw [ea]
      refine ⟨_, rfl, .inr (.inl ⟨a, _, 0, _, rfl, rfl, SqT.of (up _ _ ha nal), atI_nat (j := 0) rfl, rfl, _, rfl, ite2 (fun c => ?_) (fun c => ?_)⟩)⟩
      · have c' : V.str z = .str "is" := of_decide_eq_true c
        rcases hw with ⟨_, _, et⟩ | ⟨_, ne, _⟩
        · have eO2 := up _ _ eO nlo
          refine ⟨_, rfl, .inl ⟨rfl, _, .inl (.inl eO2)⟩, _, rfl, o, _, _, rfl, rfl, eO2, ?_, ?_⟩
          · have h1 : acc.length ≤ t.atoms.length := by
              rw [← hacc, List.length_append]
              omega
            have h2 := t.atoms_le
            exact line6 (by omega)
          · refine ⟨_, _, _, us, acc ++ [.ref a], rfl, fun b x e => ?_, fun k hk => ?_, ?_, ?_, upd_same, ?_⟩
            · rw [upd_ne (ne_of_none e no)]
              exact smL H2 _ sm b x e
            · exact k.at_tup ((tup_upd eL).trans (tup_upd eO2)) (hts k (List.mem_append_left _ hk))
            · rw [← hacc, List.reverse_append, List.flatMap_append, List.append_assoc]
              simp [et, ea]
            · have := u.nodes_pos
              omega
            · rw [upd_ne nlo.symm, upd_same]
        · exact absurd c' ne
      · have c' : V.str z ≠ .str "is" := fun e => c (decide_eq_true e)
        rcases hw with ⟨_, e, _⟩ | ⟨na, _, er⟩
        · exact absurd e c'
        have eO2 := up _ _ eO nlo
        refine .inr ⟨_, rfl, 1, rfl, .inr (.inl (slA_gen (SqT.of (up _ _ ha nal)) fun b H3 s3 hb => ⟨b, _, rfl, hb, fun p np => ⟨p, rfl, ⟨_, SqT.of upd_same⟩, ?_⟩⟩))⟩
        rw [cut_from1, List.drop_one, List.tail_cons, er]
        have eL3 : H3 l = some (.lst (us.map Fm.root)) := s3 _ _ upd_same
        have s4 : Same H3 (upd H3 p (.tup (u.kids.map Fm.root).reverse)) := same_new np
        have npl : p ≠ l := fun z => by
          subst z
          rw [eL3] at np
          cases np
        refine for_tup (K := K) (xs := (u.kids.map Fm.root).reverse) (fun j σ H5 => ∃ iv, σ = [some t.root, some (.ref o), some (.ref l), some (.int (0 + (i : Nat))), some (.ref a), iv] ∧
          (∀ b x, (upd H3 p (.tup (u.kids.map Fm.root).reverse)) b = some x → b ≠ l → H5 b = some x) ∧
          H5 l = some (.lst (us.map Fm.root ++ (u.kids.map Fm.root).reverse.take j))) ⟨iv, rfl, fun b x e _ => e, by rw [List.take_zero, List.append_nil]; exact s4 _ _ eL3⟩ ?_ ?_ ?_
        · rintro j σ H5 _ ⟨iv, rfl, st, _⟩
          exact SqT.of (st p _ upd_same npl)
        · rintro j x σ H5 hx ⟨iv, rfl, st, eL5⟩
          refine ⟨_, rfl, .inl ⟨rfl, _, .inl (.inl eL5)⟩, _, rfl, l, _, _, rfl, rfl, eL5, ?_, _, rfl, fun b y e ne => ?_, ?_⟩
          · have h1 := u.kids_len
            have h2 := len_le_sumN us
            rw [List.length_append, List.length_map, List.length_take, List.length_reverse, List.length_map]
            exact line6 (by omega)
          · rw [upd_ne ne]
            exact st b y e ne
          · rw [upd_same, List.take_add_one, hx, List.append_assoc]
            rfl
        · rintro σ H5 ⟨iv, rfl, st, eL5⟩
          rw [List.take_of_length_le (Nat.le_refl _)] at eL5
          have tt : TupSame H2 H5 := (tup_upd eL).trans ((Same.tup s3).trans ((Same.tup s4).trans fun b xs e => st b _ e (fun z => by
            subst z
            rw [s4 _ _ eL3] at e
            cases e)))
          refine ⟨_, _, iv, us ++ u.kids.reverse, acc, rfl, fun b x e => ?_, fun k hk => ?_, ?_, ?_, ?_, ?_⟩
          · exact st b x (s4 _ _ (s3 _ _ (smL H2 _ sm b x e))) (ne_of_none e nl0)
          · refine k.at_tup tt ?_
            rcases List.mem_append.mp hk with h | h
            · exact hts k (List.mem_append_left _ h)
            · exact u.kids_at hu k (List.mem_reverse.mp h)
          · rw [← hacc, List.reverse_append, List.reverse_reverse, List.flatMap_append, List.reverse_append, List.flatMap_append, u.kids_atoms na]
            simp
          · have h1 := u.kids_nodes
            rw [sumN_app, sumN_rev]
            have h2 : sumN u.kids + 1 = u.nodes := h1
            omega
          · exact st o _ (s4 _ _ (s3 _ _ eO2)) nlo
          · rw [eL5, List.map_append, List.map_reverse]
    · have c' : ¬ (0 : Int) < (((ts.map Fm.root).length : Nat) : Int) := of_decide_eq_false (Bool.eq_false_iff.mpr c)
      rw [List.length_map] at c'
      have z : ts = [] := List.length_eq_zero_iff.mp (by omega)
      subst z
      exact ⟨_, tv, iv, [], acc, rfl, sm, by simp, hacc, by simp [sumN], eO, eL⟩
  · rintro σ H2 ⟨kv, tv, iv, ts, acc, rfl, sm, hts, hacc, hsum, eO, eL⟩
    have z : ts = [] := sumN_zero (by
      have : sumN ts ≤ 600 - 600 := hsum
      omega)
    subst z
    rw [List.reverse_nil, List.flatMap_nil, List.append_nil] at hacc
    exact ⟨_, rfl, q o H2 sm no (by rw [eO, hacc])⟩
end
end Nz
namespace Nz
open PySem PySem.Spec PyProof.Rows L2
section
variable {P : Program} {w : World} {K : PySem.W.Frag} {mg : Str → Option Value} {base : Heap}
/-! ### _law_names -/
def NI (H0 H : Hp) (a d p : Addr) (ws : List Str) (ds : List Int) (zs : List Str) : Prop :=
  Same H0 H ∧ H a = some (.lst (ws.map V.str)) ∧ H d = some (.lst (ds.map V.int)) ∧ H p = some (.lst (zs.map V.str))
theorem NI.same {H0 H H' : Hp} {a d p : Addr} {ws : List Str} {ds : List Int} {zs : List Str} (e : Same H H') (h : NI H0 H a d p ws ds zs) : NI H0 H' a d p ws ds zs :=
  ⟨h.1.trans e, e _ _ h.2.1, e _ _ h.2.2.1, e _ _ h.2.2.2⟩
def spNames (K : PySem.W.Frag) : Sp := fun vs H Q _ => ∃ (c : Int) (n : Nat), vs = [.int c, .int n] ∧ n ≤ 10 ∧
  ∀ (zs : List Str) (p : Addr) (H' : Hp), zs.length = n → (∀ z ∈ zs, 1 ≤ z.length ∧ z.length ≤ 200000) → Same H H' → H p = none → H' p = some (.lst (zs.map V.str)) → Q (.ref p) H'
set_option maxHeartbeats 1000000 in
theorem ok_names {k : Nat} {f : Addr} {fd : FuncData} (F : Fun K "_law_names" "_law_names" s_names f fd) {f_digits : Addr} {fd_digits : FuncData} (G_digits : FnOk P w K mg base CX0 (k) f_digits fd_digits ["cell", "many", "count"] (spDig K)) (b_digits : Binds K fd_digits ["cell", "many", "count"] []) (k_digits : PySem.W.keepIn K (.ref f_digits) = true) (g_digits : mg "_law_digits" = some (.ref f_digits)) (m_int : mg "int" = none) (m_len : mg "len" = none) (m_range : mg "range" = none) :
    FnOk P w K mg base CX0 (k + 1) f fd ["cell", "count"] (spNames K) := by
  refine F.ok sc_names (fun vs H Q E h => ?_) (fun cdv A outer s H vs Q E hr h => ?_)
  · obtain ⟨c, n, rfl, _⟩ := h
    rfl
  have hr_digits := hr
  obtain ⟨c, n, rfl, hn, q⟩ := h
  refine ⟨_, (pss_cons (ps_set (i := 2) sc_names.nd rfl (.inl rfl) (pe_lst (pa_cons pe_str (pa_cons pe_str (pa_cons pe_str (pa_cons pe_str (pa_cons pe_str (pa_cons pe_str (pa_cons pe_str (pa_cons pe_str (pa_cons pe_str pa_nil)))))))))))
    (pss_cons (ps_set (i := 3) sc_names.nd rfl (.inl rfl) pe_str)
    (pss_cons (ps_set (i := 4) sc_names.nd rfl (.inr rfl) (pe_op (r := rAdS) ad_str (pe_op (r := rAdS) ad_str (pv 3) pe_str) pe_str))
    (pss_cons (ps_set (i := 5) sc_names.nd rfl (.inl rfl) (pe_call G_digits hr_digits rfl g_digits k_digits b_digits .nil pass0 (pa_cons (pv 0) (pa_cons pe_int (pa_cons (pe_op op_mul pe_int (pv 1)) pa_nil)))))
    (pss_cons (ps_set (i := 6) sc_names.nd rfl (.inl rfl) (pe_lst pa_nil))
    (pss_cons (ps_for PassesOwn.never rfl (pi_range1 rfl m_range (pa_cons (pv 1) pa_nil)) (pg_name (i := 7) sc_names.nd rfl (.inl rfl))
      (pss_cons (ps_set (i := 8) sc_names.nd rfl (.inr rfl) (pe_slice (r := rSl K) sl_any (pv 5) (po_some (pe_op op_mul pe_int (pv 7))) (po_some (pe_op op_add (pe_op op_mul pe_int (pv 7)) pe_int))))
    (pss_cons (ps_set (i := 9) sc_names.nd rfl (.inl rfl) (pe_op op_mod (pe_callTy (r := rIntOf) c_int rfl m_int (by decide +kernel) (pa_cons (pe_op op_fdivW (pe_ix (r := rIx K) ix_seq (pv 8) pe_int (fun _ _ => rfl)) pe_int) pa_nil)) pe_int))
    (pss_cons (ps_set (i := 10) sc_names.nd rfl (.inl rfl) (pe_op (r := rAdS) ad_str (pe_ix (r := rIx K) ix_seq (pv 3) (pe_op op_mod (pe_callTy (r := rIntOf) c_int rfl m_int (by decide +kernel) (pa_cons (pe_ix (r := rIx K) ix_seq (pv 8) pe_int (fun _ _ => rfl)) pa_nil)) pe_int) (fun _ _ => rfl)) (pe_join pe_str (pe_lc (own := [("j", 13)]) (g := gName 13) rfl sc_names.nd (pi_range1 rfl m_range (pa_cons (pe_op op_mod (pe_callTy (r := rIntOf) c_int rfl m_int (by decide +kernel) (pa_cons (pe_op op_fdivW (pe_ix (r := rIx K) ix_seq (pv 8) pe_int (fun _ _ => rfl)) pe_int) pa_nil)) pe_int) pa_nil)) (blkOk_by (own := [("j", 13)]) (N := ["cell", "count", "words", "small", "inner", "digits", "names", "k", "row", "way", "name", "at", "middle", "j"]) (sc := defScope s_names) (by decide +kernel)) (fun _ _ _ _ _ => (pg_name (i := 13) sc_names.nd rfl (.inl rfl))) (fun _ _ _ _ _ => pts_nil) (fun _ _ _ _ _ => (pe_ix (r := rIx K) ix_seq (pv 4) (pe_op op_mod (pe_callTy (r := rIntOf) c_int rfl m_int (by decide +kernel) (pa_cons (pe_ix (r := rIx K) ix_seq (pv 8) (pe_op op_add pe_int (pv 13)) (fun _ _ => rfl)) pa_nil)) pe_int) (fun _ _ => rfl)))))))
    (C8.pss_cut (ps_if (PW.pt (pw_and (pt_cmpR op_eq (pv 9) pe_int (nomark _)) (pw_and1 (pt_cmpR op_gt (pv 7) pe_int (nomark _))))) (pss_cons (ps_set (i := 11) sc_names.nd rfl (.inl rfl) (pe_op op_mod (pe_callTy (r := rIntOf) c_int rfl m_int (by decide +kernel) (pa_cons (pe_ix (r := rIx K) ix_seq (pv 8) pe_int (fun _ _ => rfl)) pa_nil)) (pe_callB (r := rLn K) c_len rfl m_len (by decide +kernel) (pa_cons (pe_ix (r := rIx K) ix_seq (pv 6) (pe_op op_sub (pv 7) pe_int) (fun _ _ => rfl)) pa_nil))))
    (pss_cons (ps_set (i := 12) sc_names.nd rfl (.inl rfl) (pe_ix (r := rIx K) ix_seq (pv 4) (pe_op op_mod (pe_callTy (r := rIntOf) c_int rfl m_int (by decide +kernel) (pa_cons (pe_ix (r := rIx K) ix_seq (pv 8) pe_int (fun _ _ => rfl)) pa_nil)) pe_int) (fun _ _ => rfl)))
    (C8.pss_cut (ps_if (pt_cmpR op_eq (pv 11) pe_int (nomark _)) (pss_one (ps_set (i := 12) sc_names.nd rfl (.inl rfl) (pe_ix (r := rIx K) ix_seq (pv 3) (pe_op op_mod (pe_callTy (r := rIntOf) c_int rfl m_int (by decide +kernel) (pa_cons (pe_ix (r := rIx K) ix_seq (pv 8) pe_int (fun _ _ => rfl)) pa_nil)) pe_int) (fun _ _ => rfl)))) pss_nil)
    (pss_one (ps_set (i := 10) sc_names.nd rfl (.inl rfl) (pe_op (r := rAd K) ad_any (pe_op (r := rAd K) ad_any (pe_slice (r := rSl K) sl_any (pe_ix (r := rIx K) ix_seq (pv 6) (pe_op op_sub (pv 7) pe_int) (fun _ _ => rfl)) po_none (po_some (pv 11))) (pv 12)) (pe_slice (r := rSl K) sl_any (pe_ix (r := rIx K) ix_seq (pv 6) (pe_op op_sub (pv 7) pe_int) (fun _ _ => rfl)) (po_some (pe_op op_add (pv 11) pe_int)) po_none))))))) pss_nil)
    (C8.pss_cut (ps_if (PW.pt (pw_and (pt_cmpR op_eq (pv 9) pe_int (nomark _)) (pw_and1 (pt_cmpR op_gt (pv 7) pe_int (nomark _))))) (pss_one (ps_set (i := 10) sc_names.nd rfl (.inl rfl) (pe_op (r := rAd K) ad_any (pe_ix (r := rIx K) ix_seq (pv 6) (pe_op op_sub (pv 7) pe_int) (fun _ _ => rfl)) (pe_ix (r := rIx K) ix_seq (pv 4) (pe_op op_mod (pe_callTy (r := rIntOf) c_int rfl m_int (by decide +kernel) (pa_cons (pe_ix (r := rIx K) ix_seq (pv 8) pe_int (fun _ _ => rfl)) pa_nil)) pe_int) (fun _ _ => rfl))))) pss_nil)
    (C8.pss_cut (ps_if (PW.pt (pw_and (pt_cmpR op_eq (pv 9) pe_int (nomark _)) (pw_and1 (pt_cmpR op_eq (pv 7) pe_int (nomark _))))) (pss_one (ps_set (i := 10) sc_names.nd rfl (.inl rfl) (pe_op (r := rAd K) ad_any (pe_ix (r := rIx K) ix_seq (pv 2) (pe_op op_mod (pe_callTy (r := rIntOf) c_int rfl m_int (by decide +kernel) (pa_cons (pe_ix (r := rIx K) ix_seq (pv 8) pe_int (fun _ _ => rfl)) pa_nil)) pe_int) (fun _ _ => rfl)) (pe_ix (r := rIx K) ix_seq (pv 4) (pe_op op_mod (pe_callTy (r := rIntOf) c_int rfl m_int (by decide +kernel) (pa_cons (pe_ix (r := rIx K) ix_seq (pv 8) pe_int (fun _ _ => rfl)) pa_nil)) pe_int) (fun _ _ => rfl))))) pss_nil)
    (pss_cons (ps_for PassesOwn.never rfl (pi_range1 rfl m_range (pa_cons (pe_op op_add (pv 1) pe_int) pa_nil)) (pg_name (i := 13) sc_names.nd rfl (.inl rfl))
      (pss_one (ps_if (PW.pt (pw_or (pt_cmpR (r := rIn K false) op_in_seq (pv 10) (pv 6) rfl) (pw_or1 (pt_cmpR (r := rIn K false) op_in_seq (pv 10) (pv 2) rfl)))) (pss_one (ps_set (i := 10) sc_names.nd rfl (.inl rfl) (pe_op (r := rAdS) ad_str (pv 10) pe_str))) pss_nil)))
    (pss_one (ps_expr (pe_bm PySem.F.plainAttrs_list PySem.F.slot_list_append PySem.F.type_list_append mt_append (pv 6) (pa_cons (pv 10) pa_nil))))))))))))
    (pss_one (ps_ret (pv 6))))))))), ?_⟩
  refine ⟨(by show 9 ≤ sizeLine; decide), fun a na => ?_⟩
  have s1 := same_new (o := .lst [V.str "all", .str "true", .str "false", .str "not", .str "and", .str "or", .str "relation", .str "values", .str "symmetric"]) na
  refine ⟨_, rfl, _, _, rfl, rfl, (by decide +kernel), _, _, rfl, rfl, (by decide +kernel), ?_⟩
  refine ⟨_, rfl, _, rfl, _, _, rfl, rfl, .inl ⟨by decide, by decide⟩, c, 3276, 8 * (n : Int), rfl, by decide, by decide, by omega, by omega, fun ds d hl hd nd => ?_⟩
  have s2 := same_new (o := .lst (ds.map V.int)) nd
  refine ⟨Nat.zero_le _, fun p np => ?_⟩
  have s3 := same_new (o := .lst ([] : List V)) np
  have np0 : H p = none := s1.free (s2.free np)
  have nap : a ≠ p := ne_of_none (s2 _ _ upd_same) np
  have ndp : d ≠ p := ne_of_none upd_same np
  have inv0 : NI H _ a d p ["all", "true", "false", "not", "and", "or", "relation", "values", "symmetric"] ds [] :=
    ⟨s1.trans (s2.trans s3), s3 _ _ (s2 _ _ upd_same), s3 _ _ upd_same, upd_same⟩
  have lo : ∀ x : Int, 0 < x → x < 1000 → ∀ y : Int, CDivW y x := fun x h0 h1 y => wide_div (b := 10) h0 (by omega) (by decide) (by decide)
  have dl : ds.length = 8 * n := by omega
  refine ⟨.int n, rfl, n, rfl, by omega, by omega, ?_⟩
  refine for_range (lo := 0) (n := ((n : Nat) : Int).toNat) (fun i σ H1 => ∃ (s7 s8 s9 s10 s11 s12 s13 : Option V) (zs : List Str),
      σ = [some (.int c), some (.int n), some (.ref a), some (.str "abcdefghijklmnopqrstuvwxyz"), some (.str (("abcdefghijklmnopqrstuvwxyz" : Str) ++ ("ABCDEFGHIJKLMNOPQRSTUVWXYZ" : Str) ++ ("0123456789_" : Str))), some (.ref d), some (.ref p), s7, s8, s9, s10, s11, s12, s13] ∧
      NI H H1 a d p ["all", "true", "false", "not", "and", "or", "relation", "values", "symmetric"] ds zs ∧ zs.length = i ∧ ∀ z ∈ zs, 1 ≤ z.length ∧ z.length + 20 ≤ 100 * 2 ^ i)
    ⟨none, none, none, none, none, none, none, [], rfl, inv0, rfl, by simp⟩ ?_ ?_
  · rintro i σ H1 hi ⟨s7, s8, s9, s10, s11, s12, s13, zs, rfl, inv, hz, hzs⟩
    have hi' : i < n := by omega
    have pw : 1 ≤ 2 ^ i := Nat.one_le_two_pow
    have pw2 : 2 ^ (i + 1) = 2 * 2 ^ i := by rw [Nat.pow_succ]; omega
    have pw9 : 2 ^ i ≤ 2 ^ 9 := Nat.pow_le_pow_right (by decide) (by omega)
    have pw512 : (2 : Nat) ^ 9 = 512 := rfl
    -- row
    obtain ⟨rs, ers, mrs, lrs⟩ := cutV_ints ds (some (8 * (0 + (i : Int)))) (some (8 * (0 + (i : Int)) + 8))
    have l8 : rs.length = 8 := by
      have e1 : (8 * (0 + (i : Int))) = ((8 * i : Nat) : Int) := by omega
      have e2 : (8 * (0 + (i : Int)) + 8) = ((8 * i + 8 : Nat) : Int) := by omega
      rw [lrs, e2, e1, HT.sIx_nat, HT.sIx_nat]
      omega
    refine ⟨_, rfl, .int (0 + (i : Nat)), rfl, _, _, rfl, rfl, .inl ⟨by decide, by decide⟩, _, rfl, .int (0 + (i : Nat)), rfl, _, _, rfl, rfl, .inl ⟨by decide, by decide⟩, _, _, rfl, rfl, _, rfl,
      .inl ⟨d, _, rfl, SqL.of inv.2.2.1, fun r nr => ?_⟩⟩
    rw [ers]
    have inv1 := inv.same (same_new (o := .lst (rs.map V.int)) nr)
    have er : (upd H1 r (.lst (rs.map V.int))) r = some (.lst (rs.map V.int)) := upd_same
    generalize upd H1 r (.lst (rs.map V.int)) = H2 at inv1 er
    -- way
    refine ⟨_, rfl, int_at (SqL.of er) (by decide) (by omega) fun d0 _ => ⟨_, _, rfl, rfl, lo _ (by decide) (by decide) _, _, rfl, _, _, rfl, rfl, (by decide : (0 : Int) < 3), ?_⟩⟩
    -- name
    refine ⟨_, rfl, _, rfl, int_at (SqL.of er) (by decide) (by omega) fun d1 _ => ⟨_, rfl, _, _, rfl, rfl, (by decide : (0 : Int) < 26), sign_at (by decide +kernel) (Int.emod_nonneg _ (by decide))
      (Int.lt_of_lt_of_le (Int.emod_lt_of_pos _ (by decide)) (by decide +kernel)) fun c1 => ⟨⟨_, rfl⟩, ?_⟩⟩⟩
    refine ⟨_, rfl, int_at (SqL.of er) (by decide) (by omega) fun d2 _ => ⟨_, _, rfl, rfl, lo _ (by decide) (by decide) _, _, rfl, _, _, rfl, rfl, (by decide : (0 : Int) < 7), _, rfl, ?_⟩⟩
    have j0 := Int.emod_nonneg (d2 / 26) (show (7 : Int) ≠ 0 by decide)
    have j7 := Int.emod_lt_of_pos (d2 / 26) (show (0 : Int) < 7 by decide)
    refine ⟨by omega, by omega, fun D nD => ?_⟩
    refine lc_range (lo := 0) (n := (d2 / 26 % 7).toNat) (fun j H3 => Same H2 H3 ∧ ∃ ys : List Str, H3 D = some (.lst (ys.map V.str)) ∧ ys.length = j ∧ ∀ y ∈ ys, y.length = 1)
      ⟨same_new nD, [], upd_same, rfl, by simp⟩ ?_ ?_
    · rintro j H3 hj ⟨sm, ys, eD, ly, hy⟩
      refine ⟨rfl, _, rfl, _, rfl, .int (0 + (j : Nat)), rfl, _, _, rfl, rfl, int_at (SqL.of (sm _ _ er)) (by omega) (by omega) fun d3 _ => ⟨_, rfl, _, _, rfl, rfl, (by decide : (0 : Int) < 63), sign_at (by decide +kernel)
        (Int.emod_nonneg _ (by decide)) (Int.lt_of_lt_of_le (Int.emod_lt_of_pos _ (by decide)) (by decide +kernel)) fun c3 => ⟨ys.map V.str, eD, ?_, fun b u e => ?_, ys ++ [⟨#[c3]⟩], ?_, ?_, ?_⟩⟩⟩
      · rw [List.length_map]
        exact line6 (by omega)
      · rw [upd_ne (ne_of_none e nD)]
        exact sm b u e
      · rw [upd_same, List.map_append]
        rfl
      · rw [List.length_append, ly]
        rfl
      · intro y hm
        rcases List.mem_append.mp hm with h | h
        · exact hy y h
        · rw [List.mem_singleton.mp h]
          rfl
    rintro H3 ⟨sm, ys, eD, ly, hy⟩
    have inv3 := inv1.same sm
    have er3 := sm _ _ er
    have sy := sum_ones hy
    have lj : (Txt.join ("" : Str) ys).length = ys.length := PySem.W.KT.join_ones ys hy
    have l1 : (⟨#[c1]⟩ : Str).length = 1 := rfl
    refine ⟨_, D, ys, rfl, rfl, .inl (SqL.of eD), ?_, _, _, rfl, rfl, ?_, ?_⟩
    · rw [sy]
      show ys.length + ys.length * 0 ≤ 16777216
      omega
    · rw [l1, lj, sizeLine_eq]
      omega
    have nl1 : 1 ≤ ((⟨#[c1]⟩ : Str) ++ Txt.join ("" : Str) ys).length ∧ ((⟨#[c1]⟩ : Str) ++ Txt.join ("" : Str) ys).length ≤ 7 := by
      rw [len_app]
      omega
    have prev : ∀ (H5 : Hp) (Q' : VK), NI H H5 a d p ["all", "true", "false", "not", "and", "or", "relation", "values", "symmetric"] ds zs → 0 < i → (∀ z ∈ zs, Q' (.str z) H5) → rIx K (.ref p) (.int (0 + (i : Int) - 1)) H5 Q' :=
      fun H5 Q' iv h0 q' => str_at (SqL.of iv.2.2.2) (by omega) (by omega) q'
    have zsz : ∀ z ∈ zs, z.length ≤ sizeLine := fun z h => Nat.le_of_lt (line6 (by have := hzs z h; omega))
    have smallS : ("abcdefghijklmnopqrstuvwxyz" : Str).length = 26 := by decide +kernel
    have innerS : (("abcdefghijklmnopqrstuvwxyz" : Str) ++ ("ABCDEFGHIJKLMNOPQRSTUVWXYZ" : Str) ++ ("0123456789_" : Str)).length = 63 := by decide +kernel
    let Mid : L2.St → Hp → Prop := fun σ' H' => ∃ (nm : Str) (s11 s12 s13 : Option V), σ' = [some (.int c), some (.int n), some (.ref a), some (.str "abcdefghijklmnopqrstuvwxyz"),
        some (.str (("abcdefghijklmnopqrstuvwxyz" : Str) ++ ("ABCDEFGHIJKLMNOPQRSTUVWXYZ" : Str) ++ ("0123456789_" : Str))), some (.ref d), some (.ref p), some (.int (0 + (i : Nat))), some (.ref r), some (.int (d0 / 182 % 3)), some (.str nm), s11, s12, s13] ∧
      NI H H' a d p ["all", "true", "false", "not", "and", "or", "relation", "values", "symmetric"] ds zs ∧ H' r = some (.lst (rs.map V.int)) ∧ 1 ≤ nm.length ∧ nm.length + 39 ≤ 200 * 2 ^ i
    refine ⟨Mid, ?_, ?_⟩
    · have stay : Mid _ H3 := ⟨_, s11, s12, s13, rfl, inv3, er3, nl1.1, by omega⟩
      refine ⟨_, rfl, rfl, _, rfl, ite2 (fun _ => ?_) (fun _ => iteF stay)⟩
      refine ⟨.int (0 + (i : Nat)), rfl, _, _, rfl, rfl, _, rfl, ite2 (fun ci => ?_) (fun _ => stay)⟩
      have i0 : 0 < i := by
        have c' : (0 : Int) < 0 + (i : Int) := of_decide_eq_true ci
        omega
      refine ⟨_, rfl, int_at (SqL.of er3) (by decide) (by omega) fun d4 _ => ⟨_, rfl, _, rfl, .int (0 + (i : Nat)), rfl, _, _, rfl, rfl, prev _ _ inv3 i0 fun z hz => .inr ⟨z, rfl, zsz z hz, _, _, rfl, rfl, ?_, ?_⟩⟩⟩
      · have := (hzs z hz).1
        show (0 : Int) < (z.length : Nat)
        omega
      have zp := (hzs z hz).1
      have e0 := Int.emod_nonneg d4 (show ((z.length : Nat) : Int) ≠ 0 by omega)
      have e1 := Int.emod_lt_of_pos d4 (show (0 : Int) < ((z.length : Nat) : Int) by omega)
      refine ⟨_, rfl, _, rfl, int_at (SqL.of er3) (by decide) (by omega) fun d5 _ => ⟨_, rfl, _, _, rfl, rfl, (by decide : (0 : Int) < 63), sign_at (by decide +kernel)
        (Int.emod_nonneg _ (by decide)) (Int.lt_of_lt_of_le (Int.emod_lt_of_pos _ (by decide)) (by decide +kernel)) fun c5 => ?_⟩⟩
      let Mid2 : L2.St → Hp → Prop := fun σ' H' => ∃ (nm md : Str) (s13 : Option V), σ' = [some (.int c), some (.int n), some (.ref a), some (.str "abcdefghijklmnopqrstuvwxyz"),
          some (.str (("abcdefghijklmnopqrstuvwxyz" : Str) ++ ("ABCDEFGHIJKLMNOPQRSTUVWXYZ" : Str) ++ ("0123456789_" : Str))), some (.ref d), some (.ref p), some (.int (0 + (i : Nat))), some (.ref r), some (.int (d0 / 182 % 3)), some (.str nm), some (.int (d4 % (z.length : Nat))), some (.str md), s13] ∧
        NI H H' a d p ["all", "true", "false", "not", "and", "or", "relation", "values", "symmetric"] ds zs ∧ H' r = some (.lst (rs.map V.int)) ∧ md.length = 1
      refine ⟨Mid2, ?_, ?_⟩
      · have stay2 : ∀ md : Str, md.length = 1 → Mid2 [some (.int c), some (.int n), some (.ref a), some (.str "abcdefghijklmnopqrstuvwxyz"),
            some (.str (("abcdefghijklmnopqrstuvwxyz" : Str) ++ ("ABCDEFGHIJKLMNOPQRSTUVWXYZ" : Str) ++ ("0123456789_" : Str))), some (.ref d), some (.ref p), some (.int (0 + (i : Nat))), some (.ref r), some (.int (d0 / 182 % 3)), some (.str ((⟨#[c1]⟩ : Str) ++ Txt.join ("" : Str) ys)), some (.int (d4 % (z.length : Nat))), some (.str md), s13] H3 :=
          fun md h => ⟨_, md, s13, rfl, inv3, er3, h⟩
        refine ⟨_, rfl, rfl, _, rfl, ite2 (fun _ => ?_) (fun _ => stay2 _ (len_one _))⟩
        exact ⟨_, rfl, _, rfl, int_at (SqL.of er3) (by decide) (by omega) fun d6 _ => ⟨_, rfl, _, _, rfl, rfl, (by decide : (0 : Int) < 26), sign_at (by decide +kernel)
          (Int.emod_nonneg _ (by decide)) (Int.lt_of_lt_of_le (Int.emod_lt_of_pos _ (by decide)) (by decide +kernel)) fun c6 => stay2 _ (len_one _)⟩⟩
      · rintro σ' H5 ⟨nm, md, t13, rfl, inv5, er5, lmd⟩
        refine ⟨_, rfl, .int (0 + (i : Nat)), rfl, _, _, rfl, rfl, prev _ _ inv5 i0 fun z2 hz2 => ⟨_, rfl, _, rfl, .inr (.inr ⟨z2, rfl, zsz z2 hz2, _, rfl, ?_⟩)⟩⟩
        have cl2 := cutS_length z2 none (some (d4 % (z.length : Nat)))
        have b2 := hzs z2 hz2
        refine .inr (.inl ⟨_, _, rfl, rfl, ?_, _, rfl, .int (0 + (i : Nat)), rfl, _, _, rfl, rfl, prev _ _ inv5 i0 fun z3 hz3 => ⟨_, rfl, _, _, rfl, rfl, _, rfl, .inr (.inr ⟨z3, rfl, zsz z3 hz3, .inr (.inl ⟨_, _, rfl, rfl, ?_, ?_⟩)⟩)⟩⟩)
        · rw [lmd, sizeLine_eq]
          omega
        · have cl3 := cutS_length z3 (some (d4 % (z.length : Nat) + 1)) none
          have b3 := hzs z3 hz3
          rw [len_app, lmd, sizeLine_eq]
          omega
        · have cl3 := cutS_length z3 (some (d4 % (z.length : Nat) + 1)) none
          have b3 := hzs z3 hz3
          exact ⟨_, _, _, _, rfl, inv5, er5, by rw [len_app, len_app, lmd]; omega, by rw [len_app, len_app, lmd]; omega⟩
    -- the second way
    rintro σ' H5 ⟨nm, t11, t12, t13, rfl, inv5, er5, ln1, ln2⟩
    refine ⟨Mid, ?_, ?_⟩
    · have stay : Mid _ H5 := ⟨nm, t11, t12, t13, rfl, inv5, er5, ln1, ln2⟩
      refine ⟨_, rfl, rfl, _, rfl, ite2 (fun _ => ?_) (fun _ => iteF stay)⟩
      refine ⟨.int (0 + (i : Nat)), rfl, _, _, rfl, rfl, _, rfl, ite2 (fun ci => ?_) (fun _ => stay)⟩
      have i0 : 0 < i := by
        have c' : (0 : Int) < 0 + (i : Int) := of_decide_eq_true ci
        omega
      refine ⟨_, rfl, .int (0 + (i : Nat)), rfl, _, _, rfl, rfl, prev _ _ inv5 i0 fun z hz => ⟨_, rfl, _, rfl, int_at (SqL.of er5) (by decide) (by omega) fun d4 _ => ⟨_, rfl, _, _, rfl, rfl, (by decide : (0 : Int) < 63), sign_at (by decide +kernel)
        (Int.emod_nonneg _ (by decide)) (Int.lt_of_lt_of_le (Int.emod_lt_of_pos _ (by decide)) (by decide +kernel)) fun c5 => .inr (.inl ⟨_, _, rfl, rfl, ?_, ?_⟩)⟩⟩⟩
      · have b := hzs z hz
        have l1 : (⟨#[c5]⟩ : Str).length = 1 := rfl
        rw [l1, sizeLine_eq]
        omega
      · have b := hzs z hz
        have l1 : (⟨#[c5]⟩ : Str).length = 1 := rfl
        exact ⟨_, t11, t12, t13, rfl, inv5, er5, by rw [len_app]; omega, by rw [len_app]; omega⟩
    -- the third way
    rintro σ' H5 ⟨nm, t11, t12, t13, rfl, inv5, er5, ln1, ln2⟩
    refine ⟨Mid, ?_, ?_⟩
    · have stay : Mid _ H5 := ⟨nm, t11, t12, t13, rfl, inv5, er5, ln1, ln2⟩
      refine ⟨_, rfl, rfl, _, rfl, ite2 (fun _ => ?_) (fun _ => iteF stay)⟩
      refine ⟨.int (0 + (i : Nat)), rfl, rfl, _, rfl, ite2 (fun ci => ?_) (fun _ => stay)⟩
      refine ⟨_, rfl, _, rfl, int_at (SqL.of er5) (by decide) (by omega) fun d4 _ => ⟨_, rfl, _, _, rfl, rfl, (by decide : (0 : Int) < 9), str_at (SqL.of inv5.2.1) (Int.emod_nonneg _ (by decide))
        (Int.lt_of_lt_of_le (Int.emod_lt_of_pos _ (by decide)) (by decide)) fun z hz => ⟨_, rfl, _, rfl, int_at (SqL.of er5) (by decide) (by omega) fun d6 _ => ⟨_, rfl, _, _, rfl, rfl, (by decide : (0 : Int) < 63), sign_at (by decide +kernel)
        (Int.emod_nonneg _ (by decide)) (Int.lt_of_lt_of_le (Int.emod_lt_of_pos _ (by decide)) (by decide +kernel)) fun c5 => .inr (.inl ⟨_, _, rfl, rfl, ?_, ?_⟩)⟩⟩⟩⟩
      · have b : z.length ≤ 9 := by
          revert z
          decide +kernel
        have l1 : (⟨#[c5]⟩ : Str).length = 1 := rfl
        rw [l1, sizeLine_eq]
        omega
      · have b : z.length ≤ 9 := by
          revert z
          decide +kernel
        have l1 : (⟨#[c5]⟩ : Str).length = 1 := rfl
        exact ⟨_, t11, t12, t13, rfl, inv5, er5, by rw [len_app]; omega, by rw [len_app]; omega⟩
    -- the name is made new, then kept
    rintro σ' H5 ⟨nm, t11, t12, t13, rfl, inv5, er5, ln1, ln2⟩
    refine ⟨_, rfl, _, _, rfl, rfl, _, rfl, by omega, by omega, ?_⟩
    refine for_range (lo := 0) (n := ((n : Nat) + 1 : Int).toNat) (fun j σ6 H6 => H6 = H5 ∧ ∃ (nm : Str) (s13 : Option V), σ6 = [some (.int c), some (.int n), some (.ref a), some (.str "abcdefghijklmnopqrstuvwxyz"),
        some (.str (("abcdefghijklmnopqrstuvwxyz" : Str) ++ ("ABCDEFGHIJKLMNOPQRSTUVWXYZ" : Str) ++ ("0123456789_" : Str))), some (.ref d), some (.ref p), some (.int (0 + (i : Nat))), some (.ref r), some (.int (d0 / 182 % 3)), some (.str nm), t11, t12, s13] ∧
        1 ≤ nm.length ∧ nm.length + 39 ≤ 200 * 2 ^ i + j) ⟨rfl, nm, t13, rfl, ln1, by omega⟩ ?_ ?_
    · rintro j σ6 H6 hj ⟨rfl, nm, s13, rfl, l1, l2⟩
      have more : ∃ (nm2 : Str) (s13 : Option V), [some (.int c), some (.int n), some (.ref a), some (.str "abcdefghijklmnopqrstuvwxyz"),
        some (.str (("abcdefghijklmnopqrstuvwxyz" : Str) ++ ("ABCDEFGHIJKLMNOPQRSTUVWXYZ" : Str) ++ ("0123456789_" : Str))), some (.ref d), some (.ref p), some (.int (0 + (i : Nat))), some (.ref r), some (.int (d0 / 182 % 3)), some (.str (nm ++ ("_" : Str))), t11, t12, some (.int (0 + (j : Nat)))] = [some (.int c), some (.int n), some (.ref a), some (.str "abcdefghijklmnopqrstuvwxyz"),
        some (.str (("abcdefghijklmnopqrstuvwxyz" : Str) ++ ("ABCDEFGHIJKLMNOPQRSTUVWXYZ" : Str) ++ ("0123456789_" : Str))), some (.ref d), some (.ref p), some (.int (0 + (i : Nat))), some (.ref r), some (.int (d0 / 182 % 3)), some (.str nm2), t11, t12, s13] ∧
        1 ≤ nm2.length ∧ nm2.length + 39 ≤ 200 * 2 ^ i + (j + 1) := by
        have lu : ("_" : Str).length = 1 := by decide +kernel
        exact ⟨_, _, rfl, by rw [len_app]; omega, by rw [len_app]; omega⟩
      have room : nm.length + ("_" : Str).length ≤ sizeLine := by
        have lu : ("_" : Str).length = 1 := by decide +kernel
        rw [lu, sizeLine_eq]
        omega
      refine ⟨_, rfl, _, rfl, p, _, rfl, .inl (SqL.of inv5.2.2.2), rfl, all_flat zs, _, rfl, ite2 (fun _ => iteT ?_) (fun _ => ?_)⟩
      · exact ⟨_, rfl, _, _, rfl, rfl, room, rfl, more⟩
      · refine ⟨_, rfl, _, rfl, a, _, rfl, .inl (SqL.of inv5.2.1), rfl, all_flat _, _, rfl, ite2 (fun _ => ?_) (fun _ => ?_)⟩
        · exact ⟨_, rfl, _, _, rfl, rfl, room, rfl, more⟩
        · exact ⟨rfl, nm, _, rfl, l1, by omega⟩
    · rintro σ6 H6 ⟨rfl, nm, s13, rfl, l1, l2⟩
      refine ⟨_, rfl, .inl ⟨rfl, _, .inl (.inl inv5.2.2.2)⟩, _, rfl, p, _, _, rfl, rfl, inv5.2.2.2, ?_, _, _, _, _, _, _, _, zs ++ [nm], rfl, ⟨fun b u e => ?_, ?_, ?_, ?_⟩, by simp [hz], fun z h => ?_⟩
      · rw [List.length_map]
        exact line6 (by omega)
      · rw [upd_ne (ne_of_none e np0)]
        exact inv5.1 b u e
      · rw [upd_ne nap]
        exact inv5.2.1
      · rw [upd_ne ndp]
        exact inv5.2.2.1
      · rw [upd_same, List.map_append]
        rfl
      · rcases List.mem_append.mp h with h | h
        · have := hzs z h
          exact ⟨this.1, by omega⟩
        · rw [List.mem_singleton.mp h]
          exact ⟨l1, by omega⟩
  · rintro σ H1 ⟨s7, s8, s9, s10, s11, s12, s13, zs, rfl, inv, hz, hzs⟩
    have pw10 : 2 ^ ((n : Nat) : Int).toNat ≤ 2 ^ 10 := Nat.pow_le_pow_right (by decide) (by omega)
    have pw1024 : (2 : Nat) ^ 10 = 1024 := rfl
    refine ⟨_, rfl, q zs p H1 (by omega) (fun z h => ?_) inv.1 np0 inv.2.2.2⟩
    have := hzs z h
    exact ⟨this.1, by omega⟩
end
end Nz
namespace Nz
open PySem PySem.Spec PyProof.Rows L2
/-- a relation: its name, arity, number of values, and what follows -/
def RelAt (H : Hp) (x : V) (ar : Int) : Prop := ∃ q z va r, x = .ref q ∧ H q = some (.tup (.str z :: .int ar :: .int va :: r)) ∧ 1 ≤ ar ∧ ar ≤ 3 ∧ 1 ≤ va
theorem RelAt.tup {H H' : Hp} {x : V} {ar : Int} (e : TupSame H H') (h : RelAt H x ar) : RelAt H' x ar :=
  let ⟨q, z, va, r, h1, h2, h3⟩ := h
  ⟨q, z, va, r, h1, e _ _ h2, h3⟩
theorem divW {x y : Int} (h0 : 0 < y) (h1 : y < 2 ^ 40) : CDivW x y := wide_div (b := 40) h0 (by omega) (by decide) (by decide)
section
variable {P : Program} {w : World} {K : PySem.W.Frag} {mg : Str → Option Value} {base : Heap}
/-! ### _law_offered -/
def spOff (K : PySem.W.Frag) : Sp := fun vs H Q _ => ∃ (a : Addr) (c : Int) (zs : List Str), vs = [.ref a, .int c] ∧ SqL K H a (zs.map V.str) ∧ zs.length ≤ 10 ∧
  ∀ (xs : List V) (p : Addr) (H' : Hp), xs.length = zs.length → (∀ x ∈ xs, ∃ ar, RelAt H' x ar) → Same H H' → H p = none → H' p = some (.lst xs) → Q (.ref p) H'
theorem ok_offered {k : Nat} {f : Addr} {fd : FuncData} (F : Fun K "_law_offered" "_law_offered" s_offered f fd) (m_int : mg "int" = none) (m_len : mg "len" = none) (m_range : mg "range" = none) : FnOk P w K mg base CX0 (k + 1) f fd ["names", "cell"] (spOff K) := by
  refine F.ok sc_offered (fun vs H Q E h => ?_) (fun cdv A outer s H vs Q E hr h => ?_)
  · obtain ⟨a, c, zs, rfl, _⟩ := h
    rfl
  obtain ⟨a, c, zs, rfl, hS, hz, q⟩ := h
  refine ⟨_, (pss_cons (ps_set (i := 2) sc_offered.nd rfl (.inl rfl) (pe_lst pa_nil))
    (pss_cons (ps_for PassesOwn.never rfl (pi_range1 rfl m_range (pa_cons (pe_callB (r := rLn K) c_len rfl m_len (by decide +kernel) (pa_cons (pv 0) pa_nil)) pa_nil)) (pg_name (i := 3) sc_offered.nd rfl (.inl rfl))
      (pss_one (ps_expr (pe_bm PySem.F.plainAttrs_list PySem.F.slot_list_append PySem.F.type_list_append mt_append (pv 2) (pa_cons (pe_tup (pa_cons (pe_ix (r := rIx K) ix_seq (pv 0) (pv 3) (fun _ _ => rfl)) (pa_cons (pe_op op_add pe_int (pe_op op_mod (pe_callTy (r := rIntOf) c_int rfl m_int (by decide +kernel) (pa_cons (pe_op op_add (pv 1) (pv 3)) pa_nil)) pe_int)) (pa_cons (pe_ix (r := rIx K) ix_seq (pe_lst (pa_cons pe_int (pa_cons pe_int (pa_cons (pe_op op_pow pe_int pe_int) pa_nil)))) (pe_op op_mod (pe_callTy (r := rIntOf) c_int rfl m_int (by decide +kernel) (pa_cons (pe_op op_add (pe_op op_fdivW (pv 1) pe_int) (pv 3)) pa_nil)) pe_int) (fun _ _ => rfl)) pa_nil)))) pa_nil)))))
    (pss_one (ps_ret (pv 2))))), ?_⟩
  refine ⟨Nat.zero_le _, fun p np => ?_⟩
  have s1 := same_new (o := .lst ([] : List V)) np
  refine ⟨_, rfl, .inl ⟨a, _, rfl, .inl (s1.seq hS), _, rfl, by rw [List.length_map]; omega, by rw [List.length_map]; omega, ?_⟩⟩
  refine for_range (lo := 0) (n := (((zs.map V.str).length : Nat) : Int).toNat) (fun i σ H1 => ∃ (kv : Option V) (xs : List V), σ = [some (.ref a), some (.int c), some (.ref p), kv] ∧ Same H H1 ∧
    H1 p = some (.lst xs) ∧ xs.length = i ∧ ∀ x ∈ xs, ∃ ar, RelAt H1 x ar) ⟨none, [], rfl, s1, upd_same, rfl, by simp⟩ ?_ ?_
  · rintro i σ H1 hi ⟨kv, xs, rfl, sm, eP, lx, hx⟩
    rw [List.length_map] at hi
    refine ⟨_, rfl, .inl ⟨rfl, _, .inl (.inl eP)⟩, _, rfl, .int (0 + (i : Nat)), rfl, str_at (sm.seq hS) (by omega) (by omega) fun z hz' => ?_⟩
    refine ⟨_, rfl, .int (0 + (i : Nat)), rfl, _, _, rfl, rfl, _, rfl, _, _, rfl, rfl, (by decide : (0 : Int) < 3), _, _, rfl, rfl, ?_⟩
    refine ⟨_, _, rfl, rfl, ⟨by decide, by decide, by decide⟩, (by show 3 ≤ sizeLine; decide), fun l nl => ?_⟩
    have e0 := Int.emod_nonneg (c / 3 + (0 + (i : Int))) (show (3 : Int) ≠ 0 by decide)
    have e1 := Int.emod_lt_of_pos (c / 3 + (0 + (i : Int))) (show (0 : Int) < 3 by decide)
    refine ⟨_, rfl, _, _, rfl, rfl, divW (by decide) (by decide), .int (0 + (i : Nat)), rfl, _, _, rfl, rfl, _, rfl, _, _, rfl, rfl, (by decide : (0 : Int) < 3), ?_⟩
    refine int_at (ds := [2, 3, 10 ^ (9 : Int).toNat]) (SqL.of upd_same) e0 (by simpa using e1) fun va hva => ?_
    have s2 : Same H1 (upd H1 l (.lst [.int 2, .int 3, .int (10 ^ (9 : Int).toNat)])) := same_new nl
    refine ⟨(by show 3 ≤ sizeLine; decide), fun t nt => ?_⟩
    have s3 := same_new (o := .tup [V.str z, .int (1 + (c + (0 + (i : Int))) % 3), .int va]) nt
    have eP3 := s3 _ _ (s2 _ _ eP)
    have va1 : 1 ≤ va := by
      simp only [List.mem_cons, List.not_mem_nil, or_false] at hva
      rcases hva with rfl | rfl | rfl
      · decide
      · decide
      · decide
    have a0 := Int.emod_nonneg (c + (0 + (i : Int))) (show (3 : Int) ≠ 0 by decide)
    have a1 := Int.emod_lt_of_pos (c + (0 + (i : Int))) (show (0 : Int) < 3 by decide)
    have tt : TupSame H1 _ := (Same.tup s2).trans ((Same.tup s3).trans (tup_upd (u := .lst (xs ++ [.ref t])) eP3))
    refine ⟨p, _, _, rfl, rfl, eP3, ?_, _, xs ++ [.ref t], rfl, fun b u e => ?_, upd_same, by simp [lx], fun x hm => ?_⟩
    · exact line6 (by omega)
    · rw [upd_ne (ne_of_none e np)]
      exact s3 _ _ (s2 _ _ (sm b u e))
    · rcases List.mem_append.mp hm with h | h
      · obtain ⟨ar, h⟩ := hx x h
        exact ⟨ar, h.tup tt⟩
      · rw [List.mem_singleton.mp h]
        exact ⟨_, t, z, va, [], rfl, tup_upd eP3 _ _ upd_same, by omega, by omega, va1⟩
  · rintro σ H1 ⟨kv, xs, rfl, sm, eP, lx, hx⟩
    rw [List.length_map] at lx
    exact ⟨_, rfl, q xs p H1 (by omega) hx sm np eP⟩
/-! ### _law_atom -/
def spAtom (K : PySem.W.Frag) : Sp := fun vs H Q _ => ∃ (a : Addr) (dg : Int) (n : Nat) (xs : List V), vs = [.int dg, .int n, .ref a] ∧ SqL K H a xs ∧ xs.length ≤ 1000 ∧ n ≤ 4 ∧ (∀ x ∈ xs, ∃ ar, RelAt H x ar) ∧
  ∀ (t : Fm) (H' : Hp), t.nodes = 1 → t.At H' → Same H H' → Q t.root H'
theorem ok_atom {k : Nat} {f : Addr} {fd : FuncData} (F : Fun K "_law_atom" "_law_atom" s_atom f fd) (m_int : mg "int" = none) (m_len : mg "len" = none) (m_list : mg "list" = none) (m_min : mg "min" = none) (m_range : mg "range" = none) (m_tuple : mg "tuple" = none) : FnOk P w K mg base CX0 (k + 1) f fd ["digit", "count", "relations"] (spAtom K) := by
  refine F.ok sc_atom (fun vs H Q E h => ?_) (fun cdv A outer s H vs Q E hr h => ?_)
  · obtain ⟨a, dg, n, xs, rfl, _⟩ := h
    rfl
  obtain ⟨a, dg, n, xs, rfl, hS, lx, hn, hx, q⟩ := h
  refine ⟨_, (pss_cons (ps_setLc (i := 3) (own := [("relation", 4)]) (g := gName 4) (by rfl) sc_atom.nd rfl rfl (sw_true rfl rfl rfl (by decide +kernel)) (pi_seq (pv 2)) (blkOk_by (own := [("relation", 4)]) (N := ["digit", "count", "relations", "fitting", "relation", "rest", "variables", "chosen", "k", "at"]) (sc := defScope s_atom) (by decide +kernel)) (fun _ _ _ _ _ => (pg_name (i := 4) sc_atom.nd rfl (.inl rfl))) (fun _ _ _ _ _ => (pts_one (pt_cmpR op_le (pe_ix (r := rIx K) ix_seq (pv 4) pe_int (fun _ _ => rfl)) (pv 1) (nomark _)))) (fun _ _ _ _ _ => (pv 4)))
    (pss_cons (ps_if (pt_cmpR op_eq (pe_callB (r := rLn K) c_len rfl m_len (by decide +kernel) (pa_cons (pv 3) pa_nil)) pe_int (nomark _)) (pss_one (ps_ret (pe_tup (pa_cons pe_str pa_nil)))) pss_nil)
    (pss_cons (ps_set (i := 4) sc_atom.nd rfl (.inl rfl) (pe_ix (r := rIx K) ix_seq (pv 3) (pe_op op_mod (pe_callTy (r := rIntOf) c_int rfl m_int (by decide +kernel) (pa_cons (pv 0) pa_nil)) (pe_callB (r := rLn K) c_len rfl m_len (by decide +kernel) (pa_cons (pv 3) pa_nil))) (fun _ _ => rfl)))
    (pss_cons (ps_set (i := 5) sc_atom.nd rfl (.inl rfl) (pe_op op_fdivW (pe_callTy (r := rIntOf) c_int rfl m_int (by decide +kernel) (pa_cons (pv 0) pa_nil)) (pe_callB (r := rLn K) c_len rfl m_len (by decide +kernel) (pa_cons (pv 3) pa_nil))))
    (pss_cons (ps_set (i := 6) sc_atom.nd rfl (.inl rfl) (pe_listRg rfl rfl m_list (prg_1 rfl m_range (pv 1))))
    (pss_cons (ps_set (i := 7) sc_atom.nd rfl (.inl rfl) (pe_lst pa_nil))
    (pss_cons (ps_for PassesOwn.never rfl (pi_range1 rfl m_range (pa_cons (pe_ix (r := rIx K) ix_seq (pv 4) pe_int (fun _ _ => rfl)) pa_nil)) (pg_name (i := 8) sc_atom.nd rfl (.inl rfl))
      (pss_cons (ps_set (i := 9) sc_atom.nd rfl (.inl rfl) (pe_op op_mod (pe_callTy (r := rIntOf) c_int rfl m_int (by decide +kernel) (pa_cons (pv 5) pa_nil)) (pe_callB (r := rLn K) c_len rfl m_len (by decide +kernel) (pa_cons (pv 6) pa_nil))))
    (pss_cons (ps_set (i := 5) sc_atom.nd rfl (.inl rfl) (pe_op op_fdivW (pv 5) (pe_callB (r := rLn K) c_len rfl m_len (by decide +kernel) (pa_cons (pv 6) pa_nil))))
    (pss_one (ps_expr (pe_bm PySem.F.plainAttrs_list PySem.F.slot_list_append PySem.F.type_list_append mt_append (pv 7) (pa_cons (pe_bm PySem.F.plainAttrs_list PySem.F.slot_list_pop PySem.F.type_list_pop mt_popAt (pv 6) (pa_cons (pv 9) pa_nil)) pa_nil)))))))
    (pss_cons (ps_if (pt_cmpR op_gt (pe_op op_mod (pe_callTy (r := rIntOf) c_int rfl m_int (by decide +kernel) (pa_cons (pv 5) pa_nil)) pe_int) pe_int (nomark _)) (pss_one (ps_ret (pe_tup (pa_cons pe_str (pa_cons (pe_ix (r := rIx K) ix_seq (pv 4) pe_int (fun _ _ => rfl)) (pa_cons (pe_callTy (r := rTupOf K) c_tuple rfl m_tuple (by decide +kernel) (pa_cons (pv 7) pa_nil)) (pa_cons (pe_op op_mod (pe_callTy (r := rIntOf) c_int rfl m_int (by decide +kernel) (pa_cons (pe_op op_fdivW (pv 5) pe_int) pa_nil)) (pe_callB (call_min2 rfl) rfl m_min (by decide +kernel) (pa_cons (pe_op op_add (pe_ix (r := rIx K) ix_seq (pv 4) pe_int (fun _ _ => rfl)) pe_int) (pa_cons (pe_op op_pow pe_int pe_int) pa_nil)))) pa_nil))))))) pss_nil)
    (pss_one (ps_ret (pe_tup (pa_cons pe_str (pa_cons (pe_ix (r := rIx K) ix_seq (pv 4) pe_int (fun _ _ => rfl)) (pa_cons (pe_callTy (r := rTupOf K) c_tuple rfl m_tuple (by decide +kernel) (pa_cons (pv 7) pa_nil)) (pa_cons (pe_op op_mod (pe_callTy (r := rIntOf) c_int rfl m_int (by decide +kernel) (pa_cons (pe_op op_fdivW (pv 5) pe_int) pa_nil)) (pe_op op_pow pe_int pe_int)) pa_nil))))))))))))))), ?_⟩
  refine .inl ⟨_, rfl, a, rfl, ⟨_, hS⟩, fun D nD => ?_⟩
  refine lc_list (K := K) (a := a) (xs := xs) (fun i H1 => Same H H1 ∧ ∃ fs, H1 D = some (.lst fs) ∧ fs.length ≤ i ∧ ∀ x ∈ fs, ∃ ar, RelAt H x ar ∧ ar ≤ n) ⟨same_new nD, [], upd_same, Nat.le_refl _, by simp⟩ ?_ ?_ ?_
  · rintro i H1 _ ⟨sm, _⟩
    exact sm.seq hS
  · rintro i x H1 hi ⟨sm, fs, eD, lf, hf⟩
    obtain ⟨ar, q0, z, va, r, rfl, hq, r1, r2, r3⟩ := hx x (List.mem_of_getElem? hi)
    have li : i < xs.length := (List.getElem?_eq_some_iff.mp hi).1
    refine ⟨rfl, _, rfl, .inr (.inl ⟨q0, _, 1, .int ar, rfl, rfl, SqT.of (sm _ _ hq), atI_nat (j := 1) rfl, _, rfl, _, _, rfl, rfl, _, rfl, ite2 (fun c => ?_) (fun c => ?_)⟩)⟩
    · have c' : ar ≤ (n : Int) := of_decide_eq_true c
      refine ⟨_, rfl, fs, eD, line6 (by omega), fun b u e => ?_, fs ++ [.ref q0], upd_same, by simp; omega, fun x hm => ?_⟩
      · rw [upd_ne (ne_of_none e nD)]
        exact sm b u e
      · rcases List.mem_append.mp hm with h | h
        · exact hf x h
        · rw [List.mem_singleton.mp h]
          exact ⟨ar, ⟨q0, z, va, r, rfl, hq, r1, r2, r3⟩, c'⟩
    · exact ⟨sm, fs, eD, by omega, hf⟩
  rintro H1 ⟨sm, fs, eD, lf, hf⟩
  refine ⟨_, rfl, .inl ⟨D, _, rfl, .inl (SqL.of eD), rfl, _, rfl, ite2 (fun c => ?_) (fun c => ?_)⟩⟩
  · refine ⟨(by show 1 ≤ sizeLine; decide), fun t nt => ?_⟩
    exact q (.con (.ref t)) _ rfl ⟨t, "true", rfl, by decide, upd_same⟩ (sm.trans (same_new nt))
  have c' : ¬ (((fs.length : Nat) : Int) = 0) := fun z => c (by rw [decide_eq_true_iff, z])
  have pos : (0 : Int) < ((fs.length : Nat) : Int) := by omega
  have e0 := Int.emod_nonneg dg (show ((fs.length : Nat) : Int) ≠ 0 by omega)
  have e1 := Int.emod_lt_of_pos dg pos
  have lf3 : fs.length ≤ 1000 := by omega
  -- relation
  obtain ⟨x0, hx0⟩ : ∃ x0, fs[(dg % (fs.length : Nat)).toNat]? = some x0 := ⟨_, List.getElem?_eq_getElem (by omega)⟩
  obtain ⟨ar, ⟨q0, z, va, r, rfl, hq, r1, r2, r3⟩, hle⟩ := hf x0 (List.mem_of_getElem? hx0)
  have ax := atI_nat hx0
  have en : (((dg % (fs.length : Nat)).toNat : Nat) : Int) = dg % (fs.length : Nat) := by omega
  rw [en] at ax
  refine ⟨_, rfl, _, rfl, _, rfl, _, rfl, .inl ⟨D, _, rfl, .inl (SqL.of eD), _, _, rfl, rfl, pos, .inl ⟨D, _, _, .ref q0, rfl, rfl, SqL.of eD, ax, ?_⟩⟩⟩
  refine ⟨_, rfl, _, rfl, _, rfl, .inl ⟨D, _, rfl, .inl (SqL.of eD), _, _, rfl, rfl, divW pos (by omega), ?_⟩⟩
  refine ⟨_, rfl, n, rfl, .of_le (by decide) (by omega) (by decide) (by omega), fun l nl => ?_⟩
  have s2 := same_new (o := .lst (rgV 0 n)) nl
  refine ⟨Nat.zero_le _, fun o no => ?_⟩
  have s3 := same_new (o := .lst ([] : List V)) no
  have nl0 : H l = none := sm.free nl
  have no0 : H o = none := sm.free (s2.free no)
  have nlo : l ≠ o := ne_of_none upd_same no
  have hq1 := s3 _ _ (s2 _ _ (sm _ _ hq))
  refine ⟨_, rfl, .inr (.inl ⟨q0, _, 1, .int ar, rfl, rfl, SqT.of hq1, atI_nat (j := 1) rfl, ar, rfl, by omega, by omega, ?_⟩)⟩
  have eL0 : (upd (upd H1 l (.lst (rgV 0 n))) o (.lst [])) l = some (.lst ((rng n).map V.int)) := by
    rw [s3 _ _ upd_same, rgV_rng]
  have eO0 : (upd (upd H1 l (.lst (rgV 0 n))) o (.lst [])) o = some (.lst (([] : List Int).map V.int)) := upd_same
  have sm0 := sm.trans (s2.trans s3)
  generalize upd (upd H1 l (.lst (rgV 0 n))) o (.lst []) = H2 at hq1 eL0 eO0 sm0
  refine for_range (lo := 0) (n := ar.toNat) (fun i σ H3 => ∃ (rest : Int) (kv av : Option V) (ch vr : List Int), σ = [some (.int dg), some (.int n), some (.ref a), some (.ref D), some (.ref q0), some (.int rest), some (.ref l), some (.ref o), kv, av] ∧
      Same H H3 ∧ H3 q0 = some (.tup (.str z :: .int ar :: .int va :: r)) ∧ H3 l = some (.lst (vr.map V.int)) ∧ H3 o = some (.lst (ch.map V.int)) ∧ ch.length = i ∧ vr.length + i = n)
    ⟨_, none, none, [], rng n, rfl, sm0, hq1, eL0, eO0, rfl, by rw [rng_length]; omega⟩ ?_ ?_
  · rintro i σ H3 hi ⟨rest, kv, av, ch, vr, rfl, sm3, hq3, eL, eO, lc, lv⟩
    have hi' : (i : Int) < ar := by omega
    have lvp : 0 < vr.length := by omega
    have p0 : (0 : Int) < (((vr.map V.int).length : Nat) : Int) := by
      rw [List.length_map]
      omega
    have a0 := Int.emod_nonneg rest (show (((vr.map V.int).length : Nat) : Int) ≠ 0 by omega)
    have a1 := Int.emod_lt_of_pos rest p0
    refine ⟨_, rfl, _, rfl, _, rfl, .inl ⟨l, _, rfl, .inl (SqL.of eL), _, _, rfl, rfl, p0, ?_⟩⟩
    refine ⟨_, rfl, _, rfl, .inl ⟨l, _, rfl, .inl (SqL.of eL), _, _, rfl, rfl, divW p0 (by rw [List.length_map]; omega), ?_⟩⟩
    dsimp only
    generalize hj : rest % (((vr.map V.int).length : Nat) : Int) = j at a0 a1 ⊢
    rw [List.length_map] at a1
    have hjn : j.toNat < vr.length := by omega
    refine ⟨_, rfl, .inl ⟨rfl, _, .inl (.inl eO)⟩, _, rfl, .inl ⟨rfl, _, .inl (.inl eL)⟩, _, rfl, l, vr.map V.int, j, j.toNat, .int vr[j.toNat], rfl, rfl, eL, by omega, by omega,
      seqIndex_of a0 (by rw [List.length_map]; exact a1), at_map hjn, ?_⟩
    have eO4 : (upd H3 l (.lst ((vr.map V.int).eraseIdx j.toNat))) o = some (.lst (ch.map V.int)) := by
      rw [upd_ne nlo.symm]
      exact eO
    refine ⟨o, _, _, rfl, rfl, eO4, ?_, _, _, _, ch ++ [vr[j.toNat]], vr.eraseIdx j.toNat, rfl, fun b u e => ?_, ?_, ?_, ?_, ?_, ?_⟩
    · rw [List.length_map]
      exact line6 (by omega)
    · rw [upd_ne (ne_of_none e no0), upd_ne (ne_of_none e nl0)]
      exact sm3 b u e
    · exact tup_upd eO4 _ _ (tup_upd eL _ _ hq3)
    · rw [upd_ne nlo, upd_same, List.eraseIdx_eq_take_drop_succ, List.eraseIdx_eq_take_drop_succ, List.map_append, List.map_take, List.map_drop]
    · rw [upd_same, List.map_append]
      rfl
    · rw [List.length_append, lc]
      rfl
    · rw [List.length_eraseIdx_of_lt hjn]
      omega
  · rintro σ H3 ⟨rest, kv, av, ch, vr, rfl, sm3, hq3, eL, eO, lc, lv⟩
    have lch : ch.length ≤ 3 := by omega
    have fin : ∀ (H4 : Hp) (t p : Addr) (v : Int), Same H3 H4 → H4 p = some (.tup (ch.map V.int)) → H4 t = none → Q (.ref t) (upd H4 t (.tup [.str "is", .str z, .ref p, .int v])) := by
      intro H4 t p v s4 ep nt
      refine q (.atom (.ref t)) _ rfl ⟨t, p, z, v, ch, rfl, upd_same, ?_, lch⟩ (sm3.trans (s4.trans (same_new nt)))
      exact same_new nt _ _ ep
    refine ⟨_, rfl, _, rfl, _, _, rfl, rfl, (by decide : (0 : Int) < 4), _, _, rfl, rfl, _, rfl, ite2 (fun c => ?_) (fun c => ?_)⟩
    · refine ⟨_, rfl, .inr (.inl ⟨q0, _, 0, .str z, rfl, rfl, SqT.of hq3, atI_nat (j := 0) rfl, _, rfl, o, _, rfl, .inl ⟨SqL.of eO, fun p np => ?_⟩⟩)⟩
      have s4 : Same H3 (upd H3 p (.tup (ch.map V.int))) := same_new np
      refine ⟨_, rfl, _, _, rfl, rfl, divW (by decide) (by decide), _, rfl, _, rfl, .inr (.inl ⟨q0, _, 2, .int va, rfl, rfl, SqT.of (s4 _ _ hq3), atI_nat (j := 2) rfl, _, _, rfl, rfl, _, _, rfl, rfl, ⟨by decide, by decide, by decide⟩,
        _, _, rfl, _, _, rfl, rfl, ?_, ?_⟩)⟩
      · show (0 : Int) < if (10 : Int) ^ (9 : Int).toNat < va + 1 then 10 ^ (9 : Int).toNat else va + 1
        split
        · decide
        · omega
      · exact ⟨(by show 4 ≤ sizeLine; decide), fun t nt => fin _ t p _ s4 upd_same nt⟩
    · refine ⟨_, rfl, .inr (.inl ⟨q0, _, 0, .str z, rfl, rfl, SqT.of hq3, atI_nat (j := 0) rfl, _, rfl, o, _, rfl, .inl ⟨SqL.of eO, fun p np => ?_⟩⟩)⟩
      have s4 : Same H3 (upd H3 p (.tup (ch.map V.int))) := same_new np
      refine ⟨_, rfl, _, _, rfl, rfl, divW (by decide) (by decide), _, rfl, _, _, rfl, rfl, ⟨by decide, by decide, by decide⟩, _, _, rfl, rfl, (by decide : (0 : Int) < 10 ^ (9 : Int).toNat), ?_⟩
      exact ⟨(by show 4 ≤ sizeLine; decide), fun t nt => fin _ t p _ s4 upd_same nt⟩
end
end Nz
namespace Nz
open PySem PySem.Spec PyProof.Rows L2
/-- the stack of trees at p over the heap H0 -/
def Stk (H0 H : Hp) (p : Addr) (ts : List Fm) : Prop := Same H0 H ∧ H p = some (.lst (ts.map Fm.root)) ∧ ∀ k ∈ ts, k.At H
theorem Stk.same {H0 H H' : Hp} {p : Addr} {ts : List Fm} (e : Same H H') (s : Stk H0 H p ts) : Stk H0 H' p ts :=
  ⟨s.1.trans e, e _ _ s.2.1, fun k hk => k.at_same e (s.2.2 k hk)⟩
theorem Stk.push {H0 H : Hp} {p : Addr} {ts : List Fm} {u : Fm} (np : H0 p = none) (s : Stk H0 H p ts) (hu : u.At H) : Stk H0 (upd H p (.lst (ts.map Fm.root ++ [u.root]))) p (ts ++ [u]) := by
  refine ⟨fun b x e => ?_, ?_, fun k hk => ?_⟩
  · rw [upd_ne (ne_of_none e np)]
    exact s.1 b x e
  · rw [upd_same, List.map_append]
    rfl
  · refine k.at_tup (tup_upd s.2.1) ?_
    rcases List.mem_append.mp hk with h | h
    · exact s.2.2 k h
    · rw [List.mem_singleton.mp h]
      exact hu
theorem Stk.pop {H0 H : Hp} {p : Addr} {us : List Fm} {u : Fm} (np : H0 p = none) (s : Stk H0 H p (us ++ [u])) :
    Stk H0 (upd H p (.lst (us.map Fm.root))) p us ∧ u.At (upd H p (.lst (us.map Fm.root))) := by
  refine ⟨⟨fun b x e => ?_, upd_same, fun k hk => k.at_tup (tup_upd s.2.1) (s.2.2 k (List.mem_append_left _ hk))⟩, u.at_tup (tup_upd s.2.1) (s.2.2 u (by simp))⟩
  rw [upd_ne (ne_of_none e np)]
  exact s.1 b x e
theorem pop_read {H0 H : Hp} {p : Addr} {us : List Fm} {u : Fm} {Q : VK} (s : Stk H0 H p (us ++ [u])) (q : Q u.root (upd H p (.lst (us.map Fm.root)))) : rPop (.ref p) [] H Q := by
  have e := s.2.1
  rw [List.map_append] at e
  refine ⟨p, _, u.root, rfl, rfl, e, by simp, ?_⟩
  have d : (us.map Fm.root ++ [u].map Fm.root).dropLast = us.map Fm.root := by simp
  rw [d]
  exact q
theorem sumN_one (u : Fm) : sumN [u] = u.nodes := by simp [sumN]
theorem split_last {α : Type} {ts : List α} (h : ts ≠ []) : ∃ us u, ts = us ++ [u] := ⟨ts.dropLast, ts.getLast h, (List.dropLast_concat_getLast h).symm⟩
section
variable {P : Program} {w : World} {K : PySem.W.Frag} {mg : Str → Option Value} {base : Heap}
theorem not_is2 : ∀ z ∈ (["true", "false"] : List Str), V.str z ≠ .str "is" := by decide
theorem not_is4 : ∀ z ∈ (["and", "or", "implies", "same"] : List Str), V.str z ≠ .str "is" := by decide
/-! ### _law_formula -/
def spFormula (K : PySem.W.Frag) : Sp := fun vs H Q _ => ∃ (c : Int) (n m : Nat) (a : Addr) (xs : List V), vs = [.int c, .int n, .ref a, .int m] ∧ SqL K H a xs ∧ xs.length ≤ 1000 ∧ n ≤ 4 ∧ 1 ≤ m ∧ m ≤ 100 ∧ (∀ x ∈ xs, ∃ ar, RelAt H x ar) ∧
  ∀ (t : Fm) (H' : Hp), t.nodes + 1 ≤ 2 * m → t.At H' → Same H H' → Q t.root H'
set_option maxHeartbeats 1000000 in
theorem ok_formula {k : Nat} {f : Addr} {fd : FuncData} (F : Fun K "_law_formula" "_law_formula" s_formula f fd) {f_digits : Addr} {fd_digits : FuncData} (G_digits : FnOk P w K mg base CX0 (k) f_digits fd_digits ["cell", "many", "count"] (spDig K)) (b_digits : Binds K fd_digits ["cell", "many", "count"] []) (k_digits : PySem.W.keepIn K (.ref f_digits) = true) (g_digits : mg "_law_digits" = some (.ref f_digits)) {f_atom : Addr} {fd_atom : FuncData} (G_atom : FnOk P w K mg base CX0 (k) f_atom fd_atom ["digit", "count", "relations"] (spAtom K)) (b_atom : Binds K fd_atom ["digit", "count", "relations"] []) (k_atom : PySem.W.keepIn K (.ref f_atom) = true) (g_atom : mg "_law_atom" = some (.ref f_atom)) (m_int : mg "int" = none) (m_len : mg "len" = none) (m_range : mg "range" = none) : FnOk P w K mg base CX0 (k + 1) f fd ["cell", "count", "relations", "most"] (spFormula K) := by
  refine F.ok sc_formula (fun vs H Q E h => ?_) (fun cdv A outer s H vs Q E hr h => ?_)
  · obtain ⟨c, n, m, a, xs, rfl, _⟩ := h
    rfl
  have hr_digits := hr
  have hr_atom := hr
  obtain ⟨c, n, m, a, xs, rfl, hS, lx, hn, m1, m2, hx, q⟩ := h
  refine ⟨_, (pss_cons (ps_set (i := 4) sc_formula.nd rfl (.inl rfl) (pe_call G_digits hr_digits rfl g_digits k_digits b_digits .nil pass0 (pa_cons (pv 0) (pa_cons (pe_op op_mul pe_int (pe_op op_pow pe_int pe_int)) (pa_cons (pe_op op_add (pv 3) pe_int) pa_nil)))))
    (pss_cons (ps_set (i := 5) sc_formula.nd rfl (.inl rfl) (pe_lst pa_nil))
    (pss_cons (ps_for PassesOwn.never rfl (pi_range1 rfl m_range (pa_cons (pe_op op_add pe_int (pe_op op_mod (pe_callTy (r := rIntOf) c_int rfl m_int (by decide +kernel) (pa_cons (pe_ix (r := rIx K) ix_seq (pv 4) pe_int (fun _ _ => rfl)) pa_nil)) (pv 3))) pa_nil)) (pg_name (i := 6) sc_formula.nd rfl (.inl rfl))
      (pss_cons (ps_set (i := 7) sc_formula.nd rfl (.inl rfl) (pe_op op_mod (pe_callTy (r := rIntOf) c_int rfl m_int (by decide +kernel) (pa_cons (pe_ix (r := rIx K) ix_seq (pv 4) (pe_op op_add pe_int (pv 6)) (fun _ _ => rfl)) pa_nil)) pe_int))
    (pss_cons (ps_set (i := 8) sc_formula.nd rfl (.inl rfl) (pe_op op_fdivW (pe_callTy (r := rIntOf) c_int rfl m_int (by decide +kernel) (pa_cons (pe_ix (r := rIx K) ix_seq (pv 4) (pe_op op_add pe_int (pv 6)) (fun _ _ => rfl)) pa_nil)) pe_int))
    (pss_one (ps_if (pt_cmpR op_eq (pv 7) pe_int (nomark _)) (pss_one (ps_expr (pe_bm PySem.F.plainAttrs_list PySem.F.slot_list_append PySem.F.type_list_append mt_append (pv 5) (pa_cons (pe_tup (pa_cons (pe_ix (r := rIx K) ix_seq (pe_lst (pa_cons pe_str (pa_cons pe_str pa_nil))) (pe_op op_mod (pe_callTy (r := rIntOf) c_int rfl m_int (by decide +kernel) (pa_cons (pv 8) pa_nil)) pe_int) (fun _ _ => rfl)) pa_nil)) pa_nil)))) (pss_one (ps_if (PW.pt (pw_or (pt_cmpR op_lt (pv 7) pe_int (nomark _)) (pw_or (pt_cmpR op_eq (pe_callB (r := rLn K) c_len rfl m_len (by decide +kernel) (pa_cons (pv 5) pa_nil)) pe_int (nomark _)) (pw_or1 (PW.pt (pw_and (pt_cmpR op_gt (pv 7) pe_int (nomark _)) (pw_and1 (pt_cmpR op_eq (pe_callB (r := rLn K) c_len rfl m_len (by decide +kernel) (pa_cons (pv 5) pa_nil)) pe_int (nomark _))))))))) (pss_one (ps_expr (pe_bm PySem.F.plainAttrs_list PySem.F.slot_list_append PySem.F.type_list_append mt_append (pv 5) (pa_cons (pe_call G_atom hr_atom rfl g_atom k_atom b_atom .nil pass0 (pa_cons (pv 8) (pa_cons (pv 1) (pa_cons (pv 2) pa_nil)))) pa_nil)))) (pss_one (ps_if (pt_cmpR op_lt (pv 7) pe_int (nomark _)) (pss_one (ps_expr (pe_bm PySem.F.plainAttrs_list PySem.F.slot_list_append PySem.F.type_list_append mt_append (pv 5) (pa_cons (pe_tup (pa_cons pe_str (pa_cons (pe_bm0 PySem.F.plainAttrs_list PySem.F.slot_list_pop PySem.F.type_list_pop mt_pop (pv 5)) pa_nil))) pa_nil)))) (pss_cons (ps_set (i := 9) sc_formula.nd rfl (.inl rfl) (pe_bm0 PySem.F.plainAttrs_list PySem.F.slot_list_pop PySem.F.type_list_pop mt_pop (pv 5)))
    (pss_one (ps_expr (pe_bm PySem.F.plainAttrs_list PySem.F.slot_list_append PySem.F.type_list_append mt_append (pv 5) (pa_cons (pe_tup (pa_cons (pe_ix (r := rIx K) ix_seq (pe_lst (pa_cons pe_str (pa_cons pe_str (pa_cons pe_str (pa_cons pe_str pa_nil))))) (pe_op op_sub (pv 7) pe_int) (fun _ _ => rfl)) (pa_cons (pe_bm0 PySem.F.plainAttrs_list PySem.F.slot_list_pop PySem.F.type_list_pop mt_pop (pv 5)) (pa_cons (pv 9) pa_nil)))) pa_nil))))))))))))))
    (pss_cons (ps_set (i := 8) sc_formula.nd rfl (.inl rfl) (pe_op op_fdivW (pe_callTy (r := rIntOf) c_int rfl m_int (by decide +kernel) (pa_cons (pe_ix (r := rIx K) ix_seq (pv 4) pe_int (fun _ _ => rfl)) pa_nil)) (pv 3)))
    (pss_cons (ps_for PassesOwn.never rfl (pi_range1 rfl m_range (pa_cons (pv 3) pa_nil)) (pg_name (i := 6) sc_formula.nd rfl (.inl rfl))
      (pss_one (ps_if (pt_cmpR op_gt (pe_callB (r := rLn K) c_len rfl m_len (by decide +kernel) (pa_cons (pv 5) pa_nil)) pe_int (nomark _)) (pss_cons (ps_set (i := 9) sc_formula.nd rfl (.inl rfl) (pe_bm0 PySem.F.plainAttrs_list PySem.F.slot_list_pop PySem.F.type_list_pop mt_pop (pv 5)))
    (pss_cons (ps_expr (pe_bm PySem.F.plainAttrs_list PySem.F.slot_list_append PySem.F.type_list_append mt_append (pv 5) (pa_cons (pe_tup (pa_cons (pe_ix (r := rIx K) ix_seq (pe_lst (pa_cons pe_str (pa_cons pe_str (pa_cons pe_str (pa_cons pe_str pa_nil))))) (pe_op op_mod (pe_callTy (r := rIntOf) c_int rfl m_int (by decide +kernel) (pa_cons (pv 8) pa_nil)) pe_int) (fun _ _ => rfl)) (pa_cons (pe_bm0 PySem.F.plainAttrs_list PySem.F.slot_list_pop PySem.F.type_list_pop mt_pop (pv 5)) (pa_cons (pv 9) pa_nil)))) pa_nil)))
    (pss_one (ps_set (i := 8) sc_formula.nd rfl (.inl rfl) (pe_op op_fdivW (pv 8) pe_int))))) pss_nil)))
    (pss_one (ps_ret (pe_ix (r := rIx K) ix_seq (pv 5) pe_int (fun _ _ => rfl))))))))), ?_⟩
  refine ⟨_, rfl, _, _, rfl, rfl, ⟨by decide, by decide, by decide⟩, _, _, rfl, rfl, .inl ⟨by decide, by decide⟩, _, rfl, _, _, rfl, rfl, c, _, _, rfl, by decide, by decide, by omega, by omega, fun ds d hl hd nd => ?_⟩
  have s1 := same_new (o := .lst (ds.map V.int)) nd
  refine ⟨Nat.zero_le _, fun p np => ?_⟩
  have s2 := same_new (o := .lst ([] : List V)) np
  have np0 : H p = none := s1.free np
  have ndp : d ≠ p := ne_of_none upd_same np
  have eD := s2 _ _ (upd_same (H := H) (a := d) (o := .lst (ds.map V.int)))
  have st0 : Stk H _ p [] := ⟨s1.trans s2, upd_same, by simp⟩
  generalize upd (upd H d (.lst (ds.map V.int))) p (.lst []) = H1 at eD st0
  have dl : ds.length = m + 1 := by omega
  have keepD : ∀ (H2 : Hp) (o : HO), H2 d = some (.lst (ds.map V.int)) → (upd H2 p o) d = some (.lst (ds.map V.int)) := fun H2 o e => by
    rw [upd_ne ndp]
    exact e
  refine ⟨_, rfl, int_at (SqL.of eD) (by decide) (by omega) fun d0 hd0 => ⟨_, rfl, _, rfl, _, _, rfl, rfl, (by omega : (0 : Int) < m), _, _, rfl, rfl, _, rfl, ?_⟩⟩
  have z0 := Int.emod_nonneg d0 (show (m : Int) ≠ 0 by omega)
  have z1 := Int.emod_lt_of_pos d0 (show (0 : Int) < m by omega)
  refine ⟨by omega, by omega, ?_⟩
  refine for_range (lo := 0) (n := (1 + d0 % (m : Int)).toNat) (fun i σ H2 => ∃ (s6 s7 s8 s9 : Option V) (ts : List Fm), σ = [some (.int c), some (.int n), some (.ref a), some (.int m), some (.ref d), some (.ref p), s6, s7, s8, s9] ∧
      Stk H H2 p ts ∧ H2 d = some (.lst (ds.map V.int)) ∧ sumN ts + ts.length ≤ 2 * i ∧ (0 < i → ts ≠ []))
    ⟨none, none, none, none, [], rfl, st0, eD, by simp [sumN], fun h => absurd h (Nat.lt_irrefl 0)⟩ ?_ ?_
  · rintro i σ H2 hi ⟨s6, s7, s8, s9, ts, rfl, st, eD, hsum, hne⟩
    have hi' : i < m := by omega
    have lts := len_le_sumN ts
    have small : ∀ us : List Fm, us.length ≤ 2 * m → (us.map Fm.root).length < sizeLine := fun us h => by
      rw [List.length_map]
      exact line6 (by omega)
    refine ⟨_, rfl, .int (0 + (i : Nat)), rfl, _, _, rfl, rfl, int_at (SqL.of eD) (by omega) (by omega) fun d1 _ => ⟨_, rfl, _, _, rfl, rfl, (by decide : (0 : Int) < 12), ?_⟩⟩
    refine ⟨_, rfl, .int (0 + (i : Nat)), rfl, _, _, rfl, rfl, int_at (SqL.of eD) (by omega) (by omega) fun d2 _ => ⟨_, rfl, _, _, rfl, rfl, divW (by decide) (by decide), ?_⟩⟩
    have c0 := Int.emod_nonneg d1 (show (12 : Int) ≠ 0 by decide)
    have c1 := Int.emod_lt_of_pos d1 (show (0 : Int) < 12 by decide)
    dsimp only
    generalize hch : d1 % 12 = ch at c0 c1 ⊢
    generalize hre : d2 / 12 = re
    clear hch hre
    refine ⟨.int ch, rfl, rfl, _, rfl, ite2 (fun _ => ?_) (fun _ => ?_)⟩
    · -- true, false
      refine ⟨_, rfl, .inl ⟨rfl, _, .inl (.inl st.2.1)⟩, (by show 2 ≤ sizeLine; decide), fun l nl => ?_⟩
      have e0 := Int.emod_nonneg re (show (2 : Int) ≠ 0 by decide)
      have e1 := Int.emod_lt_of_pos re (show (0 : Int) < 2 by decide)
      refine ⟨_, rfl, _, rfl, _, _, rfl, rfl, (by decide : (0 : Int) < 2), str_at (zs := ["true", "false"]) (SqL.of upd_same) e0 (by simpa using e1) fun z hz => ⟨(by show 1 ≤ sizeLine; decide), fun t nt => ?_⟩⟩
      have st2 := (st.same (same_new nl)).same (same_new (o := .tup [.str z]) nt)
      have zi := not_is2 z hz
      have at_t : (Fm.con (.ref t)).At (upd (upd H2 l (.lst [.str "true", .str "false"])) t (.tup [.str z])) := ⟨t, z, rfl, zi, upd_same⟩
      refine ⟨p, _, _, rfl, rfl, st2.2.1, small ts (by omega), _, _, _, _, ts ++ [Fm.con (.ref t)], rfl, st2.push np0 at_t, keepD _ _ (same_new nt _ _ (same_new nl _ _ eD)), ?_, by simp⟩
      rw [sumN_app, List.length_append]
      simp [sumN, Fm.nodes] at hsum ⊢
      omega
    · -- atom
      refine (fun (ATOM : _) (REST : ts ≠ [] → (8 ≤ ch → 2 ≤ ts.length) → _) => ⟨.int ch, rfl, _, _, rfl, rfl, _, rfl, ite2 (fun _ => iteT ATOM) (fun cA => ⟨_, rfl, .inl ⟨p, _, rfl, .inl (SqL.of st.2.1), rfl, _, rfl,
        ite2 (fun _ => iteT ATOM) (fun cB => ⟨.int ch, rfl, _, _, rfl, rfl, _, rfl, ite2 (fun cC => ⟨_, rfl, .inl ⟨p, _, rfl, .inl (SqL.of st.2.1), rfl, _, rfl, ite2 (fun _ => ATOM) (fun cD => REST ?n2 ?r2)⟩⟩) (fun cC => iteF (REST ?n1 ?r1))⟩)⟩⟩)⟩) ?gATOM ?gREST
      case n1 =>
        intro z
        subst z
        exact cB (decide_eq_true rfl)
      case n2 =>
        intro z
        subst z
        exact cB (decide_eq_true rfl)
      case r1 =>
        intro h
        exact absurd (decide_eq_true (show (7 : Int) < ch by omega)) cC
      case r2 =>
        intro h
        have h0 : ts.length ≠ 0 := fun z => cB (by rw [List.length_map, z]; rfl)
        have h1 : ts.length ≠ 1 := fun z => cD (by rw [List.length_map, z]; rfl)
        omega
      case gATOM =>
        have rel : ∀ x ∈ xs, ∃ ar, RelAt H2 x ar := fun x hm =>
          let ⟨ar, h⟩ := hx x hm
          ⟨ar, h.tup (Same.tup st.1)⟩
        refine ⟨_, rfl, .inl ⟨rfl, _, .inl (.inl st.2.1)⟩, .int re, rfl, .int n, rfl, .ref a, rfl, a, re, n, xs, rfl, st.1.seq hS, lx, hn, rel, fun u H3 hu hA s3 => ?_⟩
        have st3 := st.same s3
        have eD3 := s3 _ _ eD
        refine ⟨p, _, _, rfl, rfl, st3.2.1, small ts (by omega), _, _, _, _, ts ++ [u], rfl, st3.push np0 hA, keepD _ _ eD3, ?_, by simp⟩
        rw [sumN_app, List.length_append]
        simp [sumN, hu] at hsum ⊢
        omega
      case gREST =>
        intro hne2 h8
        refine ⟨.int ch, rfl, _, _, rfl, rfl, _, rfl, ite2 (fun cE => ?_) (fun cE => ?_)⟩
        · obtain ⟨us, u, rfl⟩ := split_last hne2
          obtain ⟨st2, hu2⟩ := st.pop np0
          have eD2 := keepD _ (.lst (us.map Fm.root)) eD
          refine ⟨_, rfl, .inl ⟨rfl, _, .inl (.inl st.2.1)⟩, _, rfl, .inl ⟨rfl, _, .inl (.inl st.2.1)⟩, pop_read st ⟨(by show 2 ≤ sizeLine; decide), fun t nt => ?_⟩⟩
          have nw : (Fm.neg (.ref t) u).At (upd (upd H2 p (.lst (us.map Fm.root))) t (.tup [.str "not", u.root])) := ⟨t, "not", rfl, by decide, upd_same, u.at_same (same_new nt) hu2⟩
          have st3 := st2.same (same_new (o := .tup [.str "not", u.root]) nt)
          refine ⟨p, _, _, rfl, rfl, st3.2.1, small us (by simp at hsum; omega), _, _, _, _, us ++ [Fm.neg (.ref t) u], rfl, st3.push np0 nw, keepD _ _ (same_new nt _ _ eD2), ?_, by simp⟩
          simp only [sumN_app, sumN_one, List.length_append, List.length_cons, List.length_nil, Fm.nodes] at hsum ⊢
          omega
        · have c8 : 8 ≤ ch := by
            have : ¬ ch < 8 := of_decide_eq_false (Bool.eq_false_iff.mpr cE)
            omega
          have h2 := h8 c8
          obtain ⟨us, u, rfl⟩ := split_last hne2
          obtain ⟨vs, v, rfl⟩ := split_last (show us ≠ [] from fun z => by
            subst z
            simp at h2)
          obtain ⟨st2, hu2⟩ := st.pop np0
          have eD2 := keepD _ (.lst ((vs ++ [v]).map Fm.root)) eD
          refine ⟨_, rfl, .inl ⟨rfl, _, .inl (.inl st.2.1)⟩, pop_read st ?_⟩
          refine ⟨_, rfl, .inl ⟨rfl, _, .inl (.inl st2.2.1)⟩, (by show 4 ≤ sizeLine; decide), fun l nl => ?_⟩
          have st3 := st2.same (same_new (o := .lst [.str "and", .str "or", .str "implies", .str "same"]) nl)
          have hu3 := u.at_same (same_new (o := .lst [.str "and", .str "or", .str "implies", .str "same"]) nl) hu2
          have eD3 := same_new (o := .lst [.str "and", .str "or", .str "implies", .str "same"]) nl _ _ eD2
          refine ⟨.int ch, rfl, _, _, rfl, rfl, str_at (zs := ["and", "or", "implies", "same"]) (SqL.of upd_same) (by omega) (by simp; omega) fun z hz => ?_⟩
          obtain ⟨st4, hv4⟩ := st3.pop np0
          have hu4 := u.at_tup (tup_upd (u := .lst (vs.map Fm.root)) st3.2.1) hu3
          have eD4 := keepD _ (.lst (vs.map Fm.root)) eD3
          refine ⟨_, rfl, .inl ⟨rfl, _, .inl (.inl st3.2.1)⟩, pop_read st3 ⟨_, rfl, (by show 3 ≤ sizeLine; decide), fun t nt => ?_⟩⟩
          have st5 := st4.same (same_new (o := .tup [.str z, v.root, u.root]) nt)
          have nw : (Fm.bin (.ref t) v u).At (upd _ t (.tup [.str z, v.root, u.root])) := ⟨t, z, rfl, not_is4 z hz, upd_same, v.at_same (same_new nt) hv4, u.at_same (same_new nt) hu4⟩
          refine ⟨p, _, _, rfl, rfl, st5.2.1, small vs (by simp at hsum; omega), _, _, _, _, vs ++ [Fm.bin (.ref t) v u], rfl, st5.push np0 nw, keepD _ _ (same_new nt _ _ eD4), ?_, by simp⟩
          simp only [sumN_app, sumN_one, List.length_append, List.length_cons, List.length_nil, Fm.nodes] at hsum ⊢
          omega
  · rintro σ H2 ⟨s6, s7, s8, s9, ts, rfl, st, eD, hsum, hne⟩
    have hne := hne (by omega)
    refine ⟨_, rfl, int_at (SqL.of eD) (by decide) (by omega) fun d1 _ => ⟨_, rfl, _, rfl, _, _, rfl, rfl, divW (by omega) (by omega), ?_⟩⟩
    refine ⟨_, rfl, m, rfl, by omega, by omega, ?_⟩
    refine for_range (lo := 0) (n := ((m : Nat) : Int).toNat) (fun i σ H3 => ∃ (re : Int) (s6 s7 s9 : Option V) (ts : List Fm), σ = [some (.int c), some (.int n), some (.ref a), some (.int m), some (.ref d), some (.ref p), s6, s7, some (.int re), s9] ∧
        Stk H H3 p ts ∧ sumN ts + ts.length ≤ 2 * m ∧ ts ≠ []) ⟨_, s6, s7, s9, ts, rfl, st, by omega, hne⟩ ?_ ?_
    · rintro i σ H3 hi ⟨re, s6, s7, s9, ts, rfl, st, hsum, hne⟩
      have lts := len_le_sumN ts
      refine ⟨_, rfl, .inl ⟨p, _, rfl, .inl (SqL.of st.2.1), _, _, rfl, rfl, _, rfl, ite2 (fun cc => ?_) (fun cc => ?_)⟩⟩
      · have h2 : 2 ≤ ts.length := by
          have cc' : (1 : Int) < (((ts.map Fm.root).length : Nat) : Int) := of_decide_eq_true cc
          rw [List.length_map] at cc'
          omega
        obtain ⟨us, u, rfl⟩ := split_last hne
        obtain ⟨vs, v, rfl⟩ := split_last (show us ≠ [] from fun z => by
          subst z
          simp at h2)
        obtain ⟨st2, hu2⟩ := st.pop np0
        refine ⟨_, rfl, .inl ⟨rfl, _, .inl (.inl st.2.1)⟩, pop_read st ?_⟩
        refine ⟨_, rfl, .inl ⟨rfl, _, .inl (.inl st2.2.1)⟩, (by show 4 ≤ sizeLine; decide), fun l nl => ?_⟩
        have st3 := st2.same (same_new (o := .lst [.str "and", .str "or", .str "implies", .str "same"]) nl)
        have hu3 := u.at_same (same_new (o := .lst [.str "and", .str "or", .str "implies", .str "same"]) nl) hu2
        have e0 := Int.emod_nonneg re (show (4 : Int) ≠ 0 by decide)
        have e1 := Int.emod_lt_of_pos re (show (0 : Int) < 4 by decide)
        refine ⟨_, rfl, _, rfl, _, _, rfl, rfl, (by decide : (0 : Int) < 4), str_at (zs := ["and", "or", "implies", "same"]) (SqL.of upd_same) e0 (by simpa using e1) fun z hz => ?_⟩
        obtain ⟨st4, hv4⟩ := st3.pop np0
        have hu4 := u.at_tup (tup_upd (u := .lst (vs.map Fm.root)) st3.2.1) hu3
        refine ⟨_, rfl, .inl ⟨rfl, _, .inl (.inl st3.2.1)⟩, pop_read st3 ⟨_, rfl, (by show 3 ≤ sizeLine; decide), fun t nt => ?_⟩⟩
        have st5 := st4.same (same_new (o := .tup [.str z, v.root, u.root]) nt)
        have nw : (Fm.bin (.ref t) v u).At (upd _ t (.tup [.str z, v.root, u.root])) := ⟨t, z, rfl, not_is4 z hz, upd_same, v.at_same (same_new nt) hv4, u.at_same (same_new nt) hu4⟩
        refine ⟨p, _, _, rfl, rfl, st5.2.1, ?_, ?_⟩
        · rw [List.length_map]
          simp at hsum
          exact line6 (by omega)
        · refine ⟨_, rfl, _, _, rfl, rfl, divW (by decide) (by decide), _, _, _, _, vs ++ [Fm.bin (.ref t) v u], rfl, st5.push np0 nw, ?_, by simp⟩
          simp only [sumN_app, sumN_one, List.length_append, List.length_cons, List.length_nil, Fm.nodes] at hsum ⊢
          omega
      · exact ⟨re, _, s7, s9, ts, rfl, st, hsum, hne⟩
    · rintro σ H3 ⟨re, s6, s7, s9, ts, rfl, st, hsum, hne⟩
      obtain ⟨t, r, rfl⟩ : ∃ t r, ts = t :: r := by
        cases ts with
        | nil => exact absurd rfl hne
        | cons t r => exact ⟨t, r, rfl⟩
      refine ⟨_, rfl, .inl ⟨p, _, 0, t.root, rfl, rfl, SqL.of st.2.1, atI_nat (j := 0) rfl, q t H3 ?_ (st.2.2 t (by simp)) st.1⟩⟩
      simp only [sumN, List.map_cons, List.sum_cons, List.length_cons] at hsum
      omega
end
end Nz
namespace Nz
open PySem PySem.Spec PyProof.Rows L2
theorem dpApp {K : PySem.W.Frag} {H : Hp} {ys : List V} {b : List PyData} (hb : DpAll K H ys b) : ∀ {a : List PyData} {xs : List V}, DpAll K H xs a → DpAll K H (xs ++ ys) (a ++ b)
  | [], _, h => by
    cases h
    exact hb
  | d :: r, _, h => by
    cases h with
    | cons x y => exact .cons x (dpApp hb y)
/-- the atoms as data -/
theorem atoms_data {K : PySem.W.Frag} {H : Hp} : ∀ t : Fm, t.At H → ∃ ds, DpAll K H t.atoms ds ∧ ∀ d ∈ ds, Pl 3 d
  | .atom _, ⟨q, p, n, v, vs, rfl, h2, h3, h4⟩ => by
    refine ⟨[.tuple [.str "is", .str n, .tuple (vs.map .int), .int v]], .cons (.tup (SqT.of h2) (.cons (.str _) (.cons (.str n) (.cons (.tup (SqT.of h3) (dpInts vs)) (.cons (.int v) .nil))))) .nil, fun d hd => ?_⟩
    rw [List.mem_singleton.mp hd]
    refine ⟨by simp, fun e he => ?_⟩
    simp only [List.mem_cons, List.not_mem_nil, or_false] at he
    rcases he with rfl | rfl | rfl | rfl
    · trivial
    · trivial
    · refine ⟨by rw [List.length_map]; omega, fun x hx => ?_⟩
      obtain ⟨i, _, rfl⟩ := List.mem_map.mp hx
      trivial
    · trivial
  | .con _, _ => ⟨[], .nil, by simp⟩
  | .neg _ f, ⟨_, _, _, _, _, h⟩ => atoms_data f h
  | .bin _ f g, ⟨_, _, _, _, _, h1, h2⟩ => by
    obtain ⟨a, ha, pa⟩ := atoms_data (K := K) f h1
    obtain ⟨b, hb, pb⟩ := atoms_data (K := K) g h2
    exact ⟨a ++ b, dpApp hb ha, fun d hd => (List.mem_append.mp hd).elim (pa d) (pb d)⟩
theorem atoms_plain {K : PySem.W.Frag} {H : Hp} {t : Fm} (h : t.At H) (hn : t.nodes ≤ 1000) : ∃ ds, DpAll K H t.atoms ds ∧ Pl 4 (.list ds) := by
  obtain ⟨ds, h1, h2⟩ := atoms_data (K := K) t h
  have h3 := dpLen h1
  have h4 := t.atoms_le
  exact ⟨ds, h1, by omega, h2⟩
theorem pl_up : ∀ {n : Nat} {d : PyData}, Pl n d → Pl (n + 1) d
  | 0, _, h => h.elim
  | _ + 1, .int _, _ => trivial
  | _ + 1, .bool _, _ => trivial
  | _ + 1, .str _, _ => trivial
  | _ + 1, .list _, h => ⟨h.1, fun d hd => pl_up (h.2 d hd)⟩
  | _ + 1, .tuple _, h => ⟨h.1, fun d hd => pl_up (h.2 d hd)⟩
  | _ + 1, .none, h => h.elim
  | _ + 1, .dict _, h => h.elim
def spLaw (K : PySem.W.Frag) : Sp := fun vs H Q _ => ∃ (a : Addr) (ns : List Int), vs = [.ref a] ∧ SqL K H a (ns.map V.int) ∧ ns.length ≤ 63 ∧ ∀ H', Q (.bl true) H'
section
variable {P : Program} {w : World} {K : PySem.W.Frag} {mg : Str → Option Value} {base : Heap}
set_option maxHeartbeats 1000000 in
theorem ok_law {f : Addr} {fd : FuncData} (F : Fun K "law" "law" s_law f fd) {f_cell : Addr} {fd_cell : FuncData} (G_cell : FnOk P w K mg base CX0 (1) f_cell fd_cell ["script", "k"] (spCell K)) (b_cell : Binds K fd_cell ["script", "k"] []) (k_cell : PySem.W.keepIn K (.ref f_cell) = true) (g_cell : mg "_law_cell" = some (.ref f_cell)) {f_names : Addr} {fd_names : FuncData} (G_names : FnOk P w K mg base CX0 (2) f_names fd_names ["cell", "count"] (spNames K)) (b_names : Binds K fd_names ["cell", "count"] []) (k_names : PySem.W.keepIn K (.ref f_names) = true) (g_names : mg "_law_names" = some (.ref f_names)) {f_offered : Addr} {fd_offered : FuncData} (G_offered : FnOk P w K mg base CX0 (1) f_offered fd_offered ["names", "cell"] (spOff K)) (b_offered : Binds K fd_offered ["names", "cell"] []) (k_offered : PySem.W.keepIn K (.ref f_offered) = true) (g_offered : mg "_law_offered" = some (.ref f_offered)) {f_formula : Addr} {fd_formula : FuncData} (G_formula : FnOk P w K mg base CX0 (2) f_formula fd_formula ["cell", "count", "relations", "most"] (spFormula K)) (b_formula : Binds K fd_formula ["cell", "count", "relations", "most"] []) (k_formula : PySem.W.keepIn K (.ref f_formula) = true) (g_formula : mg "_law_formula" = some (.ref f_formula)) {f_atoms : Addr} {fd_atoms : FuncData} (G_atoms : FnOk P w K mg base CX0 (1) f_atoms fd_atoms ["formula"] (spLa K)) (b_atoms : Binds K fd_atoms ["formula"] []) (k_atoms : PySem.W.keepIn K (.ref f_atoms) = true) (g_atoms : mg "_law_atoms" = some (.ref f_atoms)) {f_atoms_of : Addr} {fd_atoms_of : FuncData} (G_atoms_of : FnOk P w K mg base CX0 (62) f_atoms_of fd_atoms_of ["formula"] (spAt K 62)) (b_atoms_of : Binds K fd_atoms_of ["formula"] []) (k_atoms_of : PySem.W.keepIn K (.ref f_atoms_of) = true) (g_atoms_of : mg "atoms_of" = some (.ref f_atoms_of)) {f_equal : Addr} {fd_equal : FuncData} (G_equal : FnOk P w K mg base CX0 (5) f_equal fd_equal ["actual", "expected"] (spEq K 5)) (b_equal : Binds K fd_equal ["actual", "expected"] []) (k_equal : PySem.W.keepIn K (.ref f_equal) = true) (g_equal : mg "_law_equal" = some (.ref f_equal))
    (m_int : mg "int" = none) (m_range : mg "range" = none) : FnOk P w K mg base CX0 63 f fd ["script"] (spLaw K) := by
  refine F.ok sc_law (fun vs H Q E h => ?_) (fun cdv A outer s H vs Q E hr h => ?_)
  · obtain ⟨a, ns, rfl, _⟩ := h
    rfl
  obtain ⟨a, ns, rfl, hS, h63, q⟩ := h
  have hr_cell := hr.mono (show 1 ≤ 62 by decide)
  have hr_offered := hr_cell
  have hr_atoms := hr_cell
  have hr_names := hr.mono (show 2 ≤ 62 by decide)
  have hr_formula := hr_names
  have hr_atoms_of := hr
  have hr_equal := hr.mono (show 5 ≤ 62 by decide)
  refine ⟨_, (pss_cons (ps_set (i := 1) sc_law.nd rfl (.inl rfl) (pe_call G_offered hr_offered rfl g_offered k_offered b_offered .nil pass0 (pa_cons (pe_call G_names hr_names rfl g_names k_names b_names .nil pass0 (pa_cons (pe_call G_cell hr_cell rfl g_cell k_cell b_cell .nil pass0 (pa_cons (pv 0) (pa_cons pe_int pa_nil))) (pa_cons pe_int pa_nil))) (pa_cons (pe_call G_cell hr_cell rfl g_cell k_cell b_cell .nil pass0 (pa_cons (pv 0) (pa_cons pe_int pa_nil))) pa_nil))))
    (pss_cons (ps_set (i := 2) sc_law.nd rfl (.inl rfl) (pe_op op_add pe_int (pe_op op_mod (pe_callTy (r := rIntOf) c_int rfl m_int (by decide +kernel) (pa_cons (pe_call G_cell hr_cell rfl g_cell k_cell b_cell .nil pass0 (pa_cons (pv 0) (pa_cons pe_int pa_nil))) pa_nil)) pe_int)))
    (pss_cons (ps_set (i := 3) sc_law.nd rfl (.inl rfl) (pe_call G_formula hr_formula rfl g_formula k_formula b_formula .nil pass0 (pa_cons (pe_call G_cell hr_cell rfl g_cell k_cell b_cell .nil pass0 (pa_cons (pv 0) (pa_cons pe_int pa_nil))) (pa_cons (pv 2) (pa_cons (pv 1) (pa_cons pe_int pa_nil))))))
    (pss_cons (ps_set (i := 4) sc_law.nd rfl (.inl rfl) (pe_op op_fdivW (pe_callTy (r := rIntOf) c_int rfl m_int (by decide +kernel) (pa_cons (pe_call G_cell hr_cell rfl g_cell k_cell b_cell .nil pass0 (pa_cons (pv 0) (pa_cons pe_int pa_nil))) pa_nil)) pe_int))
    (pss_cons (ps_for PassesOwn.never rfl (pi_range1 rfl m_range (pa_cons (pe_op op_mod (pe_callTy (r := rIntOf) c_int rfl m_int (by decide +kernel) (pa_cons (pv 4) pa_nil)) pe_int) pa_nil)) (pg_name (i := 5) sc_law.nd rfl (.inl rfl))
      (pss_cons (ps_set (i := 4) sc_law.nd rfl (.inl rfl) (pe_op op_fdivW (pv 4) pe_int))
    (pss_one (ps_set (i := 3) sc_law.nd rfl (.inl rfl) (pe_tup (pa_cons (pe_ix (r := rIx K) ix_seq (pe_lst (pa_cons pe_str (pa_cons pe_str (pa_cons pe_str (pa_cons pe_str pa_nil))))) (pe_op op_mod (pe_callTy (r := rIntOf) c_int rfl m_int (by decide +kernel) (pa_cons (pv 4) pa_nil)) pe_int) (fun _ _ => rfl)) (pa_cons (pv 3) (pa_cons (pv 3) pa_nil))))))))
    (pss_cons (ps_set (i := 6) sc_law.nd rfl (.inl rfl) (pe_call G_atoms hr_atoms rfl g_atoms k_atoms b_atoms .nil pass0 (pa_cons (pv 3) pa_nil)))
    (pss_cons (ps_set (i := 7) sc_law.nd rfl (.inl rfl) (pe_call G_atoms_of hr_atoms_of rfl g_atoms_of k_atoms_of b_atoms_of .nil pass0 (pa_cons (pv 3) pa_nil)))
    (pss_cons (ps_if (pt_not (pt_val (pe_call G_equal hr_equal rfl g_equal k_equal b_equal .nil pass0 (pa_cons (pv 7) (pa_cons (pv 6) pa_nil))))) (pss_one (ps_ret pe_bl)) pss_nil)
    (pss_cons (ps_expr (pe_bm0 PySem.F.plainAttrs_list PySem.F.slot_list_reverse PySem.F.type_list_reverse mt_reverse (pv 7)))
    (pss_cons (ps_expr (pe_bm PySem.F.plainAttrs_list PySem.F.slot_list_append PySem.F.type_list_append mt_append (pv 7) (pa_cons (pe_tup (pa_cons pe_str pa_nil)) pa_nil)))
    (pss_one (ps_ret (pe_call G_equal hr_equal rfl g_equal k_equal b_equal .nil pass0 (pa_cons (pe_call G_atoms_of hr_atoms_of rfl g_atoms_of k_atoms_of b_atoms_of .nil pass0 (pa_cons (pv 3) pa_nil)) (pa_cons (pv 6) pa_nil))))))))))))))), ?_⟩
  refine ⟨.ref a, rfl, a, ns, 0, rfl, hS, h63, by decide, fun c0 => ⟨c0, 3, rfl, by decide, fun zs p1 H1 lz hz s1 np1 e1 => ⟨.ref a, rfl, a, ns, 1, rfl, s1.seq hS, h63, by decide, fun c1 =>
    ⟨p1, c1, zs, rfl, SqL.of e1, by omega, fun xs p2 H2 lx hx s2 np2 e2 => ?_⟩⟩⟩⟩
  have s12 := s1.trans s2
  refine ⟨.ref a, rfl, a, ns, 2, rfl, s12.seq hS, h63, by decide, fun c2 => ⟨c2, rfl, _, _, rfl, rfl, (by decide : (0 : Int) < 4), _, _, rfl, rfl, ?_⟩⟩
  dsimp only
  obtain ⟨n, hn, hn4⟩ : ∃ n : Nat, 1 + c2 % 4 = n ∧ n ≤ 4 := ⟨(1 + c2 % 4).toNat, by omega, by omega⟩
  rw [hn]
  refine ⟨.ref a, rfl, a, ns, 3, rfl, s12.seq hS, h63, by decide, fun c3 => ⟨_, rfl, _, rfl, c3, n, 30, p2, xs, rfl, SqL.of e2, by omega, hn4, by decide, by decide, hx, fun t0 H3 ht0 hA0 s3 => ?_⟩⟩
  have s13 := s12.trans s3
  refine ⟨.ref a, rfl, a, ns, 2, rfl, s13.seq hS, h63, by decide, fun c4 => ⟨c4, rfl, _, _, rfl, rfl, divW (by decide) (by decide), ?_⟩⟩
  refine ⟨_, rfl, _, rfl, _, _, rfl, rfl, (by decide : (0 : Int) < 4), _, rfl, ?_⟩
  have z0 := Int.emod_nonneg (c4 / 4) (show (4 : Int) ≠ 0 by decide)
  have z1 := Int.emod_lt_of_pos (c4 / 4) (show (0 : Int) < 4 by decide)
  refine ⟨by omega, by omega, ?_⟩
  have dp0 := t0.dep_le
  refine for_range (lo := 0) (n := (c4 / 4 % 4).toNat) (fun i σ H4 => ∃ (re : Int) (kv : Option V) (t : Fm), σ = [some (.ref a), some (.ref p2), some (.int n), some t.root, some (.int re), kv, none, none] ∧
      t.At H4 ∧ t.nodes + 1 ≤ 60 * 2 ^ i ∧ t.dep ≤ 59 + i) ⟨c4 / 4, none, t0, rfl, hA0, by omega, by omega⟩ ?_ ?_
  · rintro i σ H4 hi ⟨re, kv, t, rfl, hA, hnodes, hdep⟩
    refine ⟨_, rfl, _, _, rfl, rfl, divW (by decide) (by decide), (by show 4 ≤ sizeLine; decide), fun l nl => ?_⟩
    have e0 := Int.emod_nonneg (re / 4) (show (4 : Int) ≠ 0 by decide)
    have e1 := Int.emod_lt_of_pos (re / 4) (show (0 : Int) < 4 by decide)
    refine ⟨_, rfl, _, rfl, _, _, rfl, rfl, (by decide : (0 : Int) < 4), str_at (zs := ["and", "or", "implies", "same"]) (SqL.of upd_same) e0 (by simpa using e1) fun z hz => ⟨_, rfl, _, rfl, (by show 3 ≤ sizeLine; decide), fun b nb => ?_⟩⟩
    have hA2 := t.at_same ((same_new (o := .lst [.str "and", .str "or", .str "implies", .str "same"]) nl).trans (same_new (o := .tup [.str z, t.root, t.root]) nb)) hA
    refine ⟨re / 4, _, .bin (.ref b) t t, rfl, ⟨b, z, rfl, not_is4 z hz, upd_same, hA2, hA2⟩, ?_, ?_⟩
    · have pw : 2 ^ (i + 1) = 2 * 2 ^ i := by rw [Nat.pow_succ]; omega
      simp only [Fm.nodes]
      omega
    · simp only [Fm.dep]
      omega
  rintro σ H4 ⟨re, kv, t, rfl, hA, hnodes, hdep⟩
  have pw8 : 2 ^ (c4 / 4 % 4).toNat ≤ 2 ^ 3 := Nat.pow_le_pow_right (by decide) (by omega)
  have pw : (2 : Nat) ^ 3 = 8 := rfl
  refine ⟨_, rfl, t, rfl, hA, by omega, fun p6 H6 s6 np6 e6 => ?_⟩
  have hA6 := t.at_same s6 hA
  refine ⟨_, rfl, t, rfl, hA6, by omega, by omega, fun p7 H7 s7 np7 e7 => ?_⟩
  have hA7 := t.at_same s7 hA6
  have e67 := s7 _ _ e6
  obtain ⟨ds, hds, hpl⟩ := atoms_plain (K := K) hA7 (by omega)
  refine ⟨_, rfl, _, rfl, .ref p7, .ref p6, .list ds, rfl, .lst (SqL.of e7) hds, .lst (SqL.of e67) hds, ⟨hpl.1, fun d hd => ?_⟩, fun H8 s8 => ⟨true, rfl, iteF ?_⟩⟩
  · exact pl_up (hpl.2 d hd)
  have e8 := s8 _ _ e7
  have hA8 := t.at_same s8 hA7
  have n67 : p6 ≠ p7 := ne_of_none e6 np7
  refine ⟨_, rfl, .inl ⟨rfl, _, .inl (.inl e8)⟩, p7, _, rfl, rfl, e8, ?_⟩
  have e9 : (upd H8 p7 (.lst t.atoms.reverse)) p7 = some (.lst t.atoms.reverse) := upd_same
  refine ⟨_, rfl, .inl ⟨rfl, _, .inl (.inl e9)⟩, (by show 1 ≤ sizeLine; decide), fun b nb => ?_⟩
  have e10 := same_new (o := .tup [.str "true"]) nb _ _ e9
  have la := t.atoms_le
  refine ⟨p7, _, _, rfl, rfl, e10, by rw [List.length_reverse]; exact line6 (by omega), ?_⟩
  have tt : TupSame H8 _ := (tup_upd (u := .lst t.atoms.reverse) e8).trans ((Same.tup (same_new (o := .tup [.str "true"]) nb)).trans (tup_upd (u := .lst (t.atoms.reverse ++ [.ref b])) e10))
  have hA9 := t.at_tup tt hA8
  have e6' : (upd (upd (upd H8 p7 (.lst t.atoms.reverse)) b (.tup [.str "true"])) p7 (.lst (t.atoms.reverse ++ [.ref b]))) p6 = some (.lst t.atoms) := by
    rw [upd_ne n67]
    refine same_new nb _ _ ?_
    rw [upd_ne n67]
    exact s8 _ _ e67
  refine ⟨_, rfl, t, rfl, hA9, by omega, by omega, fun p10 H10 s10 np10 e10 => ?_⟩
  obtain ⟨ds, hds, hpl⟩ := atoms_plain (K := K) (t.at_same s10 hA9) (by omega)
  refine ⟨_, rfl, .ref p10, .ref p6, .list ds, rfl, .lst (SqL.of e10) hds, .lst (SqL.of (s10 _ _ e6')) hds, ⟨hpl.1, fun d hd => pl_up (hpl.2 d hd)⟩, fun H11 _ => q H11⟩
end
end Nz
namespace Nz
open PySem PySem.Spec PyProof.Rows L2
/-! ### what the top has left; the end -/
theorem all_mk {l : PySem.W.OpenLaw} {w : World} {K : PySem.W.Frag} {h : Heap} {mg : Str → Option Value} {fa f1 f2 f3 f4 f5 f6 f7 f8 f9 f10 : Addr} (X : K.In h) (G : h.Ns mainGlobals mg) (hfa : mg "law" = some (.ref fa))
    {od1 an1 od2 an2 od3 an3 od4 an4 od5 an5 od6 an6 od7 an7 od8 an8 od9 an9 od10 an10 : Option Addr} {sl1 sl2 sl3 sl4 sl5 sl6 sl7 sl8 sl9 sl10 : Array (Option Value)} {oc1 kV1 dc1 pm1 cd1 ct1 oc2 kV2 dc2 pm2 cd2 ct2 oc3 kV3 dc3 pm3 cd3 ct3 oc4 kV4 dc4 pm4 cd4 ct4 oc5 kV5 dc5 pm5 cd5 ct5 oc6 kV6 dc6 pm6 cd6 ct6 oc7 kV7 dc7 pm7 cd7 ct7 oc8 kV8 dc8 pm8 cd8 ct8 oc9 kV9 dc9 pm9 cd9 ct9 oc10 kV10 dc10 pm10 cd10 ct10 : Value}
    (a1 : PySem.W.nsIn K mainGlobals "atoms_of" = some (some (.ref f1)))
    (l1 : K.lookup f1 = some ⟨oc1, od1, .func (PySem.W.fnOf "atoms_of" "atoms_of" (defArgs s_atoms_of) (defBody s_atoms_of) (defScope s_atoms_of) .none kV1 dc1 pm1 an1 cd1 ct1), sl1⟩)
    (c1 : PySem.W.codeIn K cd1 "atoms_of" = true) (k1 : PySem.W.keepIn K (.ref f1) = true)
    (a2 : PySem.W.nsIn K mainGlobals "_law_cell" = some (some (.ref f2)))
    (l2 : K.lookup f2 = some ⟨oc2, od2, .func (PySem.W.fnOf "_law_cell" "_law_cell" (defArgs s_cell) (defBody s_cell) (defScope s_cell) .none kV2 dc2 pm2 an2 cd2 ct2), sl2⟩)
    (c2 : PySem.W.codeIn K cd2 "_law_cell" = true) (k2 : PySem.W.keepIn K (.ref f2) = true)
    (a3 : PySem.W.nsIn K mainGlobals "_law_digits" = some (some (.ref f3)))
    (l3 : K.lookup f3 = some ⟨oc3, od3, .func (PySem.W.fnOf "_law_digits" "_law_digits" (defArgs s_digits) (defBody s_digits) (defScope s_digits) .none kV3 dc3 pm3 an3 cd3 ct3), sl3⟩)
    (c3 : PySem.W.codeIn K cd3 "_law_digits" = true) (k3 : PySem.W.keepIn K (.ref f3) = true)
    (a4 : PySem.W.nsIn K mainGlobals "_law_equal" = some (some (.ref f4)))
    (l4 : K.lookup f4 = some ⟨oc4, od4, .func (PySem.W.fnOf "_law_equal" "_law_equal" (defArgs s_equal) (defBody s_equal) (defScope s_equal) .none kV4 dc4 pm4 an4 cd4 ct4), sl4⟩)
    (c4 : PySem.W.codeIn K cd4 "_law_equal" = true) (k4 : PySem.W.keepIn K (.ref f4) = true)
    (a5 : PySem.W.nsIn K mainGlobals "_law_names" = some (some (.ref f5)))
    (l5 : K.lookup f5 = some ⟨oc5, od5, .func (PySem.W.fnOf "_law_names" "_law_names" (defArgs s_names) (defBody s_names) (defScope s_names) .none kV5 dc5 pm5 an5 cd5 ct5), sl5⟩)
    (c5 : PySem.W.codeIn K cd5 "_law_names" = true) (k5 : PySem.W.keepIn K (.ref f5) = true)
    (a6 : PySem.W.nsIn K mainGlobals "_law_offered" = some (some (.ref f6)))
    (l6 : K.lookup f6 = some ⟨oc6, od6, .func (PySem.W.fnOf "_law_offered" "_law_offered" (defArgs s_offered) (defBody s_offered) (defScope s_offered) .none kV6 dc6 pm6 an6 cd6 ct6), sl6⟩)
    (c6 : PySem.W.codeIn K cd6 "_law_offered" = true) (k6 : PySem.W.keepIn K (.ref f6) = true)
    (a7 : PySem.W.nsIn K mainGlobals "_law_atom" = some (some (.ref f7)))
    (l7 : K.lookup f7 = some ⟨oc7, od7, .func (PySem.W.fnOf "_law_atom" "_law_atom" (defArgs s_atom) (defBody s_atom) (defScope s_atom) .none kV7 dc7 pm7 an7 cd7 ct7), sl7⟩)
    (c7 : PySem.W.codeIn K cd7 "_law_atom" = true) (k7 : PySem.W.keepIn K (.ref f7) = true)
    (a8 : PySem.W.nsIn K mainGlobals "_law_formula" = some (some (.ref f8)))
    (l8 : K.lookup f8 = some ⟨oc8, od8, .func (PySem.W.fnOf "_law_formula" "_law_formula" (defArgs s_formula) (defBody s_formula) (defScope s_formula) .none kV8 dc8 pm8 an8 cd8 ct8), sl8⟩)
    (c8 : PySem.W.codeIn K cd8 "_law_formula" = true) (k8 : PySem.W.keepIn K (.ref f8) = true)
    (a9 : PySem.W.nsIn K mainGlobals "_law_atoms" = some (some (.ref f9)))
    (l9 : K.lookup f9 = some ⟨oc9, od9, .func (PySem.W.fnOf "_law_atoms" "_law_atoms" (defArgs s_atoms) (defBody s_atoms) (defScope s_atoms) .none kV9 dc9 pm9 an9 cd9 ct9), sl9⟩)
    (c9 : PySem.W.codeIn K cd9 "_law_atoms" = true) (k9 : PySem.W.keepIn K (.ref f9) = true)
    (a10 : PySem.W.nsIn K mainGlobals "law" = some (some (.ref f10)))
    (l10 : K.lookup f10 = some ⟨oc10, od10, .func (PySem.W.fnOf "law" "law" (defArgs s_law) (defBody s_law) (defScope s_law) .none kV10 dc10 pm10 an10 cd10 ct10), sl10⟩)
    (c10 : PySem.W.codeIn K cd10 "law" = true) (k10 : PySem.W.keepIn K (.ref f10) = true)
    (z_all : PySem.W.nsIn K mainGlobals "all" = some none) (z_bool : PySem.W.nsIn K mainGlobals "bool" = some none) (z_int : PySem.W.nsIn K mainGlobals "int" = some none) (z_isinstance : PySem.W.nsIn K mainGlobals "isinstance" = some none) (z_len : PySem.W.nsIn K mainGlobals "len" = some none) (z_list : PySem.W.nsIn K mainGlobals "list" = some none) (z_min : PySem.W.nsIn K mainGlobals "min" = some none) (z_range : PySem.W.nsIn K mainGlobals "range" = some none) (z_str : PySem.W.nsIn K mainGlobals "str" = some none) (z_tuple : PySem.W.nsIn K mainGlobals "tuple" = some none) :
    ∃ fd : FuncData, (∀ (s : Shared) (v : Value), BindsTo s fd ⟨[v], []⟩ [("script", v)]) ∧ ∀ base : Heap, K.In base → base.Ns mainGlobals mg → FnOk l.prog w K mg base CX0 63 fa fd ["script"] (spLaw K) := by
  have e := hfa.symm.trans (PySem.W.mg_of X G a10)
  cases e
  have F1 := fun_mk (st := s_atoms_of) l1 c1 k1
  have g1 := PySem.W.mg_of X G a1
  have F2 := fun_mk (st := s_cell) l2 c2 k2
  have g2 := PySem.W.mg_of X G a2
  have F3 := fun_mk (st := s_digits) l3 c3 k3
  have g3 := PySem.W.mg_of X G a3
  have F4 := fun_mk (st := s_equal) l4 c4 k4
  have g4 := PySem.W.mg_of X G a4
  have F5 := fun_mk (st := s_names) l5 c5 k5
  have g5 := PySem.W.mg_of X G a5
  have F6 := fun_mk (st := s_offered) l6 c6 k6
  have g6 := PySem.W.mg_of X G a6
  have F7 := fun_mk (st := s_atom) l7 c7 k7
  have g7 := PySem.W.mg_of X G a7
  have F8 := fun_mk (st := s_formula) l8 c8 k8
  have g8 := PySem.W.mg_of X G a8
  have F9 := fun_mk (st := s_atoms) l9 c9 k9
  have g9 := PySem.W.mg_of X G a9
  have F10 := fun_mk (st := s_law) l10 c10 k10
  have g10 := PySem.W.mg_of X G a10
  have m_all := PySem.W.mg_none_of X G z_all
  have m_bool := PySem.W.mg_none_of X G z_bool
  have m_int := PySem.W.mg_none_of X G z_int
  have m_isinstance := PySem.W.mg_none_of X G z_isinstance
  have m_len := PySem.W.mg_none_of X G z_len
  have m_list := PySem.W.mg_none_of X G z_list
  have m_min := PySem.W.mg_none_of X G z_min
  have m_range := PySem.W.mg_none_of X G z_range
  have m_str := PySem.W.mg_none_of X G z_str
  have m_tuple := PySem.W.mg_none_of X G z_tuple
  have b1 := F1.binds (ps := ["formula"]) fun _ _ _ _ _ _ us hl => match us, hl with | [_], _ => rfl
  have b2 := F2.binds (ps := ["script", "k"]) fun _ _ _ _ _ _ us hl => match us, hl with | [_, _], _ => rfl
  have b3 := F3.binds (ps := ["cell", "many", "count"]) fun _ _ _ _ _ _ us hl => match us, hl with | [_, _, _], _ => rfl
  have b4 := F4.binds (ps := ["actual", "expected"]) fun _ _ _ _ _ _ us hl => match us, hl with | [_, _], _ => rfl
  have b5 := F5.binds (ps := ["cell", "count"]) fun _ _ _ _ _ _ us hl => match us, hl with | [_, _], _ => rfl
  have b6 := F6.binds (ps := ["names", "cell"]) fun _ _ _ _ _ _ us hl => match us, hl with | [_, _], _ => rfl
  have b7 := F7.binds (ps := ["digit", "count", "relations"]) fun _ _ _ _ _ _ us hl => match us, hl with | [_, _, _], _ => rfl
  have b8 := F8.binds (ps := ["cell", "count", "relations", "most"]) fun _ _ _ _ _ _ us hl => match us, hl with | [_, _, _, _], _ => rfl
  have b9 := F9.binds (ps := ["formula"]) fun _ _ _ _ _ _ us hl => match us, hl with | [_], _ => rfl
  refine ⟨PySem.W.fnOf "law" "law" (defArgs s_law) (defBody s_law) (defScope s_law) .none kV10 dc10 pm10 an10 cd10 ct10, fun s v => .of_eq rfl, fun base _ _ => ?_⟩
  have atom := ok_atom (P := l.prog) (w := w) (base := base) (k := 0) F7 m_int m_len m_list m_min m_range m_tuple
  have eqs := ok_equal (P := l.prog) (w := w) (base := base) F4 b4 k4 g4 m_all m_bool m_int m_isinstance m_len m_list m_range m_str m_tuple 5
  have ats := ok_atoms_of (P := l.prog) (w := w) (base := base) F1 b1 k1 g1 62
  exact ok_law F10 (ok_cell F2 m_len m_int) b2 k2 g2 (ok_names F5 (ok_digits F3 m_range m_int) b3 k3 g3 m_int m_len m_range) b5 k5 g5 (ok_offered F6 m_int m_len m_range) b6 k6 g6 (ok_formula F8 (ok_digits F3 m_range m_int) b3 k3 g3 atom b7 k7 g7 m_int m_len m_range) b8 k8 g8 (ok_atoms F9 m_len m_range) b9 k9 g9 ats b1 k1 g1 eqs b4 k4 g4 m_int m_range
end Nz
open PySem PySem.W PyProof.Rows
set_option maxHeartbeats 0 in
theorem PySem.Challenge.cw_oneofeach_k07_atoms_of_a_formula_holds : PySem.Challenge.rw_oneofeach_k07_atoms_of_a_formula.Holds := by
  w_on; o_law; k_head; (case hw => w_witness2)
  k_fill
  refine L2.walk_of (l := PySem.Challenge.rw_oneofeach_k07_atoms_of_a_formula) (n := 63) (k := 63) (x := "script") (CX := fun _ => L2.CX0) (sp := fun w => Nz.spLaw _) rfl (by decide) rfl ⟨rfl, by decide, by decide⟩
    (fun w h Y => PySem.W.kIn_of Y) ?F (fun _ _ a ns hl _ hS => ⟨a, ns, rfl, hS, hl, fun _ => rfl⟩) (fun _ _ _ _ _ h => h)
  case F =>
    intro w mg fa h KX G hmg
    refine' Nz.all_mk KX G hmg ?a1 ?l1 ?c1 ?k1 ?a2 ?l2 ?c2 ?k2 ?a3 ?l3 ?c3 ?k3 ?a4 ?l4 ?c4 ?k4 ?a5 ?l5 ?c5 ?k5 ?a6 ?l6 ?c6 ?k6 ?a7 ?l7 ?c7 ?k7 ?a8 ?l8 ?c8 ?k8 ?a9 ?l9 ?c9 ?k9 ?a10 ?l10 ?c10 ?k10 ?z_all ?z_bool ?z_int ?z_isinstance ?z_len ?z_list ?z_min ?z_range ?z_str ?z_tuple
    (case a1 => k_is)
    (case l1 => k_is)
    (case c1 => k_is)
    (case k1 => k_is)
    (case a2 => k_is)
    (case l2 => k_is)
    (case c2 => k_is)
    (case k2 => k_is)
    (case a3 => k_is)
    (case l3 => k_is)
    (case c3 => k_is)
    (case k3 => k_is)
    (case a4 => k_is)
    (case l4 => k_is)
    (case c4 => k_is)
    (case k4 => k_is)
    (case a5 => k_is)
    (case l5 => k_is)
    (case c5 => k_is)
    (case k5 => k_is)
    (case a6 => k_is)
    (case l6 => k_is)
    (case c6 => k_is)
    (case k6 => k_is)
    (case a7 => k_is)
    (case l7 => k_is)
    (case c7 => k_is)
    (case k7 => k_is)
    (case a8 => k_is)
    (case l8 => k_is)
    (case c8 => k_is)
    (case k8 => k_is)
    (case a9 => k_is)
    (case l9 => k_is)
    (case c9 => k_is)
    (case k9 => k_is)
    (case a10 => k_is)
    (case l10 => k_is)
    (case c10 => k_is)
    (case k10 => k_is)
    (case z_all => k_is)
    (case z_bool => k_is)
    (case z_int => k_is)
    (case z_isinstance => k_is)
    (case z_len => k_is)
    (case z_list => k_is)
    (case z_min => k_is)
    (case z_range => k_is)
    (case z_str => k_is)
    (case z_tuple => k_is)
