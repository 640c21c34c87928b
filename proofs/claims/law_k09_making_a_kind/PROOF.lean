import PyProof.Rows.All
import Wide.All
import OpenK.AllK
import Wide.FinOn
import HandS.ForMost
import HandS.TupAny
import HandS.Conv
import HandS.IsInst
import HandS.Style
import KE.GoesEnum
import PyProof.TupleOfSeq
import KE.GoesMore
import HandS.Wide
import HandS.Walk
import HandS.Codes
import KE.KSortedM
import KE.KxText
import HandS.TryMany
import HandS.ExcInit
import HandS.ExcIs
import KE.KExcIs
import HandS.ExcField
import HandS.ClsMeth
import HandS.FStr
import HandS.SetKeys
import HandS.DictComp
import HandS.WordsExc
import HandS.Dict
import HandS.Comp
import HandS.ExcOwn
import PySem.Challenge.RW_oneofeach_k09_making_a_kind
set_option Elab.async false
set_option linter.all false
set_option maxRecDepth 100000
namespace Nz
open PySem PySem.Spec PyProof.Rows L2
/-! ### sorted(t), t a tuple of ints -/
section
variable {prog : Program} {w : World} {A : Around} {E : Value → Shared → Prop} {s : Shared}
/-- the heap behind the collecting of vs -/
def gath (h : Heap) (vs : List Value) : Heap :=
  (h.push (seqObj "list" #[] 0)).update h.objs.size (Obj.mapSeq (· ++ vs.toArray))
theorem gath_size (h : Heap) (vs : List Value) : (gath h vs).objs.size = h.objs.size + 1 :=
  (Heap.size_update ..).trans (size_push' _ _)
theorem gath_old {h : Heap} {vs : List Value} {b : Addr} {o : Obj} (e : h.get? b = some o) : (gath h vs).get? b = some o :=
  (Heap.get?_update_other _ _ (Nat.ne_of_gt (Heap.lt_size e))).trans (Heap.get?_push_of_some _ e)
set_option maxHeartbeats 1000000 in
theorem gather_tup {t : Addr} {vs : List Value} {Q : List Value → Shared → Prop} (ht : IsTup s.heap t vs.toArray)
    (hz : vs.length ≤ sizeLine) (fin : Q vs { s with heap := gath s.heap vs }) : wpAny (model prog w) A (collect (.ref t)) Q E s := by
  obtain ⟨o, ho, hc, n, hd⟩ := ht
  have new0 : (s.heap.push (seqObj "list" #[] 0)).get? s.heap.objs.size = some (seqObj "list" #[] 0) := Heap.get?_push_size _ rfl
  have old : (s.heap.push (seqObj "list" #[] 0)).get? t = some o := Heap.get?_push_of_some _ ho
  unfold collect
  refine wpAny_bind (wpAny_runValue (codeAny_builtin entry_proto_collect' (?k : wpAny _ _
    (do again (.builtin "list.__iadd__" ⟨[← newList [], .ref t], []⟩)) _ _ s)))
  refine wpAny_bind (wpAny_newList (wpAny_pure ⟨Code.quiet_builtin _ (by decide +kernel), codeAny_builtin entry_list_iadd'
    (?k2 : wpAny _ _ (Builtin.List.listExtendWith (.ref s.heap.objs.size) (.ref t) (.ref s.heap.objs.size)) _ _
      { s with heap := s.heap.push (seqObj "list" #[] 0) })⟩))
  unfold Builtin.List.listExtendWith
  refine wpAny_bind (wpAny_typeOf (T := "tuple") ⟨o, old, hc⟩ ?_)
  have tt : (Value.type "tuple" == Value.type "tuple") = true := by rfl
  rw [if_pos (by simp [tt])]
  refine wpAny_bind (listItems_at old hd (wpAny_bind (listItems_at (xs := #[]) (n := 0) new0 rfl ?_)))
  rw [if_neg (by simp)]
  refine wpAny_bind (listUpdate_at (xs := #[]) (n := 0) new0 rfl ?_ (Nat.zero_le _) (by
    show (#[] ++ vs.toArray).size ≤ sizeLine + 1
    simp only [Array.size_append, List.size_toArray, List.length_nil]
    omega))
  refine wpAny_pure (?k3 : wpAny (model prog w) A (do
      match (← load s.heap.objs.size).data with
      | .seq xs _ => pure xs.toList
      | _ => unsupported "internal:collect") Q E { s with heap := gath s.heap vs })
  refine wpAny_bind (wpAny_load (get?_update_seq new0 _) ?_)
  have e : ((#[] : Array Value) ++ vs.toArray).toList = vs := by simp
  exact wpAny_pure (e.symm ▸ fin)
set_option maxHeartbeats 1000000 in
theorem sort_tup {t : Addr} {vs : List Value} {ns : List Int} {Q : Value → Shared → Prop}
    (ht : IsTup s.heap t vs.toArray) (hI : IntsAre vs ns) (lt : vs.length < 64)
    (fin : ∀ (out : List Value) (ms : List Int) (p : Addr) (g : Heap) (ep : Nat), IntsAre out ms → ms.Perm ns →
      ms.Pairwise (· ≤ ·) → s.heap.objs.size ≤ p → (∀ b o, s.heap.get? b = some o → g.get? b = some o) →
      g.get? p = some (seqObj "list" out.toArray ep) → Q (.ref p) { s with heap := g }) :
    wpAny (model prog w) A (call (.builtin "sorted") [.ref t]) Q E s := by
  have hz : vs.length ≤ sizeLine := by
    rw [sizeLine_eq]
    omega
  refine (fun z => Calls.call_function_entry kind_sorted plain_sorted entry_sorted (args_sorted1 _) z) ?_
  unfold Builtin.«sorted»
  refine wpAny_bind (m := checkCount "sorted" 1 1 [Value.ref t].length) (wpAny_pure (wpAny_bind (gather_tup ht hz (wpAny_bind (wpAny_newList ?_ hz)))))
  have hoL : ((gath s.heap vs).push (seqObj "list" vs.toArray 0)).get? (gath s.heap vs).objs.size = some (seqObj "list" vs.toArray 0) :=
    Heap.get?_push_size _ rfl
  refine wpAny_bind (s := { s with heap := (gath s.heap vs).push (seqObj "list" vs.toArray 0) }) (wpAny_holding (wpAny_call_entry slot_list_sort
    ⟨_, hoL, rfl⟩ entry_list_sort (list_sort_tree hoL hI lt fun out ms a1 a2 a3 => ⟨_, rfl, ?_⟩) (args_list_sort _)))
  obtain ⟨ep, he⟩ := sortedHeap_at (vs := vs) (out := out) hoL
  have hgs : s.heap.objs.size ≤ (gath s.heap vs).objs.size := by
    rw [gath_size]
    exact Nat.le_succ _
  refine wpAny_pure ⟨_, rfl, fin out.toList ms _ _ ep a1 a2 a3 hgs (fun b u hb => ?_) ?_⟩
  · have hb1 := gath_old (vs := vs) hb
    have hb2 := Heap.get?_push_of_some (seqObj "list" vs.toArray 0) hb1
    rw [sortedHeap_old (Nat.ne_of_lt (Heap.lt_size hb1)) (Heap.lt_size hb2)]
    exact hb2
  · exact he
end
section
variable {X : Cx}
def rSortT (K : PySem.W.Frag) : List V → Hp → VK → Prop := fun vs H Q => ∃ (a : Addr) (ns : List Int), vs = [V.ref a] ∧
  SqT K H a (ns.map V.int) ∧ ns.length < 64 ∧
  ∀ (ms : List Int) (p : Addr), ms.Perm ns → ms.Pairwise (· ≤ ·) → H p = none → Q (.ref p) (upd H p (.lst (ms.map V.int)))
theorem cr_sortTup : CallR X (.builtin "sorted") (rSortT X.K) := by
  intro pins s σ H vs us Q I r ⟨a, ns, e0, hs, h64, q⟩
  subst e0
  obtain ⟨its, rv, hl, _⟩ := I.tuple hs
  rw [Vals.ref1 r]
  have hi := rv.ints
  refine sort_tup hl hi (by rw [hi.length]; exact h64) fun out ms p g ep h1 h2 h3 hp hk he => ?_
  have hlen : (ms.map V.int).length ≤ sizeLine := by
    rw [List.length_map, h2.length_eq]
    exact small64 h64
  exact ⟨.ref p, upd H p (.lst (ms.map V.int)), I.laid (t' := s.toks) hk hp ⟨hlen, out, ep, vals_of_ints h1, he⟩, rfl,
    q ms p h2 h3 (I.hok.fresh hp)⟩
end
end Nz
namespace Nz
open PySem PySem.Spec PyProof.Rows L2
/-! ### enumerate(t), t a tuple -/
abbrev enumO (n : Nat) : Obj :=
  { cls := .type "enumerate", data := .fields #[.none, .bool false, .ref n, rawInt 0, .none, .none] }
set_option maxHeartbeats 1000000 in
theorem meets_enumT {t : Addr} {o : Obj} {H : Heap → Prop} (B : Begins (.ref t) o H) :
    Meets (Builtin.«enumerate.__new__» ⟨[.type "enumerate", .ref t], []⟩) (fun _ R s => H s.heap ∧
      R (.ok (.ret (.ref (s.heap.push o).objs.size))) { s with heap := (s.heap.push o).push (enumO s.heap.objs.size) }) :=
  .of_wp fun prog w A R s h => by
    obtain ⟨hp, g, d, tk, os⟩ := s
    obtain ⟨h1, h⟩ := h
    have hsub := sub_enumerate
    have q1 : ∀ {A' : Around} {E : Value → Shared → Prop} {Q : Value → Shared → Prop}, Q (.ref hp.objs.size) ⟨hp.push o, g, d, tk, os⟩ →
        wpAny (model prog w) A' (pyIter (.ref t)) Q E ⟨hp, g, d, tk, os⟩ := fun q => B.iter prog w _ _ ⟨hp, g, d, tk, os⟩ _ h1 q
    wp_walk using q1
    refine wpAny_stack_any fun st => wpAny_pure ?_
    split
    · rename_i c _ _ _ _ _
      cases (c == Value.type "enumerate")
      all_goals
        wp_walk using q1
        exact ⟨_, rfl, h⟩
    · wp_walk using q1
      exact ⟨_, rfl, h⟩
section
variable {prog : Program} {w : World} {A : Around} {E : Value → Shared → Prop} {s : Shared}
theorem call_enumT {t : Addr} {o : Obj} {H : Heap → Prop} {Q : Value → Shared → Prop} (B : Begins (.ref t) o H) (h1 : H s.heap)
    (fin : ∀ g, IsEnum g (s.heap.objs.size + 1) s.heap.objs.size 0 .none → g.get? s.heap.objs.size = some o →
      g.objs.size = s.heap.objs.size + 2 → (∀ b u, s.heap.get? b = some u → g.get? b = some u) → Q (.ref (s.heap.objs.size + 1)) { s with heap := g }) :
    wpAny (model prog w) A (call (.type "enumerate") [.ref t]) Q E s := by
  have hz : (s.heap.push o).objs.size = s.heap.objs.size + 1 := Heap.size_push ..
  have new := Heap.get?_push_size (s.heap.push o)
    (o := enumO s.heap.objs.size) rfl
  rw [hz] at new
  refine callType_new F.called_enumerate (by decide) (F.typeCall_enumerate_1 _) (F.newCall_enumerate_1 _)
    (fun obj => F.args_object_init_2 obj _) F.entry_enumerate_new (meets_enumT B) ⟨h1, ?_⟩
  refine (?g : _ ∧ _)
  rw [hz]
  exact ⟨⟨_, new, rfl⟩, fin _ new (Heap.get?_push_of_some _ (Heap.get?_push_size _ B.free)) (by rw [Heap.size_push, hz])
    fun b u x => Heap.get?_push_of_some _ (Heap.get?_push_of_some _ x)⟩
end
/-- the tuple at a, item by item, each in a new pair with its place -/
def IteT (K : PySem.W.Frag) (a : Addr) : It :=
  ⟨fun i H => ∃ (xs : List V) (x : V), SqT K H a xs ∧ xs[i]? = some x,
   fun i H v H' => ∃ T x, v = .ref T ∧ H T = none ∧ H' = upd H T (.tup [.int (i : Nat), x]) ∧ ∀ xs, SqT K H a xs → xs[i]? = some x,
   fun i H => ∃ xs : List V, SqT K H a xs ∧ xs.length ≤ i⟩
theorem apartE {h : Heap} {a e it : Addr} {k : Int} {old : Value} {its : Array Value} {i : Nat} (ht : h.IsTuple a its)
    (he : IsEnum h e it k old) (hi : h.IsTupleIter it a i) : a ≠ it ∧ e ∉ [it, a] ∧ e ≠ it := by
  obtain ⟨o1, g1, c1, _⟩ := ht
  obtain ⟨o2, g2, c2, _⟩ := hi
  have g3 : h.get? e = some _ := he
  have ne1 : a ≠ it := fun z => by
    subst z
    rw [g1] at g2
    cases g2
    rw [c1] at c2
    revert c2
    decide
  have ne2 : e ≠ it := fun z => by
    subst z
    rw [g3] at g2
    cases g2
    exact absurd (show Value.type "enumerate" = .type "tuple_iterator" from c2) (by simp)
  have ne3 : e ≠ a := fun z => by
    subst z
    rw [g3] at g1
    cases g1
    exact absurd (show Value.type "enumerate" = .type "tuple" from c1) (by simp)
  exact ⟨ne1, by simp [ne2, ne3], ne2⟩
theorem turn_enumT {P : Program} {w : World} {K : PySem.W.Frag} {elts : List Expr} {kk : Nat} {tpos : Pos} (a e it : Addr) :
    Turn P w K (.Tuple elts kk tpos) (IteT K a) [e, it] e
      (fun i h => (∃ old, IsEnum h e it ((i : Nat) : Int) old) ∧ h.IsTupleIter it a i) where
  mem := by simp
  obj := fun i h st b hb => by
    obtain ⟨⟨old, he⟩, o, ho, hc, hd⟩ := st
    rcases (show b = e ∨ b = it by simpa using hb) with rfl | rfl
    · exact ⟨_, he, fun v q => nomatch q⟩
    · exact ⟨o, ho, fun v q => by rw [hd] at q; cases q⟩
  keep := fun i h h' ⟨⟨old, he⟩, hi⟩ k => ⟨⟨old, k e (by simp) _ he⟩, hi.at fun o q => k it (by simp) o q⟩
  item := by
    intro X hP hw hK hc i pins s σ H E I hf st hg
    subst hP hw hK
    obtain ⟨⟨old, he⟩, hit⟩ := st
    obtain ⟨xs, x, hq, hx⟩ := hg
    obtain ⟨its, rv, p, hz⟩ := I.tuple hq
    obtain ⟨u, hu, ru⟩ := rv.get hx
    have p' : s.heap.IsTuple a its.toArray := p
    obtain ⟨na, nin, ne⟩ := apartE p' he hit
    have hel : e < s.heap.objs.size := Heap.lt_size he
    have hil : it < s.heap.objs.size := by
      obtain ⟨_, q, _⟩ := hit
      exact Heap.lt_size q
    have hlt : i < its.toArray.size := by
      have := (List.getElem?_eq_some_iff.mp hu).1
      simpa using this
    refine wpAny_pyNext_enum_itemD (Draws.tuple (A := X.A.in1) (I.ok.hd hc) it a na its.toArray) he ⟨hit, p'⟩ hlt ne nin
      fun y g tk hy ho st1 hT hsz hk => ?_
    have ey : y = u := by
      have h2 : its.toArray[i]? = some u := by simpa using hu
      exact Option.some.inj (hy.symm.trans h2)
    subst ey
    refine ⟨_, rfl, wpAny_letOwnedTupleGo_enum (s := { s with heap := g, toks := tk + 1 }) ho fun g2 he2 sb => ?_⟩
    have hT2 : g2.get? s.heap.objs.size = some { cls := .type "tuple", data := .seq #[.int i tk, y] } :=
      (sb.2 _ (Nat.ne_of_gt hel)).trans hT
    have new : ObjOk X.prog X.w (upd H s.heap.objs.size (.tup [.int (i : Nat), x])) g2 s.heap.objs.size (.tup [.int (i : Nat), x]) :=
      ⟨by show 2 ≤ sizeLine; decide, [.int i tk, y], .cons ⟨_, rfl⟩ (.cons ru .nil), ⟨_, hT2, rfl, _, rfl⟩⟩
    have I1 : Inv X pins σ (upd H s.heap.objs.size (.tup [.int (i : Nat), x])) { s with heap := g2, toks := tk + 1 } :=
      I.turnedNew (ch := [e, it]) (fun b ob hb q => (sb.2 b (fun z => hb (by simp [z]))).trans
        (hk b ob (fun z => hb (by simp [z])) (fun z => hb (by simp [z])) q)) hf (Nat.le_refl _) new
    refine ⟨.ref s.heap.objs.size, _, I1, rfl, ⟨_, x, rfl, I.hok.fresh (Nat.le_refl _), rfl, fun ys hy => by
      rw [I.tuple_inj hy hq]
      exact hx⟩, ⟨⟨y, ?_⟩, st1.1.at fun o q => (sb.2 it (Ne.symm ne)).trans q⟩, fun b hb => ?_⟩
    · rw [show ((i + 1 : Nat) : Int) = (i : Int) + 1 by omega]
      exact he2
    · have hb' : b < s.heap.objs.size := by
        rcases (show b = e ∨ b = it by simpa using hb) with rfl | rfl
        · exact hel
        · exact hil
      rw [upd_ne (Nat.ne_of_lt hb')]
      exact (hf b hb).1
  done := by
    intro X hP hw hK hc i pins s σ H E I hf st hg
    subst hP hw hK
    obtain ⟨⟨old, he⟩, hit⟩ := st
    obtain ⟨xs, hq, hx⟩ := hg
    obtain ⟨its, rv, p, hz⟩ := I.tuple hq
    have p' : s.heap.IsTuple a its.toArray := p
    obtain ⟨na, nin, ne⟩ := apartE p' he hit
    obtain ⟨f0, f1, f2, f3, f4, f5⟩ := hf it (by simp)
    have hl := rv.length
    have none_at : its.toArray[i]? = none := by
      simp
      omega
    unfold pyNext
    have hT : s.TypeIs (.ref e) "enumerate" := ⟨_, he, rfl⟩
    refine wpAny_bind (wpAny_attempt (wpAny_callSpecial?_slot (name := Str.ofString "__next__") hT F.slot_enumerate_next (wpAny_call_entry
      F.slot_enumerate_next hT F.entry_enumerate_next (?g : wpAny _ _ (field (.ref e) 2 >>= _) _ _ _) (F.args_enumerate_next_1 _))))
    refine wpAny_bind (wpAny_field he rfl (x := .ref it) rfl (wpAny_bind (wpAny_nextOf_tuple_end (I.ok.hd hc) hit p' none_at fun g x hx' hs => ?_)))
    obtain ⟨o, ho, hcls⟩ := hs
    refine wpAny_bind (wpAny_isInstance (T := "StopIteration") (b := true) ⟨o, ho, hcls⟩ isSubtype_stop (wpAny_pure ⟨rfl, ?_⟩))
    exact I.turned (t' := s.toks) (fun b o hb q => hx' b o hb q) f0 f1 f3 f4 f5
  self := fun A i s Q E ⟨⟨_, he⟩, _⟩ h => wpAny_pyIter_enum he h
end Nz
namespace Nz
open PySem PySem.Spec PyProof.Rows L2
def iEnumT (K : PySem.W.Frag) (ta : TA) : TI := fun σ H R => ta σ H fun vs H1 => ∃ a xs, vs = [.ref a] ∧ SqT K H1 a xs ∧ R (IteT K a) H1
theorem pi_enumT {X : Cx} {e : Expr} {ta : TA} {p pos tpos : Pos} {elts : List Expr} {kk : Nat} (hg : Gl X "enumerate")
    (hm : X.mg "enumerate" = none) (ha : PA X [e] ta) (hs : starEach [e] X.env = [(false, eval e X.env)] := by rfl) :
    PI X (.Tuple elts kk tpos) (.Call (.Name "enumerate" p) [e] [] pos) (iEnumT X.K ta) := by
  refine ⟨fun pins s σ H R I h => Call_ (ld_blt I hg hm boot_enumerate (PyProof.Rows.callWith_type1 (thn (ha.run pos pins s σ H _ I h)
    fun us s1 ⟨vs, H1, I1, r1, a, xs, ex, hq, q⟩ => ?_) hs rfl))⟩
  subst ex
  rcases r1 with _ | ⟨r, rr⟩
  cases rr
  cases r
  obtain ⟨its, rv, p', hz⟩ := I1.tuple hq
  refine call_enumT (begins_tuple a its.toArray) (show s1.heap.IsTuple a its.toArray from p') fun g he hit hsz hk => wpAny_pyIter_enum he ?_
  have I2 : Inv X pins σ H1 { s1 with heap := g } := I1.kept (t' := s1.toks) hk
  refine ⟨s1.heap.objs.size + 1, [s1.heap.objs.size + 1, s1.heap.objs.size], _, _, H1, rfl, I2,
    turn_enumT a (s1.heap.objs.size + 1) s1.heap.objs.size, ⟨⟨.none, he⟩, ⟨_, hit, rfl, rfl⟩⟩, fun b hb => ?_, q⟩
  have hle : s1.heap.objs.size ≤ b := by
    rcases (show b = s1.heap.objs.size + 1 ∨ b = s1.heap.objs.size by simpa using hb) with z | z
    · rw [z]
      exact Nat.le_succ _
    · rw [z]
      exact Nat.le_refl _
  exact I1.fpOk hle (I1.hok.fresh hle)
end Nz
namespace Nz
open PySem PySem.Spec PyProof.Rows L2
/-! ### t[::-1], t a tuple -/
section
variable {prog : Program} {w : World} {A : Around} {E : Value → Shared → Prop} {s : Shared}
theorem fm_congr {α β : Type} {f g : α → Option β} : ∀ l : List α, (∀ x ∈ l, f x = g x) → l.filterMap f = l.filterMap g
  | [], _ => rfl
  | a :: r, h => by
    have ih := fm_congr r fun x hx => h x (List.mem_cons_of_mem _ hx)
    rw [List.filterMap_cons, List.filterMap_cons, h a List.mem_cons_self, ih]
theorem pick_back (xs : Array Value) : ((List.range xs.size).filterMap fun (m : Nat) => xs[(((xs.size : Int) - 1) + (m : Int) * (-1)).toNat]?).toArray = xs.toList.reverse.toArray := by
  congr 1
  apply List.ext_getElem?
  intro i
  have e : ((List.range xs.size).filterMap fun (m : Nat) => xs[(((xs.size : Int) - 1) + (m : Int) * (-1)).toNat]?) =
      (List.range xs.size).filterMap fun (m : Nat) => xs.toList.reverse[m]? := by
    refine fm_congr _ fun m hm => ?_
    have hm := List.mem_range.mp hm
    have h2 : (((xs.size : Int) - 1) + (m : Int) * (-1)).toNat = xs.size - 1 - m := by omega
    rw [h2, List.getElem?_reverse (by simpa using hm)]
    simp
  rw [e]
  have all : ∀ l : List Value, ((List.range l.length).filterMap fun m => l[m]?) = l := by
    intro l
    induction l with
    | nil => rfl
    | cons a t ih =>
      rw [List.length_cons, List.range_succ_eq_map, List.filterMap_cons, List.filterMap_map]
      simp only [List.getElem?_cons_zero]
      congr 1
  have := all xs.toList.reverse
  rw [List.length_reverse, Array.length_toList] at this
  rw [this]
theorem adjust_back (n : Nat) : Builtin.Slice.sliceAdjust none none (-1) (n : Int) = ((n : Int) - 1, -1) := by
  unfold Builtin.Slice.sliceAdjust
  simp
theorem places_back (n : Nat) : Builtin.Slice.slicePlaces ((n : Int) - 1) (-1) (-1) = n := by
  unfold Builtin.Slice.slicePlaces
  have h1 : ¬ ((-1 : Int) > 0) := by decide
  simp only [h1, if_false]
  split
  · rw [show (- -1 : Int) = 1 by decide, Int.ediv_one]
    omega
  · omega
theorem applied_back {sl : Addr} {vs : Value} {n : Nat} {Q : Int × Int × Nat → Shared → Prop} (hs : s.heap.IsSliceOf sl .none .none vs) (ps : IsPart vs (some (-1)))
    (h : Q ((n : Int) - 1, -1, n) s) : wpAny (model prog w) A (Builtin.Slice.sliceApplied (.ref sl) (pure (n : Int))) Q E s := by
  obtain ⟨os, hos, hcs, hds⟩ := id hs
  unfold Builtin.Slice.sliceApplied Builtin.Slice.sliceFields
  refine wpAny_bind (wpAny_bind (wpAny_field hos hds (x := .none) rfl (wpAny_bind (wpAny_field hos hds (x := .none) rfl
    (wpAny_bind (wpAny_field hos hds (x := vs) rfl (wpAny_pure ?_)))))))
  refine wpAny_bind (HT.slicePart_ ps ?_)
  refine (?g1 : wpAny _ _ (if ((-1 : Int) == 0) = true then _ else _) _ _ s)
  rw [if_neg (by decide)]
  refine wpAny_bind (HT.slicePart_ .none (wpAny_bind (HT.slicePart_ .none (wpAny_bind (wpAny_pure ?_)))))
  refine (?g2 : wpAny _ _ (match Builtin.Slice.sliceAdjust none none (-1) (n : Int) with
    | (lo, hi) => pure (lo, (-1 : Int), Builtin.Slice.slicePlaces lo hi (-1))) _ _ s)
  rw [adjust_back n]
  refine (?g3 : wpAny _ _ (pure ((n : Int) - 1, (-1 : Int), Builtin.Slice.slicePlaces ((n : Int) - 1) (-1) (-1))) _ _ s)
  rw [places_back]
  exact wpAny_pure h
theorem item_back {t sl : Addr} {items : Array Value} {vs : Value} {Q : Value → Shared → Prop} (ht : IsTup s.heap t items) (hs : s.heap.IsSliceOf sl .none .none vs) (ps : IsPart vs (some (-1)))
    (h : Q (.ref s.heap.objs.size) { s with heap := s.heap.push { cls := .type "tuple", data := .seq items.toList.reverse.toArray } }) (hz : items.size ≤ sizeLine) :
    wpAny (model prog w) A (getItem (.ref t) (.ref sl)) Q E s := by
  have z : items.toList.reverse.toArray.size ≤ sizeLine := by
    rw [List.size_toArray, List.length_reverse, Array.length_toList]
    exact hz
  have fit : sizeOk (.seq items.toList.reverse.toArray) := z
  obtain ⟨os, hos, hcs, hds⟩ := id hs
  have hTs : s.TypeIs (.ref sl) "slice" := ⟨os, hos, hcs⟩
  unfold getItem
  try with_reducible refine wpAny_holding ?_
  first | refine wpAny_bind (wpAny_pure ?_) | skip
  refine wpAny_bind (wpAny_sequenceKey ht.typeIs (by decide) ?_)
  have entry := args_tuple_getitem (.ref t) (.ref sl)
  refine wpAny_bind (wpAny_callSpecial?_slot (name := Str.ofString "__getitem__") ht.typeIs PyProof.Rows.slot_tuple_getitem (wpAny_call_entry
    PyProof.Rows.slot_tuple_getitem ht.typeIs entry_tuple_getitem ?_ entry))
  refine (?g5 : wpAny _ _ (Builtin.Tuple.tupleItemsOf (.ref t) >>= _) _ _ s)
  refine wpAny_bind (tupleItemsOf_ ht (wpAny_bind (wpAny_typeOf hTs ?_)))
  rw [if_pos (by decide)]
  refine wpAny_bind (applied_back hs ps ?_)
  have no : ¬ ((((items.size : Int) - 1) == 0 && (-1 : Int) == 1 && items.size == items.size) = true) := by simp
  refine (?g4 : wpAny _ _ (if (((items.size : Int) - 1) == 0 && (-1 : Int) == 1 && items.size == items.size) = true then _ else _) _ _ s)
  rw [if_neg no, pick_back]
  first
    | exact wpAny_bind (m := Builtin.Tuple.tupleExact _) (wpAny_newObj_type (wpAny_pure ⟨_, rfl, wpAny_pure h⟩) fit)
    | exact wpAny_bind (m := Builtin.Tuple.tupleExact _) (wpAny_newObj_type (wpAny_bind (wpAny_pure (wpAny_pure ⟨_, rfl, wpAny_pure h⟩))) fit)
end
section
variable {X : Cx}
def tRevT (K : PySem.W.Frag) (te : TE) : TE := fun σ H Q => te σ H fun x H1 => ∃ a xs, x = .ref a ∧ SqT K H1 a xs ∧ ∀ p, H1 p = none → Q (.ref p) (upd H1 p (.tup xs.reverse))
theorem pe_revT {e : Expr} {te : TE} {k : Nat} {p1 p2 p3 pos : Pos} (he : PE X e te) :
    PE X (.Subscript e (.Slice none none (some (.UnaryOp .USub (.Constant (.int 1) k p1) p2)) p3) pos) (tRevT X.K te) := by
  refine ⟨fun pins s σ H Q I h => Subscript_ (thn (he.run pins s σ H _ I h) fun v s1 ⟨x, H1, I1, r1, a, xs, ex, hx, q⟩ => ?_)⟩
  subst ex
  cases r1
  have hst : PO X (some (.UnaryOp .USub (.Constant (.int 1) k p1) p2)) (tPart (tUn (rU fun i => .int (-i)) (tC (.int 1)))) :=
    po_some (pe_un un_neg pe_int)
  refine wpAny_Slice ?_
  rw [evalPart_none]
  refine wpAny_pure (wpAny_pure ?_)
  refine thn (hst.run pins s1 σ H1 (fun o H4 => o = some (-1) ∧ H4 = H1) I1 ⟨1, rfl, -1, rfl, rfl, rfl⟩) fun vs s4 ⟨o, H4, I4, ps, eo, e4⟩ => ?_
  subst eo e4
  have I5 : Inv X pins σ H4 { s4 with heap := s4.heap.push { cls := .type "slice", data := .fields #[.none, .none, vs] } } :=
    I4.kept (t' := s4.toks) fun b ob q => Heap.get?_push_of_some _ q
  obtain ⟨its, r, ht, hz⟩ := I5.tuple hx
  have hlen := r.length
  refine tail_any (ops := [.ref a, .ref s4.heap.objs.size]) ht.typeIs PyProof.Rows.slot_tuple_getitem.lookup ?_ (by with_unfolding_all rfl)
  refine item_back ht (Heap.IsSliceOf.new _ .none .none vs) ps ?_ (by rw [List.size_toArray]; omega)
  refine ⟨.ref _, _, I5.laid (t' := s4.toks) (o := .tup xs.reverse) (fun b ob q => Heap.get?_push_of_some _ q) (Nat.le_refl _) ?_, rfl, q _ (I5.hok.fresh (Nat.le_refl _))⟩
  exact ⟨by rw [List.length_reverse]; exact hz, _, r.reverse, ⟨_, Heap.get?_push_size _ rfl, rfl, _, rfl⟩⟩
end
end Nz
namespace Nz
open PySem PySem.Spec PyProof.Rows L2
/-! ### rules that take several kinds of values -/
section
variable {X : Cx} {K : PySem.W.Frag}
theorem or_op {f : Value → Value → Sem Value} {r r' : R2} (h : OpR X f r) (h' : OpR X f r') : OpR X f (fun x y H Q => r x y H Q ∨ r' x y H Q) := by
  intro pins s σ H x y v u Q I rx ry q
  rcases q with q | q
  · exact h pins s σ H x y v u Q I rx ry q
  · exact h' pins s σ H x y v u Q I rx ry q
theorem or_call {f : Value} {r r' : List V → Hp → VK → Prop} (h : CallR X f r) (h' : CallR X f r') : CallR X f (fun x H Q => r x H Q ∨ r' x H Q) := by
  intro pins s σ H xs us Q I rx q
  rcases q with q | q
  · exact h pins s σ H xs us Q I rx q
  · exact h' pins s σ H xs us Q I rx q
theorem or_iter {tg e : Expr} {t t' : TI} (h : PI X tg e t) (h' : PI X tg e t') : PI X tg e (fun σ H R => t σ H R ∨ t' σ H R) :=
  ⟨fun pins s σ H R I q => q.elim (h.run pins s σ H R I) (h'.run pins s σ H R I)⟩
/-- len of a list or tuple; of a text -/
def rLn (K : PySem.W.Frag) : List V → Hp → VK → Prop := fun vs H Q => (∃ p ys, vs = [.ref p] ∧ (SqL K H p ys ∨ SqT K H p ys) ∧ Q (.int ys.length) H) ∨ ∃ z, vs = [.str z] ∧ z.length ≤ sizeLine ∧ Q (.int z.length) H
theorem c_len : CallR X (.builtin "len") (rLn X.K) := or_call call_len_seq call_len_str
def rTupOf (K : PySem.W.Frag) : List V → Hp → VK → Prop := fun vs H Q => ∃ p ys, vs = [.ref p] ∧ ((SqL K H p ys ∧ ∀ l, H l = none → Q (.ref l) (upd H l (.tup ys))) ∨ (SqT K H p ys ∧ Q (.ref p) H))
theorem c_tuple : CallR X (.type "tuple") (rTupOf X.K) := call_tuple_of
def rLstOf (K : PySem.W.Frag) : List V → Hp → VK → Prop := fun vs H Q => ∃ p ys, vs = [.ref p] ∧ (SqL K H p ys ∨ SqT K H p ys) ∧ ∀ l, H l = none → Q (.ref l) (upd H l (.lst ys))
theorem c_list : CallR X (.type "list") (rLstOf X.K) := call_list_of
def rIntOf : List V → Hp → VK → Prop := fun vs H Q => ∃ i, vs = [.int i] ∧ Q (.int i) H
theorem c_int : CallR X (.type "int") rIntOf := by
  intro pins s σ H xs us Q I r ⟨i, e, q⟩
  exact call_int1 pins s σ H xs us Q I r (.inl ⟨i, e, q⟩)
/-- a slice of a list, a tuple, a text -/
def rSl (K : PySem.W.Frag) : V → Option Int → Option Int → Hp → VK → Prop := fun x lo hi H Q => rSlL K x lo hi H Q ∨ rSlA K x lo hi H Q ∨ rSlS x lo hi H Q
theorem sl_any : SlR X (rSl X.K) := sl_list.or (sl_tupA.or sl_str)
/-- + of ints; of texts; of lists; of tuples -/
def rAd (K : PySem.W.Frag) : R2 := fun x y H Q => (∃ i j, x = .int i ∧ y = .int j ∧ Q (.int (i + j)) H) ∨ (∃ i j, x = .str i ∧ y = .str j ∧ i.length + j.length ≤ sizeLine ∧ Q (.str (i ++ j)) H) ∨ rCat x y H Q ∨ rCatA K x y H Q
theorem ad_any : OpR X (binaryOp .Add) (rAd X.K) := or_op op_add (or_op op_add_str (or_op op_cat op_catA))
def rAdS : R2 := fun x y H Q => ∃ i j, x = .str i ∧ y = .str j ∧ i.length + j.length ≤ sizeLine ∧ Q (.str (i ++ j)) H
theorem ad_str : OpR X (binaryOp .Add) rAdS := op_add_str
/-- == of flat things; of data -/
def rEqA (K : PySem.W.Frag) : R2 := fun x y H Q => (scal x y = true ∧ Q (.bl (decide (x = y))) H) ∨ rEqD K x y H Q
theorem eq_any (hu : X.A.units + 64 < cLine) : OpR X (compareOp .Eq) (rEqA X.K) := or_op op_eq (op_eqD hu)
def rNeA (K : PySem.W.Frag) : R2 := fun x y H Q => (scal x y = true ∧ Q (.bl (!decide (x = y))) H) ∨ rNeD K x y H Q
theorem ne_any (hu : X.A.units + 64 < cLine) : OpR X (compareOp .NotEq) (rNeA X.K) := or_op op_ne (op_neD hu)
/-- a for over a list or a tuple -/
def iSeq (K : PySem.W.Frag) (tl : TE) : TI := fun σ H R => iList K tl σ H R ∨ iTup K tl σ H R
theorem pi_seq {tg l : Expr} {tl : TE} (hl : PE X l tl) : PI X tg l (iSeq X.K tl) := or_iter (pi_list hl) (pi_tup hl)
end
end Nz
namespace Nz
open PySem PySem.Spec PyProof.Rows L2
/-! ### the text -/
def topS (i : Nat) : Stmt := PySem.Challenge.pw_oneofeach_k09_making_a_kind.main.body.getD i (.Pass ⟨0, 0, 0, 0⟩)
abbrev s_atoms_of : Stmt := topS 9
theorem sc_atoms_of : FnScope ["formula", "atoms", "part"] ["formula"] (defScope s_atoms_of) :=
  ⟨rfl, rfl, rfl, by decide +kernel, rfl, by decide +kernel, by decide +kernel⟩

abbrev s_cell : Stmt := topS 15
theorem sc_cell : FnScope ["script", "k"] ["script", "k"] (defScope s_cell) :=
  ⟨rfl, rfl, rfl, by decide +kernel, rfl, by decide +kernel, by decide +kernel⟩

abbrev s_digits : Stmt := topS 16
theorem sc_digits : FnScope ["cell", "many", "count", "digits", "rest", "k", "mixed"] ["cell", "many", "count"] (defScope s_digits) :=
  ⟨rfl, rfl, rfl, by decide +kernel, rfl, by decide +kernel, by decide +kernel⟩

abbrev s_equal : Stmt := topS 17
theorem sc_equal : FnScope ["actual", "expected", "k"] ["actual", "expected"] (defScope s_equal) :=
  ⟨rfl, rfl, rfl, by decide +kernel, rfl, by decide +kernel, by decide +kernel⟩

abbrev s_names : Stmt := topS 18
theorem sc_names : FnScope ["cell", "count", "words", "small", "inner", "digits", "names", "k", "row", "way", "name", "at", "middle", "j"] ["cell", "count"] (defScope s_names) :=
  ⟨rfl, rfl, rfl, by decide +kernel, rfl, by decide +kernel, by decide +kernel⟩

abbrev s_relations : Stmt := topS 19
theorem sc_relations : FnScope ["cell", "names", "digits", "relations", "k", "shape", "many", "name", "values"] ["cell", "names"] (defScope s_relations) :=
  ⟨rfl, rfl, rfl, by decide +kernel, rfl, by decide +kernel, by decide +kernel⟩

abbrev s_some : Stmt := topS 20
theorem sc_some : FnScope ["relations", "stranger", "cell", "offered", "odd"] ["relations", "stranger", "cell"] (defScope s_some) :=
  ⟨rfl, rfl, rfl, by decide +kernel, rfl, by decide +kernel, by decide +kernel⟩

abbrev s_atom : Stmt := topS 21
theorem sc_atom : FnScope ["digit", "count", "relations", "fitting", "relation", "rest", "variables", "chosen", "k", "at"] ["digit", "count", "relations"] (defScope s_atom) :=
  ⟨rfl, rfl, rfl, by decide +kernel, rfl, by decide +kernel, by decide +kernel⟩

abbrev s_formula : Stmt := topS 22
theorem sc_formula : FnScope ["cell", "count", "relations", "most", "digits", "trees", "k", "choice", "rest", "second"] ["cell", "count", "relations", "most"] (defScope s_formula) :=
  ⟨rfl, rfl, rfl, by decide +kernel, rfl, by decide +kernel, by decide +kernel⟩

abbrev s_atoms : Stmt := topS 23
theorem sc_atoms : FnScope ["formula", "atoms", "left", "k", "tree", "inner"] ["formula"] (defScope s_atoms) :=
  ⟨rfl, rfl, rfl, by decide +kernel, rfl, by decide +kernel, by decide +kernel⟩

abbrev s_kind_wrong : Stmt := topS 24
theorem sc_kind_wrong : FnScope ["relations", "sentences", "known", "k", "sentence", "atom", "relation"] ["relations", "sentences"] (defScope s_kind_wrong) :=
  ⟨rfl, rfl, rfl, by decide +kernel, rfl, by decide +kernel, by decide +kernel⟩

abbrev s_outcome : Stmt := topS 25
theorem sc_outcome : FnScope ["relations", "sentences", "others"] ["relations", "sentences"] (defScope s_outcome) :=
  ⟨rfl, rfl, rfl, by decide +kernel, rfl, by decide +kernel, by decide +kernel⟩

abbrev s_check_names : Stmt := topS 12
theorem sc_check_names : FnScope ["relations", "seen", "relation"] ["relations"] (defScope s_check_names) :=
  ⟨rfl, rfl, rfl, by decide +kernel, rfl, by decide +kernel, by decide +kernel⟩

abbrev s_check_atoms : Stmt := topS 13
theorem sc_check_atoms : FnScope ["relations", "formula", "arities", "atom", "name", "relation"] ["relations", "formula"] (defScope s_check_atoms) :=
  ⟨rfl, rfl, rfl, by decide +kernel, rfl, by decide +kernel, by decide +kernel⟩

abbrev s_law : Stmt := topS 26
theorem sc_law : FnScope ["script", "names", "relations", "offered", "sentences", "k", "count", "wrong", "first_list", "second_list", "kind", "other"] ["script"] (defScope s_law) :=
  ⟨rfl, rfl, rfl, by decide +kernel, rfl, by decide +kernel, by decide +kernel⟩

/-- the three errors' and Kind's own __init__ -/
abbrev s_unk : Stmt := inClass (topS 3) 0
abbrev s_dup : Stmt := inClass (topS 4) 0
abbrev s_ari : Stmt := inClass (topS 5) 0
abbrev s_kind : Stmt := inClass (topS 11) 0
theorem sc_unk : FnScope ["self", "name"] ["self", "name"] (defScope s_unk) :=
  ⟨rfl, rfl, rfl, by decide +kernel, rfl, by decide +kernel, by decide +kernel⟩
theorem sc_dup : FnScope ["self", "name"] ["self", "name"] (defScope s_dup) :=
  ⟨rfl, rfl, rfl, by decide +kernel, rfl, by decide +kernel, by decide +kernel⟩
theorem sc_ari : FnScope ["self", "name"] ["self", "name"] (defScope s_ari) :=
  ⟨rfl, rfl, rfl, by decide +kernel, rfl, by decide +kernel, by decide +kernel⟩
theorem sc_kind : FnScope ["self", "relations", "sentences", "sentence"] ["self", "relations", "sentences"] (defScope s_kind) :=
  ⟨rfl, rfl, rfl, by decide +kernel, rfl, by decide +kernel, by decide +kernel⟩
end Nz
namespace Nz
open PySem PySem.Spec PyProof.Rows L2
/-! ### the mathematics -/
def rng (n : Int) : List Int := (List.range n.toNat).map fun i => ((i : Nat) : Int)
theorem rng_length (n : Int) : (rng n).length = n.toNat := by
  unfold rng
  rw [List.length_map, List.length_range]
theorem rgV_rng (n : Int) : rgV 0 n = (rng n).map V.int := by
  unfold rgV rng
  rw [List.map_map, Int.sub_zero]
  refine List.map_congr_left fun i _ => ?_
  show V.int (0 + (i : Nat)) = V.int ((i : Nat) : Int)
  rw [Int.zero_add]
theorem rng_sorted (n : Int) : (rng n).Pairwise (· ≤ ·) := by
  unfold rng
  rw [List.pairwise_map]
  exact List.pairwise_lt_range.imp fun h => by omega
def isRen (ns : List Int) (n : Int) : Bool := (rng n).isPerm ns
theorem ren_eq {ns ms : List Int} (n : Int) (hp : ms.Perm ns) (hs : ms.Pairwise (· ≤ ·)) : decide (ms = rng n) = isRen ns n := by
  unfold isRen
  rw [Bool.eq_iff_iff, decide_eq_true_iff, List.isPerm_iff]
  exact ⟨fun e => e ▸ hp, fun h => PySem.W.ksm_same (hp.trans h.symm) hs (rng_sorted n)⟩
/-! ### data -/
theorem dpInts {K : PySem.W.Frag} {H : Hp} : ∀ ns : List Int, DpAll K H (ns.map V.int) (ns.map PyData.int)
  | [] => .nil
  | n :: r => .cons (.int n) (dpInts r)
theorem layInts : ∀ ns : List Int, PyData.canLayAll0 (ns.map PyData.int) = true
  | [] => by simp [PyData.canLayAll0]
  | n :: r => by simp [PyData.canLayAll0, PyData.canLay0, layInts r]
theorem depInts : ∀ ns : List Int, PyData.depthAll (ns.map PyData.int) ≤ 1
  | [] => by simp [PyData.depthAll]
  | n :: r => by
    have := depInts r
    simp [PyData.depthAll, PyData.depth]
    try omega
theorem shInts (ns : List Int) : SeqAt.shaped (.list (ns.map PyData.int)) = true := by
  have h := depInts ns
  have h2 : PyData.depthAll (ns.map PyData.int) + 1 ≤ 64 := by omega
  simpa [SeqAt.shaped, PyData.canLay0, layInts ns, PyData.depth] using h2
theorem shIntsT (ns : List Int) : SeqAt.shaped (.tuple (ns.map PyData.int)) = true := by
  have h := depInts ns
  have h2 : PyData.depthAll (ns.map PyData.int) + 1 ≤ 64 := by omega
  simpa [SeqAt.shaped, PyData.canLay0, layInts ns, PyData.depth] using h2
theorem eqvInts : ∀ ms ns : List Int, PyData.eqvAll (ms.map PyData.int) (ns.map PyData.int) = decide (ms = ns)
  | [], [] => by simp [PyData.eqvAll]
  | [], _ :: _ => by simp [PyData.eqvAll]
  | _ :: _, [] => by simp [PyData.eqvAll]
  | m :: r, n :: t => by
    simp only [List.map_cons, PyData.eqvAll, eqvInts r t]
    by_cases h : m = n <;> by_cases h2 : r = t <;> simp [h, h2, PyData.eqv]
theorem eqvL (ms ns : List Int) : PyData.eqv (.list (ms.map .int)) (.list (ns.map .int)) = decide (ms = ns) := by
  rw [← eqvInts]
  simp [PyData.eqv]
theorem eqvT (ms ns : List Int) : PyData.eqv (.tuple (ms.map .int)) (.tuple (ns.map .int)) = decide (ms = ns) := by
  rw [← eqvInts]
  simp [PyData.eqv]
theorem same_new {H : Hp} {p : Addr} {o : HO} (h : H p = none) : Same H (upd H p o) := fun b x e => by
  rw [upd_ne (ne_of_none e h)]
  exact e
theorem upd_more {H : Hp} {p : Addr} {o : HO} {ds : List Int} {d : Int} : upd (upd H p o) p (.lst (ds.map V.int ++ [.int d])) = upd H p (.lst ((ds ++ [d]).map V.int)) := by
  rw [upd_upd, List.map_append]
  rfl
theorem taken_perm {α : Type} {l : List α} {i : Nat} {y : α} (h : l[i]? = some y) : (y :: l.eraseIdx i).Perm l := by
  obtain ⟨hi, e⟩ := List.getElem?_eq_some_iff.mp h
  have e2 : l = l.take i ++ y :: l.drop (i + 1) := by
    rw [← e, ← List.drop_eq_getElem_cons hi, List.take_append_drop]
  rw [List.eraseIdx_eq_take_drop_succ]
  conv => rhs; rw [e2]
  exact List.perm_middle.symm
theorem pop_perm {α : Type} {ns rs all : List α} {i : Nat} {y : α} (h : rs[i]? = some y) (p : (ns ++ rs).Perm all) : ((ns ++ [y]) ++ rs.eraseIdx i).Perm all := by
  refine List.Perm.trans ?_ p
  rw [List.append_assoc]
  exact List.Perm.append_left ns (taken_perm h)
theorem mem_rng {n : Nat} {x : Int} (h : x ∈ rng n) : 0 ≤ x ∧ x < n := by
  unfold rng at h
  obtain ⟨i, hi, e⟩ := List.mem_map.mp h
  have := List.mem_range.mp hi
  omega
theorem nodup_rng (n : Int) : (rng n).Nodup := by
  unfold rng
  unfold List.Nodup
  rw [List.pairwise_map]
  exact List.pairwise_lt_range.imp fun h => by omega
theorem at_map {ns : List Int} {i : Nat} (h : i < ns.length) : (ns.map V.int)[i]? = some (.int ns[i]) := by
  rw [List.getElem?_map, List.getElem?_eq_getElem h]
  rfl
theorem sameT {K : PySem.W.Frag} {H H' : Hp} {a : Addr} {xs : List V} (e : Same H H') (h : SqT K H a xs) : SqT K H' a xs := by
  rcases h with (h | ⟨o, h⟩) | h
  · exact .inl (.inl (e _ _ h))
  · exact .inl (.inr ⟨o, e _ _ h⟩)
  · exact .inr h
theorem tyL {K : PySem.W.Frag} {H : Hp} {a : Addr} {xs : List V} (h : SqL K H a xs) : TyX K H (.ref a) (.type "list") := by
  rcases h with (h | ⟨o, h⟩) | ⟨o, its, n, h, hc, _⟩
  · exact .base (.lst h)
  · exact .base (.frz h)
  · exact .kList h hc
theorem tyT {K : PySem.W.Frag} {H : Hp} {a : Addr} {xs : List V} (h : SqT K H a xs) : TyX K H (.ref a) (.type "tuple") := by
  rcases h with (h | ⟨o, h⟩) | ⟨o, its, n, h, hc, _⟩
  · exact .base (.tup h)
  · exact .fTuple h
  · exact .kTuple h hc
theorem line6 {n : Nat} (h : n ≤ 1000000) : n < sizeLine := by
  rw [sizeLine_eq]
  omega
theorem free_same {H H' : Hp} (e : Same H H') {p : Addr} (h : H' p = none) : H p = none := e.free h
end Nz
namespace Nz
open PySem PySem.Spec PyProof.Rows L2
section
variable {P : Program} {w : World} {K : PySem.W.Frag} {mg : Str → Option Value} {base : Heap}
/-! ### _law_cell -/
def spCell (K : PySem.W.Frag) : Sp := fun vs H Q _ => ∃ (a : Addr) (ns : List Int) (k : Nat), vs = [.ref a, .int k] ∧ SqL K H a (ns.map V.int) ∧ ns.length ≤ 63 ∧ k ≤ 1000 ∧ ∀ c : Int, Q (.int c) H
theorem ok_cell {k : Nat} {f : Addr} {fd : FuncData} (F : Fun K "_law_cell" "_law_cell" s_cell f fd) (m_len : mg "len" = none) (m_int : mg "int" = none) :
    FnOk P w K mg base CX0 (k + 1) f fd ["script", "k"] (spCell K) := by
  refine F.ok sc_cell (fun vs H Q E h => ?_) (fun cdv A outer s H vs Q E hr h => ?_)
  · obtain ⟨a, ns, k, rfl, _⟩ := h
    rfl
  obtain ⟨a, ns, k, rfl, hS, h63, hk, q⟩ := h
  refine ⟨_, (pss_cons (ps_if (pt_cmpR op_lt (pv 1) (pe_callB (r := rLn K) c_len rfl m_len (by decide +kernel) (pa_cons (pv 0) pa_nil)) (nomark _)) (pss_one (ps_ret (pe_ix (r := rIx K) ix_seq (pv 0) (pv 1) (fun _ _ => rfl)))) pss_nil)
    (pss_cons (ps_if (pt_cmpR op_eq (pe_callB (r := rLn K) c_len rfl m_len (by decide +kernel) (pa_cons (pv 0) pa_nil)) pe_int (nomark _)) (pss_one (ps_ret (pe_op op_mul (pv 1) pe_int))) pss_nil)
    (pss_one (ps_ret (pe_op op_add (pe_op op_mul (pe_ix (r := rIx K) ix_seq (pv 0) (pe_op op_mod (pe_callTy (r := rIntOf) c_int rfl m_int (by decide +kernel) (pa_cons (pv 1) pa_nil)) (pe_callB (r := rLn K) c_len rfl m_len (by decide +kernel) (pa_cons (pv 0) pa_nil))) (fun _ _ => rfl)) pe_int) (pe_op op_mul (pv 1) pe_int)))))), ?_⟩
  have at_ : ∀ j : Nat, j < ns.length → ∀ Q' : VK, (∀ c, Q' (.int c) H) → rIx K (.ref a) (.int j) H Q' := fun j hj Q' q' =>
    .inl ⟨a, _, _, _, rfl, rfl, hS, atI_nat (at_map hj), q' _⟩
  refine ⟨_, rfl, _, rfl, .inl ⟨a, _, rfl, .inl hS, _, _, rfl, rfl, _, rfl, ite2 (fun c => ?_) (fun c => ?_)⟩⟩
  · have c' : (k : Int) < (((ns.map V.int).length : Nat) : Int) := of_decide_eq_true c
    rw [List.length_map] at c'
    exact ⟨_, rfl, _, rfl, at_ k (by omega) _ q⟩
  refine ⟨_, rfl, .inl ⟨a, _, rfl, .inl hS, rfl, _, rfl, ite2 (fun c => ?_) (fun c => ?_)⟩⟩
  · exact ⟨_, rfl, _, _, rfl, rfl, .inr ⟨by decide, by decide⟩, q _⟩
  · have c' : ¬ ((((ns.map V.int).length : Nat) : Int) = 0) := fun z => c (by rw [decide_eq_true_iff, z])
    rw [List.length_map] at c'
    have pos : (0 : Int) < (((ns.map V.int).length : Nat) : Int) := by
      rw [List.length_map]
      omega
    have e0 := Int.emod_nonneg (k : Int) (show (((ns.map V.int).length : Nat) : Int) ≠ 0 by omega)
    have e1 := Int.emod_lt_of_pos (k : Int) pos
    rw [List.length_map] at e0 e1
    refine ⟨_, rfl, _, rfl, _, rfl, _, rfl, .inl ⟨a, _, rfl, .inl hS, _, _, rfl, rfl, pos, ?_⟩⟩
    dsimp only
    rw [List.length_map]
    obtain ⟨j, hj⟩ : ∃ j : Nat, (k : Int) % (ns.length : Int) = (j : Int) := ⟨((k : Int) % (ns.length : Int)).toNat, by omega⟩
    rw [hj]
    exact at_ j (by omega) _ fun c => ⟨_, _, rfl, rfl, .inr ⟨by decide, by decide⟩, _, rfl, _, _, rfl, rfl, .inr ⟨by decide, by decide⟩, _, _, rfl, rfl, q _⟩
/-! ### _law_digits -/
def spDig (K : PySem.W.Frag) : Sp := fun vs H Q _ => ∃ (c many n : Int), vs = [.int c, .int many, .int n] ∧ 0 < many ∧ many < 2 ^ 200 ∧ 0 ≤ n ∧ n ≤ 10000 ∧
  ∀ (ds : List Int) (p : Addr), ds.length = n.toNat → (∀ d ∈ ds, 0 ≤ d ∧ d < many) → H p = none → Q (.ref p) (upd H p (.lst (ds.map V.int)))
theorem ok_digits {k : Nat} {f : Addr} {fd : FuncData} (F : Fun K "_law_digits" "_law_digits" s_digits f fd) (m_range : mg "range" = none) (m_int : mg "int" = none) :
    FnOk P w K mg base CX0 (k + 1) f fd ["cell", "many", "count"] (spDig K) := by
  refine F.ok sc_digits (fun vs H Q E h => ?_) (fun cdv A outer s H vs Q E hr h => ?_)
  · obtain ⟨c, many, n, rfl, _⟩ := h
    rfl
  obtain ⟨c, many, n, rfl, m0, m1, n0, hn, q⟩ := h
  refine ⟨_, (pss_cons (ps_set (i := 3) sc_digits.nd rfl (.inl rfl) (pe_lst pa_nil))
    (pss_cons (ps_set (i := 4) sc_digits.nd rfl (.inl rfl) (pv 0))
    (pss_cons (ps_for PassesOwn.never rfl (pi_range1 rfl m_range (pa_cons (pv 2) pa_nil)) (pg_name (i := 5) sc_digits.nd rfl (.inl rfl))
      (pss_one (ps_if (pt_cmpR op_ge (pv 0) (pe_op op_pow pe_int pe_int) (nomark _)) (pss_cons (ps_expr (pe_bm PySem.F.plainAttrs_list PySem.F.slot_list_append PySem.F.type_list_append mt_append (pv 3) (pa_cons (pe_op op_mod (pe_callTy (r := rIntOf) c_int rfl m_int (by decide +kernel) (pa_cons (pv 4) pa_nil)) (pv 1)) pa_nil)))
    (pss_one (ps_set (i := 4) sc_digits.nd rfl (.inl rfl) (pe_op op_fdivW (pv 4) (pv 1))))) (pss_cons (ps_set (i := 6) sc_digits.nd rfl (.inl rfl) (pe_op op_mod (pe_callTy (r := rIntOf) c_int rfl m_int (by decide +kernel) (pa_cons (pe_op op_add (pe_op op_add (pe_op op_mul (pv 0) pe_int) (pe_op op_mul (pv 5) pe_int)) pe_int) pa_nil)) pe_int))
    (pss_cons (ps_set (i := 6) sc_digits.nd rfl (.inl rfl) (pe_op op_mod (pe_callTy (r := rIntOf) c_int rfl m_int (by decide +kernel) (pa_cons (pe_op op_add (pe_op op_add (pe_op op_mul (pv 6) (pv 6)) (pe_op op_mul pe_int (pv 6))) (pe_op op_mul pe_int (pv 5))) pa_nil)) pe_int))
    (pss_one (ps_expr (pe_bm PySem.F.plainAttrs_list PySem.F.slot_list_append PySem.F.type_list_append mt_append (pv 3) (pa_cons (pe_op op_mod (pe_callTy (r := rIntOf) c_int rfl m_int (by decide +kernel) (pa_cons (pe_op op_fdivW (pv 6) pe_int) pa_nil)) (pv 1)) pa_nil)))))))))
    (pss_one (ps_ret (pv 3)))))), ?_⟩
  have wide : CDivW 0 many := wide_div (b := 200) m0 (by omega) (by decide) (by decide)
  have w31 : ∀ x : Int, ∀ y : Int, 0 < y → y < 1000 → CDivW x y := fun x y h0 h1 => wide_div (b := 10) h0 (by omega) (by decide) (by decide)
  refine ⟨Nat.zero_le _, fun p np => ?_⟩
  refine ⟨.int c, rfl, .int n, rfl, n, rfl, by omega, by omega, ?_⟩
  refine for_range (lo := 0) (n := n.toNat) (fun i σ H1 => ∃ (r : Int) (kv mv : Option V) (ds : List Int),
      σ = [some (.int c), some (.int many), some (.int n), some (.ref p), some (.int r), kv, mv] ∧ ds.length = i ∧ (∀ d ∈ ds, 0 ≤ d ∧ d < many) ∧
      H1 = upd H p (.lst (ds.map V.int))) ⟨c, none, none, [], rfl, rfl, by simp, rfl⟩ ?_ ?_
  · rintro i σ H1 hi ⟨r, kv, mv, ds, rfl, hl, hd, rfl⟩
    have hi' : (i : Int) < n := by omega
    have more : ∀ d : Int, 0 ≤ d → d < many → ∀ e ∈ ds ++ [d], 0 ≤ e ∧ e < many := fun d h1 h2 e he => by
      rcases List.mem_append.mp he with h | h
      · exact hd e h
      · rw [List.mem_singleton.mp h]
        exact ⟨h1, h2⟩
    have z : (ds.map V.int).length < sizeLine := by
      rw [List.length_map]
      exact line6 (by omega)
    refine ⟨.int c, rfl, _, _, rfl, rfl, ⟨by decide, by decide, by decide⟩, _, _, rfl, rfl, _, rfl, ite2 (fun _ => ?_) (fun _ => ?_)⟩
    · refine ⟨.ref p, rfl, .inl ⟨rfl, _, .inl (.inl upd_same)⟩, .int r, rfl, r, rfl, .int many, rfl, r, many, rfl, rfl, m0, p, _, _, rfl, rfl, upd_same, z, ?_⟩
      refine ⟨.int r, rfl, .int many, rfl, r, many, rfl, rfl, wide, r / many, _, mv, ds ++ [r % many], rfl, by simp [hl],
        more _ (Int.emod_nonneg _ (by omega)) (Int.emod_lt_of_pos _ m0), upd_more⟩
    · refine ⟨.int c, rfl, c, _, rfl, rfl, .inr ⟨by decide, by decide⟩, .int (0 + (i : Nat)), rfl, _, _, rfl, rfl, .inr ⟨by decide, by decide⟩, _, _, rfl, rfl, _, _, rfl, rfl,
        _, rfl, _, _, rfl, rfl, (by decide : (0 : Int) < 2147483647), ?_⟩
      refine ⟨_, rfl, _, rfl, _, _, rfl, rfl, .inl ⟨Int.lt_of_lt_of_le (by decide) (Int.emod_nonneg _ (by decide)), Int.lt_trans (Int.emod_lt_of_pos _ (by decide)) (by decide)⟩,
        _, rfl, _, _, rfl, rfl, .inl ⟨by decide, by decide⟩, _, _, rfl, rfl, .int (0 + (i : Nat)), rfl, _, _, rfl, rfl, .inl ⟨by decide, by decide⟩, _, _, rfl, rfl, _, rfl, _, _, rfl, rfl, (by decide : (0 : Int) < 2147483629), ?_⟩
      refine ⟨.ref p, rfl, .inl ⟨rfl, _, .inl (.inl upd_same)⟩, _, rfl, _, _, rfl, rfl, w31 _ _ (by decide) (by decide), _, rfl, .int many, rfl, _, many, rfl, rfl, m0, p, _, _, rfl, rfl, upd_same, z, ?_⟩
      refine ⟨r, _, _, ds ++ [_], rfl, by simp [hl], ?m, upd_more⟩
      exact more _ (Int.emod_nonneg _ (by omega)) (Int.emod_lt_of_pos _ m0)
  · rintro σ H1 ⟨r, kv, mv, ds, rfl, hl, hd, rfl⟩
    exact ⟨.ref p, rfl, q ds p (by omega) hd np⟩
end
end Nz
namespace Nz
open PySem PySem.Spec PyProof.Rows L2
/-! ### _law_equal: equal data are told to be equal -/
/-- data of ints, bools, texts, lists and tuples, less than n deep, not too long -/
def Pl : Nat → PyData → Prop
  | 0, _ => False
  | _ + 1, .int _ => True
  | _ + 1, .bool _ => True
  | _ + 1, .str _ => True
  | n + 1, .list ds => ds.length ≤ 1000000 ∧ ∀ d ∈ ds, Pl n d
  | n + 1, .tuple ds => ds.length ≤ 1000000 ∧ ∀ d ∈ ds, Pl n d
  | _ + 1, _ => False
section
variable {K : PySem.W.Frag} {H H' : Hp}
mutual
theorem dpSame (e : Same H H') : ∀ (d : PyData) (x : V), Dp K H x d → Dp K H' x d
  | .none, _, h => by
    cases h
    exact .non
  | .bool _, _, h => by
    cases h
    exact .bl _
  | .int _, _, h => by
    cases h
    exact .int _
  | .str _, _, h => by
    cases h
    exact .str _
  | .list ds, _, h => by
    cases h with
    | lst hs ha => exact .lst (e.seq hs) (dpSameAll e ds _ ha)
  | .tuple ds, _, h => by
    cases h with
    | tup hs ha => exact .tup (sameT e hs) (dpSameAll e ds _ ha)
  | .dict _, _, h => by cases h
theorem dpSameAll (e : Same H H') : ∀ (ds : List PyData) (xs : List V), DpAll K H xs ds → DpAll K H' xs ds
  | [], _, h => by
    cases h
    exact .nil
  | d :: ds, _, h => by
    cases h with
    | cons h1 h2 => exact .cons (dpSame e d _ h1) (dpSameAll e ds _ h2)
end
theorem dpLen : ∀ {ds : List PyData} {xs : List V}, DpAll K H xs ds → xs.length = ds.length
  | [], _, h => by
    cases h
    rfl
  | d :: ds, _, h => by
    cases h with
    | cons h1 h2 => rw [List.length_cons, List.length_cons, dpLen h2]
theorem dpAt : ∀ {ds : List PyData} {xs : List V} {i : Nat}, DpAll K H xs ds → i < ds.length → ∃ x d, xs[i]? = some x ∧ ds[i]? = some d ∧ Dp K H x d
  | [], _, _, _, h => absurd h (Nat.not_lt_zero _)
  | d :: ds, _, 0, h, _ => by
    cases h with
    | cons h1 h2 => exact ⟨_, _, rfl, rfl, h1⟩
  | d :: ds, _, i + 1, h, hi => by
    cases h with
    | cons h1 h2 =>
      obtain ⟨x, e, a, b, c⟩ := dpAt (i := i) h2 (by
        rw [List.length_cons] at hi
        omega)
      exact ⟨x, e, a, b, c⟩
end
section
variable {P : Program} {w : World} {K : PySem.W.Frag} {mg : Str → Option Value} {base : Heap}
def spEq (K : PySem.W.Frag) (n : Nat) : Sp := fun vs H Q _ => ∃ x y d, vs = [x, y] ∧ Dp K H x d ∧ Dp K H y d ∧ Pl n d ∧ ∀ H', Same H H' → Q (.bl true) H'
theorem eq0 {f : Addr} {fd : FuncData} : FnOk P w K mg base CX0 0 f fd ["actual", "expected"] (spEq K 0) := by
  have no : ∀ vs H Q E, ¬ spEq K 0 vs H Q E := fun vs H Q E ⟨x, y, d, _, _, _, h, _⟩ => h
  exact ⟨fun vs H Q E h => absurd h (no vs H Q E), fun A outer s H args us vs Q E _ _ _ _ h => absurd h (no vs H Q E)⟩
set_option maxHeartbeats 1000000 in
theorem eq_more {n : Nat} {f : Addr} {fd : FuncData} (F : Fun K "_law_equal" "_law_equal" s_equal f fd) (G_equal : FnOk P w K mg base CX0 n f fd ["actual", "expected"] (spEq K n)) (b_equal : Binds K fd ["actual", "expected"] []) (k_equal : PySem.W.keepIn K (.ref f) = true) (g_equal : mg "_law_equal" = some (.ref f))
    (m_all : mg "all" = none) (m_bool : mg "bool" = none) (m_int : mg "int" = none) (m_isinstance : mg "isinstance" = none) (m_len : mg "len" = none) (m_list : mg "list" = none) (m_range : mg "range" = none) (m_str : mg "str" = none) (m_tuple : mg "tuple" = none) : FnOk P w K mg base CX0 (n + 1) f fd ["actual", "expected"] (spEq K (n + 1)) := by
  refine F.ok sc_equal (fun vs H Q E h => ?_) (fun cdv A outer s H vs Q E hr h => ?_)
  · obtain ⟨x, y, d, rfl, _⟩ := h
    rfl
  have hr_equal := hr
  obtain ⟨x, y, d, rfl, hx, hy, hp, q⟩ := h
  refine ⟨_, (pss_cons (ps_if (PW.pt (pw_or (pt_val (pe_callB (r := rIsi K) call_isi rfl m_isinstance (by decide +kernel) (pa_cons (pv 1) (pa_cons (pe_bltn (v := .ty "list") (u := .type "list") rfl m_list (by decide +kernel) rfl) pa_nil)))) (pw_or1 (pt_val (pe_callB (r := rIsi K) call_isi rfl m_isinstance (by decide +kernel) (pa_cons (pv 1) (pa_cons (pe_bltn (v := .ty "tuple") (u := .type "tuple") rfl m_tuple (by decide +kernel) rfl) pa_nil))))))) (pss_cons (ps_if (PW.pt (pw_and (pt_val (pe_callB (r := rIsi K) call_isi rfl m_isinstance (by decide +kernel) (pa_cons (pv 1) (pa_cons (pe_bltn (v := .ty "list") (u := .type "list") rfl m_list (by decide +kernel) rfl) pa_nil)))) (pw_and1 (pt_not (pt_val (pe_callB (r := rIsi K) call_isi rfl m_isinstance (by decide +kernel) (pa_cons (pv 0) (pa_cons (pe_bltn (v := .ty "list") (u := .type "list") rfl m_list (by decide +kernel) rfl) pa_nil)))))))) (pss_one (ps_ret pe_bl)) pss_nil)
    (pss_cons (ps_if (PW.pt (pw_and (pt_val (pe_callB (r := rIsi K) call_isi rfl m_isinstance (by decide +kernel) (pa_cons (pv 1) (pa_cons (pe_bltn (v := .ty "tuple") (u := .type "tuple") rfl m_tuple (by decide +kernel) rfl) pa_nil)))) (pw_and1 (pt_not (pt_val (pe_callB (r := rIsi K) call_isi rfl m_isinstance (by decide +kernel) (pa_cons (pv 0) (pa_cons (pe_bltn (v := .ty "tuple") (u := .type "tuple") rfl m_tuple (by decide +kernel) rfl) pa_nil)))))))) (pss_one (ps_ret pe_bl)) pss_nil)
    (pss_cons (ps_if (pt_cmpR op_ne (pe_callB (r := rLn K) c_len rfl m_len (by decide +kernel) (pa_cons (pv 0) pa_nil)) (pe_callB (r := rLn K) c_len rfl m_len (by decide +kernel) (pa_cons (pv 1) pa_nil)) (nomark _)) (pss_one (ps_ret pe_bl)) pss_nil)
    (pss_one (ps_ret (pe_callB (r := rAll K) (cr_all rfl) rfl m_all (by decide +kernel) (pa_cons (pe_lc (own := [("k", 2)]) (g := gName 2) rfl sc_equal.nd (pi_range1 rfl m_range (pa_cons (pe_callB (r := rLn K) c_len rfl m_len (by decide +kernel) (pa_cons (pv 1) pa_nil)) pa_nil)) (blkOk_by (own := [("k", 2)]) (N := ["actual", "expected", "k"]) (sc := defScope s_equal) (by decide +kernel)) (fun _ _ _ _ _ => (pg_name (i := 2) sc_equal.nd rfl (.inl rfl))) (fun _ _ _ _ _ => pts_nil) (fun _ _ _ _ _ => (pe_call G_equal hr_equal rfl g_equal k_equal b_equal .nil pass0 (pa_cons (pe_ix (r := rIx K) ix_seq (pv 0) (pv 2) (fun _ _ => rfl)) (pa_cons (pe_ix (r := rIx K) ix_seq (pv 1) (pv 2) (fun _ _ => rfl)) pa_nil))))) pa_nil))))))) pss_nil)
    (pss_cons (ps_if (pt_val (pe_callB (r := rIsi K) call_isi rfl m_isinstance (by decide +kernel) (pa_cons (pv 1) (pa_cons (pe_bltn (v := .ty "bool") (u := .type "bool") rfl m_bool (by decide +kernel) rfl) pa_nil)))) (pss_one (ps_ret (pe_and (pe_callB (r := rIsi K) call_isi rfl m_isinstance (by decide +kernel) (pa_cons (pv 0) (pa_cons (pe_bltn (v := .ty "bool") (u := .type "bool") rfl m_bool (by decide +kernel) rfl) pa_nil))) (pe_one (pe_cmpR (r := rEqA K) (eq_any hr.units) (pv 0) (pv 1) (nomark _)))))) pss_nil)
    (pss_cons (ps_if (pt_val (pe_callB (r := rIsi K) call_isi rfl m_isinstance (by decide +kernel) (pa_cons (pv 1) (pa_cons (pe_bltn (v := .ty "int") (u := .type "int") rfl m_int (by decide +kernel) rfl) pa_nil)))) (pss_one (ps_ret (pe_and (pe_callB (r := rIsi K) call_isi rfl m_isinstance (by decide +kernel) (pa_cons (pv 0) (pa_cons (pe_bltn (v := .ty "int") (u := .type "int") rfl m_int (by decide +kernel) rfl) pa_nil))) (pe_and (pe_not (pe_callB (r := rIsi K) call_isi rfl m_isinstance (by decide +kernel) (pa_cons (pv 0) (pa_cons (pe_bltn (v := .ty "bool") (u := .type "bool") rfl m_bool (by decide +kernel) rfl) pa_nil)))) (pe_one (pe_cmpR (r := rEqA K) (eq_any hr.units) (pv 0) (pv 1) (nomark _))))))) pss_nil)
    (pss_one (ps_ret (pe_and (pe_callB (r := rIsi K) call_isi rfl m_isinstance (by decide +kernel) (pa_cons (pv 0) (pa_cons (pe_bltn (v := .ty "str") (u := .type "str") rfl m_str (by decide +kernel) rfl) pa_nil))) (pe_one (pe_cmpR (r := rEqA K) (eq_any hr.units) (pv 0) (pv 1) (nomark _))))))))), ?_⟩
  cases d with
  | none => exact hp.elim
  | dict _ => exact hp.elim
  | int i =>
    cases hx
    cases hy
    refine ⟨_, rfl, _, .ty "list", .type "int", .type "list", false, rfl, .ty _, .base (.int i), kit_ty (by decide +kernel), false, rfl, iteF ?_⟩
    refine ⟨_, rfl, _, .ty "tuple", .type "int", .type "tuple", false, rfl, .ty _, .base (.int i), kit_ty (by decide +kernel), false, rfl, iteF ?_⟩
    refine ⟨_, rfl, _, .ty "bool", .type "int", .type "bool", false, rfl, .ty _, .base (.int i), kit_ty (by decide +kernel), false, rfl, iteF ?_⟩
    refine ⟨_, rfl, _, .ty "int", .type "int", .type "int", true, rfl, .ty _, .base (.int i), kit_ty (by decide +kernel), true, rfl, iteT ?_⟩
    refine ⟨_, rfl, _, .ty "int", .type "int", .type "int", true, rfl, .ty _, .base (.int i), kit_ty (by decide +kernel), true, rfl, iteT ?_⟩
    refine ⟨_, rfl, _, .ty "bool", .type "int", .type "bool", false, rfl, .ty _, .base (.int i), kit_ty (by decide +kernel), false, rfl, true, rfl, iteT ?_⟩
    refine ⟨_, rfl, _, rfl, .inl ⟨rfl, ?_⟩⟩
    rw [decide_eq_true rfl]
    exact q H (Same.refl H)
  | bool b =>
    cases hx
    cases hy
    refine ⟨_, rfl, _, .ty "list", .type "bool", .type "list", false, rfl, .ty _, .base (.bl b), kit_ty (by decide +kernel), false, rfl, iteF ?_⟩
    refine ⟨_, rfl, _, .ty "tuple", .type "bool", .type "tuple", false, rfl, .ty _, .base (.bl b), kit_ty (by decide +kernel), false, rfl, iteF ?_⟩
    refine ⟨_, rfl, _, .ty "bool", .type "bool", .type "bool", true, rfl, .ty _, .base (.bl b), kit_ty (by decide +kernel), true, rfl, iteT ?_⟩
    refine ⟨_, rfl, _, .ty "bool", .type "bool", .type "bool", true, rfl, .ty _, .base (.bl b), kit_ty (by decide +kernel), true, rfl, iteT ?_⟩
    refine ⟨_, rfl, _, rfl, .inl ⟨rfl, ?_⟩⟩
    rw [decide_eq_true rfl]
    exact q H (Same.refl H)
  | str z =>
    cases hx
    cases hy
    refine ⟨_, rfl, _, .ty "list", .type "str", .type "list", false, rfl, .ty _, .base (.str z), kit_ty (by decide +kernel), false, rfl, iteF ?_⟩
    refine ⟨_, rfl, _, .ty "tuple", .type "str", .type "tuple", false, rfl, .ty _, .base (.str z), kit_ty (by decide +kernel), false, rfl, iteF ?_⟩
    refine ⟨_, rfl, _, .ty "bool", .type "str", .type "bool", false, rfl, .ty _, .base (.str z), kit_ty (by decide +kernel), false, rfl, iteF ?_⟩
    refine ⟨_, rfl, _, .ty "int", .type "str", .type "int", false, rfl, .ty _, .base (.str z), kit_ty (by decide +kernel), false, rfl, iteF ?_⟩
    refine ⟨_, rfl, _, .ty "str", .type "str", .type "str", true, rfl, .ty _, .base (.str z), kit_ty (by decide +kernel), true, rfl, iteT ?_⟩
    refine ⟨_, rfl, _, rfl, .inl ⟨rfl, ?_⟩⟩
    rw [decide_eq_true rfl]
    exact q H (Same.refl H)
  | list ds =>
    cases hx with
    | lst sx ax =>
    cases hy with
    | lst sy ay =>
    rename_i a xs b ys
    have lx := dpLen ax
    have ly := dpLen ay
    have l6 : ds.length ≤ 1000000 := hp.1
    refine ⟨_, rfl, _, .ty "list", .type "list", .type "list", true, rfl, .ty _, tyL sy, kit_ty (by decide +kernel), true, rfl, iteT (iteT ?_)⟩
    refine ⟨_, rfl, _, .ty "list", .type "list", .type "list", true, rfl, .ty _, tyL sy, kit_ty (by decide +kernel), true, rfl, iteT ?_⟩
    refine ⟨_, rfl, _, .ty "list", .type "list", .type "list", true, rfl, .ty _, tyL sx, kit_ty (by decide +kernel), true, rfl, iteF ?_⟩
    refine ⟨_, rfl, _, .ty "tuple", .type "list", .type "tuple", false, rfl, .ty _, tyL sy, kit_ty (by decide +kernel), false, rfl, iteF (iteF ?_)⟩
    refine ⟨_, rfl, .inl ⟨a, _, rfl, .inl sx, _, rfl, .inl ⟨b, _, rfl, .inl sy, rfl, _, rfl, iteNS (by rw [lx, ly]) ?_⟩⟩⟩
    refine ⟨_, rfl, .inl ⟨b, _, rfl, .inl sy, _, rfl, by omega, by omega, fun D nD => ?_⟩⟩
    refine lc_range (lo := 0) (n := ((ys.length : Nat) : Int).toNat) (fun i H1 => Same H H1 ∧ H1 D = some (.lst ((List.replicate i true).map V.bl))) ⟨same_new nD, upd_same⟩ ?_ ?_
    · rintro i H1 hi ⟨sm, eD⟩
      obtain ⟨x, d, h1, h2, h3⟩ := dpAt (i := i) ax (by omega)
      obtain ⟨y, d', h4, h5, h6⟩ := dpAt (i := i) ay (by omega)
      cases h2.symm.trans h5
      refine ⟨rfl, _, rfl, _, rfl, .inl ⟨a, _, _, _, rfl, rfl, sm.seq sx, ?_, _, rfl, _, rfl, .inl ⟨b, _, _, _, rfl, rfl, sm.seq sy, ?_, x, y, d, rfl, dpSame sm d x h3, dpSame sm d y h6,
        hp.2 d (List.mem_of_getElem? h2), fun H2 s2 => ⟨_, s2 _ _ eD, ?_, fun c u e => ?_, ?_⟩⟩⟩⟩
      · rw [Int.zero_add]
        exact atI_nat h1
      · rw [Int.zero_add]
        exact atI_nat h4
      · rw [List.length_map, List.length_replicate]
        exact line6 (by omega)
      · rw [upd_ne (ne_of_none e nD)]
        exact s2 c u (sm c u e)
      · rw [upd_same, List.replicate_succ', List.map_append]
        rfl
    · rintro H1 ⟨sm, eD⟩
      have e : (List.replicate ((ys.length : Nat) : Int).toNat true).all id = true := by simp
      refine ⟨D, _, rfl, SqL.of eD, ?_⟩
      rw [e]
      exact q H1 sm
  | tuple ds =>
    cases hx with
    | tup sx ax =>
    cases hy with
    | tup sy ay =>
    rename_i a xs b ys
    have lx := dpLen ax
    have ly := dpLen ay
    have l6 : ds.length ≤ 1000000 := hp.1
    refine ⟨_, rfl, _, .ty "list", .type "tuple", .type "list", false, rfl, .ty _, tyT sy, kit_ty (by decide +kernel), false, rfl, iteF ?_⟩
    refine ⟨_, rfl, _, .ty "tuple", .type "tuple", .type "tuple", true, rfl, .ty _, tyT sy, kit_ty (by decide +kernel), true, rfl, iteT ?_⟩
    refine ⟨_, rfl, _, .ty "list", .type "tuple", .type "list", false, rfl, .ty _, tyT sy, kit_ty (by decide +kernel), false, rfl, iteF (iteF ?_)⟩
    refine ⟨_, rfl, _, .ty "tuple", .type "tuple", .type "tuple", true, rfl, .ty _, tyT sy, kit_ty (by decide +kernel), true, rfl, iteT ?_⟩
    refine ⟨_, rfl, _, .ty "tuple", .type "tuple", .type "tuple", true, rfl, .ty _, tyT sx, kit_ty (by decide +kernel), true, rfl, iteF ?_⟩
    refine ⟨_, rfl, .inl ⟨a, _, rfl, .inr sx, _, rfl, .inl ⟨b, _, rfl, .inr sy, rfl, _, rfl, iteNS (by rw [lx, ly]) ?_⟩⟩⟩
    refine ⟨_, rfl, .inl ⟨b, _, rfl, .inr sy, _, rfl, by omega, by omega, fun D nD => ?_⟩⟩
    refine lc_range (lo := 0) (n := ((ys.length : Nat) : Int).toNat) (fun i H1 => Same H H1 ∧ H1 D = some (.lst ((List.replicate i true).map V.bl))) ⟨same_new nD, upd_same⟩ ?_ ?_
    · rintro i H1 hi ⟨sm, eD⟩
      obtain ⟨x, d, h1, h2, h3⟩ := dpAt (i := i) ax (by omega)
      obtain ⟨y, d', h4, h5, h6⟩ := dpAt (i := i) ay (by omega)
      cases h2.symm.trans h5
      refine ⟨rfl, _, rfl, _, rfl, .inr (.inl ⟨a, _, _, _, rfl, rfl, sameT sm sx, ?_, _, rfl, _, rfl, .inr (.inl ⟨b, _, _, _, rfl, rfl, sameT sm sy, ?_, x, y, d, rfl, dpSame sm d x h3, dpSame sm d y h6,
        hp.2 d (List.mem_of_getElem? h2), fun H2 s2 => ⟨_, s2 _ _ eD, ?_, fun c u e => ?_, ?_⟩⟩)⟩)⟩
      · rw [Int.zero_add]
        exact atI_nat h1
      · rw [Int.zero_add]
        exact atI_nat h4
      · rw [List.length_map, List.length_replicate]
        exact line6 (by omega)
      · rw [upd_ne (ne_of_none e nD)]
        exact s2 c u (sm c u e)
      · rw [upd_same, List.replicate_succ', List.map_append]
        rfl
    · rintro H1 ⟨sm, eD⟩
      have e : (List.replicate ((ys.length : Nat) : Int).toNat true).all id = true := by simp
      refine ⟨D, _, rfl, SqL.of eD, ?_⟩
      rw [e]
      exact q H1 sm
theorem ok_equal {f : Addr} {fd : FuncData} (F : Fun K "_law_equal" "_law_equal" s_equal f fd) (b_equal : Binds K fd ["actual", "expected"] []) (k_equal : PySem.W.keepIn K (.ref f) = true) (g_equal : mg "_law_equal" = some (.ref f))
    (m_all : mg "all" = none) (m_bool : mg "bool" = none) (m_int : mg "int" = none) (m_isinstance : mg "isinstance" = none) (m_len : mg "len" = none) (m_list : mg "list" = none) (m_range : mg "range" = none) (m_str : mg "str" = none) (m_tuple : mg "tuple" = none) : ∀ n : Nat, FnOk P w K mg base CX0 n f fd ["actual", "expected"] (spEq K n)
  | 0 => eq0
  | n + 1 => eq_more F (ok_equal F b_equal k_equal g_equal m_all m_bool m_int m_isinstance m_len m_list m_range m_str m_tuple n) b_equal k_equal g_equal m_all m_bool m_int m_isinstance m_len m_list m_range m_str m_tuple
end
end Nz
namespace Nz
open PySem PySem.Spec PyProof.Rows L2
/-! ### formulas as trees of the heap -/
inductive Fm where
  | atom (x : V)
  | con (x : V)
  | neg (x : V) (f : Fm)
  | bin (x : V) (f g : Fm)
namespace Fm
def root : Fm → V
  | atom x => x
  | con x => x
  | neg x _ => x
  | bin x _ _ => x
def kids : Fm → List Fm
  | atom _ => []
  | con _ => []
  | neg _ f => [f]
  | bin _ f g => [f, g]
def nodes : Fm → Nat
  | atom _ => 1
  | con _ => 1
  | neg _ f => f.nodes + 1
  | bin _ f g => f.nodes + g.nodes + 1
def atoms : Fm → List V
  | atom x => [x]
  | con _ => []
  | neg _ f => f.atoms
  | bin _ f g => f.atoms ++ g.atoms
def isAtom : Fm → Bool
  | atom _ => true
  | _ => false
def dep : Fm → Nat
  | atom _ => 1
  | con _ => 1
  | neg _ f => f.dep + 1
  | bin _ f g => max f.dep g.dep + 1
def At (H : Hp) : Fm → Prop
  | atom x => ∃ q p n v vs, x = .ref q ∧ H q = some (.tup [.str "is", .str n, .ref p, .int v]) ∧ H p = some (.tup (List.map V.int vs)) ∧ vs.length ≤ 3 ∧ n.length ≤ 300000
  | con x => ∃ q s, x = .ref q ∧ V.str s ≠ .str "is" ∧ H q = some (.tup [.str s])
  | neg x f => ∃ q s, x = .ref q ∧ V.str s ≠ .str "is" ∧ H q = some (.tup [.str s, f.root]) ∧ f.At H
  | bin x f g => ∃ q s, x = .ref q ∧ V.str s ≠ .str "is" ∧ H q = some (.tup [.str s, f.root, g.root]) ∧ f.At H ∧ g.At H
theorem at_same {H H' : Hp} (e : Same H H') : ∀ t : Fm, t.At H → t.At H'
  | atom _, ⟨q, p, n, v, vs, h1, h2, h3, h4⟩ => ⟨q, p, n, v, vs, h1, e _ _ h2, e _ _ h3, h4⟩
  | con _, ⟨q, s, h1, h2, h3⟩ => ⟨q, s, h1, h2, e _ _ h3⟩
  | neg _ f, ⟨q, s, h1, h2, h3, h4⟩ => ⟨q, s, h1, h2, e _ _ h3, at_same e f h4⟩
  | bin _ f g, ⟨q, s, h1, h2, h3, h4, h5⟩ => ⟨q, s, h1, h2, e _ _ h3, at_same e f h4, at_same e g h5⟩
theorem nodes_pos : ∀ t : Fm, 1 ≤ t.nodes
  | atom _ => Nat.le_refl _
  | con _ => Nat.le_refl _
  | neg _ _ => Nat.le_add_left _ _
  | bin _ _ _ => Nat.le_add_left _ _
theorem dep_pos : ∀ t : Fm, 1 ≤ t.dep
  | atom _ => Nat.le_refl _
  | con _ => Nat.le_refl _
  | neg _ _ => Nat.le_add_left _ _
  | bin _ _ _ => Nat.le_add_left _ _
theorem dep_le : ∀ t : Fm, t.dep ≤ t.nodes
  | atom _ => Nat.le_refl _
  | con _ => Nat.le_refl _
  | neg _ f => Nat.succ_le_succ (dep_le f)
  | bin _ f g => by
    have h1 := dep_le f
    have h2 := dep_le g
    simp only [dep, nodes]
    omega
theorem atoms_le : ∀ t : Fm, t.atoms.length ≤ t.nodes
  | atom _ => Nat.le_refl _
  | con _ => Nat.zero_le _
  | neg _ f => Nat.le_succ_of_le (atoms_le f)
  | bin _ f g => by
    have h1 := atoms_le f
    have h2 := atoms_le g
    simp only [atoms, nodes, List.length_append]
    omega
/-- what stands at the root: an atom, or a word and the parts -/
theorem look {H : Hp} : ∀ t : Fm, t.At H → ∃ q s r, t.root = .ref q ∧ H q = some (.tup (.str s :: r)) ∧ ((t.isAtom = true ∧ V.str s = .str "is" ∧ t.atoms = [t.root]) ∨ (t.isAtom = false ∧ V.str s ≠ .str "is" ∧ r = t.kids.map root))
  | atom _, ⟨q, p, n, v, vs, h1, h2, h3, h4⟩ => ⟨q, _, _, h1, h2, .inl ⟨rfl, rfl, rfl⟩⟩
  | con _, ⟨q, s, h1, h2, h3⟩ => ⟨q, s, _, h1, h3, .inr ⟨rfl, h2, rfl⟩⟩
  | neg _ f, ⟨q, s, h1, h2, h3, h4⟩ => ⟨q, s, _, h1, h3, .inr ⟨rfl, h2, rfl⟩⟩
  | bin _ f g, ⟨q, s, h1, h2, h3, h4, h5⟩ => ⟨q, s, _, h1, h3, .inr ⟨rfl, h2, rfl⟩⟩
theorem kids_at {H : Hp} : ∀ t : Fm, t.At H → ∀ k ∈ t.kids, k.At H
  | atom _, _, _, h => by simp [kids] at h
  | con _, _, _, h => by simp [kids] at h
  | neg _ f, ⟨_, _, _, _, _, h4⟩, k, h => by
    simp only [kids, List.mem_singleton] at h
    exact h ▸ h4
  | bin _ f g, ⟨_, _, _, _, _, h4, h5⟩, k, h => by
    simp only [kids, List.mem_cons, List.not_mem_nil, or_false] at h
    rcases h with rfl | rfl
    · exact h4
    · exact h5
theorem kids_dep : ∀ t : Fm, ∀ k ∈ t.kids, k.dep + 1 ≤ t.dep
  | atom _, _, h => by simp [kids] at h
  | con _, _, h => by simp [kids] at h
  | neg _ f, k, h => by
    simp only [kids, List.mem_singleton] at h
    exact h ▸ Nat.le_refl _
  | bin _ f g, k, h => by
    simp only [kids, List.mem_cons, List.not_mem_nil, or_false] at h
    rcases h with rfl | rfl
    · simp only [dep]
      omega
    · simp only [dep]
      omega
theorem kids_nodes : ∀ t : Fm, (t.kids.map nodes).sum + 1 = t.nodes
  | atom _ => rfl
  | con _ => rfl
  | neg _ f => by simp [kids, nodes]
  | bin _ f g => by simp [kids, nodes]
theorem kids_atoms : ∀ t : Fm, t.isAtom = false → t.kids.flatMap atoms = t.atoms
  | atom _, h => by cases h
  | con _, _ => rfl
  | neg _ f, _ => by simp [kids, atoms]
  | bin _ f g, _ => by simp [kids, atoms]
theorem kids_len : ∀ t : Fm, t.kids.length ≤ 2
  | atom _ => by simp [kids]
  | con _ => by simp [kids]
  | neg _ f => by simp [kids]
  | bin _ f g => by simp [kids]
end Fm
/-! ### slices of tuples of any values -/
theorem cut_from1 (xs : List V) : cutV xs (some 1) none = xs.drop 1 := by
  unfold cutV
  have e : HT.sIx xs.length 0 (some 1) = min 1 xs.length := HT.sIx_nat xs.length 0 1
  rw [e, HT.sIx_none]
  cases xs with
  | nil => rfl
  | cons x r =>
    have m : min 1 (x :: r).length = 1 := by
      rw [List.length_cons]
      omega
    rw [m]
    exact List.take_of_length_le (by rw [List.length_drop]; omega)
theorem cut_whole {xs : List V} {lo hi : Option Int} (h : HT.sIx xs.length 0 lo = 0 ∧ HT.sIx xs.length xs.length hi = xs.length) : cutV xs lo hi = xs := by
  unfold cutV
  rw [h.1, h.2]
  simp
theorem slA_gen {K : PySem.W.Frag} {a : Addr} {xs : List V} {lo hi : Option Int} {H : Hp} {Q : VK} (h : SqT K H a xs)
    (q : ∀ p H', Same H H' → SqT K H' p (cutV xs lo hi) → Q (.ref p) H') : rSlA K (.ref a) lo hi H Q :=
  ⟨a, _, rfl, h, fun w => q a H (Same.refl H) (by rw [cut_whole w]; exact h), fun _ p np => q p _ (same_new np) (SqT.of upd_same)⟩
end Nz
namespace Nz
open PySem PySem.Spec PyProof.Rows L2
theorem updT {K : PySem.W.Frag} {H : Hp} {b o : Addr} {xs ys : List V} {u : HO} (h : SqT K H b xs) (e : H o = some (.lst ys)) : SqT K (upd H o u) b xs := by
  rcases h with (h | ⟨z, h⟩) | h
  · refine .inl (.inl ?_)
    rw [upd_ne (ne_of h e (by intro z; cases z))]
    exact h
  · refine .inl (.inr ⟨z, ?_⟩)
    rw [upd_ne (ne_of h e (by intro z; cases z))]
    exact h
  · exact .inr h
end Nz
namespace Nz
theorem mem_le_sum : ∀ {l : List Nat} {x : Nat}, x ∈ l → x ≤ l.sum
  | [], _, h => by simp at h
  | a :: r, x, h => by
    rw [List.sum_cons]
    rcases List.mem_cons.mp h with rfl | h
    · omega
    · have := mem_le_sum h
      omega
def sumN (ts : List Fm) : Nat := (ts.map Fm.nodes).sum
theorem sumN_app (a b : List Fm) : sumN (a ++ b) = sumN a + sumN b := by simp [sumN]
theorem sumN_rev (a : List Fm) : sumN a.reverse = sumN a := by simp [sumN]
theorem sumN_zero {ts : List Fm} (h : sumN ts = 0) : ts = [] := by
  cases ts with
  | nil => rfl
  | cons t r =>
    have := t.nodes_pos
    simp [sumN] at h
    omega
end Nz
namespace Nz
open PySem PySem.Spec PyProof.Rows L2
/-- tuples stay -/
def TupSame (H H' : Hp) : Prop := ∀ b xs, H b = some (.tup xs) → H' b = some (.tup xs)
theorem Fm.at_tup {H H' : Hp} (e : TupSame H H') : ∀ t : Fm, t.At H → t.At H'
  | .atom _, ⟨q, p, n, v, vs, h1, h2, h3, h4⟩ => ⟨q, p, n, v, vs, h1, e _ _ h2, e _ _ h3, h4⟩
  | .con _, ⟨q, s, h1, h2, h3⟩ => ⟨q, s, h1, h2, e _ _ h3⟩
  | .neg _ f, ⟨q, s, h1, h2, h3, h4⟩ => ⟨q, s, h1, h2, e _ _ h3, at_tup e f h4⟩
  | .bin _ f g, ⟨q, s, h1, h2, h3, h4, h5⟩ => ⟨q, s, h1, h2, e _ _ h3, at_tup e f h4, at_tup e g h5⟩
theorem Same.tup {H H' : Hp} (e : L2.Same H H') : TupSame H H' := fun b xs h => e b _ h
theorem tup_upd {H : Hp} {l : Addr} {xs : List V} {u : HO} (e : H l = some (.lst xs)) : TupSame H (upd H l u) := fun b ys h => by
  rw [upd_ne (ne_of h e (by intro z; cases z))]
  exact h
theorem TupSame.trans {A B C : Hp} (h : TupSame A B) (g : TupSame B C) : TupSame A C := fun b xs e => g b xs (h b xs e)
end Nz
namespace Nz
theorem len_le_sumN : ∀ us : List Fm, us.length ≤ sumN us
  | [] => Nat.zero_le _
  | v :: r => by
    have h1 := v.nodes_pos
    have h2 := len_le_sumN r
    simp only [sumN, List.map_cons, List.sum_cons, List.length_cons] at h2 ⊢
    omega
end Nz
namespace Nz
open PySem PySem.Spec PyProof.Rows L2
section
variable {P : Program} {w : World} {K : PySem.W.Frag} {mg : Str → Option Value} {base : Heap}
/-! ### atoms_of -/
def spAt (K : PySem.W.Frag) (n : Nat) : Sp := fun vs H Q _ => ∃ t : Fm, vs = [t.root] ∧ t.At H ∧ t.dep ≤ n ∧ t.nodes ≤ 1000 ∧
  ∀ p H', Same H H' → H p = none → H' p = some (.lst t.atoms) → Q (.ref p) H'
theorem at0 {f : Addr} {fd : FuncData} : FnOk P w K mg base CX0 0 f fd ["formula"] (spAt K 0) := by
  have no : ∀ vs H Q E, ¬ spAt K 0 vs H Q E := fun vs H Q E ⟨t, _, _, h, _⟩ => by
    have := t.dep_pos
    omega
  exact ⟨fun vs H Q E h => absurd h (no vs H Q E), fun A outer s H args us vs Q E _ _ _ _ h => absurd h (no vs H Q E)⟩
theorem at_more {n : Nat} {f : Addr} {fd : FuncData} (F : Fun K "atoms_of" "atoms_of" s_atoms_of f fd) (G_atoms_of : FnOk P w K mg base CX0 n f fd ["formula"] (spAt K n)) (b_atoms_of : Binds K fd ["formula"] []) (k_atoms_of : PySem.W.keepIn K (.ref f) = true) (g_atoms_of : mg "atoms_of" = some (.ref f)) :
    FnOk P w K mg base CX0 (n + 1) f fd ["formula"] (spAt K (n + 1)) := by
  refine F.ok sc_atoms_of (fun vs H Q E h => ?_) (fun cdv A outer s H vs Q E hr h => ?_)
  · obtain ⟨t, rfl, _⟩ := h
    rfl
  have hr_atoms_of := hr
  obtain ⟨t, rfl, hA, hd, hn, q⟩ := h
  refine ⟨_, (pss_cons (ps_if (pt_cmpR op_eq (pe_ix (r := rIx K) ix_seq (pv 0) pe_int (fun _ _ => rfl)) pe_str (nomark _)) (pss_one (ps_ret (pe_lst (pa_cons (pv 0) pa_nil)))) pss_nil)
    (pss_cons (ps_set (i := 1) sc_atoms_of.nd rfl (.inl rfl) (pe_lst pa_nil))
    (pss_cons (ps_for PassesOwn.never rfl (pi_seq (pe_slice (r := rSl K) sl_any (pv 0) (po_some pe_int) po_none)) (pg_name (i := 2) sc_atoms_of.nd rfl (.inl rfl))
      (pss_one (ps_expr (pe_bm PySem.F.plainAttrs_list PySem.F.slot_list_extend PySem.F.type_list_extend mt_extend (pv 1) (pa_cons (pe_call G_atoms_of hr_atoms_of rfl g_atoms_of k_atoms_of b_atoms_of .nil pass0 (pa_cons (pv 2) pa_nil)) pa_nil)))))
    (pss_one (ps_ret (pv 1)))))), ?_⟩
  obtain ⟨a, z, r, ea, ha, hw⟩ := t.look hA
  rw [ea]
  refine ⟨_, rfl, .inr (.inl ⟨a, _, 0, _, rfl, rfl, SqT.of ha, atI_nat (j := 0) rfl, rfl, _, rfl, ite2 (fun c => ?_) (fun c => ?_)⟩)⟩
  · have c' : V.str z = .str "is" := of_decide_eq_true c
    rcases hw with ⟨_, _, et⟩ | ⟨_, ne, _⟩
    · refine ⟨_, rfl, (by show 1 ≤ sizeLine; decide), fun p np => q p _ (same_new np) np ?_⟩
      rw [upd_same, et, ea]
    · exact absurd c' ne
  · have c' : V.str z ≠ .str "is" := fun e => c (decide_eq_true e)
    rcases hw with ⟨_, e, _⟩ | ⟨na, _, er⟩
    · exact absurd e c'
    refine ⟨Nat.zero_le _, fun o no => ?_⟩
    have s1 : Same H (upd H o (.lst [])) := same_new no
    refine .inr ⟨_, rfl, 1, rfl, .inr (.inl (slA_gen (SqT.of (s1 _ _ ha)) fun b H1 s2 hb => ⟨b, rfl, ⟨_, hb⟩, ?_⟩))⟩
    rw [cut_from1, List.drop_one, List.tail_cons, er] at hb
    have eo : H1 o = some (.lst []) := s2 _ _ upd_same
    refine for_tup (K := K) (xs := t.kids.map Fm.root) (fun i σ H2 => ∃ v, σ = [some (.ref a), some (.ref o), v] ∧ Same H H2 ∧ SqT K H2 b (t.kids.map Fm.root) ∧
      H2 o = some (.lst ((t.kids.take i).flatMap Fm.atoms))) ⟨none, rfl, s1.trans s2, hb, eo⟩ ?_ ?_ ?_
    · rintro i σ H2 _ ⟨v, rfl, _, hb2, _⟩
      exact hb2
    · rintro i x σ H2 hx ⟨v, rfl, sm, hb2, eo2⟩
      rw [List.getElem?_map] at hx
      obtain ⟨k, hk, rfl⟩ := Option.map_eq_some_iff.mp hx
      have mk := List.mem_of_getElem? hk
      have kd := t.kids_dep k mk
      have kn : k.nodes ≤ 1000 := by
        have h1 := t.kids_nodes
        have h2 : k.nodes ≤ (t.kids.map Fm.nodes).sum := mem_le_sum (List.mem_map_of_mem mk)
        omega
      refine ⟨_, rfl, .inl ⟨rfl, _, .inl (.inl eo2)⟩, _, rfl, k, rfl, k.at_same sm (t.kids_at hA k mk), by omega, kn, fun p H3 s3 np e3 => ?_⟩
      refine ⟨o, p, _, _, rfl, rfl, s3 _ _ eo2, e3, ?_, ?_⟩
      · have h1 : ((t.kids.take i).flatMap Fm.atoms).length ≤ t.atoms.length := by
          rw [← t.kids_atoms na]
          conv => rhs; rw [← List.take_append_drop i t.kids, List.flatMap_append, List.length_append]
          omega
        have h2 := t.atoms_le
        have h3 := k.atoms_le
        exact Nat.le_of_lt (line6 (by omega))
      · refine ⟨_, rfl, fun c u e => ?_, ?_, ?_⟩
        · rw [upd_ne (ne_of_none e no)]
          exact s3 c u (sm c u e)
        · exact updT (sameT s3 hb2) (s3 _ _ eo2)
        · rw [upd_same, List.take_add_one, hk, List.flatMap_append]
          simp
    · rintro σ H2 ⟨v, rfl, sm, _, eo2⟩
      rw [List.length_map, List.take_of_length_le (Nat.le_refl _), t.kids_atoms na] at eo2
      exact ⟨_, rfl, q o H2 sm no eo2⟩
theorem ok_atoms_of {f : Addr} {fd : FuncData} (F : Fun K "atoms_of" "atoms_of" s_atoms_of f fd) (b_atoms_of : Binds K fd ["formula"] []) (k_atoms_of : PySem.W.keepIn K (.ref f) = true) (g_atoms_of : mg "atoms_of" = some (.ref f)) :
    ∀ n : Nat, FnOk P w K mg base CX0 n f fd ["formula"] (spAt K n)
  | 0 => at0
  | n + 1 => at_more F (ok_atoms_of F b_atoms_of k_atoms_of g_atoms_of n) b_atoms_of k_atoms_of g_atoms_of
/-! ### _law_atoms -/
def spLa (K : PySem.W.Frag) : Sp := fun vs H Q _ => ∃ t : Fm, vs = [t.root] ∧ t.At H ∧ t.nodes ≤ 600 ∧
  ∀ p H', Same H H' → H p = none → H' p = some (.lst t.atoms) → Q (.ref p) H'
theorem ok_atoms {k : Nat} {f : Addr} {fd : FuncData} (F : Fun K "_law_atoms" "_law_atoms" s_atoms f fd) (m_len : mg "len" = none) (m_range : mg "range" = none) : FnOk P w K mg base CX0 (k + 1) f fd ["formula"] (spLa K) := by
  refine F.ok sc_atoms (fun vs H Q E h => ?_) (fun cdv A outer s H vs Q E hr h => ?_)
  · obtain ⟨t, rfl, _⟩ := h
    rfl
  obtain ⟨t, rfl, hA, hn, q⟩ := h
  refine ⟨_, (pss_cons (ps_set (i := 1) sc_atoms.nd rfl (.inl rfl) (pe_lst pa_nil))
    (pss_cons (ps_set (i := 2) sc_atoms.nd rfl (.inl rfl) (pe_lst (pa_cons (pv 0) pa_nil)))
    (pss_cons (ps_for PassesOwn.never rfl (pi_range1 rfl m_range (pa_cons pe_int pa_nil)) (pg_name (i := 3) sc_atoms.nd rfl (.inl rfl))
      (pss_one (ps_if (pt_cmpR op_gt (pe_callB (r := rLn K) c_len rfl m_len (by decide +kernel) (pa_cons (pv 2) pa_nil)) pe_int (nomark _)) (pss_cons (ps_set (i := 4) sc_atoms.nd rfl (.inl rfl) (pe_bm0 PySem.F.plainAttrs_list PySem.F.slot_list_pop PySem.F.type_list_pop mt_pop (pv 2)))
    (pss_one (ps_if (pt_cmpR op_eq (pe_ix (r := rIx K) ix_seq (pv 4) pe_int (fun _ _ => rfl)) pe_str (nomark _)) (pss_one (ps_expr (pe_bm PySem.F.plainAttrs_list PySem.F.slot_list_append PySem.F.type_list_append mt_append (pv 1) (pa_cons (pv 4) pa_nil)))) (pss_one (ps_for PassesOwn.never rfl (pi_seq (pe_revT (pe_slice (r := rSl K) sl_any (pv 4) (po_some pe_int) po_none))) (pg_name (i := 5) sc_atoms.nd rfl (.inl rfl))
      (pss_one (ps_expr (pe_bm PySem.F.plainAttrs_list PySem.F.slot_list_append PySem.F.type_list_append mt_append (pv 2) (pa_cons (pv 5) pa_nil))))))))) pss_nil)))
    (pss_one (ps_ret (pv 1)))))), ?_⟩
  refine ⟨Nat.zero_le _, fun o no => ?_⟩
  have s1 : Same H (upd H o (.lst [])) := same_new no
  refine ⟨_, rfl, (by show 1 ≤ sizeLine; decide), fun l nl => ?_⟩
  have s2 : Same _ (upd (upd H o (.lst [])) l (.lst [t.root])) := same_new nl
  have nl0 : H l = none := s1.free nl
  have nlo : o ≠ l := fun z => by
    subst z
    rw [upd_same] at nl
    cases nl
  refine ⟨600, rfl, by decide, by decide, ?_⟩
  refine for_range (lo := 0) (n := ((600 : Int)).toNat) (fun i σ H2 => ∃ (kv tv iv : Option V) (ts : List Fm) (acc : List V), σ = [some t.root, some (.ref o), some (.ref l), kv, tv, iv] ∧
      Same H H2 ∧ (∀ k ∈ ts, k.At H2) ∧ acc ++ ts.reverse.flatMap Fm.atoms = t.atoms ∧ sumN ts ≤ 600 - i ∧
      H2 o = some (.lst acc) ∧ H2 l = some (.lst (ts.map Fm.root))) ⟨none, none, none, [t], [], rfl, s1.trans s2, ?_, by simp, by simp [sumN]; omega, ?_, ?_⟩ ?_ ?_
  · intro k hk
    rw [List.mem_singleton.mp hk]
    exact t.at_same (s1.trans s2) hA
  · exact s2 _ _ upd_same
  · rw [upd_same]
    rfl
  · rintro i σ H2 hi ⟨kv, tv, iv, ts, acc, rfl, sm, hts, hacc, hsum, eO, eL⟩
    have hi' : i < 600 := hi
    refine ⟨_, rfl, .inl ⟨l, _, rfl, .inl (SqL.of eL), _, _, rfl, rfl, _, rfl, ite2 (fun c => ?_) (fun c => ?_)⟩⟩
    · have c' : (0 : Int) < (((ts.map Fm.root).length : Nat) : Int) := of_decide_eq_true c
      rw [List.length_map] at c'
      have ne : ts ≠ [] := fun z => by
        subst z
        simp at c'
      obtain ⟨us, u, rfl⟩ : ∃ us u, ts = us ++ [u] := ⟨ts.dropLast, ts.getLast ne, (List.dropLast_concat_getLast ne).symm⟩
      have eL2 : H2 l = some (.lst (us.map Fm.root ++ [u.root])) := by
        rw [eL, List.map_append]
        rfl
      refine ⟨_, rfl, .inl ⟨rfl, _, .inl (.inl eL2)⟩, l, _, u.root, rfl, rfl, eL2, by simp, ?_⟩
      have eDl : (us.map Fm.root ++ [u.root]).dropLast = us.map Fm.root := by simp
      rw [eDl]
      have hu : u.At H2 := hts u (by simp)
      obtain ⟨a, z, r, ea, ha, hw⟩ := u.look hu
      have up : ∀ b (x : HO), H2 b = some x → b ≠ l → (upd H2 l (.lst (us.map Fm.root))) b = some x := fun b x e ne => by
        rw [upd_ne ne]
        exact e
      have nal : a ≠ l := ne_of ha eL (by intro z; cases z)
      have smL : ∀ (H3 : Hp) (ys : List V), Same H H3 → Same H (upd H3 l (.lst ys)) := fun H3 ys sm3 b x e => by
        rw [upd_ne (ne_of_none e nl0)]
        exact sm3 b x e
      have hsum2 : sumN us + u.nodes ≤ 600 - i := by
        rw [sumN_app] at hsum
        simpa [sumN] using hsum
      rw [ea]
      refine ⟨_, rfl, .inr (.inl ⟨a, _, 0, _, rfl, rfl, SqT.of (up _ _ ha nal), atI_nat (j := 0) rfl, rfl, _, rfl, ite2 (fun c => ?_) (fun c => ?_)⟩)⟩
      · have c' : V.str z = .str "is" := of_decide_eq_true c
        rcases hw with ⟨_, _, et⟩ | ⟨_, ne, _⟩
        · have eO2 := up _ _ eO nlo
          refine ⟨_, rfl, .inl ⟨rfl, _, .inl (.inl eO2)⟩, _, rfl, o, _, _, rfl, rfl, eO2, ?_, ?_⟩
          · have h1 : acc.length ≤ t.atoms.length := by
              rw [← hacc, List.length_append]
              omega
            have h2 := t.atoms_le
            exact line6 (by omega)
          · refine ⟨_, _, _, us, acc ++ [.ref a], rfl, fun b x e => ?_, fun k hk => ?_, ?_, ?_, upd_same, ?_⟩
            · rw [upd_ne (ne_of_none e no)]
              exact smL H2 _ sm b x e
            · exact k.at_tup ((tup_upd eL).trans (tup_upd eO2)) (hts k (List.mem_append_left _ hk))
            · rw [← hacc, List.reverse_append, List.flatMap_append, List.append_assoc]
              simp [et, ea]
            · have := u.nodes_pos
              omega
            · rw [upd_ne nlo.symm, upd_same]
        · exact absurd c' ne
      · have c' : V.str z ≠ .str "is" := fun e => c (decide_eq_true e)
        rcases hw with ⟨_, e, _⟩ | ⟨na, _, er⟩
        · exact absurd e c'
        have eO2 := up _ _ eO nlo
        refine .inr ⟨_, rfl, 1, rfl, .inr (.inl (slA_gen (SqT.of (up _ _ ha nal)) fun b H3 s3 hb => ⟨b, _, rfl, hb, fun p np => ⟨p, rfl, ⟨_, SqT.of upd_same⟩, ?_⟩⟩))⟩
        rw [cut_from1, List.drop_one, List.tail_cons, er]
        have eL3 : H3 l = some (.lst (us.map Fm.root)) := s3 _ _ upd_same
        have s4 : Same H3 (upd H3 p (.tup (u.kids.map Fm.root).reverse)) := same_new np
        have npl : p ≠ l := fun z => by
          subst z
          rw [eL3] at np
          cases np
        refine for_tup (K := K) (xs := (u.kids.map Fm.root).reverse) (fun j σ H5 => ∃ iv, σ = [some t.root, some (.ref o), some (.ref l), some (.int (0 + (i : Nat))), some (.ref a), iv] ∧
          (∀ b x, (upd H3 p (.tup (u.kids.map Fm.root).reverse)) b = some x → b ≠ l → H5 b = some x) ∧
          H5 l = some (.lst (us.map Fm.root ++ (u.kids.map Fm.root).reverse.take j))) ⟨iv, rfl, fun b x e _ => e, by rw [List.take_zero, List.append_nil]; exact s4 _ _ eL3⟩ ?_ ?_ ?_
        · rintro j σ H5 _ ⟨iv, rfl, st, _⟩
          exact SqT.of (st p _ upd_same npl)
        · rintro j x σ H5 hx ⟨iv, rfl, st, eL5⟩
          refine ⟨_, rfl, .inl ⟨rfl, _, .inl (.inl eL5)⟩, _, rfl, l, _, _, rfl, rfl, eL5, ?_, _, rfl, fun b y e ne => ?_, ?_⟩
          · have h1 := u.kids_len
            have h2 := len_le_sumN us
            rw [List.length_append, List.length_map, List.length_take, List.length_reverse, List.length_map]
            exact line6 (by omega)
          · rw [upd_ne ne]
            exact st b y e ne
          · rw [upd_same, List.take_add_one, hx, List.append_assoc]
            rfl
        · rintro σ H5 ⟨iv, rfl, st, eL5⟩
          rw [List.take_of_length_le (Nat.le_refl _)] at eL5
          have tt : TupSame H2 H5 := (tup_upd eL).trans ((Same.tup s3).trans ((Same.tup s4).trans fun b xs e => st b _ e (fun z => by
            subst z
            rw [s4 _ _ eL3] at e
            cases e)))
          refine ⟨_, _, iv, us ++ u.kids.reverse, acc, rfl, fun b x e => ?_, fun k hk => ?_, ?_, ?_, ?_, ?_⟩
          · exact st b x (s4 _ _ (s3 _ _ (smL H2 _ sm b x e))) (ne_of_none e nl0)
          · refine k.at_tup tt ?_
            rcases List.mem_append.mp hk with h | h
            · exact hts k (List.mem_append_left _ h)
            · exact u.kids_at hu k (List.mem_reverse.mp h)
          · rw [← hacc, List.reverse_append, List.reverse_reverse, List.flatMap_append, List.reverse_append, List.flatMap_append, u.kids_atoms na]
            simp
          · have h1 := u.kids_nodes
            rw [sumN_app, sumN_rev]
            have h2 : sumN u.kids + 1 = u.nodes := h1
            omega
          · exact st o _ (s4 _ _ (s3 _ _ eO2)) nlo
          · rw [eL5, List.map_append, List.map_reverse]
    · have c' : ¬ (0 : Int) < (((ts.map Fm.root).length : Nat) : Int) := of_decide_eq_false (Bool.eq_false_iff.mpr c)
      rw [List.length_map] at c'
      have z : ts = [] := List.length_eq_zero_iff.mp (by omega)
      subst z
      exact ⟨_, tv, iv, [], acc, rfl, sm, by simp, hacc, by simp [sumN], eO, eL⟩
  · rintro σ H2 ⟨kv, tv, iv, ts, acc, rfl, sm, hts, hacc, hsum, eO, eL⟩
    have z : ts = [] := sumN_zero (by
      have : sumN ts ≤ 600 - 600 := hsum
      omega)
    subst z
    rw [List.reverse_nil, List.flatMap_nil, List.append_nil] at hacc
    exact ⟨_, rfl, q o H2 sm no (by rw [eO, hacc])⟩
end
end Nz
namespace Nz
open PySem PySem.Spec PyProof.Rows L2
/-! ### texts -/
theorem len_app (a b : Str) : (a ++ b).length = a.length + b.length := by
  simp only [Str.length]
  rw [show (a ++ b).cps = a.cps ++ b.cps from rfl, Array.size_append]
theorem len_one (c : Nat) : (⟨#[c]⟩ : Str).length = 1 := rfl
theorem len_join0 : ∀ ys : List Str, (Str.join ⟨#[]⟩ ys).length ≤ (ys.map (·.length)).sum
  | [] => Nat.zero_le _
  | [y] => by simp [Str.join]
  | y :: z :: r => by
    have ih := len_join0 (z :: r)
    have e : Str.join ⟨#[]⟩ (y :: z :: r) = y ++ ⟨#[]⟩ ++ Str.join ⟨#[]⟩ (z :: r) := rfl
    have e0 : (⟨#[]⟩ : Str).length = 0 := rfl
    rw [e, len_app, len_app, List.map_cons, List.sum_cons, e0]
    omega
theorem sum_ones : ∀ {ys : List Str}, (∀ y ∈ ys, y.length = 1) → (ys.map (·.length)).sum = ys.length
  | [], _ => rfl
  | y :: r, h => by
    rw [List.map_cons, List.sum_cons, h y List.mem_cons_self, sum_ones fun z hz => h z (List.mem_cons_of_mem _ hz), List.length_cons]
    omega
theorem all_flat (zs : List Str) : (zs.map V.str).all flatV = true := by simp [flatV]
theorem at_maps {zs : List Str} {i : Nat} (h : i < zs.length) : (zs.map V.str)[i]? = some (.str zs[i]) := by
  rw [List.getElem?_map, List.getElem?_eq_getElem h]
  rfl
/-- a sign of a text, at a place within -/
theorem sign_at {K : PySem.W.Frag} {z : Str} {i : Int} {H : Hp} {Q : VK} (hz : z.length ≤ sizeLine) (h0 : 0 ≤ i) (h1 : i < z.length) (q : ∀ c, Q (.str ⟨#[c]⟩) H) : rIx K (.str z) (.int i) H Q := by
  have hk : i.toNat < z.cps.toList.length := by
    rw [Array.length_toList]
    have h2 : i < z.cps.size := h1
    omega
  have e : ((i.toNat : Nat) : Int) = i := by omega
  have a := atI_nat (List.getElem?_eq_getElem hk)
  rw [e] at a
  exact .inr (.inr ⟨z, i, _, rfl, rfl, hz, a, q _⟩)
theorem int_at {K : PySem.W.Frag} {a : Addr} {ds : List Int} {i : Int} {H : Hp} {Q : VK} (hs : SqL K H a (ds.map V.int)) (h0 : 0 ≤ i) (h1 : i < ds.length) (q : ∀ d ∈ ds, Q (.int d) H) : rIx K (.ref a) (.int i) H Q := by
  have hk : i.toNat < ds.length := by omega
  have e : ((i.toNat : Nat) : Int) = i := by omega
  have b := atI_nat (at_map hk)
  rw [e] at b
  exact .inl ⟨a, _, _, _, rfl, rfl, hs, b, q _ (List.getElem_mem hk)⟩
theorem str_at {K : PySem.W.Frag} {a : Addr} {zs : List Str} {i : Int} {H : Hp} {Q : VK} (hs : SqL K H a (zs.map V.str)) (h0 : 0 ≤ i) (h1 : i < zs.length) (q : ∀ z ∈ zs, Q (.str z) H) : rIx K (.ref a) (.int i) H Q := by
  have hk : i.toNat < zs.length := by omega
  have e : ((i.toNat : Nat) : Int) = i := by omega
  have b := atI_nat (at_maps hk)
  rw [e] at b
  exact .inl ⟨a, _, _, _, rfl, rfl, hs, b, q _ (List.getElem_mem hk)⟩
theorem cutV_ints (ns : List Int) (lo hi : Option Int) : ∃ ms : List Int, cutV (ns.map V.int) lo hi = ms.map V.int ∧ (∀ m ∈ ms, m ∈ ns) ∧
    ms.length = HT.sIx ns.length ns.length hi - HT.sIx ns.length 0 lo := by
  refine ⟨((ns.drop (HT.sIx ns.length 0 lo)).take (HT.sIx ns.length ns.length hi - HT.sIx ns.length 0 lo)), ?_, fun m hm => List.mem_of_mem_drop (List.mem_of_mem_take hm), ?_⟩
  · unfold cutV
    rw [List.length_map, List.map_take, List.map_drop]
  · rw [List.length_take, List.length_drop]
    have := HT.sIx_le ns.length ns.length (Nat.le_refl _) hi
    omega
end Nz
namespace Nz
open PySem PySem.Spec PyProof.Rows L2
section
variable {P : Program} {w : World} {K : PySem.W.Frag} {mg : Str → Option Value} {base : Heap}
/-! ### _law_names -/
def NI (H0 H : Hp) (a d p : Addr) (ws : List Str) (ds : List Int) (zs : List Str) : Prop :=
  Same H0 H ∧ H a = some (.lst (ws.map V.str)) ∧ H d = some (.lst (ds.map V.int)) ∧ H p = some (.lst (zs.map V.str))
theorem NI.same {H0 H H' : Hp} {a d p : Addr} {ws : List Str} {ds : List Int} {zs : List Str} (e : Same H H') (h : NI H0 H a d p ws ds zs) : NI H0 H' a d p ws ds zs :=
  ⟨h.1.trans e, e _ _ h.2.1, e _ _ h.2.2.1, e _ _ h.2.2.2⟩
def spNames (K : PySem.W.Frag) : Sp := fun vs H Q _ => ∃ (c : Int) (n : Nat), vs = [.int c, .int n] ∧ n ≤ 10 ∧
  ∀ (zs : List Str) (p : Addr) (H' : Hp), zs.length = n → (∀ z ∈ zs, 1 ≤ z.length ∧ z.length ≤ 200000) → Same H H' → H p = none → H' p = some (.lst (zs.map V.str)) → Q (.ref p) H'
set_option maxHeartbeats 1000000 in
theorem ok_names {k : Nat} {f : Addr} {fd : FuncData} (F : Fun K "_law_names" "_law_names" s_names f fd) {f_digits : Addr} {fd_digits : FuncData} (G_digits : FnOk P w K mg base CX0 (k) f_digits fd_digits ["cell", "many", "count"] (spDig K)) (b_digits : Binds K fd_digits ["cell", "many", "count"] []) (k_digits : PySem.W.keepIn K (.ref f_digits) = true) (g_digits : mg "_law_digits" = some (.ref f_digits)) (m_int : mg "int" = none) (m_len : mg "len" = none) (m_range : mg "range" = none) :
    FnOk P w K mg base CX0 (k + 1) f fd ["cell", "count"] (spNames K) := by
  refine F.ok sc_names (fun vs H Q E h => ?_) (fun cdv A outer s H vs Q E hr h => ?_)
  · obtain ⟨c, n, rfl, _⟩ := h
    rfl
  have hr_digits := hr
  obtain ⟨c, n, rfl, hn, q⟩ := h
  refine ⟨_, (pss_cons (ps_set (i := 2) sc_names.nd rfl (.inl rfl) (pe_lst (pa_cons pe_str (pa_cons pe_str (pa_cons pe_str (pa_cons pe_str (pa_cons pe_str (pa_cons pe_str (pa_cons pe_str (pa_cons pe_str (pa_cons pe_str pa_nil)))))))))))
    (pss_cons (ps_set (i := 3) sc_names.nd rfl (.inl rfl) pe_str)
    (pss_cons (ps_set (i := 4) sc_names.nd rfl (.inr rfl) (pe_op (r := rAdS) ad_str (pe_op (r := rAdS) ad_str (pv 3) pe_str) pe_str))
    (pss_cons (ps_set (i := 5) sc_names.nd rfl (.inl rfl) (pe_call G_digits hr_digits rfl g_digits k_digits b_digits .nil pass0 (pa_cons (pv 0) (pa_cons pe_int (pa_cons (pe_op op_mul pe_int (pv 1)) pa_nil)))))
    (pss_cons (ps_set (i := 6) sc_names.nd rfl (.inl rfl) (pe_lst pa_nil))
    (pss_cons (ps_for PassesOwn.never rfl (pi_range1 rfl m_range (pa_cons (pv 1) pa_nil)) (pg_name (i := 7) sc_names.nd rfl (.inl rfl))
      (pss_cons (ps_set (i := 8) sc_names.nd rfl (.inr rfl) (pe_slice (r := rSl K) sl_any (pv 5) (po_some (pe_op op_mul pe_int (pv 7))) (po_some (pe_op op_add (pe_op op_mul pe_int (pv 7)) pe_int))))
    (pss_cons (ps_set (i := 9) sc_names.nd rfl (.inl rfl) (pe_op op_mod (pe_callTy (r := rIntOf) c_int rfl m_int (by decide +kernel) (pa_cons (pe_op op_fdivW (pe_ix (r := rIx K) ix_seq (pv 8) pe_int (fun _ _ => rfl)) pe_int) pa_nil)) pe_int))
    (pss_cons (ps_set (i := 10) sc_names.nd rfl (.inl rfl) (pe_op (r := rAdS) ad_str (pe_ix (r := rIx K) ix_seq (pv 3) (pe_op op_mod (pe_callTy (r := rIntOf) c_int rfl m_int (by decide +kernel) (pa_cons (pe_ix (r := rIx K) ix_seq (pv 8) pe_int (fun _ _ => rfl)) pa_nil)) pe_int) (fun _ _ => rfl)) (pe_join pe_str (pe_lc (own := [("j", 13)]) (g := gName 13) rfl sc_names.nd (pi_range1 rfl m_range (pa_cons (pe_op op_mod (pe_callTy (r := rIntOf) c_int rfl m_int (by decide +kernel) (pa_cons (pe_op op_fdivW (pe_ix (r := rIx K) ix_seq (pv 8) pe_int (fun _ _ => rfl)) pe_int) pa_nil)) pe_int) pa_nil)) (blkOk_by (own := [("j", 13)]) (N := ["cell", "count", "words", "small", "inner", "digits", "names", "k", "row", "way", "name", "at", "middle", "j"]) (sc := defScope s_names) (by decide +kernel)) (fun _ _ _ _ _ => (pg_name (i := 13) sc_names.nd rfl (.inl rfl))) (fun _ _ _ _ _ => pts_nil) (fun _ _ _ _ _ => (pe_ix (r := rIx K) ix_seq (pv 4) (pe_op op_mod (pe_callTy (r := rIntOf) c_int rfl m_int (by decide +kernel) (pa_cons (pe_ix (r := rIx K) ix_seq (pv 8) (pe_op op_add pe_int (pv 13)) (fun _ _ => rfl)) pa_nil)) pe_int) (fun _ _ => rfl)))))))
    (C8.pss_cut (ps_if (PW.pt (pw_and (pt_cmpR op_eq (pv 9) pe_int (nomark _)) (pw_and1 (pt_cmpR op_gt (pv 7) pe_int (nomark _))))) (pss_cons (ps_set (i := 11) sc_names.nd rfl (.inl rfl) (pe_op op_mod (pe_callTy (r := rIntOf) c_int rfl m_int (by decide +kernel) (pa_cons (pe_ix (r := rIx K) ix_seq (pv 8) pe_int (fun _ _ => rfl)) pa_nil)) (pe_callB (r := rLn K) c_len rfl m_len (by decide +kernel) (pa_cons (pe_ix (r := rIx K) ix_seq (pv 6) (pe_op op_sub (pv 7) pe_int) (fun _ _ => rfl)) pa_nil))))
    (pss_cons (ps_set (i := 12) sc_names.nd rfl (.inl rfl) (pe_ix (r := rIx K) ix_seq (pv 4) (pe_op op_mod (pe_callTy (r := rIntOf) c_int rfl m_int (by decide +kernel) (pa_cons (pe_ix (r := rIx K) ix_seq (pv 8) pe_int (fun _ _ => rfl)) pa_nil)) pe_int) (fun _ _ => rfl)))
    (C8.pss_cut (ps_if (pt_cmpR op_eq (pv 11) pe_int (nomark _)) (pss_one (ps_set (i := 12) sc_names.nd rfl (.inl rfl) (pe_ix (r := rIx K) ix_seq (pv 3) (pe_op op_mod (pe_callTy (r := rIntOf) c_int rfl m_int (by decide +kernel) (pa_cons (pe_ix (r := rIx K) ix_seq (pv 8) pe_int (fun _ _ => rfl)) pa_nil)) pe_int) (fun _ _ => rfl)))) pss_nil)
    (pss_one (ps_set (i := 10) sc_names.nd rfl (.inl rfl) (pe_op (r := rAd K) ad_any (pe_op (r := rAd K) ad_any (pe_slice (r := rSl K) sl_any (pe_ix (r := rIx K) ix_seq (pv 6) (pe_op op_sub (pv 7) pe_int) (fun _ _ => rfl)) po_none (po_some (pv 11))) (pv 12)) (pe_slice (r := rSl K) sl_any (pe_ix (r := rIx K) ix_seq (pv 6) (pe_op op_sub (pv 7) pe_int) (fun _ _ => rfl)) (po_some (pe_op op_add (pv 11) pe_int)) po_none))))))) pss_nil)
    (C8.pss_cut (ps_if (PW.pt (pw_and (pt_cmpR op_eq (pv 9) pe_int (nomark _)) (pw_and1 (pt_cmpR op_gt (pv 7) pe_int (nomark _))))) (pss_one (ps_set (i := 10) sc_names.nd rfl (.inl rfl) (pe_op (r := rAd K) ad_any (pe_ix (r := rIx K) ix_seq (pv 6) (pe_op op_sub (pv 7) pe_int) (fun _ _ => rfl)) (pe_ix (r := rIx K) ix_seq (pv 4) (pe_op op_mod (pe_callTy (r := rIntOf) c_int rfl m_int (by decide +kernel) (pa_cons (pe_ix (r := rIx K) ix_seq (pv 8) pe_int (fun _ _ => rfl)) pa_nil)) pe_int) (fun _ _ => rfl))))) pss_nil)
    (C8.pss_cut (ps_if (PW.pt (pw_and (pt_cmpR op_eq (pv 9) pe_int (nomark _)) (pw_and1 (pt_cmpR op_eq (pv 7) pe_int (nomark _))))) (pss_one (ps_set (i := 10) sc_names.nd rfl (.inl rfl) (pe_op (r := rAd K) ad_any (pe_ix (r := rIx K) ix_seq (pv 2) (pe_op op_mod (pe_callTy (r := rIntOf) c_int rfl m_int (by decide +kernel) (pa_cons (pe_ix (r := rIx K) ix_seq (pv 8) pe_int (fun _ _ => rfl)) pa_nil)) pe_int) (fun _ _ => rfl)) (pe_ix (r := rIx K) ix_seq (pv 4) (pe_op op_mod (pe_callTy (r := rIntOf) c_int rfl m_int (by decide +kernel) (pa_cons (pe_ix (r := rIx K) ix_seq (pv 8) pe_int (fun _ _ => rfl)) pa_nil)) pe_int) (fun _ _ => rfl))))) pss_nil)
    (pss_cons (ps_for PassesOwn.never rfl (pi_range1 rfl m_range (pa_cons (pe_op op_add (pv 1) pe_int) pa_nil)) (pg_name (i := 13) sc_names.nd rfl (.inl rfl))
      (pss_one (ps_if (PW.pt (pw_or (pt_cmpR (r := rIn K false) op_in_seq (pv 10) (pv 6) rfl) (pw_or1 (pt_cmpR (r := rIn K false) op_in_seq (pv 10) (pv 2) rfl)))) (pss_one (ps_set (i := 10) sc_names.nd rfl (.inl rfl) (pe_op (r := rAdS) ad_str (pv 10) pe_str))) pss_nil)))
    (pss_one (ps_expr (pe_bm PySem.F.plainAttrs_list PySem.F.slot_list_append PySem.F.type_list_append mt_append (pv 6) (pa_cons (pv 10) pa_nil))))))))))))
    (pss_one (ps_ret (pv 6))))))))), ?_⟩
  refine ⟨(by show 9 ≤ sizeLine; decide), fun a na => ?_⟩
  have s1 := same_new (o := .lst [V.str "all", .str "true", .str "false", .str "not", .str "and", .str "or", .str "relation", .str "values", .str "symmetric"]) na
  refine ⟨_, rfl, _, _, rfl, rfl, (by decide +kernel), _, _, rfl, rfl, (by decide +kernel), ?_⟩
  refine ⟨_, rfl, _, rfl, _, _, rfl, rfl, .inl ⟨by decide, by decide⟩, c, 3276, 8 * (n : Int), rfl, by decide, by decide, by omega, by omega, fun ds d hl hd nd => ?_⟩
  have s2 := same_new (o := .lst (ds.map V.int)) nd
  refine ⟨Nat.zero_le _, fun p np => ?_⟩
  have s3 := same_new (o := .lst ([] : List V)) np
  have np0 : H p = none := s1.free (s2.free np)
  have nap : a ≠ p := ne_of_none (s2 _ _ upd_same) np
  have ndp : d ≠ p := ne_of_none upd_same np
  have inv0 : NI H _ a d p ["all", "true", "false", "not", "and", "or", "relation", "values", "symmetric"] ds [] :=
    ⟨s1.trans (s2.trans s3), s3 _ _ (s2 _ _ upd_same), s3 _ _ upd_same, upd_same⟩
  have lo : ∀ x : Int, 0 < x → x < 1000 → ∀ y : Int, CDivW y x := fun x h0 h1 y => wide_div (b := 10) h0 (by omega) (by decide) (by decide)
  have dl : ds.length = 8 * n := by omega
  refine ⟨.int n, rfl, n, rfl, by omega, by omega, ?_⟩
  refine for_range (lo := 0) (n := ((n : Nat) : Int).toNat) (fun i σ H1 => ∃ (s7 s8 s9 s10 s11 s12 s13 : Option V) (zs : List Str),
      σ = [some (.int c), some (.int n), some (.ref a), some (.str "abcdefghijklmnopqrstuvwxyz"), some (.str (("abcdefghijklmnopqrstuvwxyz" : Str) ++ ("ABCDEFGHIJKLMNOPQRSTUVWXYZ" : Str) ++ ("0123456789_" : Str))), some (.ref d), some (.ref p), s7, s8, s9, s10, s11, s12, s13] ∧
      NI H H1 a d p ["all", "true", "false", "not", "and", "or", "relation", "values", "symmetric"] ds zs ∧ zs.length = i ∧ ∀ z ∈ zs, 1 ≤ z.length ∧ z.length + 20 ≤ 100 * 2 ^ i)
    ⟨none, none, none, none, none, none, none, [], rfl, inv0, rfl, by simp⟩ ?_ ?_
  · rintro i σ H1 hi ⟨s7, s8, s9, s10, s11, s12, s13, zs, rfl, inv, hz, hzs⟩
    have hi' : i < n := by omega
    have pw : 1 ≤ 2 ^ i := Nat.one_le_two_pow
    have pw2 : 2 ^ (i + 1) = 2 * 2 ^ i := by rw [Nat.pow_succ]; omega
    have pw9 : 2 ^ i ≤ 2 ^ 9 := Nat.pow_le_pow_right (by decide) (by omega)
    have pw512 : (2 : Nat) ^ 9 = 512 := rfl
    -- row
    obtain ⟨rs, ers, mrs, lrs⟩ := cutV_ints ds (some (8 * (0 + (i : Int)))) (some (8 * (0 + (i : Int)) + 8))
    have l8 : rs.length = 8 := by
      have e1 : (8 * (0 + (i : Int))) = ((8 * i : Nat) : Int) := by omega
      have e2 : (8 * (0 + (i : Int)) + 8) = ((8 * i + 8 : Nat) : Int) := by omega
      rw [lrs, e2, e1, HT.sIx_nat, HT.sIx_nat]
      omega
    refine ⟨_, rfl, .int (0 + (i : Nat)), rfl, _, _, rfl, rfl, .inl ⟨by decide, by decide⟩, _, rfl, .int (0 + (i : Nat)), rfl, _, _, rfl, rfl, .inl ⟨by decide, by decide⟩, _, _, rfl, rfl, _, rfl,
      .inl ⟨d, _, rfl, SqL.of inv.2.2.1, fun r nr => ?_⟩⟩
    rw [ers]
    have inv1 := inv.same (same_new (o := .lst (rs.map V.int)) nr)
    have er : (upd H1 r (.lst (rs.map V.int))) r = some (.lst (rs.map V.int)) := upd_same
    generalize upd H1 r (.lst (rs.map V.int)) = H2 at inv1 er
    -- way
    refine ⟨_, rfl, int_at (SqL.of er) (by decide) (by omega) fun d0 _ => ⟨_, _, rfl, rfl, lo _ (by decide) (by decide) _, _, rfl, _, _, rfl, rfl, (by decide : (0 : Int) < 3), ?_⟩⟩
    -- name
    refine ⟨_, rfl, _, rfl, int_at (SqL.of er) (by decide) (by omega) fun d1 _ => ⟨_, rfl, _, _, rfl, rfl, (by decide : (0 : Int) < 26), sign_at (by decide +kernel) (Int.emod_nonneg _ (by decide))
      (Int.lt_of_lt_of_le (Int.emod_lt_of_pos _ (by decide)) (by decide +kernel)) fun c1 => ⟨⟨_, rfl⟩, ?_⟩⟩⟩
    refine ⟨_, rfl, int_at (SqL.of er) (by decide) (by omega) fun d2 _ => ⟨_, _, rfl, rfl, lo _ (by decide) (by decide) _, _, rfl, _, _, rfl, rfl, (by decide : (0 : Int) < 7), _, rfl, ?_⟩⟩
    have j0 := Int.emod_nonneg (d2 / 26) (show (7 : Int) ≠ 0 by decide)
    have j7 := Int.emod_lt_of_pos (d2 / 26) (show (0 : Int) < 7 by decide)
    refine ⟨by omega, by omega, fun D nD => ?_⟩
    refine lc_range (lo := 0) (n := (d2 / 26 % 7).toNat) (fun j H3 => Same H2 H3 ∧ ∃ ys : List Str, H3 D = some (.lst (ys.map V.str)) ∧ ys.length = j ∧ ∀ y ∈ ys, y.length = 1)
      ⟨same_new nD, [], upd_same, rfl, by simp⟩ ?_ ?_
    · rintro j H3 hj ⟨sm, ys, eD, ly, hy⟩
      refine ⟨rfl, _, rfl, _, rfl, .int (0 + (j : Nat)), rfl, _, _, rfl, rfl, int_at (SqL.of (sm _ _ er)) (by omega) (by omega) fun d3 _ => ⟨_, rfl, _, _, rfl, rfl, (by decide : (0 : Int) < 63), sign_at (by decide +kernel)
        (Int.emod_nonneg _ (by decide)) (Int.lt_of_lt_of_le (Int.emod_lt_of_pos _ (by decide)) (by decide +kernel)) fun c3 => ⟨ys.map V.str, eD, ?_, fun b u e => ?_, ys ++ [⟨#[c3]⟩], ?_, ?_, ?_⟩⟩⟩
      · rw [List.length_map]
        exact line6 (by omega)
      · rw [upd_ne (ne_of_none e nD)]
        exact sm b u e
      · rw [upd_same, List.map_append]
        rfl
      · rw [List.length_append, ly]
        rfl
      · intro y hm
        rcases List.mem_append.mp hm with h | h
        · exact hy y h
        · rw [List.mem_singleton.mp h]
          rfl
    rintro H3 ⟨sm, ys, eD, ly, hy⟩
    have inv3 := inv1.same sm
    have er3 := sm _ _ er
    have sy := sum_ones hy
    have lj : (Txt.join ("" : Str) ys).length = ys.length := PySem.W.KT.join_ones ys hy
    have l1 : (⟨#[c1]⟩ : Str).length = 1 := rfl
    refine ⟨_, D, ys, rfl, rfl, .inl (SqL.of eD), ?_, _, _, rfl, rfl, ?_, ?_⟩
    · rw [sy]
      show ys.length + ys.length * 0 ≤ 16777216
      omega
    · rw [l1, lj, sizeLine_eq]
      omega
    have nl1 : 1 ≤ ((⟨#[c1]⟩ : Str) ++ Txt.join ("" : Str) ys).length ∧ ((⟨#[c1]⟩ : Str) ++ Txt.join ("" : Str) ys).length ≤ 7 := by
      rw [len_app]
      omega
    have prev : ∀ (H5 : Hp) (Q' : VK), NI H H5 a d p ["all", "true", "false", "not", "and", "or", "relation", "values", "symmetric"] ds zs → 0 < i → (∀ z ∈ zs, Q' (.str z) H5) → rIx K (.ref p) (.int (0 + (i : Int) - 1)) H5 Q' :=
      fun H5 Q' iv h0 q' => str_at (SqL.of iv.2.2.2) (by omega) (by omega) q'
    have zsz : ∀ z ∈ zs, z.length ≤ sizeLine := fun z h => Nat.le_of_lt (line6 (by have := hzs z h; omega))
    have smallS : ("abcdefghijklmnopqrstuvwxyz" : Str).length = 26 := by decide +kernel
    have innerS : (("abcdefghijklmnopqrstuvwxyz" : Str) ++ ("ABCDEFGHIJKLMNOPQRSTUVWXYZ" : Str) ++ ("0123456789_" : Str)).length = 63 := by decide +kernel
    let Mid : L2.St → Hp → Prop := fun σ' H' => ∃ (nm : Str) (s11 s12 s13 : Option V), σ' = [some (.int c), some (.int n), some (.ref a), some (.str "abcdefghijklmnopqrstuvwxyz"),
        some (.str (("abcdefghijklmnopqrstuvwxyz" : Str) ++ ("ABCDEFGHIJKLMNOPQRSTUVWXYZ" : Str) ++ ("0123456789_" : Str))), some (.ref d), some (.ref p), some (.int (0 + (i : Nat))), some (.ref r), some (.int (d0 / 182 % 3)), some (.str nm), s11, s12, s13] ∧
      NI H H' a d p ["all", "true", "false", "not", "and", "or", "relation", "values", "symmetric"] ds zs ∧ H' r = some (.lst (rs.map V.int)) ∧ 1 ≤ nm.length ∧ nm.length + 39 ≤ 200 * 2 ^ i
    refine ⟨Mid, ?_, ?_⟩
    · have stay : Mid _ H3 := ⟨_, s11, s12, s13, rfl, inv3, er3, nl1.1, by omega⟩
      refine ⟨_, rfl, rfl, _, rfl, ite2 (fun _ => ?_) (fun _ => iteF stay)⟩
      refine ⟨.int (0 + (i : Nat)), rfl, _, _, rfl, rfl, _, rfl, ite2 (fun ci => ?_) (fun _ => stay)⟩
      have i0 : 0 < i := by
        have c' : (0 : Int) < 0 + (i : Int) := of_decide_eq_true ci
        omega
      refine ⟨_, rfl, int_at (SqL.of er3) (by decide) (by omega) fun d4 _ => ⟨_, rfl, _, rfl, .int (0 + (i : Nat)), rfl, _, _, rfl, rfl, prev _ _ inv3 i0 fun z hz => .inr ⟨z, rfl, zsz z hz, _, _, rfl, rfl, ?_, ?_⟩⟩⟩
      · have := (hzs z hz).1
        show (0 : Int) < (z.length : Nat)
        omega
      have zp := (hzs z hz).1
      have e0 := Int.emod_nonneg d4 (show ((z.length : Nat) : Int) ≠ 0 by omega)
      have e1 := Int.emod_lt_of_pos d4 (show (0 : Int) < ((z.length : Nat) : Int) by omega)
      refine ⟨_, rfl, _, rfl, int_at (SqL.of er3) (by decide) (by omega) fun d5 _ => ⟨_, rfl, _, _, rfl, rfl, (by decide : (0 : Int) < 63), sign_at (by decide +kernel)
        (Int.emod_nonneg _ (by decide)) (Int.lt_of_lt_of_le (Int.emod_lt_of_pos _ (by decide)) (by decide +kernel)) fun c5 => ?_⟩⟩
      let Mid2 : L2.St → Hp → Prop := fun σ' H' => ∃ (nm md : Str) (s13 : Option V), σ' = [some (.int c), some (.int n), some (.ref a), some (.str "abcdefghijklmnopqrstuvwxyz"),
          some (.str (("abcdefghijklmnopqrstuvwxyz" : Str) ++ ("ABCDEFGHIJKLMNOPQRSTUVWXYZ" : Str) ++ ("0123456789_" : Str))), some (.ref d), some (.ref p), some (.int (0 + (i : Nat))), some (.ref r), some (.int (d0 / 182 % 3)), some (.str nm), some (.int (d4 % (z.length : Nat))), some (.str md), s13] ∧
        NI H H' a d p ["all", "true", "false", "not", "and", "or", "relation", "values", "symmetric"] ds zs ∧ H' r = some (.lst (rs.map V.int)) ∧ md.length = 1
      refine ⟨Mid2, ?_, ?_⟩
      · have stay2 : ∀ md : Str, md.length = 1 → Mid2 [some (.int c), some (.int n), some (.ref a), some (.str "abcdefghijklmnopqrstuvwxyz"),
            some (.str (("abcdefghijklmnopqrstuvwxyz" : Str) ++ ("ABCDEFGHIJKLMNOPQRSTUVWXYZ" : Str) ++ ("0123456789_" : Str))), some (.ref d), some (.ref p), some (.int (0 + (i : Nat))), some (.ref r), some (.int (d0 / 182 % 3)), some (.str ((⟨#[c1]⟩ : Str) ++ Txt.join ("" : Str) ys)), some (.int (d4 % (z.length : Nat))), some (.str md), s13] H3 :=
          fun md h => ⟨_, md, s13, rfl, inv3, er3, h⟩
        refine ⟨_, rfl, rfl, _, rfl, ite2 (fun _ => ?_) (fun _ => stay2 _ (len_one _))⟩
        exact ⟨_, rfl, _, rfl, int_at (SqL.of er3) (by decide) (by omega) fun d6 _ => ⟨_, rfl, _, _, rfl, rfl, (by decide : (0 : Int) < 26), sign_at (by decide +kernel)
          (Int.emod_nonneg _ (by decide)) (Int.lt_of_lt_of_le (Int.emod_lt_of_pos _ (by decide)) (by decide +kernel)) fun c6 => stay2 _ (len_one _)⟩⟩
      · rintro σ' H5 ⟨nm, md, t13, rfl, inv5, er5, lmd⟩
        refine ⟨_, rfl, .int (0 + (i : Nat)), rfl, _, _, rfl, rfl, prev _ _ inv5 i0 fun z2 hz2 => ⟨_, rfl, _, rfl, .inr (.inr ⟨z2, rfl, zsz z2 hz2, _, rfl, ?_⟩)⟩⟩
        have cl2 := cutS_length z2 none (some (d4 % (z.length : Nat)))
        have b2 := hzs z2 hz2
        refine .inr (.inl ⟨_, _, rfl, rfl, ?_, _, rfl, .int (0 + (i : Nat)), rfl, _, _, rfl, rfl, prev _ _ inv5 i0 fun z3 hz3 => ⟨_, rfl, _, _, rfl, rfl, _, rfl, .inr (.inr ⟨z3, rfl, zsz z3 hz3, .inr (.inl ⟨_, _, rfl, rfl, ?_, ?_⟩)⟩)⟩⟩)
        · rw [lmd, sizeLine_eq]
          omega
        · have cl3 := cutS_length z3 (some (d4 % (z.length : Nat) + 1)) none
          have b3 := hzs z3 hz3
          rw [len_app, lmd, sizeLine_eq]
          omega
        · have cl3 := cutS_length z3 (some (d4 % (z.length : Nat) + 1)) none
          have b3 := hzs z3 hz3
          exact ⟨_, _, _, _, rfl, inv5, er5, by rw [len_app, len_app, lmd]; omega, by rw [len_app, len_app, lmd]; omega⟩
    -- the second way
    rintro σ' H5 ⟨nm, t11, t12, t13, rfl, inv5, er5, ln1, ln2⟩
    refine ⟨Mid, ?_, ?_⟩
    · have stay : Mid _ H5 := ⟨nm, t11, t12, t13, rfl, inv5, er5, ln1, ln2⟩
      refine ⟨_, rfl, rfl, _, rfl, ite2 (fun _ => ?_) (fun _ => iteF stay)⟩
      refine ⟨.int (0 + (i : Nat)), rfl, _, _, rfl, rfl, _, rfl, ite2 (fun ci => ?_) (fun _ => stay)⟩
      have i0 : 0 < i := by
        have c' : (0 : Int) < 0 + (i : Int) := of_decide_eq_true ci
        omega
      refine ⟨_, rfl, .int (0 + (i : Nat)), rfl, _, _, rfl, rfl, prev _ _ inv5 i0 fun z hz => ⟨_, rfl, _, rfl, int_at (SqL.of er5) (by decide) (by omega) fun d4 _ => ⟨_, rfl, _, _, rfl, rfl, (by decide : (0 : Int) < 63), sign_at (by decide +kernel)
        (Int.emod_nonneg _ (by decide)) (Int.lt_of_lt_of_le (Int.emod_lt_of_pos _ (by decide)) (by decide +kernel)) fun c5 => .inr (.inl ⟨_, _, rfl, rfl, ?_, ?_⟩)⟩⟩⟩
      · have b := hzs z hz
        have l1 : (⟨#[c5]⟩ : Str).length = 1 := rfl
        rw [l1, sizeLine_eq]
        omega
      · have b := hzs z hz
        have l1 : (⟨#[c5]⟩ : Str).length = 1 := rfl
        exact ⟨_, t11, t12, t13, rfl, inv5, er5, by rw [len_app]; omega, by rw [len_app]; omega⟩
    -- the third way
    rintro σ' H5 ⟨nm, t11, t12, t13, rfl, inv5, er5, ln1, ln2⟩
    refine ⟨Mid, ?_, ?_⟩
    · have stay : Mid _ H5 := ⟨nm, t11, t12, t13, rfl, inv5, er5, ln1, ln2⟩
      refine ⟨_, rfl, rfl, _, rfl, ite2 (fun _ => ?_) (fun _ => iteF stay)⟩
      refine ⟨.int (0 + (i : Nat)), rfl, rfl, _, rfl, ite2 (fun ci => ?_) (fun _ => stay)⟩
      refine ⟨_, rfl, _, rfl, int_at (SqL.of er5) (by decide) (by omega) fun d4 _ => ⟨_, rfl, _, _, rfl, rfl, (by decide : (0 : Int) < 9), str_at (SqL.of inv5.2.1) (Int.emod_nonneg _ (by decide))
        (Int.lt_of_lt_of_le (Int.emod_lt_of_pos _ (by decide)) (by decide)) fun z hz => ⟨_, rfl, _, rfl, int_at (SqL.of er5) (by decide) (by omega) fun d6 _ => ⟨_, rfl, _, _, rfl, rfl, (by decide : (0 : Int) < 63), sign_at (by decide +kernel)
        (Int.emod_nonneg _ (by decide)) (Int.lt_of_lt_of_le (Int.emod_lt_of_pos _ (by decide)) (by decide +kernel)) fun c5 => .inr (.inl ⟨_, _, rfl, rfl, ?_, ?_⟩)⟩⟩⟩⟩
      · have b : z.length ≤ 9 := by
          revert z
          decide +kernel
        have l1 : (⟨#[c5]⟩ : Str).length = 1 := rfl
        rw [l1, sizeLine_eq]
        omega
      · have b : z.length ≤ 9 := by
          revert z
          decide +kernel
        have l1 : (⟨#[c5]⟩ : Str).length = 1 := rfl
        exact ⟨_, t11, t12, t13, rfl, inv5, er5, by rw [len_app]; omega, by rw [len_app]; omega⟩
    -- the name is made new, then kept
    rintro σ' H5 ⟨nm, t11, t12, t13, rfl, inv5, er5, ln1, ln2⟩
    refine ⟨_, rfl, _, _, rfl, rfl, _, rfl, by omega, by omega, ?_⟩
    refine for_range (lo := 0) (n := ((n : Nat) + 1 : Int).toNat) (fun j σ6 H6 => H6 = H5 ∧ ∃ (nm : Str) (s13 : Option V), σ6 = [some (.int c), some (.int n), some (.ref a), some (.str "abcdefghijklmnopqrstuvwxyz"),
        some (.str (("abcdefghijklmnopqrstuvwxyz" : Str) ++ ("ABCDEFGHIJKLMNOPQRSTUVWXYZ" : Str) ++ ("0123456789_" : Str))), some (.ref d), some (.ref p), some (.int (0 + (i : Nat))), some (.ref r), some (.int (d0 / 182 % 3)), some (.str nm), t11, t12, s13] ∧
        1 ≤ nm.length ∧ nm.length + 39 ≤ 200 * 2 ^ i + j) ⟨rfl, nm, t13, rfl, ln1, by omega⟩ ?_ ?_
    · rintro j σ6 H6 hj ⟨rfl, nm, s13, rfl, l1, l2⟩
      have more : ∃ (nm2 : Str) (s13 : Option V), [some (.int c), some (.int n), some (.ref a), some (.str "abcdefghijklmnopqrstuvwxyz"),
        some (.str (("abcdefghijklmnopqrstuvwxyz" : Str) ++ ("ABCDEFGHIJKLMNOPQRSTUVWXYZ" : Str) ++ ("0123456789_" : Str))), some (.ref d), some (.ref p), some (.int (0 + (i : Nat))), some (.ref r), some (.int (d0 / 182 % 3)), some (.str (nm ++ ("_" : Str))), t11, t12, some (.int (0 + (j : Nat)))] = [some (.int c), some (.int n), some (.ref a), some (.str "abcdefghijklmnopqrstuvwxyz"),
        some (.str (("abcdefghijklmnopqrstuvwxyz" : Str) ++ ("ABCDEFGHIJKLMNOPQRSTUVWXYZ" : Str) ++ ("0123456789_" : Str))), some (.ref d), some (.ref p), some (.int (0 + (i : Nat))), some (.ref r), some (.int (d0 / 182 % 3)), some (.str nm2), t11, t12, s13] ∧
        1 ≤ nm2.length ∧ nm2.length + 39 ≤ 200 * 2 ^ i + (j + 1) := by
        have lu : ("_" : Str).length = 1 := by decide +kernel
        exact ⟨_, _, rfl, by rw [len_app]; omega, by rw [len_app]; omega⟩
      have room : nm.length + ("_" : Str).length ≤ sizeLine := by
        have lu : ("_" : Str).length = 1 := by decide +kernel
        rw [lu, sizeLine_eq]
        omega
      refine ⟨_, rfl, _, rfl, p, _, rfl, .inl (SqL.of inv5.2.2.2), rfl, all_flat zs, _, rfl, ite2 (fun _ => iteT ?_) (fun _ => ?_)⟩
      · exact ⟨_, rfl, _, _, rfl, rfl, room, rfl, more⟩
      · refine ⟨_, rfl, _, rfl, a, _, rfl, .inl (SqL.of inv5.2.1), rfl, all_flat _, _, rfl, ite2 (fun _ => ?_) (fun _ => ?_)⟩
        · exact ⟨_, rfl, _, _, rfl, rfl, room, rfl, more⟩
        · exact ⟨rfl, nm, _, rfl, l1, by omega⟩
    · rintro σ6 H6 ⟨rfl, nm, s13, rfl, l1, l2⟩
      refine ⟨_, rfl, .inl ⟨rfl, _, .inl (.inl inv5.2.2.2)⟩, _, rfl, p, _, _, rfl, rfl, inv5.2.2.2, ?_, _, _, _, _, _, _, _, zs ++ [nm], rfl, ⟨fun b u e => ?_, ?_, ?_, ?_⟩, by simp [hz], fun z h => ?_⟩
      · rw [List.length_map]
        exact line6 (by omega)
      · rw [upd_ne (ne_of_none e np0)]
        exact inv5.1 b u e
      · rw [upd_ne nap]
        exact inv5.2.1
      · rw [upd_ne ndp]
        exact inv5.2.2.1
      · rw [upd_same, List.map_append]
        rfl
      · rcases List.mem_append.mp h with h | h
        · have := hzs z h
          exact ⟨this.1, by omega⟩
        · rw [List.mem_singleton.mp h]
          exact ⟨l1, by omega⟩
  · rintro σ H1 ⟨s7, s8, s9, s10, s11, s12, s13, zs, rfl, inv, hz, hzs⟩
    have pw10 : 2 ^ ((n : Nat) : Int).toNat ≤ 2 ^ 10 := Nat.pow_le_pow_right (by decide) (by omega)
    have pw1024 : (2 : Nat) ^ 10 = 1024 := rfl
    refine ⟨_, rfl, q zs p H1 (by omega) (fun z h => ?_) inv.1 np0 inv.2.2.2⟩
    have := hzs z h
    exact ⟨this.1, by omega⟩
end
end Nz
namespace Nz
open PySem PySem.Spec PyProof.Rows L2
/-- a relation: its name, arity, number of values, and what follows -/
def RelAt (H : Hp) (x : V) (ar : Int) : Prop := ∃ q z va r, x = .ref q ∧ H q = some (.tup (.str z :: .int ar :: .int va :: r)) ∧ 1 ≤ ar ∧ ar ≤ 3 ∧ 1 ≤ va ∧ z.length ≤ 300000
theorem RelAt.tup {H H' : Hp} {x : V} {ar : Int} (e : TupSame H H') (h : RelAt H x ar) : RelAt H' x ar :=
  let ⟨q, z, va, r, h1, h2, h3⟩ := h
  ⟨q, z, va, r, h1, e _ _ h2, h3⟩
theorem divW {x y : Int} (h0 : 0 < y) (h1 : y < 2 ^ 40) : CDivW x y := wide_div (b := 40) h0 (by omega) (by decide) (by decide)
section
variable {P : Program} {w : World} {K : PySem.W.Frag} {mg : Str → Option Value} {base : Heap}
/-! ### _law_atom -/
def spAtom (K : PySem.W.Frag) : Sp := fun vs H Q _ => ∃ (a : Addr) (dg : Int) (n : Nat) (xs : List V), vs = [.int dg, .int n, .ref a] ∧ SqL K H a xs ∧ xs.length ≤ 1000 ∧ n ≤ 4 ∧ (∀ x ∈ xs, ∃ ar, RelAt H x ar) ∧
  ∀ (t : Fm) (H' : Hp), t.nodes = 1 → t.At H' → Same H H' → Q t.root H'
theorem ok_atom {k : Nat} {f : Addr} {fd : FuncData} (F : Fun K "_law_atom" "_law_atom" s_atom f fd) (m_int : mg "int" = none) (m_len : mg "len" = none) (m_list : mg "list" = none) (m_min : mg "min" = none) (m_range : mg "range" = none) (m_tuple : mg "tuple" = none) : FnOk P w K mg base CX0 (k + 1) f fd ["digit", "count", "relations"] (spAtom K) := by
  refine F.ok sc_atom (fun vs H Q E h => ?_) (fun cdv A outer s H vs Q E hr h => ?_)
  · obtain ⟨a, dg, n, xs, rfl, _⟩ := h
    rfl
  obtain ⟨a, dg, n, xs, rfl, hS, lx, hn, hx, q⟩ := h
  refine ⟨_, (pss_cons (ps_setLc (i := 3) (own := [("relation", 4)]) (g := gName 4) (by rfl) sc_atom.nd rfl rfl (sw_true rfl rfl rfl (by decide +kernel)) (pi_seq (pv 2)) (blkOk_by (own := [("relation", 4)]) (N := ["digit", "count", "relations", "fitting", "relation", "rest", "variables", "chosen", "k", "at"]) (sc := defScope s_atom) (by decide +kernel)) (fun _ _ _ _ _ => (pg_name (i := 4) sc_atom.nd rfl (.inl rfl))) (fun _ _ _ _ _ => (pts_one (pt_cmpR op_le (pe_ix (r := rIx K) ix_seq (pv 4) pe_int (fun _ _ => rfl)) (pv 1) (nomark _)))) (fun _ _ _ _ _ => (pv 4)))
    (pss_cons (ps_if (pt_cmpR op_eq (pe_callB (r := rLn K) c_len rfl m_len (by decide +kernel) (pa_cons (pv 3) pa_nil)) pe_int (nomark _)) (pss_one (ps_ret (pe_tup (pa_cons pe_str pa_nil)))) pss_nil)
    (pss_cons (ps_set (i := 4) sc_atom.nd rfl (.inl rfl) (pe_ix (r := rIx K) ix_seq (pv 3) (pe_op op_mod (pe_callTy (r := rIntOf) c_int rfl m_int (by decide +kernel) (pa_cons (pv 0) pa_nil)) (pe_callB (r := rLn K) c_len rfl m_len (by decide +kernel) (pa_cons (pv 3) pa_nil))) (fun _ _ => rfl)))
    (pss_cons (ps_set (i := 5) sc_atom.nd rfl (.inl rfl) (pe_op op_fdivW (pe_callTy (r := rIntOf) c_int rfl m_int (by decide +kernel) (pa_cons (pv 0) pa_nil)) (pe_callB (r := rLn K) c_len rfl m_len (by decide +kernel) (pa_cons (pv 3) pa_nil))))
    (pss_cons (ps_set (i := 6) sc_atom.nd rfl (.inl rfl) (pe_listRg rfl rfl m_list (prg_1 rfl m_range (pv 1))))
    (pss_cons (ps_set (i := 7) sc_atom.nd rfl (.inl rfl) (pe_lst pa_nil))
    (pss_cons (ps_for PassesOwn.never rfl (pi_range1 rfl m_range (pa_cons (pe_ix (r := rIx K) ix_seq (pv 4) pe_int (fun _ _ => rfl)) pa_nil)) (pg_name (i := 8) sc_atom.nd rfl (.inl rfl))
      (pss_cons (ps_set (i := 9) sc_atom.nd rfl (.inl rfl) (pe_op op_mod (pe_callTy (r := rIntOf) c_int rfl m_int (by decide +kernel) (pa_cons (pv 5) pa_nil)) (pe_callB (r := rLn K) c_len rfl m_len (by decide +kernel) (pa_cons (pv 6) pa_nil))))
    (pss_cons (ps_set (i := 5) sc_atom.nd rfl (.inl rfl) (pe_op op_fdivW (pv 5) (pe_callB (r := rLn K) c_len rfl m_len (by decide +kernel) (pa_cons (pv 6) pa_nil))))
    (pss_one (ps_expr (pe_bm PySem.F.plainAttrs_list PySem.F.slot_list_append PySem.F.type_list_append mt_append (pv 7) (pa_cons (pe_bm PySem.F.plainAttrs_list PySem.F.slot_list_pop PySem.F.type_list_pop mt_popAt (pv 6) (pa_cons (pv 9) pa_nil)) pa_nil)))))))
    (pss_cons (ps_if (pt_cmpR op_gt (pe_op op_mod (pe_callTy (r := rIntOf) c_int rfl m_int (by decide +kernel) (pa_cons (pv 5) pa_nil)) pe_int) pe_int (nomark _)) (pss_one (ps_ret (pe_tup (pa_cons pe_str (pa_cons (pe_ix (r := rIx K) ix_seq (pv 4) pe_int (fun _ _ => rfl)) (pa_cons (pe_callTy (r := rTupOf K) c_tuple rfl m_tuple (by decide +kernel) (pa_cons (pv 7) pa_nil)) (pa_cons (pe_op op_mod (pe_callTy (r := rIntOf) c_int rfl m_int (by decide +kernel) (pa_cons (pe_op op_fdivW (pv 5) pe_int) pa_nil)) (pe_callB (call_min2 rfl) rfl m_min (by decide +kernel) (pa_cons (pe_op op_add (pe_ix (r := rIx K) ix_seq (pv 4) pe_int (fun _ _ => rfl)) pe_int) (pa_cons (pe_op op_pow pe_int pe_int) pa_nil)))) pa_nil))))))) pss_nil)
    (pss_one (ps_ret (pe_tup (pa_cons pe_str (pa_cons (pe_ix (r := rIx K) ix_seq (pv 4) pe_int (fun _ _ => rfl)) (pa_cons (pe_callTy (r := rTupOf K) c_tuple rfl m_tuple (by decide +kernel) (pa_cons (pv 7) pa_nil)) (pa_cons (pe_op op_mod (pe_callTy (r := rIntOf) c_int rfl m_int (by decide +kernel) (pa_cons (pe_op op_fdivW (pv 5) pe_int) pa_nil)) (pe_op op_pow pe_int pe_int)) pa_nil))))))))))))))), ?_⟩
  refine .inl ⟨_, rfl, a, rfl, ⟨_, hS⟩, fun D nD => ?_⟩
  refine lc_list (K := K) (a := a) (xs := xs) (fun i H1 => Same H H1 ∧ ∃ fs, H1 D = some (.lst fs) ∧ fs.length ≤ i ∧ ∀ x ∈ fs, ∃ ar, RelAt H x ar ∧ ar ≤ n) ⟨same_new nD, [], upd_same, Nat.le_refl _, by simp⟩ ?_ ?_ ?_
  · rintro i H1 _ ⟨sm, _⟩
    exact sm.seq hS
  · rintro i x H1 hi ⟨sm, fs, eD, lf, hf⟩
    obtain ⟨ar, q0, z, va, r, rfl, hq, r1, r2, r3⟩ := hx x (List.mem_of_getElem? hi)
    have li : i < xs.length := (List.getElem?_eq_some_iff.mp hi).1
    refine ⟨rfl, _, rfl, .inr (.inl ⟨q0, _, 1, .int ar, rfl, rfl, SqT.of (sm _ _ hq), atI_nat (j := 1) rfl, _, rfl, _, _, rfl, rfl, _, rfl, ite2 (fun c => ?_) (fun c => ?_)⟩)⟩
    · have c' : ar ≤ (n : Int) := of_decide_eq_true c
      refine ⟨_, rfl, fs, eD, line6 (by omega), fun b u e => ?_, fs ++ [.ref q0], upd_same, by simp; omega, fun x hm => ?_⟩
      · rw [upd_ne (ne_of_none e nD)]
        exact sm b u e
      · rcases List.mem_append.mp hm with h | h
        · exact hf x h
        · rw [List.mem_singleton.mp h]
          exact ⟨ar, ⟨q0, z, va, r, rfl, hq, r1, r2, r3⟩, c'⟩
    · exact ⟨sm, fs, eD, by omega, hf⟩
  rintro H1 ⟨sm, fs, eD, lf, hf⟩
  refine ⟨_, rfl, .inl ⟨D, _, rfl, .inl (SqL.of eD), rfl, _, rfl, ite2 (fun c => ?_) (fun c => ?_)⟩⟩
  · refine ⟨(by show 1 ≤ sizeLine; decide), fun t nt => ?_⟩
    exact q (.con (.ref t)) _ rfl ⟨t, "true", rfl, by decide, upd_same⟩ (sm.trans (same_new nt))
  have c' : ¬ (((fs.length : Nat) : Int) = 0) := fun z => c (by rw [decide_eq_true_iff, z])
  have pos : (0 : Int) < ((fs.length : Nat) : Int) := by omega
  have e0 := Int.emod_nonneg dg (show ((fs.length : Nat) : Int) ≠ 0 by omega)
  have e1 := Int.emod_lt_of_pos dg pos
  have lf3 : fs.length ≤ 1000 := by omega
  -- relation
  obtain ⟨x0, hx0⟩ : ∃ x0, fs[(dg % (fs.length : Nat)).toNat]? = some x0 := ⟨_, List.getElem?_eq_getElem (by omega)⟩
  obtain ⟨ar, ⟨q0, z, va, r, rfl, hq, r1, r2, r3, rz⟩, hle⟩ := hf x0 (List.mem_of_getElem? hx0)
  have ax := atI_nat hx0
  have en : (((dg % (fs.length : Nat)).toNat : Nat) : Int) = dg % (fs.length : Nat) := by omega
  rw [en] at ax
  refine ⟨_, rfl, _, rfl, _, rfl, _, rfl, .inl ⟨D, _, rfl, .inl (SqL.of eD), _, _, rfl, rfl, pos, .inl ⟨D, _, _, .ref q0, rfl, rfl, SqL.of eD, ax, ?_⟩⟩⟩
  refine ⟨_, rfl, _, rfl, _, rfl, .inl ⟨D, _, rfl, .inl (SqL.of eD), _, _, rfl, rfl, divW pos (by omega), ?_⟩⟩
  refine ⟨_, rfl, n, rfl, .of_le (by decide) (by omega) (by decide) (by omega), fun l nl => ?_⟩
  have s2 := same_new (o := .lst (rgV 0 n)) nl
  refine ⟨Nat.zero_le _, fun o no => ?_⟩
  have s3 := same_new (o := .lst ([] : List V)) no
  have nl0 : H l = none := sm.free nl
  have no0 : H o = none := sm.free (s2.free no)
  have nlo : l ≠ o := ne_of_none upd_same no
  have hq1 := s3 _ _ (s2 _ _ (sm _ _ hq))
  refine ⟨_, rfl, .inr (.inl ⟨q0, _, 1, .int ar, rfl, rfl, SqT.of hq1, atI_nat (j := 1) rfl, ar, rfl, by omega, by omega, ?_⟩)⟩
  have eL0 : (upd (upd H1 l (.lst (rgV 0 n))) o (.lst [])) l = some (.lst ((rng n).map V.int)) := by
    rw [s3 _ _ upd_same, rgV_rng]
  have eO0 : (upd (upd H1 l (.lst (rgV 0 n))) o (.lst [])) o = some (.lst (([] : List Int).map V.int)) := upd_same
  have sm0 := sm.trans (s2.trans s3)
  generalize upd (upd H1 l (.lst (rgV 0 n))) o (.lst []) = H2 at hq1 eL0 eO0 sm0
  refine for_range (lo := 0) (n := ar.toNat) (fun i σ H3 => ∃ (rest : Int) (kv av : Option V) (ch vr : List Int), σ = [some (.int dg), some (.int n), some (.ref a), some (.ref D), some (.ref q0), some (.int rest), some (.ref l), some (.ref o), kv, av] ∧
      Same H H3 ∧ H3 q0 = some (.tup (.str z :: .int ar :: .int va :: r)) ∧ H3 l = some (.lst (vr.map V.int)) ∧ H3 o = some (.lst (ch.map V.int)) ∧ ch.length = i ∧ vr.length + i = n)
    ⟨_, none, none, [], rng n, rfl, sm0, hq1, eL0, eO0, rfl, by rw [rng_length]; omega⟩ ?_ ?_
  · rintro i σ H3 hi ⟨rest, kv, av, ch, vr, rfl, sm3, hq3, eL, eO, lc, lv⟩
    have hi' : (i : Int) < ar := by omega
    have lvp : 0 < vr.length := by omega
    have p0 : (0 : Int) < (((vr.map V.int).length : Nat) : Int) := by
      rw [List.length_map]
      omega
    have a0 := Int.emod_nonneg rest (show (((vr.map V.int).length : Nat) : Int) ≠ 0 by omega)
    have a1 := Int.emod_lt_of_pos rest p0
    refine ⟨_, rfl, _, rfl, _, rfl, .inl ⟨l, _, rfl, .inl (SqL.of eL), _, _, rfl, rfl, p0, ?_⟩⟩
    refine ⟨_, rfl, _, rfl, .inl ⟨l, _, rfl, .inl (SqL.of eL), _, _, rfl, rfl, divW p0 (by rw [List.length_map]; omega), ?_⟩⟩
    dsimp only
    generalize hj : rest % (((vr.map V.int).length : Nat) : Int) = j at a0 a1 ⊢
    rw [List.length_map] at a1
    have hjn : j.toNat < vr.length := by omega
    refine ⟨_, rfl, .inl ⟨rfl, _, .inl (.inl eO)⟩, _, rfl, .inl ⟨rfl, _, .inl (.inl eL)⟩, _, rfl, l, vr.map V.int, j, j.toNat, .int vr[j.toNat], rfl, rfl, eL, by omega, by omega,
      seqIndex_of a0 (by rw [List.length_map]; exact a1), at_map hjn, ?_⟩
    have eO4 : (upd H3 l (.lst ((vr.map V.int).eraseIdx j.toNat))) o = some (.lst (ch.map V.int)) := by
      rw [upd_ne nlo.symm]
      exact eO
    refine ⟨o, _, _, rfl, rfl, eO4, ?_, _, _, _, ch ++ [vr[j.toNat]], vr.eraseIdx j.toNat, rfl, fun b u e => ?_, ?_, ?_, ?_, ?_, ?_⟩
    · rw [List.length_map]
      exact line6 (by omega)
    · rw [upd_ne (ne_of_none e no0), upd_ne (ne_of_none e nl0)]
      exact sm3 b u e
    · exact tup_upd eO4 _ _ (tup_upd eL _ _ hq3)
    · rw [upd_ne nlo, upd_same, List.eraseIdx_eq_take_drop_succ, List.eraseIdx_eq_take_drop_succ, List.map_append, List.map_take, List.map_drop]
    · rw [upd_same, List.map_append]
      rfl
    · rw [List.length_append, lc]
      rfl
    · rw [List.length_eraseIdx_of_lt hjn]
      omega
  · rintro σ H3 ⟨rest, kv, av, ch, vr, rfl, sm3, hq3, eL, eO, lc, lv⟩
    have lch : ch.length ≤ 3 := by omega
    have fin : ∀ (H4 : Hp) (t p : Addr) (v : Int), Same H3 H4 → H4 p = some (.tup (ch.map V.int)) → H4 t = none → Q (.ref t) (upd H4 t (.tup [.str "is", .str z, .ref p, .int v])) := by
      intro H4 t p v s4 ep nt
      refine q (.atom (.ref t)) _ rfl ⟨t, p, z, v, ch, rfl, upd_same, ?_, lch, rz⟩ (sm3.trans (s4.trans (same_new nt)))
      exact same_new nt _ _ ep
    refine ⟨_, rfl, _, rfl, _, _, rfl, rfl, (by decide : (0 : Int) < 4), _, _, rfl, rfl, _, rfl, ite2 (fun c => ?_) (fun c => ?_)⟩
    · refine ⟨_, rfl, .inr (.inl ⟨q0, _, 0, .str z, rfl, rfl, SqT.of hq3, atI_nat (j := 0) rfl, _, rfl, o, _, rfl, .inl ⟨SqL.of eO, fun p np => ?_⟩⟩)⟩
      have s4 : Same H3 (upd H3 p (.tup (ch.map V.int))) := same_new np
      refine ⟨_, rfl, _, _, rfl, rfl, divW (by decide) (by decide), _, rfl, _, rfl, .inr (.inl ⟨q0, _, 2, .int va, rfl, rfl, SqT.of (s4 _ _ hq3), atI_nat (j := 2) rfl, _, _, rfl, rfl, _, _, rfl, rfl, ⟨by decide, by decide, by decide⟩,
        _, _, rfl, _, _, rfl, rfl, ?_, ?_⟩)⟩
      · show (0 : Int) < if (10 : Int) ^ (9 : Int).toNat < va + 1 then 10 ^ (9 : Int).toNat else va + 1
        split
        · decide
        · omega
      · exact ⟨(by show 4 ≤ sizeLine; decide), fun t nt => fin _ t p _ s4 upd_same nt⟩
    · refine ⟨_, rfl, .inr (.inl ⟨q0, _, 0, .str z, rfl, rfl, SqT.of hq3, atI_nat (j := 0) rfl, _, rfl, o, _, rfl, .inl ⟨SqL.of eO, fun p np => ?_⟩⟩)⟩
      have s4 : Same H3 (upd H3 p (.tup (ch.map V.int))) := same_new np
      refine ⟨_, rfl, _, _, rfl, rfl, divW (by decide) (by decide), _, rfl, _, _, rfl, rfl, ⟨by decide, by decide, by decide⟩, _, _, rfl, rfl, (by decide : (0 : Int) < 10 ^ (9 : Int).toNat), ?_⟩
      exact ⟨(by show 4 ≤ sizeLine; decide), fun t nt => fin _ t p _ s4 upd_same nt⟩
end
end Nz
namespace Nz
open PySem PySem.Spec PyProof.Rows L2
/-- the stack of trees at p over the heap H0 -/
def Stk (H0 H : Hp) (p : Addr) (ts : List Fm) : Prop := Same H0 H ∧ H p = some (.lst (ts.map Fm.root)) ∧ ∀ k ∈ ts, k.At H
theorem Stk.same {H0 H H' : Hp} {p : Addr} {ts : List Fm} (e : Same H H') (s : Stk H0 H p ts) : Stk H0 H' p ts :=
  ⟨s.1.trans e, e _ _ s.2.1, fun k hk => k.at_same e (s.2.2 k hk)⟩
theorem Stk.push {H0 H : Hp} {p : Addr} {ts : List Fm} {u : Fm} (np : H0 p = none) (s : Stk H0 H p ts) (hu : u.At H) : Stk H0 (upd H p (.lst (ts.map Fm.root ++ [u.root]))) p (ts ++ [u]) := by
  refine ⟨fun b x e => ?_, ?_, fun k hk => ?_⟩
  · rw [upd_ne (ne_of_none e np)]
    exact s.1 b x e
  · rw [upd_same, List.map_append]
    rfl
  · refine k.at_tup (tup_upd s.2.1) ?_
    rcases List.mem_append.mp hk with h | h
    · exact s.2.2 k h
    · rw [List.mem_singleton.mp h]
      exact hu
theorem Stk.pop {H0 H : Hp} {p : Addr} {us : List Fm} {u : Fm} (np : H0 p = none) (s : Stk H0 H p (us ++ [u])) :
    Stk H0 (upd H p (.lst (us.map Fm.root))) p us ∧ u.At (upd H p (.lst (us.map Fm.root))) := by
  refine ⟨⟨fun b x e => ?_, upd_same, fun k hk => k.at_tup (tup_upd s.2.1) (s.2.2 k (List.mem_append_left _ hk))⟩, u.at_tup (tup_upd s.2.1) (s.2.2 u (by simp))⟩
  rw [upd_ne (ne_of_none e np)]
  exact s.1 b x e
theorem pop_read {H0 H : Hp} {p : Addr} {us : List Fm} {u : Fm} {Q : VK} (s : Stk H0 H p (us ++ [u])) (q : Q u.root (upd H p (.lst (us.map Fm.root)))) : rPop (.ref p) [] H Q := by
  have e := s.2.1
  rw [List.map_append] at e
  refine ⟨p, _, u.root, rfl, rfl, e, by simp, ?_⟩
  have d : (us.map Fm.root ++ [u].map Fm.root).dropLast = us.map Fm.root := by simp
  rw [d]
  exact q
theorem sumN_one (u : Fm) : sumN [u] = u.nodes := by simp [sumN]
theorem split_last {α : Type} {ts : List α} (h : ts ≠ []) : ∃ us u, ts = us ++ [u] := ⟨ts.dropLast, ts.getLast h, (List.dropLast_concat_getLast h).symm⟩
section
variable {P : Program} {w : World} {K : PySem.W.Frag} {mg : Str → Option Value} {base : Heap}
theorem not_is2 : ∀ z ∈ (["true", "false"] : List Str), V.str z ≠ .str "is" := by decide
theorem not_is4 : ∀ z ∈ (["and", "or", "implies", "same"] : List Str), V.str z ≠ .str "is" := by decide
/-! ### _law_formula -/
def spFormula (K : PySem.W.Frag) : Sp := fun vs H Q _ => ∃ (c : Int) (n m : Nat) (a : Addr) (xs : List V), vs = [.int c, .int n, .ref a, .int m] ∧ SqL K H a xs ∧ xs.length ≤ 1000 ∧ n ≤ 4 ∧ 1 ≤ m ∧ m ≤ 100 ∧ (∀ x ∈ xs, ∃ ar, RelAt H x ar) ∧
  ∀ (t : Fm) (H' : Hp), t.nodes + 1 ≤ 2 * m → t.At H' → Same H H' → Q t.root H'
set_option maxHeartbeats 1000000 in
theorem ok_formula {k : Nat} {f : Addr} {fd : FuncData} (F : Fun K "_law_formula" "_law_formula" s_formula f fd) {f_digits : Addr} {fd_digits : FuncData} (G_digits : FnOk P w K mg base CX0 (k) f_digits fd_digits ["cell", "many", "count"] (spDig K)) (b_digits : Binds K fd_digits ["cell", "many", "count"] []) (k_digits : PySem.W.keepIn K (.ref f_digits) = true) (g_digits : mg "_law_digits" = some (.ref f_digits)) {f_atom : Addr} {fd_atom : FuncData} (G_atom : FnOk P w K mg base CX0 (k) f_atom fd_atom ["digit", "count", "relations"] (spAtom K)) (b_atom : Binds K fd_atom ["digit", "count", "relations"] []) (k_atom : PySem.W.keepIn K (.ref f_atom) = true) (g_atom : mg "_law_atom" = some (.ref f_atom)) (m_int : mg "int" = none) (m_len : mg "len" = none) (m_range : mg "range" = none) : FnOk P w K mg base CX0 (k + 1) f fd ["cell", "count", "relations", "most"] (spFormula K) := by
  refine F.ok sc_formula (fun vs H Q E h => ?_) (fun cdv A outer s H vs Q E hr h => ?_)
  · obtain ⟨c, n, m, a, xs, rfl, _⟩ := h
    rfl
  have hr_digits := hr
  have hr_atom := hr
  obtain ⟨c, n, m, a, xs, rfl, hS, lx, hn, m1, m2, hx, q⟩ := h
  refine ⟨_, (pss_cons (ps_set (i := 4) sc_formula.nd rfl (.inl rfl) (pe_call G_digits hr_digits rfl g_digits k_digits b_digits .nil pass0 (pa_cons (pv 0) (pa_cons (pe_op op_mul pe_int (pe_op op_pow pe_int pe_int)) (pa_cons (pe_op op_add (pv 3) pe_int) pa_nil)))))
    (pss_cons (ps_set (i := 5) sc_formula.nd rfl (.inl rfl) (pe_lst pa_nil))
    (pss_cons (ps_for PassesOwn.never rfl (pi_range1 rfl m_range (pa_cons (pe_op op_add pe_int (pe_op op_mod (pe_callTy (r := rIntOf) c_int rfl m_int (by decide +kernel) (pa_cons (pe_ix (r := rIx K) ix_seq (pv 4) pe_int (fun _ _ => rfl)) pa_nil)) (pv 3))) pa_nil)) (pg_name (i := 6) sc_formula.nd rfl (.inl rfl))
      (pss_cons (ps_set (i := 7) sc_formula.nd rfl (.inl rfl) (pe_op op_mod (pe_callTy (r := rIntOf) c_int rfl m_int (by decide +kernel) (pa_cons (pe_ix (r := rIx K) ix_seq (pv 4) (pe_op op_add pe_int (pv 6)) (fun _ _ => rfl)) pa_nil)) pe_int))
    (pss_cons (ps_set (i := 8) sc_formula.nd rfl (.inl rfl) (pe_op op_fdivW (pe_callTy (r := rIntOf) c_int rfl m_int (by decide +kernel) (pa_cons (pe_ix (r := rIx K) ix_seq (pv 4) (pe_op op_add pe_int (pv 6)) (fun _ _ => rfl)) pa_nil)) pe_int))
    (pss_one (ps_if (pt_cmpR op_eq (pv 7) pe_int (nomark _)) (pss_one (ps_expr (pe_bm PySem.F.plainAttrs_list PySem.F.slot_list_append PySem.F.type_list_append mt_append (pv 5) (pa_cons (pe_tup (pa_cons (pe_ix (r := rIx K) ix_seq (pe_lst (pa_cons pe_str (pa_cons pe_str pa_nil))) (pe_op op_mod (pe_callTy (r := rIntOf) c_int rfl m_int (by decide +kernel) (pa_cons (pv 8) pa_nil)) pe_int) (fun _ _ => rfl)) pa_nil)) pa_nil)))) (pss_one (ps_if (PW.pt (pw_or (pt_cmpR op_lt (pv 7) pe_int (nomark _)) (pw_or (pt_cmpR op_eq (pe_callB (r := rLn K) c_len rfl m_len (by decide +kernel) (pa_cons (pv 5) pa_nil)) pe_int (nomark _)) (pw_or1 (PW.pt (pw_and (pt_cmpR op_gt (pv 7) pe_int (nomark _)) (pw_and1 (pt_cmpR op_eq (pe_callB (r := rLn K) c_len rfl m_len (by decide +kernel) (pa_cons (pv 5) pa_nil)) pe_int (nomark _))))))))) (pss_one (ps_expr (pe_bm PySem.F.plainAttrs_list PySem.F.slot_list_append PySem.F.type_list_append mt_append (pv 5) (pa_cons (pe_call G_atom hr_atom rfl g_atom k_atom b_atom .nil pass0 (pa_cons (pv 8) (pa_cons (pv 1) (pa_cons (pv 2) pa_nil)))) pa_nil)))) (pss_one (ps_if (pt_cmpR op_lt (pv 7) pe_int (nomark _)) (pss_one (ps_expr (pe_bm PySem.F.plainAttrs_list PySem.F.slot_list_append PySem.F.type_list_append mt_append (pv 5) (pa_cons (pe_tup (pa_cons pe_str (pa_cons (pe_bm0 PySem.F.plainAttrs_list PySem.F.slot_list_pop PySem.F.type_list_pop mt_pop (pv 5)) pa_nil))) pa_nil)))) (pss_cons (ps_set (i := 9) sc_formula.nd rfl (.inl rfl) (pe_bm0 PySem.F.plainAttrs_list PySem.F.slot_list_pop PySem.F.type_list_pop mt_pop (pv 5)))
    (pss_one (ps_expr (pe_bm PySem.F.plainAttrs_list PySem.F.slot_list_append PySem.F.type_list_append mt_append (pv 5) (pa_cons (pe_tup (pa_cons (pe_ix (r := rIx K) ix_seq (pe_lst (pa_cons pe_str (pa_cons pe_str (pa_cons pe_str (pa_cons pe_str pa_nil))))) (pe_op op_sub (pv 7) pe_int) (fun _ _ => rfl)) (pa_cons (pe_bm0 PySem.F.plainAttrs_list PySem.F.slot_list_pop PySem.F.type_list_pop mt_pop (pv 5)) (pa_cons (pv 9) pa_nil)))) pa_nil))))))))))))))
    (pss_cons (ps_set (i := 8) sc_formula.nd rfl (.inl rfl) (pe_op op_fdivW (pe_callTy (r := rIntOf) c_int rfl m_int (by decide +kernel) (pa_cons (pe_ix (r := rIx K) ix_seq (pv 4) pe_int (fun _ _ => rfl)) pa_nil)) (pv 3)))
    (pss_cons (ps_for PassesOwn.never rfl (pi_range1 rfl m_range (pa_cons (pv 3) pa_nil)) (pg_name (i := 6) sc_formula.nd rfl (.inl rfl))
      (pss_one (ps_if (pt_cmpR op_gt (pe_callB (r := rLn K) c_len rfl m_len (by decide +kernel) (pa_cons (pv 5) pa_nil)) pe_int (nomark _)) (pss_cons (ps_set (i := 9) sc_formula.nd rfl (.inl rfl) (pe_bm0 PySem.F.plainAttrs_list PySem.F.slot_list_pop PySem.F.type_list_pop mt_pop (pv 5)))
    (pss_cons (ps_expr (pe_bm PySem.F.plainAttrs_list PySem.F.slot_list_append PySem.F.type_list_append mt_append (pv 5) (pa_cons (pe_tup (pa_cons (pe_ix (r := rIx K) ix_seq (pe_lst (pa_cons pe_str (pa_cons pe_str (pa_cons pe_str (pa_cons pe_str pa_nil))))) (pe_op op_mod (pe_callTy (r := rIntOf) c_int rfl m_int (by decide +kernel) (pa_cons (pv 8) pa_nil)) pe_int) (fun _ _ => rfl)) (pa_cons (pe_bm0 PySem.F.plainAttrs_list PySem.F.slot_list_pop PySem.F.type_list_pop mt_pop (pv 5)) (pa_cons (pv 9) pa_nil)))) pa_nil)))
    (pss_one (ps_set (i := 8) sc_formula.nd rfl (.inl rfl) (pe_op op_fdivW (pv 8) pe_int))))) pss_nil)))
    (pss_one (ps_ret (pe_ix (r := rIx K) ix_seq (pv 5) pe_int (fun _ _ => rfl))))))))), ?_⟩
  refine ⟨_, rfl, _, _, rfl, rfl, ⟨by decide, by decide, by decide⟩, _, _, rfl, rfl, .inl ⟨by decide, by decide⟩, _, rfl, _, _, rfl, rfl, c, _, _, rfl, by decide, by decide, by omega, by omega, fun ds d hl hd nd => ?_⟩
  have s1 := same_new (o := .lst (ds.map V.int)) nd
  refine ⟨Nat.zero_le _, fun p np => ?_⟩
  have s2 := same_new (o := .lst ([] : List V)) np
  have np0 : H p = none := s1.free np
  have ndp : d ≠ p := ne_of_none upd_same np
  have eD := s2 _ _ (upd_same (H := H) (a := d) (o := .lst (ds.map V.int)))
  have st0 : Stk H _ p [] := ⟨s1.trans s2, upd_same, by simp⟩
  generalize upd (upd H d (.lst (ds.map V.int))) p (.lst []) = H1 at eD st0
  have dl : ds.length = m + 1 := by omega
  have keepD : ∀ (H2 : Hp) (o : HO), H2 d = some (.lst (ds.map V.int)) → (upd H2 p o) d = some (.lst (ds.map V.int)) := fun H2 o e => by
    rw [upd_ne ndp]
    exact e
  refine ⟨_, rfl, int_at (SqL.of eD) (by decide) (by omega) fun d0 hd0 => ⟨_, rfl, _, rfl, _, _, rfl, rfl, (by omega : (0 : Int) < m), _, _, rfl, rfl, _, rfl, ?_⟩⟩
  have z0 := Int.emod_nonneg d0 (show (m : Int) ≠ 0 by omega)
  have z1 := Int.emod_lt_of_pos d0 (show (0 : Int) < m by omega)
  refine ⟨by omega, by omega, ?_⟩
  refine for_range (lo := 0) (n := (1 + d0 % (m : Int)).toNat) (fun i σ H2 => ∃ (s6 s7 s8 s9 : Option V) (ts : List Fm), σ = [some (.int c), some (.int n), some (.ref a), some (.int m), some (.ref d), some (.ref p), s6, s7, s8, s9] ∧
      Stk H H2 p ts ∧ H2 d = some (.lst (ds.map V.int)) ∧ sumN ts + ts.length ≤ 2 * i ∧ (0 < i → ts ≠ []))
    ⟨none, none, none, none, [], rfl, st0, eD, by simp [sumN], fun h => absurd h (Nat.lt_irrefl 0)⟩ ?_ ?_
  · rintro i σ H2 hi ⟨s6, s7, s8, s9, ts, rfl, st, eD, hsum, hne⟩
    have hi' : i < m := by omega
    have lts := len_le_sumN ts
    have small : ∀ us : List Fm, us.length ≤ 2 * m → (us.map Fm.root).length < sizeLine := fun us h => by
      rw [List.length_map]
      exact line6 (by omega)
    refine ⟨_, rfl, .int (0 + (i : Nat)), rfl, _, _, rfl, rfl, int_at (SqL.of eD) (by omega) (by omega) fun d1 _ => ⟨_, rfl, _, _, rfl, rfl, (by decide : (0 : Int) < 12), ?_⟩⟩
    refine ⟨_, rfl, .int (0 + (i : Nat)), rfl, _, _, rfl, rfl, int_at (SqL.of eD) (by omega) (by omega) fun d2 _ => ⟨_, rfl, _, _, rfl, rfl, divW (by decide) (by decide), ?_⟩⟩
    have c0 := Int.emod_nonneg d1 (show (12 : Int) ≠ 0 by decide)
    have c1 := Int.emod_lt_of_pos d1 (show (0 : Int) < 12 by decide)
    dsimp only
    generalize hch : d1 % 12 = ch at c0 c1 ⊢
    generalize hre : d2 / 12 = re
    clear hch hre
    refine ⟨.int ch, rfl, rfl, _, rfl, ite2 (fun _ => ?_) (fun _ => ?_)⟩
    · -- true, false
      refine ⟨_, rfl, .inl ⟨rfl, _, .inl (.inl st.2.1)⟩, (by show 2 ≤ sizeLine; decide), fun l nl => ?_⟩
      have e0 := Int.emod_nonneg re (show (2 : Int) ≠ 0 by decide)
      have e1 := Int.emod_lt_of_pos re (show (0 : Int) < 2 by decide)
      refine ⟨_, rfl, _, rfl, _, _, rfl, rfl, (by decide : (0 : Int) < 2), str_at (zs := ["true", "false"]) (SqL.of upd_same) e0 (by simpa using e1) fun z hz => ⟨(by show 1 ≤ sizeLine; decide), fun t nt => ?_⟩⟩
      have st2 := (st.same (same_new nl)).same (same_new (o := .tup [.str z]) nt)
      have zi := not_is2 z hz
      have at_t : (Fm.con (.ref t)).At (upd (upd H2 l (.lst [.str "true", .str "false"])) t (.tup [.str z])) := ⟨t, z, rfl, zi, upd_same⟩
      refine ⟨p, _, _, rfl, rfl, st2.2.1, small ts (by omega), _, _, _, _, ts ++ [Fm.con (.ref t)], rfl, st2.push np0 at_t, keepD _ _ (same_new nt _ _ (same_new nl _ _ eD)), ?_, by simp⟩
      rw [sumN_app, List.length_append]
      simp [sumN, Fm.nodes] at hsum ⊢
      omega
    · -- atom
      refine (fun (ATOM : _) (REST : ts ≠ [] → (8 ≤ ch → 2 ≤ ts.length) → _) => ⟨.int ch, rfl, _, _, rfl, rfl, _, rfl, ite2 (fun _ => iteT ATOM) (fun cA => ⟨_, rfl, .inl ⟨p, _, rfl, .inl (SqL.of st.2.1), rfl, _, rfl,
        ite2 (fun _ => iteT ATOM) (fun cB => ⟨.int ch, rfl, _, _, rfl, rfl, _, rfl, ite2 (fun cC => ⟨_, rfl, .inl ⟨p, _, rfl, .inl (SqL.of st.2.1), rfl, _, rfl, ite2 (fun _ => ATOM) (fun cD => REST ?n2 ?r2)⟩⟩) (fun cC => iteF (REST ?n1 ?r1))⟩)⟩⟩)⟩) ?gATOM ?gREST
      case n1 =>
        intro z
        subst z
        exact cB (decide_eq_true rfl)
      case n2 =>
        intro z
        subst z
        exact cB (decide_eq_true rfl)
      case r1 =>
        intro h
        exact absurd (decide_eq_true (show (7 : Int) < ch by omega)) cC
      case r2 =>
        intro h
        have h0 : ts.length ≠ 0 := fun z => cB (by rw [List.length_map, z]; rfl)
        have h1 : ts.length ≠ 1 := fun z => cD (by rw [List.length_map, z]; rfl)
        omega
      case gATOM =>
        have rel : ∀ x ∈ xs, ∃ ar, RelAt H2 x ar := fun x hm =>
          let ⟨ar, h⟩ := hx x hm
          ⟨ar, h.tup (Same.tup st.1)⟩
        refine ⟨_, rfl, .inl ⟨rfl, _, .inl (.inl st.2.1)⟩, .int re, rfl, .int n, rfl, .ref a, rfl, a, re, n, xs, rfl, st.1.seq hS, lx, hn, rel, fun u H3 hu hA s3 => ?_⟩
        have st3 := st.same s3
        have eD3 := s3 _ _ eD
        refine ⟨p, _, _, rfl, rfl, st3.2.1, small ts (by omega), _, _, _, _, ts ++ [u], rfl, st3.push np0 hA, keepD _ _ eD3, ?_, by simp⟩
        rw [sumN_app, List.length_append]
        simp [sumN, hu] at hsum ⊢
        omega
      case gREST =>
        intro hne2 h8
        refine ⟨.int ch, rfl, _, _, rfl, rfl, _, rfl, ite2 (fun cE => ?_) (fun cE => ?_)⟩
        · obtain ⟨us, u, rfl⟩ := split_last hne2
          obtain ⟨st2, hu2⟩ := st.pop np0
          have eD2 := keepD _ (.lst (us.map Fm.root)) eD
          refine ⟨_, rfl, .inl ⟨rfl, _, .inl (.inl st.2.1)⟩, _, rfl, .inl ⟨rfl, _, .inl (.inl st.2.1)⟩, pop_read st ⟨(by show 2 ≤ sizeLine; decide), fun t nt => ?_⟩⟩
          have nw : (Fm.neg (.ref t) u).At (upd (upd H2 p (.lst (us.map Fm.root))) t (.tup [.str "not", u.root])) := ⟨t, "not", rfl, by decide, upd_same, u.at_same (same_new nt) hu2⟩
          have st3 := st2.same (same_new (o := .tup [.str "not", u.root]) nt)
          refine ⟨p, _, _, rfl, rfl, st3.2.1, small us (by simp at hsum; omega), _, _, _, _, us ++ [Fm.neg (.ref t) u], rfl, st3.push np0 nw, keepD _ _ (same_new nt _ _ eD2), ?_, by simp⟩
          simp only [sumN_app, sumN_one, List.length_append, List.length_cons, List.length_nil, Fm.nodes] at hsum ⊢
          omega
        · have c8 : 8 ≤ ch := by
            have : ¬ ch < 8 := of_decide_eq_false (Bool.eq_false_iff.mpr cE)
            omega
          have h2 := h8 c8
          obtain ⟨us, u, rfl⟩ := split_last hne2
          obtain ⟨vs, v, rfl⟩ := split_last (show us ≠ [] from fun z => by
            subst z
            simp at h2)
          obtain ⟨st2, hu2⟩ := st.pop np0
          have eD2 := keepD _ (.lst ((vs ++ [v]).map Fm.root)) eD
          refine ⟨_, rfl, .inl ⟨rfl, _, .inl (.inl st.2.1)⟩, pop_read st ?_⟩
          refine ⟨_, rfl, .inl ⟨rfl, _, .inl (.inl st2.2.1)⟩, (by show 4 ≤ sizeLine; decide), fun l nl => ?_⟩
          have st3 := st2.same (same_new (o := .lst [.str "and", .str "or", .str "implies", .str "same"]) nl)
          have hu3 := u.at_same (same_new (o := .lst [.str "and", .str "or", .str "implies", .str "same"]) nl) hu2
          have eD3 := same_new (o := .lst [.str "and", .str "or", .str "implies", .str "same"]) nl _ _ eD2
          refine ⟨.int ch, rfl, _, _, rfl, rfl, str_at (zs := ["and", "or", "implies", "same"]) (SqL.of upd_same) (by omega) (by simp; omega) fun z hz => ?_⟩
          obtain ⟨st4, hv4⟩ := st3.pop np0
          have hu4 := u.at_tup (tup_upd (u := .lst (vs.map Fm.root)) st3.2.1) hu3
          have eD4 := keepD _ (.lst (vs.map Fm.root)) eD3
          refine ⟨_, rfl, .inl ⟨rfl, _, .inl (.inl st3.2.1)⟩, pop_read st3 ⟨_, rfl, (by show 3 ≤ sizeLine; decide), fun t nt => ?_⟩⟩
          have st5 := st4.same (same_new (o := .tup [.str z, v.root, u.root]) nt)
          have nw : (Fm.bin (.ref t) v u).At (upd _ t (.tup [.str z, v.root, u.root])) := ⟨t, z, rfl, not_is4 z hz, upd_same, v.at_same (same_new nt) hv4, u.at_same (same_new nt) hu4⟩
          refine ⟨p, _, _, rfl, rfl, st5.2.1, small vs (by simp at hsum; omega), _, _, _, _, vs ++ [Fm.bin (.ref t) v u], rfl, st5.push np0 nw, keepD _ _ (same_new nt _ _ eD4), ?_, by simp⟩
          simp only [sumN_app, sumN_one, List.length_append, List.length_cons, List.length_nil, Fm.nodes] at hsum ⊢
          omega
  · rintro σ H2 ⟨s6, s7, s8, s9, ts, rfl, st, eD, hsum, hne⟩
    have hne := hne (by omega)
    refine ⟨_, rfl, int_at (SqL.of eD) (by decide) (by omega) fun d1 _ => ⟨_, rfl, _, rfl, _, _, rfl, rfl, divW (by omega) (by omega), ?_⟩⟩
    refine ⟨_, rfl, m, rfl, by omega, by omega, ?_⟩
    refine for_range (lo := 0) (n := ((m : Nat) : Int).toNat) (fun i σ H3 => ∃ (re : Int) (s6 s7 s9 : Option V) (ts : List Fm), σ = [some (.int c), some (.int n), some (.ref a), some (.int m), some (.ref d), some (.ref p), s6, s7, some (.int re), s9] ∧
        Stk H H3 p ts ∧ sumN ts + ts.length ≤ 2 * m ∧ ts ≠ []) ⟨_, s6, s7, s9, ts, rfl, st, by omega, hne⟩ ?_ ?_
    · rintro i σ H3 hi ⟨re, s6, s7, s9, ts, rfl, st, hsum, hne⟩
      have lts := len_le_sumN ts
      refine ⟨_, rfl, .inl ⟨p, _, rfl, .inl (SqL.of st.2.1), _, _, rfl, rfl, _, rfl, ite2 (fun cc => ?_) (fun cc => ?_)⟩⟩
      · have h2 : 2 ≤ ts.length := by
          have cc' : (1 : Int) < (((ts.map Fm.root).length : Nat) : Int) := of_decide_eq_true cc
          rw [List.length_map] at cc'
          omega
        obtain ⟨us, u, rfl⟩ := split_last hne
        obtain ⟨vs, v, rfl⟩ := split_last (show us ≠ [] from fun z => by
          subst z
          simp at h2)
        obtain ⟨st2, hu2⟩ := st.pop np0
        refine ⟨_, rfl, .inl ⟨rfl, _, .inl (.inl st.2.1)⟩, pop_read st ?_⟩
        refine ⟨_, rfl, .inl ⟨rfl, _, .inl (.inl st2.2.1)⟩, (by show 4 ≤ sizeLine; decide), fun l nl => ?_⟩
        have st3 := st2.same (same_new (o := .lst [.str "and", .str "or", .str "implies", .str "same"]) nl)
        have hu3 := u.at_same (same_new (o := .lst [.str "and", .str "or", .str "implies", .str "same"]) nl) hu2
        have e0 := Int.emod_nonneg re (show (4 : Int) ≠ 0 by decide)
        have e1 := Int.emod_lt_of_pos re (show (0 : Int) < 4 by decide)
        refine ⟨_, rfl, _, rfl, _, _, rfl, rfl, (by decide : (0 : Int) < 4), str_at (zs := ["and", "or", "implies", "same"]) (SqL.of upd_same) e0 (by simpa using e1) fun z hz => ?_⟩
        obtain ⟨st4, hv4⟩ := st3.pop np0
        have hu4 := u.at_tup (tup_upd (u := .lst (vs.map Fm.root)) st3.2.1) hu3
        refine ⟨_, rfl, .inl ⟨rfl, _, .inl (.inl st3.2.1)⟩, pop_read st3 ⟨_, rfl, (by show 3 ≤ sizeLine; decide), fun t nt => ?_⟩⟩
        have st5 := st4.same (same_new (o := .tup [.str z, v.root, u.root]) nt)
        have nw : (Fm.bin (.ref t) v u).At (upd _ t (.tup [.str z, v.root, u.root])) := ⟨t, z, rfl, not_is4 z hz, upd_same, v.at_same (same_new nt) hv4, u.at_same (same_new nt) hu4⟩
        refine ⟨p, _, _, rfl, rfl, st5.2.1, ?_, ?_⟩
        · rw [List.length_map]
          simp at hsum
          exact line6 (by omega)
        · refine ⟨_, rfl, _, _, rfl, rfl, divW (by decide) (by decide), _, _, _, _, vs ++ [Fm.bin (.ref t) v u], rfl, st5.push np0 nw, ?_, by simp⟩
          simp only [sumN_app, sumN_one, List.length_append, List.length_cons, List.length_nil, Fm.nodes] at hsum ⊢
          omega
      · exact ⟨re, _, s7, s9, ts, rfl, st, hsum, hne⟩
    · rintro σ H3 ⟨re, s6, s7, s9, ts, rfl, st, hsum, hne⟩
      obtain ⟨t, r, rfl⟩ : ∃ t r, ts = t :: r := by
        cases ts with
        | nil => exact absurd rfl hne
        | cons t r => exact ⟨t, r, rfl⟩
      refine ⟨_, rfl, .inl ⟨p, _, 0, t.root, rfl, rfl, SqL.of st.2.1, atI_nat (j := 0) rfl, q t H3 ?_ (st.2.2 t (by simp)) st.1⟩⟩
      simp only [sumN, List.map_cons, List.sum_cons, List.length_cons] at hsum
      omega
end
end Nz
set_option maxHeartbeats 4000000
namespace Nz
open PySem PySem.Spec PyProof.Rows L2
abbrev Hnd := Value × (Addr → Value → Option Addr → TS)
/-- the ends of a clause's suite: the name is gone behind it -/
def Ends.off (D : Ends) (i : Nat) : Ends := ⟨fun v G => D.nx (v.set i none) G, D.rt, fun v G => D.bk (v.set i none) G, fun v G => D.ct (v.set i none) G⟩
/-- what clauses with the one name in slot i wish -/
def wClauses (K : PySem.W.Frag) (i : Nat) (W0 : WX) (D : Ends) : List Hnd → WX
  | [] => W0
  | hd :: tl => fun cls d v G => ∃ b, PySem.W.exmOne K cls hd.1 = some b ∧ (b = true → ∀ a, G a = none → hd.2 a cls d (Ends.off D i) (v.set i (some (.ref a))) G) ∧ (b = false → wClauses K i W0 D tl cls d v G)
inductive Clauses (X : Cx) (n : Str) : List ExceptHandler → List Hnd → Prop
  | nil : Clauses X n [] []
  | cons {x : Str} {c : Value} {ts : Addr → Value → Option Addr → TS} {b₁ : Stmt} {su : List Stmt} {q1 q2 : Pos} {hs : List ExceptHandler} {l : List Hnd} (hc : Names X x c)
      (hu : ∀ (a : Addr) (oe : Obj) (cls : Value) (d : Option Addr) (pn : List (Addr × Obj)), Zc cls d oe → (∃ vs, oe.data = .fields vs) → PSs (X.suite a ((a, oe) :: pn)) (b₁ :: su) (ts a cls d)) (r : Clauses X n hs l) :
      Clauses X n (.ExceptHandler (some (.Name x q1)) (some n) (b₁ :: su) q2 :: hs) ((c, ts) :: l)
section
variable {X : Cx} {n : Str} {i : Nat} {W0 : WX}
/-- the clauses, one after the other, at a caught exception -/
theorem clauses_run {pins : List (Addr × Obj)} {D : Ends} (st : X.stack = X.env :: X.outer) (fr : X.env.frame = some X.env.locals) (nd : X.N.Nodup) (at_ : X.N[i]? = some n) (lo : X.env.kindOf n = some .local)
    {a : Addr} {B : Heap} {sI : Shared} {v : L2.St} {G : Hp} {cls : Value} {d : Option Addr} {s1 : Shared} {h1 : Heap} (up : sI.heap.UpToSlots h1) (fl : HandSPX.FlyingZ B (X.env :: X.outer) a (Zc cls d) h1) (na : G a = none)
    (land : ∀ h2, B.StaysIn h2 → sI.heap.UpToSlots h2 → Inv X pins v G { s1 with heap := h2 })
    (back : ∀ h2, sI.heap.UpToSlots h2 → HandSPX.HeldZ B (X.env :: X.outer) a (Zc cls d) X.env.locals h2 → W0 cls d v G → X.xe (.ref a) { s1 with heap := h2 }) :
    ∀ {hs : List ExceptHandler} {l : List Hnd}, Clauses X n hs l → wClauses X.K i W0 D l cls d v G → wpAny (model X.prog X.w) X.A (handleBy (.ref a) X.env hs) (SP X pins D) X.xe { s1 with heap := h1 } := by
  have away : ∀ {g : Heap} {o : Obj} {ws : Array Value}, g.FunFrames B (X.env :: X.outer) → g.get? a = some o → o.data = .fields ws → a ∉ frs (X.env :: X.outer) := by
    intro g o ws ff e dd hm
    obtain ⟨_, o', e', hnf⟩ := ff.mem hm
    exact hnf ws (by rw [e] at e'; cases e'; exact dd)
  obtain ⟨oe, ws, he, hz, hd⟩ := fl.there
  have off := away fl.2.2.1 he hd
  have nL : a ≠ X.env.locals := fun z => off (List.mem_filterMap.mpr ⟨X.env, .head _, fr.trans (congrArg some z.symm)⟩)
  have nF : a ∉ X.fs := fun hm => let ⟨e, m, q⟩ := List.mem_filterMap.mp hm; off (List.mem_filterMap.mpr ⟨e, .tail _ m, q⟩)
  have J1 := land h1 fl.1 up
  have ok := J1.ok
  have S1 := J1.suite he hd na nL nF
  intro hs l hk
  induction hk with
  | nil =>
    intro w
    refine wpAny_handleBy_nil ?_
    obtain ⟨_, _, _, ob, us, T, _, _, g1, _, g3, g4, _⟩ := id fl
    unfold PySem.passOn
    refine wpAny_bind (wpAny_field g1 g3 g4 ?_)
    rw [if_neg (by simp : ¬ ((Value.ref T == Value.none) = true))]
    have out : wpAny (model X.prog X.w) X.A (setFlight (.ref a) X.env.frame) (fun _ s4 => wpAny (model X.prog X.w) X.A (throw (.ref a) : Sem Flow) (SP X pins D) X.xe s4) X.xe { s1 with heap := h1 } := by
      rw [fr]
      exact HandSPX.setFlight_upZ fl fun h4 hh4 up4 => wpAny_throw (back h4 (up.trans up4) hh4 w)
    first
      | exact wpAny_bind (wpAny_pure (wpAny_bind out))
      | exact wpAny_bind out
  | @cons x c ts b₁ su q1 q2 hs2 l2 hc hu r ih =>
    intro ⟨b, hb, yes, no⟩
    refine wpAny_handleBy_cons (codeAny_handlers_test ?_) (by intro q; cases q)
    have LT : PySem.W.Looks (model X.prog X.w) h1 (typeOf (.ref a)) cls := fun _ _ _ _ k q => wpAny_typeOf_ref (k _ _ he) (hz.1 ▸ q)
    have named : ∀ {Q : Value → Shared → Prop} {E : Value → Shared → Prop}, Q c { s1 with heap := h1 } → wpAny (model X.prog X.w) (X.A.mark (some (.ref a))) (eval (.Name x q1) X.env) Q E { s1 with heap := h1 } := by
      intro Q E q
      rcases hc with ⟨hg, hdb, hm | ⟨hm, hv, hnn⟩⟩
      · exact ld_glob (X := X.suite a ((a, oe) :: (X.pn ++ pins))) S1 hg hm q hdb
      · exact ld_blt (X := X.suite a ((a, oe) :: (X.pn ++ pins))) S1 hg hm hv q hnn hdb
    refine named ((PySem.W.exm_one J1.kIn LT hb).here ?_)
    cases b with
    | false => exact ih (no rfl)
    | true =>
      refine codeAny_handlers_suite_as (HandSPX.lands_againZ fl fun h4 fl4 up4 => ?_)
      have J4 := land h4 fl4.1 (up.trans up4)
      obtain ⟨oe4, _, he4, hz4, hd4⟩ := fl4.there
      refine store_ok (X := X.suite a ((a, oe4) :: (X.pn ++ pins))) (v := .ref a) (J4.suite he4 hd4 na nL nF) nd at_ (.inl lo) rfl (fun s5 S5 => ?_) (.inr lo)
      refine wpAny_mono ((hu a oe4 cls d (X.pn ++ pins) hz4 ⟨_, hd4⟩).run [] s5 _ G _ S5 (yes rfl a na)) (fun f s6 z => ?_) fun _ _ z => z.elim
      have bye : ∀ {v6 : L2.St} {G6 : Hp} {Q : Shared → Prop}, Inv (X.suite a ((a, oe4) :: (X.pn ++ pins))) [] v6 G6 s6 → (∀ s7, Inv X pins (v6.set i none) G6 s7 → Q s7) →
          wpAny (model X.prog X.w) X.A (do bindName X.env n .none; unbindBehindTheSuite X.env n q2) (fun _ s7 => Q s7) X.xe s6 := fun S6 k => gone_ok (S6.unsuite ok) nd at_ lo k
      cases f with
      | ret u => exact let ⟨_, _, _, S6, rr, qq⟩ := z; bye S6 fun s7 J7 => ⟨_, _, _, J7, rr, qq⟩
      | next => exact let ⟨_, _, S6, qq⟩ := z; bye S6 fun s7 J7 => ⟨_, _, J7, qq⟩
      | brk => exact let ⟨_, _, S6, qq⟩ := z; bye S6 fun s7 J7 => ⟨_, _, J7, qq⟩
      | cont => exact let ⟨_, _, S6, qq⟩ := z; bye S6 fun s7 J7 => ⟨_, _, J7, qq⟩
theorem ps_many_as {body : List Stmt} {h₀ : ExceptHandler} {hs : List ExceptHandler} {l : List Hnd} {pos : Pos} {tb : WX → TS} (st : X.stack = X.env :: X.outer) (fr : X.env.frame = some X.env.locals) (nd : X.N.Nodup) (at_ : X.N[i]? = some n) (lo : X.env.kindOf n = some .local)
    (tk : Takes X W0) (hb : ∀ (W : WX) (pn : List (Addr × Obj)) (xe : Value → Shared → Prop), Takes (X.tr pn xe) W → PassesOwn (model X.prog X.w) X.A X.env xe → PSs (X.tr pn xe) body (tb W))
    (hh : Clauses X n (h₀ :: hs) l) : PS X (.Try body (h₀ :: hs) [] [] pos) (fun D v G => tb (wClauses X.K i W0 D l) D v G) := by
  constructor
  intro pins s v G D I q
  have ok := I.ok
  refine wpAny_Try_except (wpAny_mono ((hb (wClauses X.K i W0 D l) (X.pn ++ pins) (fun e z₁ => wpAny (model X.prog X.w) X.A (noteFrame e X.env) (fun _ z₂ => wpAny (model X.prog X.w) X.A (setFlight e none)
    (fun _ z₃ => wpAny (model X.prog X.w) X.A (handleBy e X.env (h₀ :: hs)) (SP X pins D) X.xe z₃) X.xe z₂) X.xe z₁) (fun u s1 xx => ?_) PassesOwn.looking).run [] s v G D (I.toTry _) q) (fun f s1 z => ?_) fun _ _ z => z)
  · obtain ⟨a, B, sI, _, v1, G1, cls, d, rfl, J', nb, up, sky, na, os, ag, w⟩ := xx
    have J : Inv X pins v1 G1 sI := J'.ofTry ok
    refine Sky.land Zc.steady (by rw [ok.frames, st] : X.A.frames = some (X.env :: X.outer)) fr (by rw [← st]; exact sky : Sky B (X.env :: X.outer) a (Zc cls d) X.env.locals s1.heap) fun h1 fl up1 => ?_
    exact clauses_run (sI := sI) st fr nd at_ lo (up.trans up1) fl na (fun h2 k2 u2 => J.landed (s' := { s1 with heap := h2 }) nb k2 u2 os ag)
      (fun h2 u2 hh2 w2 => tk _ _ ⟨a, B, sI, pins, v1, G1, cls, d, rfl, J, nb, u2, .inr (.inr (by rw [st]; exact hh2)), na, os, ag, w2⟩) hh w
  · cases f with
    | ret u => exact let ⟨_, _, _, J1, rr, qq⟩ := z; ⟨_, _, _, J1.ofTry ok, rr, qq⟩
    | next => exact let ⟨_, _, J1, qq⟩ := z; wpAny_execs_nil ⟨_, _, J1.ofTry ok, qq⟩
    | brk => exact let ⟨_, _, J1, qq⟩ := z; ⟨_, _, J1.ofTry ok, qq⟩
    | cont => exact let ⟨_, _, J1, qq⟩ := z; ⟨_, _, J1.ofTry ok, qq⟩
end
/-! ### C.__init__(self, ..) of an own class that has none of its own: ValueError's -/
section
variable {X : Cx} {C : Addr} {mc : Value} {n : Str} {e : Expr} {es : List Expr} {ta : TA} {p1 p2 pos : Pos}
theorem pe_uinit {pl : Sem Bool} (hg : Gl X n) (hm : X.mg n = some (.ref C)) (rd : ClX.CRead X.K C mc) (fi : PySem.W.findCls X.K (.ref C) mc "__init__" = some (.val (.builtin "ValueError.__init__"))) (ha : PA X (e :: es) ta)
    (hc : eval (.Call (.Attribute (.Name n p1) "__init__" p2) (e :: es) [] pos) X.env = (do
      let ov ← eval (.Name n p1) X.env
      standAt p2.atName
      let (f, first) ← holding [ov] (getMethod ov "__init__" pl)
      callWith pos f first (backTo pos (starEach (e :: es) X.env)) (backToKw pos (keywordEach [] X.env))) := by rfl)
    (hs : starEach (e :: es) X.env = (false, eval e X.env) :: starEach es X.env := by rfl) (hp : (backTo pos (starEach es X.env)).any (·.1) = false := by rfl) (hd : (n == ("__debug__" : Str)) = false := by decide) :
    PE X (.Call (.Attribute (.Name n p1) "__init__" p2) (e :: es) [] pos) (tVeI X.K ta) := by
  constructor
  intro pins s σ H Q I h
  refine PySem.W.methodCall_KW (ld_glob I hg hm ?_ hd) hc
  refine PySem.W.method_cls I.kIn rd.ga (PySem.W.cls_value I.kIn rd.rd fi (by decide +kernel) ?_)
  refine PyProof.Rows.callWith_method1 (thn (ha.run pos pins _ σ H _ (I.tok _) h) fun us s1 ⟨vs, H1, I1, rr, a, D, ws, ev, hl, T, ea, q⟩ => ?_) hs hp
  subst ev
  cases rr with
  | @cons _ u0 _ ur ra rw' =>
    obtain rfl : u0 = Value.ref a := ra
    exact oinit_ok T I1 ea (by rw [← Paired.length rw', sizeLine_eq]; omega) fun s' J => ⟨.non, H1, J, rfl, q⟩
end
/-! ### isinstance of a caught exception with fields -/
/-- isinstance(e, c), e the exception that the suite holds: its class is at D, its dict at d -/
structure rIsX (K : PySem.W.Frag) (a : Addr) (cls : Value) (d : Option Addr) (xs : List V) (H : Hp) (Q : VK) : Prop where
  ex : ∃ (c : V) (cv : Value) (b : Bool) (D dd : Addr) (fs : List (Str × V)), xs = [.ref a, c] ∧ cls = .ref D ∧ ExcC K D ∧ d = some dd ∧ H dd = some (.xd fs) ∧
  (∀ u, RelV c u → u = cv) ∧ PySem.W.kitOne K (.ref D) cv = some b ∧ Q (.bl b) H
theorem call_isX {X : Cx} {a : Addr} {oe : Obj} {cls : Value} {d : Option Addr} {pn : List (Addr × Obj)} (hz : Zc cls d oe) (hf : ∃ vs, oe.data = .fields vs) : CallR (X.suite a ((a, oe) :: pn)) (.builtin "isinstance") (rIsX X.K a cls d) := by
  intro pins s σ H xs us Q I r h
  obtain ⟨c, cv, b, D, dd, fs, rfl, rfl, C, rfl, ed, hcv, e, q⟩ := h.ex
  rcases r with _ | ⟨rx, _ | ⟨rt, rr⟩⟩
  cases rr
  cases rx
  obtain rfl := hcv _ rt
  obtain ⟨hget, _⟩ := I.pin (a, oe) (List.mem_append_left _ (.head _))
  obtain ⟨vs, hv⟩ := hf
  have hx : ObjOk X.prog X.w H s.heap dd (.xd fs) := I.hok dd _ ed
  obtain ⟨mA, ⟨od, _, _, ho, _⟩, _⟩ := hx
  have J : PySem.W.InstAt s.heap a oe D (some od) := ⟨hget, hz.1, by unfold PySem.W.notCls; rw [hv] <;> rfl, by rw [hz.2]; exact ho⟩
  have hcl : (PySem.W.clsIn X.K D).isSome = true := by
    obtain ⟨cd, hc, _⟩ := PySem.W.any_some C.hd
    rw [hc]; rfl
  exact PySem.W.kia_one (PySem.W.kitx_exc hcl C.hg C.hk C.hs C.ha C.hn C.ht C.hm) I.kIn J e (fun z => nomatch z) fun tk => ⟨.bl b, H, I.kept (t' := tk) fun _ _ z => z, rfl, q⟩
end Nz
namespace Nz
open PySem PySem.Spec PyProof.Rows L2
/-! ### the errors -/
/-- what the text says of an own error with the field name -/
structure ErrT (K : PySem.W.Frag) (mg : Str → Option Value) (nm : Str) (C fI : Addr) : Prop where
  gC : mg nm = some (.ref C)
  oex : OexC K C
  iC : PySem.W.findIn K (.ref C) "__init__" = some (some (.ref fI))
  tI : PySem.W.typeIn K (.ref fI) = some (.type "function")
  noN : PySem.W.findIn K (.ref C) "name" = some none
/-- what it says of the errors' base -/
structure BaseT (K : PySem.W.Frag) (mg : Str → Option Value) (C : Addr) : Prop where
  gC : mg "CensusError" = some (.ref C)
  rd : ClX.CRead K C (.type "type")
  fi : PySem.W.findCls K (.ref C) (.type "type") "__init__" = some (.val (.builtin "ValueError.__init__"))
def spErr (C : Addr) : Sp := fun vs H Q _ => ∃ (a : Addr) (z : Str), vs = [.ref a, .str z] ∧ z.length ≤ 300000 ∧ H a = some (exo a C none) ∧
  ∀ dx, H dx = none → dx ≠ a → Q .non (upd (upd H dx (exd dx [("name", .str z)])) a (exo a C (some dx)))
section
variable {P : Program} {w : World} {K : PySem.W.Frag} {mg : Str → Option Value} {base : Heap}
theorem ok_unk {k : Nat} {B C fI : Addr} {fd : FuncData} (F : Fun K "__init__" "UnknownName.__init__" s_unk fI fd) (T : BaseT K mg B) (ET : ErrT K mg "UnknownName" C fI) : FnOk P w K mg base CX0 (k + 1) fI fd ["self", "name"] (spErr C) := by
  refine F.ok sc_unk (fun vs H Q E h => ?_) (fun cdv A outer s H vs Q E hr h => ?_)
  · obtain ⟨a, z, rfl, _⟩ := h
    rfl
  obtain ⟨a, z, rfl, hz, ha, q⟩ := h
  refine ⟨_, pss_cons (ps_expr (pe_uinit rfl T.gC T.rd T.fi (pa_cons (pv 0) (pa_cons (pe_joined (PJ.cons pe_str (PJ.cons (pe_fmt (pv 1)) PJ.nil))) pa_nil)))) (pss_one (ps_ost (pv 0) (pv 1))), ?_⟩
  have low : ∀ n : Nat, n ≤ 400000 → n ≤ sizeLine := fun n h => by rw [sizeLine_eq]; omega
  have l1 : ("unknown name " : Str).length ≤ 100 := by decide +kernel
  have l0 : Str.empty.length = 0 := by decide +kernel
  refine ⟨.ref a, rfl, _, rfl, low _ (by rw [len_app]; omega), .str z, rfl, .inl ⟨z, rfl, low _ (by omega), ?_⟩⟩
  exact ⟨z, rfl, low _ (by rw [len_app, len_app]; omega), a, C, _, rfl, (by show 1 ≤ 1000; decide), ET.oex, ha, .str z, rfl, .ref a, rfl, a, C, rfl, ET.oex, ET.noN, .inl ⟨ha, fun dx n ne => q dx n ne⟩⟩
theorem ok_dup {k : Nat} {B C fI : Addr} {fd : FuncData} (F : Fun K "__init__" "DuplicateName.__init__" s_dup fI fd) (T : BaseT K mg B) (ET : ErrT K mg "DuplicateName" C fI) : FnOk P w K mg base CX0 (k + 1) fI fd ["self", "name"] (spErr C) := by
  refine F.ok sc_dup (fun vs H Q E h => ?_) (fun cdv A outer s H vs Q E hr h => ?_)
  · obtain ⟨a, z, rfl, _⟩ := h
    rfl
  obtain ⟨a, z, rfl, hz, ha, q⟩ := h
  refine ⟨_, pss_cons (ps_expr (pe_uinit rfl T.gC T.rd T.fi (pa_cons (pv 0) (pa_cons (pe_joined (PJ.cons pe_str (PJ.cons (pe_fmt (pv 1)) (PJ.cons pe_str PJ.nil)))) pa_nil)))) (pss_one (ps_ost (pv 0) (pv 1))), ?_⟩
  have low : ∀ n : Nat, n ≤ 400000 → n ≤ sizeLine := fun n h => by rw [sizeLine_eq]; omega
  have l1 : ("name " : Str).length ≤ 100 := by decide +kernel
  have l0 : Str.empty.length = 0 := by decide +kernel
  have l2 : (" is given twice" : Str).length ≤ 100 := by decide +kernel
  refine ⟨.ref a, rfl, _, rfl, low _ (by rw [len_app]; omega), .str z, rfl, .inl ⟨z, rfl, low _ (by omega), ?_⟩⟩
  exact ⟨z, rfl, low _ (by rw [len_app, len_app]; omega), _, rfl, low _ (by rw [len_app, len_app, len_app]; omega), a, C, _, rfl, (by show 1 ≤ 1000; decide), ET.oex, ha, .str z, rfl, .ref a, rfl, a, C, rfl, ET.oex, ET.noN, .inl ⟨ha, fun dx n ne => q dx n ne⟩⟩
theorem ok_ari {k : Nat} {B C fI : Addr} {fd : FuncData} (F : Fun K "__init__" "WrongArity.__init__" s_ari fI fd) (T : BaseT K mg B) (ET : ErrT K mg "WrongArity" C fI) : FnOk P w K mg base CX0 (k + 1) fI fd ["self", "name"] (spErr C) := by
  refine F.ok sc_ari (fun vs H Q E h => ?_) (fun cdv A outer s H vs Q E hr h => ?_)
  · obtain ⟨a, z, rfl, _⟩ := h
    rfl
  obtain ⟨a, z, rfl, hz, ha, q⟩ := h
  refine ⟨_, pss_cons (ps_expr (pe_uinit rfl T.gC T.rd T.fi (pa_cons (pv 0) (pa_cons (pe_joined (PJ.cons pe_str (PJ.cons (pe_fmt (pv 1)) PJ.nil))) pa_nil)))) (pss_one (ps_ost (pv 0) (pv 1))), ?_⟩
  have low : ∀ n : Nat, n ≤ 400000 → n ≤ sizeLine := fun n h => by rw [sizeLine_eq]; omega
  have l1 : ("wrong number of parts for " : Str).length ≤ 100 := by decide +kernel
  have l0 : Str.empty.length = 0 := by decide +kernel
  refine ⟨.ref a, rfl, _, rfl, low _ (by rw [len_app]; omega), .str z, rfl, .inl ⟨z, rfl, low _ (by omega), ?_⟩⟩
  exact ⟨z, rfl, low _ (by rw [len_app, len_app]; omega), a, C, _, rfl, (by show 1 ≤ 1000; decide), ET.oex, ha, .str z, rfl, .ref a, rfl, a, C, rfl, ET.oex, ET.noN, .inl ⟨ha, fun dx n ne => q dx n ne⟩⟩
end
end Nz
namespace Nz
open PySem PySem.Spec PyProof.Rows L2
/-! ### what is wrong with a kind -/
/-- the first name that stood there before -/
def dupF : List Str → List Str → Option Str
  | _, [] => none
  | seen, z :: r => if z ∈ seen then some z else dupF (seen ++ [z]) r
/-- ms: the relations' names and arities; d: an atom's name and its number of variables -/
def atomW (ms : List (Str × Int)) (d : Str × Nat) : Option (Nat × Str) :=
  match ms.find? (fun m => decide (m.1 = d.1)) with
  | none => some (1, d.1)
  | some m => if ((d.2 : Nat) : Int) = m.2 then none else some (2, d.1)
def atomsW (ms : List (Str × Int)) (ds : List (Str × Nat)) : Option (Nat × Str) := ds.findSome? (atomW ms)
def sentsW (ms : List (Str × Int)) (dss : List (List (Str × Nat))) : Option (Nat × Str) := dss.findSome? (atomsW ms)
def wrongW (ms : List (Str × Int)) (dss : List (List (Str × Nat))) : Option (Nat × Str) :=
  match dupF [] (ms.map (·.1)) with
  | some z => some (0, z)
  | none => sentsW ms dss
/-- a relation at x: its name and its arity -/
def Rel4 (H : Hp) (x : V) (m : Str × Int) : Prop := ∃ q va b, x = .ref q ∧ H q = some (.tup [.str m.1, .int m.2, .int va, .bl b]) ∧ 1 ≤ m.2 ∧ m.2 ≤ 3 ∧ 1 ≤ va ∧ m.1.length ≤ 300000
def Rels (H : Hp) (xs : List V) (ms : List (Str × Int)) : Prop := xs.length = ms.length ∧ ∀ (i : Nat) (x : V) (m : Str × Int), xs[i]? = some x → ms[i]? = some m → Rel4 H x m
/-- an atom at x -/
def Atm (H : Hp) (x : V) (d : Str × Nat) : Prop := ∃ q p v vs, x = .ref q ∧ H q = some (.tup [.str "is", .str d.1, .ref p, .int v]) ∧ H p = some (.tup (List.map V.int vs)) ∧ vs.length = d.2 ∧ d.2 ≤ 3 ∧ d.1.length ≤ 300000
def Atms (H : Hp) (xs : List V) (ds : List (Str × Nat)) : Prop := xs.length = ds.length ∧ ∀ (i : Nat) (x : V) (d : Str × Nat), xs[i]? = some x → ds[i]? = some d → Atm H x d
theorem Rel4.tup {H H' : Hp} {x : V} {m : Str × Int} (e : TupSame H H') (h : Rel4 H x m) : Rel4 H' x m :=
  let ⟨q, va, b, h1, h2, h3⟩ := h
  ⟨q, va, b, h1, e _ _ h2, h3⟩
theorem Rels.tup {H H' : Hp} {xs : List V} {ms : List (Str × Int)} (e : TupSame H H') (h : Rels H xs ms) : Rels H' xs ms := ⟨h.1, fun i x m h1 h2 => (h.2 i x m h1 h2).tup e⟩
theorem Atm.tup {H H' : Hp} {x : V} {d : Str × Nat} (e : TupSame H H') (h : Atm H x d) : Atm H' x d :=
  let ⟨q, p, v, vs, h1, h2, h3, h4⟩ := h
  ⟨q, p, v, vs, h1, e _ _ h2, e _ _ h3, h4⟩
theorem Atms.tup {H H' : Hp} {xs : List V} {ds : List (Str × Nat)} (e : TupSame H H') (h : Atms H xs ds) : Atms H' xs ds := ⟨h.1, fun i x m h1 h2 => (h.2 i x m h1 h2).tup e⟩
theorem Atms.app {H : Hp} {xs ys : List V} {ds es : List (Str × Nat)} (h : Atms H xs ds) (g : Atms H ys es) : Atms H (xs ++ ys) (ds ++ es) := by
  refine ⟨by rw [List.length_append, List.length_append, h.1, g.1], fun i x d hx hd => ?_⟩
  by_cases hi : i < xs.length
  · rw [List.getElem?_append_left hi] at hx
    rw [List.getElem?_append_left (h.1 ▸ hi)] at hd
    exact h.2 i x d hx hd
  · rw [List.getElem?_append_right (by omega)] at hx
    rw [List.getElem?_append_right (by have := h.1; omega), ← h.1] at hd
    exact g.2 _ x d hx hd
theorem atms_of {H : Hp} : ∀ t : Fm, t.At H → ∃ ds, Atms H t.atoms ds
  | .atom x, ⟨q, p, n, v, vs, h1, h2, h3, h4, h5⟩ => by
    refine ⟨[(n, vs.length)], rfl, fun i x' d hx hd => ?_⟩
    rcases i with _ | i
    · cases hx
      cases hd
      exact ⟨q, p, v, vs, h1, h2, h3, rfl, h4, h5⟩
    · exact absurd hx (by simp [Fm.atoms])
  | .con _, _ => ⟨[], rfl, fun i x d h => by simp [Fm.atoms] at h⟩
  | .neg _ f, ⟨_, _, _, _, _, h4⟩ => atms_of f h4
  | .bin _ f g, ⟨_, _, _, _, _, h4, h5⟩ =>
    let ⟨ds, h⟩ := atms_of f h4
    let ⟨es, g⟩ := atms_of g h5
    ⟨ds ++ es, h.app g⟩
/-- the data of an atom are those of the heap -/
theorem Atm.same {H : Hp} {x : V} {d e : Str × Nat} (h : Atm H x d) (g : Atm H x e) : d = e := by
  obtain ⟨q, p, v, vs, rfl, h2, h3, h4, _⟩ := h
  obtain ⟨q', p', v', vs', e1, g2, g3, g4, _⟩ := g
  cases e1
  rw [h2] at g2
  simp only [Option.some.injEq, HO.tup.injEq, List.cons.injEq, V.str.injEq, V.ref.injEq, V.int.injEq] at g2
  obtain ⟨_, e1, rfl, _, _⟩ := g2
  rw [h3] at g3
  simp only [Option.some.injEq, HO.tup.injEq] at g3
  have l := congrArg List.length g3
  rw [List.length_map, List.length_map, h4, g4] at l
  exact Prod.ext e1 l
theorem Rel4.same {H : Hp} {x : V} {d e : Str × Int} (h : Rel4 H x d) (g : Rel4 H x e) : d = e := by
  obtain ⟨q, va, b, rfl, h2, _⟩ := h
  obtain ⟨q', va', b', e1, g2, _⟩ := g
  cases e1
  rw [h2] at g2
  simp only [Option.some.injEq, HO.tup.injEq, List.cons.injEq, V.str.injEq, V.ref.injEq, V.int.injEq] at g2
  obtain ⟨e1, e2, _⟩ := g2
  exact Prod.ext e1 e2
/-- the loop's state of dupF -/
theorem dupF_step {seen r : List Str} {z : Str} (h : z ∉ seen) : dupF seen (z :: r) = dupF (seen ++ [z]) r := if_neg h
theorem dupF_hit {seen r : List Str} {z : Str} (h : z ∈ seen) : dupF seen (z :: r) = some z := if_pos h
theorem dupF_at {zs : List Str} {i : Nat} {z : Str} (hz : zs[i]? = some z) : dupF (zs.take i) (zs.drop i) = if z ∈ zs.take i then some z else dupF (zs.take (i + 1)) (zs.drop (i + 1)) := by
  obtain ⟨hi, e⟩ := List.getElem?_eq_some_iff.mp hz
  rw [List.drop_eq_getElem_cons hi, e]
  by_cases h : z ∈ zs.take i
  · rw [if_pos h, dupF_hit h]
  · rw [if_neg h, dupF_step h, List.take_add_one, hz]
    rfl
theorem dupF_end {zs : List Str} {i : Nat} (h : zs.length ≤ i) : dupF (zs.take i) (zs.drop i) = none := by
  rw [List.drop_eq_nil_of_le h]
  rfl
theorem dupF_nodup : ∀ (r seen : List Str), dupF seen r = none → r.Nodup ∧ ∀ z ∈ r, z ∉ seen
  | [], _, _ => ⟨List.nodup_nil, fun _ h => absurd h List.not_mem_nil⟩
  | z :: r, seen, h => by
    by_cases hz : z ∈ seen
    · rw [dupF_hit hz] at h
      cases h
    · rw [dupF_step hz] at h
      obtain ⟨n, m⟩ := dupF_nodup r _ h
      refine ⟨List.nodup_cons.mpr ⟨fun x => m z x (by simp), n⟩, fun y hy => ?_⟩
      rcases List.mem_cons.mp hy with rfl | hy
      · exact hz
      · exact fun x => m y hy (List.mem_append_left _ x)
theorem findSome_at {α β : Type} {f : α → Option β} {xs : List α} {i : Nat} {x : α} (hx : xs[i]? = some x) (h0 : (xs.take i).findSome? f = none) :
    (∀ b, f x = some b → xs.findSome? f = some b) ∧ (f x = none → (xs.take (i + 1)).findSome? f = none) := by
  obtain ⟨hi, e⟩ := List.getElem?_eq_some_iff.mp hx
  refine ⟨fun b hb => ?_, fun hb => ?_⟩
  · conv => lhs; rw [← List.take_append_drop i xs, List.drop_eq_getElem_cons hi, e]
    rw [List.findSome?_append, h0, Option.none_or, List.findSome?_cons, hb]
  · rw [List.take_add_one, hx, List.findSome?_append, h0, Option.none_or]
    simp [List.findSome?, hb]
end Nz
namespace Nz
open PySem PySem.Spec PyProof.Rows L2
section
variable {P : Program} {w : World} {K : PySem.W.Frag} {mg : Str → Option Value} {base : Heap}
/-! ### check_names -/
/-- how an error with the name z leaves: at H', behind H -/
def Thrown (E : XK) (C : Addr) (z : Str) (H : Hp) : Prop := ∀ (d : Addr) (H' : Hp), Same H H' → H d = none → H' d = some (.xd [("name", .str z)]) → E (.ref C) (some d) H'
def spChN (K : PySem.W.Frag) (CD : Addr) : Sp := fun vs H Q E => ∃ (a : Addr) (xs : List V) (ms : List (Str × Int)), vs = [.ref a] ∧ SqL K H a xs ∧ Rels H xs ms ∧ ms.length ≤ 10 ∧
  (dupF [] (ms.map (·.1)) = none → ∀ H', Same H H' → Q .non H') ∧ ∀ z, dupF [] (ms.map (·.1)) = some z → Thrown E CD z H
set_option maxHeartbeats 1000000 in
theorem ok_chn {k : Nat} {f : Addr} {fd : FuncData} (F : Fun K "check_names" "check_names" s_check_names f fd) {CD fD : Addr} {fdD : FuncData} (ED : ErrT K mg "DuplicateName" CD fD) (GD : FnOk P w K mg base CX0 k fD fdD ["self", "name"] (spErr CD)) (bD : Binds K fdD ["self", "name"] []) (m_set : mg "set" = none) :
    FnOk P w K mg base (L2.CX P w) (k + 2) f fd ["relations"] (spChN K CD) := by
  refine F.okX sc_check_names (fun vs H Q E h => ?_) (fun cdv A outer s H vs Q E hr h => ?_)
  · obtain ⟨a, xs, ms, rfl, _⟩ := h
    rfl
  obtain ⟨a, xs, ms, rfl, hS, hR, h10, q, e⟩ := h
  refine ⟨_, pss_cons (ps_set (i := 1) sc_check_names.nd rfl (.inl rfl) (pe_callTy0 cr_set0K rfl m_set (by decide +kernel)))
    (pss_one (ps_for (passes_of rfl) rfl (pi_seq (pv 0)) (pg_name (i := 2) sc_check_names.nd rfl (.inl rfl))
      (pss_cons (ps_if (pt_cmpR or_sinK (pe_ix (r := rIx K) ix_seq (pv 2) pe_int (fun _ _ => rfl)) (pv 1) rfl)
        (pss_one (ps_raise rfl (takes_of rfl rfl rfl rfl) (pmk_oex ED.oex ED.iC ED.tI GD hr bD .nil pass0 rfl ED.gC (pa_cons (pe_ix (r := rIx K) ix_seq (pv 2) pe_int (fun _ _ => rfl)) pa_nil)))) pss_nil)
      (pss_one (ps_expr (pe_saddK (pv 1) (pa_cons (pe_ix (r := rIx K) ix_seq (pv 2) pe_int (fun _ _ => rfl)) pa_nil))))))), ?_⟩
  refine ⟨rfl, fun o no => ?_⟩
  have s0 := same_new (o := SetK P w o (fun _ => false) 0) no
  have lx := hR.1
  refine .inl ⟨_, rfl, a, rfl, ⟨xs, s0.seq hS⟩, ?_⟩
  refine for_list (K := K) (a := a) (xs := xs) (fun i σ H1 => ∃ (v : Option V) (S : Key → Bool) (n : Nat), σ = [some (.ref a), some (.ref o), v] ∧ Same H H1 ∧ H1 o = some (SetK P w o S n) ∧ n ≤ i ∧
      (∀ z : Str, S (.inr z) = decide (z ∈ (ms.map (·.1)).take i)) ∧ dupF [] (ms.map (·.1)) = dupF ((ms.map (·.1)).take i) ((ms.map (·.1)).drop i))
    ⟨none, _, 0, rfl, s0, upd_same, Nat.le_refl _, fun z => by simp, rfl⟩ ?_ ?_ ?_
  · rintro i σ H1 _ ⟨v, S, n, rfl, sm, _⟩
    exact sm.seq hS
  · rintro i x σ H1 hx ⟨v, S, n, rfl, sm, eo, hn, hSz, hdup⟩
    have hi : i < xs.length := (List.getElem?_eq_some_iff.mp hx).1
    obtain ⟨m, hm⟩ : ∃ m, ms[i]? = some m := ⟨_, List.getElem?_eq_getElem (by omega)⟩
    obtain ⟨q0, va, b, rfl, hq, _, _, _, hl⟩ := hR.2 i x m hx hm
    have hz : (ms.map (·.1))[i]? = some m.1 := by rw [List.getElem?_map, hm]; rfl
    have hq1 := sm _ _ hq
    rw [dupF_at hz] at hdup
    have item : ∀ {Q : VK}, Q (.str m.1) H1 → rIx K (.ref q0) (.int 0) H1 Q := fun {Q} h => .inr (.inl ⟨q0, _, 0, .str m.1, rfl, rfl, SqT.of hq1, atI_nat (j := 0) rfl, h⟩)
    refine ⟨_, rfl, item ⟨_, rfl, .inr m.1, o, S, n, rfl, rfl, eo, _, rfl, ite2 (fun c => ?_) (fun c => ?_)⟩⟩
    · have c' : m.1 ∈ (ms.map (·.1)).take i := by
        have c2 : S (.inr m.1) = true := c
        rw [hSz] at c2
        exact of_decide_eq_true c2
      rw [if_pos c'] at hdup
      refine ⟨_, rfl, item ⟨(by show 1 ≤ 1000; decide), fun x nx => ⟨x, m.1, rfl, hl, upd_same, fun dx ndx dne => ⟨rfl, dx, [("name", .str m.1)], upd_same, ?_, ?_, ?_⟩⟩⟩⟩
      · rw [upd_ne dne, upd_same]
      · have e2 := ndx
        rw [upd_ne dne] at e2
        exact e2
      · have nd1 : H1 dx = none := by
          have e2 := ndx
          rw [upd_ne dne] at e2
          exact e2
        refine e m.1 hdup dx _ (sm.trans fun c u ec => ?_) (sm.free nd1) upd_same
        have cx := ne_of_none ec nx
        have cd := ne_of_none ec nd1
        rw [upd_ne cd, del_ne cx, upd_ne cx, upd_ne cd, upd_ne cx]
        exact ec
    · have c' : ¬ m.1 ∈ (ms.map (·.1)).take i := fun z => c (by
        show S (.inr m.1) = true
        rw [hSz]
        exact decide_eq_true z)
      rw [if_neg c'] at hdup
      refine ⟨_, rfl, ⟨o, S, n, rfl, eo⟩, _, rfl, item ⟨o, .inr m.1, S, n, rfl, rfl, eo, ?_, _, _, _, rfl, fun c u ec => ?_, upd_same, ?_, fun z => ?_, hdup⟩⟩
      · have sb : (1000 : Nat) < scanBound := by decide +kernel
        omega
      · rw [upd_ne (ne_of_none ec no)]
        exact sm _ _ ec
      · split <;> omega
      · rw [hSz z, List.take_add_one, hz]
        simp
  · rintro σ H1 ⟨v, S, n, rfl, sm, eo, hn, hSz, hdup⟩
    refine q ?_ H1 sm
    rw [hdup]
    exact dupF_end (by rw [List.length_map, lx]; exact Nat.le_refl _)
end
end Nz
namespace Nz
open PySem PySem.Spec PyProof.Rows L2
section
variable {X : Cx}
/-- y = {k: v for .. in ..} on one line, y a local -/
theorem ps_setDc {i : Nat} {y : Str} {py : Pos} {kx vx tg iter : Expr} {cs : List Expr} {bs : Scope} {own : List (Str × Nat)} {p0 p1 : Pos} {wi : TI} {g : TG} {tt : TT} {tk tv : TE} (calm : X.calm = true) (nd : X.N.Nodup) (hy : X.N[i]? = some y) (lo : X.env.scope.names.lookup y = some .local)
    (sw : swapsWith (.DictComp kx vx [⟨tg, iter, cs, 0⟩] bs p0) (some (.Name y py)) p1.line X.env = pure true) (hi : PI X tg iter wi) (bk : BlkOk X.N X.env.scope bs own)
    (hg : ∀ (s : Shared) (H : Hp) (C : Addr) (l : List (Str × Addr)) (fp : List Addr), PG (X.blk s H bs (compEnvC bs l C X.env) fp) tg g)
    (ht : ∀ (s : Shared) (H : Hp) (C : Addr) (l : List (Str × Addr)) (fp : List Addr), PTs (X.blk s H bs (compEnvC bs l C X.env) fp) cs tt)
    (hk : ∀ (s : Shared) (H : Hp) (C : Addr) (l : List (Str × Addr)) (fp : List Addr), PE (X.blk s H bs (compEnvC bs l C X.env) fp) kx tk)
    (hv : ∀ (s : Shared) (H : Hp) (C : Addr) (l : List (Str × Addr)) (fp : List Addr), PE (X.blk s H bs (compEnvC bs l C X.env) fp) vx tv) (fo : ∀ x, foldedSetIterable iter X.env x = pure x := by intro _; rfl) :
    PS X (.Assign [.Name y py] (.DictComp kx vx [⟨tg, iter, cs, 0⟩] bs p0) p1) (tAsg (tDc wi g tt tk tv (own.map (·.2))) (gName i)) := by
  constructor
  intro pins s v G D I q
  rw [exec_Assign_Name_used _ _ _ _ sw]
  refine wpAny_bind (wpAny_standAt (wpAny_bind ?_))
  show wpAny _ X.A (do let _ ← comprehension (.DictComp kx vx [⟨tg, iter, cs, 0⟩] bs p0) bs X.env (firstIterPos [⟨tg, iter, cs, 0⟩] p0) newDict false (eval iter X.env) (some (assign (.Name y py) X.env))) _ _ s
  have q1 : tDc wi g tt tk tv (own.map (·.2)) v G (fun x G1 => gName i x v G1 D.nx) := q
  refine wpAny_bind (thn (dc_core (Qf := fun _ z => SP X pins D .next z) calm nd I hi bk hg ht hk hv fo q1 fun L C z m G' I' qq hn f => ?_) fun _ z hz => wpAny_pure (wpAny_pure hz))
  show wpAny _ _ (assign (.Name y py) X.env (.ref L)) _ _ _
  refine wpAny_assign_Name (store_ok2 (v := V.ref L) I' nd hy (.inl lo) rfl (fun z2 I2 ⟨a, sb, ha⟩ => ?_) (.inr lo))
  obtain ⟨g0, g1, g2, g3, g4, g5⟩ := f
  have apart : C ≠ a := by
    rcases ha with e | e
    · exact e ▸ g1
    · exact fun e' => g4 y a e e'.symm
  exact ⟨m, hn.sameBut sb apart, fun h3 sb3 => ⟨_, G', I2.turned (t' := z2.toks) (fun b o hb e => (sb3.2 b hb).trans e) g0 g1 g3 g4 g5, qq⟩⟩
theorem sw_dict {kx vx : Expr} {gs : List Comprehension} {bs : Scope} {p py : Pos} {y : Str} {l : Nat} {env : Env} (hk : env.scope.kind = .function) (hy : env.scope.names.lookup y = some .local) (hl : (py.line == p.line) = true)
    (ha : (bs.names.any fun (n, k) => n == y && (k == .local || k == .cell)) = false) : swapsWith (.DictComp kx vx gs bs p) (some (.Name y py)) l env = pure true := by
  have e1 : env.kindOf y = some .local := hy
  have e2 : env.blockKind = .function := by
    unfold Env.blockKind
    rw [hk]
    rfl
  unfold swapsWith
  simp only [e2, e1, ha, Expr.pos, hl]
  rfl
end
/-- a dict by a comprehension over a list that stays -/
theorem dc_list {K : PySem.W.Frag} {a : Addr} {xs : List V} {g : TG} {tt : TT} {tk tv : TE} {vs : List Nat} {σ : L2.St} {G : Hp} {D : Addr} {Qd : Hp → Prop} (J : Nat → Hp → Prop) (h0 : J 0 (upd G D (.dK []))) (hl : ∀ i F, i ≤ xs.length → J i F → SqL K F a xs)
    (hs : ∀ i x F, xs[i]? = some x → J i F → g x (wipe σ vs) F fun σ2 F2 => wipe σ2 vs = wipe σ vs ∧ tt σ2 F2 fun b F3 =>
      if b = true then tk σ2 F3 fun y F4 => tv σ2 F4 fun z F5 => ∃ kvs k, y = kV k ∧ F5 D = some (.dK kvs) ∧ kvs.length < sizeLine ∧ J (i + 1) (upd F5 D (.dK (putK kvs k z))) else J (i + 1) F3)
    (hd : ∀ F, J xs.length F → Qd F) : ∃ W : Nat → Nat → Hp → Prop, (∃ m, W 0 m (upd G D (.dK []))) ∧ ∀ i m F, W i m F → ((Itl K a).stop i F ∧ Qd F) ∨
      ((Itl K a).go i F ∧ ∃ Nx : Hp → Prop, (∀ F', Nx F' → ∃ m', m' < m ∧ W (i + 1) m' F') ∧ ∀ x F', (Itl K a).yld i F x F' → g x (wipe σ vs) F' fun σ2 F2 => wipe σ2 vs = wipe σ vs ∧ tt σ2 F2 fun b F3 =>
        if b = true then tk σ2 F3 fun y F4 => tv σ2 F4 fun z F5 => ∃ kvs k, y = kV k ∧ F5 D = some (.dK kvs) ∧ kvs.length < sizeLine ∧ Nx (upd F5 D (.dK (putK kvs k z))) else Nx F3) := by
  refine ⟨fun i m F => (m = xs.length - i ∧ i ≤ xs.length) ∧ J i F, ⟨xs.length, ⟨by simp, Nat.zero_le _⟩, h0⟩, ?_⟩
  rintro i m F ⟨⟨rfl, hi⟩, p⟩
  have q := hl i F hi p
  rcases Nat.lt_or_ge i xs.length with lt | ge
  · refine .inr ⟨⟨xs, xs[i], q, by simp [lt]⟩, J (i + 1), fun F' p' => ⟨xs.length - (i + 1), by omega, ⟨rfl, lt⟩, p'⟩, ?_⟩
    rintro x F' ⟨rfl, y⟩
    exact hs i x _ (y xs q) p
  · obtain rfl : i = xs.length := Nat.le_antisymm hi ge
    exact .inl ⟨⟨xs, q, Nat.le_refl _⟩, hd F p⟩
end Nz
namespace Nz
open PySem PySem.Spec PyProof.Rows L2
theorem putK_fresh {kvs : List (Key × V)} {k : Key} {v : V} (h : ∀ p ∈ kvs, p.1 ≠ k) : putK kvs k v = kvs ++ [(k, v)] := by
  unfold putK
  rw [if_neg]
  intro z
  obtain ⟨p, m, e⟩ := List.any_eq_true.mp z
  exact h p m (of_decide_eq_true e)
def arD (ms : List (Str × Int)) : List (Key × V) := ms.map fun m => (Sum.inr m.1, V.int m.2)
theorem arD_val (z : Str) : ∀ ms : List (Str × Int), valV (arD ms) (.inr z) = (ms.find? fun m => decide (m.1 = z)).map fun m => V.int m.2
  | [] => rfl
  | m :: r => by
    by_cases h : m.1 = z
    · have e1 : valV (arD (m :: r)) (.inr z) = some (.int m.2) := valV_pos (congrArg Sum.inr h)
      rw [e1, List.find?_cons_of_pos (by simpa using h)]
      rfl
    · have e1 : valV (arD (m :: r)) (.inr z) = valV (arD r) (.inr z) := valV_neg (fun e => h (Sum.inr.inj e))
      rw [e1, List.find?_cons_of_neg (by simpa using h), arD_val z r]
theorem fresh_name {ms : List (Str × Int)} {i : Nat} {m : Str × Int} (nd : (ms.map (·.1)).Nodup) (hm : ms[i]? = some m) : ∀ m' ∈ ms.take i, m'.1 ≠ m.1 := by
  intro m' h e
  obtain ⟨j, hj, e1⟩ := List.getElem_of_mem h
  rw [List.length_take] at hj
  rw [List.getElem_take] at e1
  obtain ⟨hi, e2⟩ := List.getElem?_eq_some_iff.mp hm
  have z := (List.pairwise_iff_getElem.mp nd) j i (by rw [List.length_map]; omega) (by rw [List.length_map]; omega) (by omega)
  rw [List.getElem_map, List.getElem_map, e1, e2] at z
  exact z e
section
variable {P : Program} {w : World} {K : PySem.W.Frag} {mg : Str → Option Value} {base : Heap}
/-! ### check_atoms -/
def spChA (K : PySem.W.Frag) (CU CA : Addr) : Sp := fun vs H Q E => ∃ (a : Addr) (xs : List V) (ms : List (Str × Int)) (t : Fm) (ds : List (Str × Nat)), vs = [.ref a, t.root] ∧ SqL K H a xs ∧ Rels H xs ms ∧ ms.length ≤ 10 ∧ dupF [] (ms.map (·.1)) = none ∧
  t.At H ∧ t.nodes ≤ 20 ∧ Atms H t.atoms ds ∧ (atomsW ms ds = none → ∀ H', Same H H' → Q .non H') ∧ (∀ z, atomsW ms ds = some (1, z) → Thrown E CU z H) ∧ ∀ z, atomsW ms ds = some (2, z) → Thrown E CA z H
set_option maxHeartbeats 1000000 in
theorem ok_cha {f : Addr} {fd : FuncData} (F : Fun K "check_atoms" "check_atoms" s_check_atoms f fd) {f_atoms_of : Addr} {fd_atoms_of : FuncData} (G_atoms_of : FnOk P w K mg base CX0 (20) f_atoms_of fd_atoms_of ["formula"] (spAt K 20)) (b_atoms_of : Binds K fd_atoms_of ["formula"] []) (k_atoms_of : PySem.W.keepIn K (.ref f_atoms_of) = true) (g_atoms_of : mg "atoms_of" = some (.ref f_atoms_of)) {CU fU CA fA : Addr} {fdU fdA : FuncData} (EU : ErrT K mg "UnknownName" CU fU) (GU : FnOk P w K mg base CX0 1 fU fdU ["self", "name"] (spErr CU)) (bU : Binds K fdU ["self", "name"] [])
    (EA : ErrT K mg "WrongArity" CA fA) (GA : FnOk P w K mg base CX0 1 fA fdA ["self", "name"] (spErr CA)) (bA : Binds K fdA ["self", "name"] []) (m_len : mg "len" = none) :
    FnOk P w K mg base (L2.CX P w) 21 f fd ["relations", "formula"] (spChA K CU CA) := by
  refine F.okX sc_check_atoms (fun vs H Q E h => ?_) (fun cdv A outer s H vs Q E hr h => ?_)
  · obtain ⟨a, xs, ms, t, ds, rfl, _⟩ := h
    rfl
  obtain ⟨a, xs, ms, t, ds, rfl, hS, hR, h10, hnd, hA, hn, hds, q, eU, eA⟩ := h
  have hu := hu_of hr
  have hr2 := hr.mono (show 2 ≤ 20 by decide)
  refine ⟨_, pss_cons (ps_setDc (i := 2) (own := [("relation", 5)]) (g := gName 5) rfl sc_check_atoms.nd rfl rfl (sw_dict rfl rfl rfl (by decide +kernel)) (pi_seq (pv 0))
      (blkOk_by (own := [("relation", 5)]) (N := ["relations", "formula", "arities", "atom", "name", "relation"]) (sc := defScope s_check_atoms) (by decide +kernel))
      (fun _ _ _ _ _ => pg_name (i := 5) sc_check_atoms.nd rfl (.inl rfl)) (fun _ _ _ _ _ => pts_nil) (fun _ _ _ _ _ => pe_ix (r := rIx K) ix_seq (pv 5) pe_int (fun _ _ => rfl)) (fun _ _ _ _ _ => pe_ix (r := rIx K) ix_seq (pv 5) pe_int (fun _ _ => rfl)))
    (pss_one (ps_for (passes_of rfl) rfl (pi_seq (pe_call G_atoms_of hr rfl g_atoms_of k_atoms_of b_atoms_of .nil pass0 (pa_cons (pv 1) pa_nil))) (pg_name (i := 3) sc_check_atoms.nd rfl (.inl rfl))
      (pss_cons (ps_set (i := 4) sc_check_atoms.nd rfl (.inl rfl) (pe_ix (r := rIx K) ix_seq (pv 3) pe_int (fun _ _ => rfl)))
      (pss_cons (ps_if (pt_cmp (pc_dnotin hu (pv 4) (pv 2)))
        (pss_one (ps_raise rfl (takes_of rfl rfl rfl rfl) (pmk_oex EU.oex EU.iC EU.tI GU hr2 bU .nil pass0 rfl EU.gC (pa_cons (pv 4) pa_nil)))) pss_nil)
      (pss_one (ps_if (pt_cmpR op_ne (pe_callB (r := rLn K) c_len rfl m_len (by decide +kernel) (pa_cons (pe_ix (r := rIx K) ix_seq (pv 3) pe_int (fun _ _ => rfl)) pa_nil)) (pe_dget hu (pv 2) (pv 4) (fun _ _ => rfl)) (nomark _))
        (pss_one (ps_raise rfl (takes_of rfl rfl rfl rfl) (pmk_oex EA.oex EA.iC EA.tI GA hr2 bA .nil pass0 rfl EA.gC (pa_cons (pv 4) pa_nil)))) pss_nil)))))), ?_⟩
  have names : (ms.map (·.1)).Nodup := (dupF_nodup _ _ hnd).1
  have lx := hR.1
  refine .inl ⟨_, rfl, a, rfl, ⟨xs, hS⟩, fun D nD => ?_⟩
  refine dc_list (K := K) (a := a) (xs := xs) (fun i H1 => Same H H1 ∧ H1 D = some (.dK (arD (ms.take i)))) ⟨same_new nD, upd_same⟩ ?_ ?_ ?_
  · rintro i H1 _ ⟨sm, _⟩
    exact sm.seq hS
  · rintro i x H1 hx ⟨sm, eD⟩
    have hi : i < xs.length := (List.getElem?_eq_some_iff.mp hx).1
    obtain ⟨m, hm⟩ : ∃ m, ms[i]? = some m := ⟨_, List.getElem?_eq_getElem (by omega)⟩
    obtain ⟨q0, va, b, rfl, hq, _⟩ := hR.2 i x m hx hm
    have hq1 := sm _ _ hq
    refine ⟨rfl, _, rfl, .inr (.inl ⟨q0, _, 0, .str m.1, rfl, rfl, SqT.of hq1, atI_nat (j := 0) rfl, _, rfl, .inr (.inl ⟨q0, _, 1, .int m.2, rfl, rfl, SqT.of hq1, atI_nat (j := 1) rfl, _, .inr m.1, rfl, eD, ?_, fun c u ec => ?_, ?_⟩)⟩)⟩
    · unfold arD
      rw [List.length_map, List.length_take]
      exact small1000 (by omega)
    · rw [upd_ne (ne_of_none ec nD)]
      exact sm c u ec
    · rw [upd_same, putK_fresh (fun p hp => ?_), List.take_add_one, hm]
      · unfold arD
        rw [List.map_append]
        rfl
      · obtain ⟨m', mm, rfl⟩ := List.mem_map.mp hp
        exact fun z => fresh_name names hm m' mm (Sum.inr.inj z)
  · rintro H1 ⟨sm, eD⟩
    rw [lx, List.take_of_length_le (Nat.le_refl _)] at eD
    have dep := t.dep_le
    refine .inl ⟨_, rfl, t, rfl, t.at_same sm hA, by omega, by omega, fun p H2 s2 np e2 => ⟨p, rfl, ⟨_, SqL.of e2⟩, ?_⟩⟩
    have sm2 := sm.trans s2
    have eD2 := s2 _ _ eD
    refine for_list (K := K) (a := p) (xs := t.atoms) (fun i σ H3 => ∃ v1 v2 : Option V, σ = [some (.ref a), some t.root, some (.ref D), v1, v2, none] ∧ H3 = H2 ∧ (ds.take i).findSome? (atomW ms) = none) ⟨none, none, rfl, rfl, rfl⟩ ?_ ?_ ?_
    · rintro i σ H3 _ ⟨v1, v2, rfl, rfl, _⟩
      exact SqL.of e2
    · rintro i x σ H3 hx ⟨v1, v2, rfl, rfl, h0⟩
      have hi : i < t.atoms.length := (List.getElem?_eq_some_iff.mp hx).1
      have l0 := hds.1
      obtain ⟨d, hd⟩ : ∃ d, ds[i]? = some d := ⟨_, List.getElem?_eq_getElem (by omega)⟩
      obtain ⟨q0, p0, v, vs, rfl, hq, hp, hl, h3, hz⟩ := hds.2 i x d hx hd
      obtain ⟨hit, nxt⟩ := findSome_at hd h0
      have hq1 := sm2 _ _ hq
      have hp1 := sm2 _ _ hp
      have gv := arD_val d.1 ms
      have throw : ∀ {C : Addr} {J : XK}, Thrown J C d.1 H → ∀ x, H3 x = none → ∀ dx, upd H3 x (exo x C none) dx = none → dx ≠ x →
          J (.ref C) (some dx) (upd (del (upd (upd (upd H3 x (exo x C none)) dx (exd dx [("name", .str d.1)])) x (exo x C (some dx))) x) dx (.xd [("name", .str d.1)])) := by
        intro C J h x nx dx ndx dne
        have nd1 : H3 dx = none := by
          have e2 := ndx
          rw [upd_ne dne] at e2
          exact e2
        refine h dx _ (sm2.trans fun c u ec => ?_) (sm2.free nd1) upd_same
        have cx := ne_of_none ec nx
        have cd := ne_of_none ec nd1
        rw [upd_ne cd, del_ne cx, upd_ne cx, upd_ne cd, upd_ne cx]
        exact ec
      refine ⟨_, rfl, .inr (.inl ⟨q0, _, 1, .str d.1, rfl, rfl, SqT.of hq1, atI_nat (j := 1) rfl, _, rfl, _, rfl, D, _, rfl, DGet.k (k := .inr d.1) eD2, _, rfl, ?_⟩)⟩
      rw [gv]
      cases hf : ms.find? (fun m => decide (m.1 = d.1)) with
      | none =>
        have aw : atomW ms d = some (1, d.1) := by
          unfold atomW
          rw [hf]
        refine iteT ⟨_, rfl, (by show 1 ≤ 1000; decide), fun x nx => ⟨x, d.1, rfl, hz, upd_same, fun dx ndx dne => ⟨rfl, dx, [("name", .str d.1)], upd_same, ?_, ?_, throw (eU _ (hit _ aw)) x nx dx ndx dne⟩⟩⟩
        · rw [upd_ne dne, upd_same]
        · have e2 := ndx
          rw [upd_ne dne] at e2
          exact e2
      | some m =>
        rw [hf] at gv
        have gd : DGet H3 D (.str d.1) (some (.int m.2)) := .inl ⟨_, .inr d.1, .inl eD2, rfl, gv.symm⟩
        have ln : (List.map V.int vs).length = d.2 := by rw [List.length_map, hl]
        refine iteF ⟨_, rfl, .inr (.inl ⟨q0, _, 2, .ref p0, rfl, rfl, SqT.of hq1, atI_nat (j := 2) rfl, .inl ⟨p0, _, rfl, .inr (SqT.of hp1), _, rfl, _, rfl, D, .int m.2, rfl, gd, rfl, _, rfl, ite2 (fun c => ?_) (fun c => ?_)⟩⟩)⟩
        · have c' : ((List.map V.int vs).length : Int) ≠ m.2 := fun z => by
            rw [List.length_map] at z
            simp [z] at c
          have aw : atomW ms d = some (2, d.1) := by
            unfold atomW
            rw [hf]
            exact if_neg (by rw [← ln]; exact c')
          refine ⟨_, rfl, (by show 1 ≤ 1000; decide), fun x nx => ⟨x, d.1, rfl, hz, upd_same, fun dx ndx dne => ⟨rfl, dx, [("name", .str d.1)], upd_same, ?_, ?_, throw (eA _ (hit _ aw)) x nx dx ndx dne⟩⟩⟩
          · rw [upd_ne dne, upd_same]
          · have e2 := ndx
            rw [upd_ne dne] at e2
            exact e2
        · have c' : ((List.map V.int vs).length : Int) = m.2 := Classical.byContradiction fun z => c (by
            rw [List.length_map] at z
            simp [z])
          have aw : atomW ms d = none := by
            unfold atomW
            rw [hf]
            exact if_pos (by rw [← ln]; exact c')
          exact ⟨_, _, rfl, rfl, nxt aw⟩
    · rintro σ H3 ⟨v1, v2, rfl, rfl, h0⟩
      have l0 := hds.1
      rw [l0, List.take_of_length_le (Nat.le_refl _)] at h0
      exact q h0 H3 sm2
end
end Nz
namespace Nz
open PySem PySem.Spec PyProof.Rows L2
/-- C(e, ..), C's own __init__ keeping sp; what it raises goes where E says, at the slots as they stand -/
def tMakeS (C : Addr) (sp : Sp) (E : L2.St → XK) (t : TA) : TE := fun v G Q => t v G fun vs G1 => ∀ x dx, G1 x = none → G1 dx = none → dx ≠ x →
  sp (.ref x :: vs) (upd (upd G1 dx (.own x)) x (.ins C dx [])) (fun y G2 => y = .non ∧ Q (.ref x) G2) (E v)
section
variable {X : Cx} {CX : CXT} {k : Nat} {f C : Addr} {fd : FuncData} {ps : List Str} {sp : Sp} {E : L2.St → XK} {x : Str} {p pos : Pos} {e : Expr} {es : List Expr} {t : TA}
theorem pe_makeS (M : Mk X.K C f) (F : FnOk X.prog X.w X.K X.mg X.base CX k f fd ps sp) (hr : Room (k + 1) X.A) (hg : Gl X x) (hm : X.mg x = some (.ref C)) (hb : Binds X.K fd ps []) (out : ∀ v, PassesAt CX X v (E v)) (ha : PA X (e :: es) t)
    (hd : (x == ("__debug__" : Str)) = false := by decide) (hs : starEach (e :: es) X.env = (false, eval e X.env) :: starEach es X.env := by rfl) (hp : (backTo pos (starEach es X.env)).any (·.1) = false := by rfl) :
    PE X (.Call (.Name x p) (e :: es) [] pos) (tMakeS C sp E t) := by
  constructor
  intro pins s v G Q I q
  refine wpAny_Call_Name_kw (ld_glob I hg hm ?_ hd)
  refine PySem.W.callWith_K (h₀ := X.base) I.ok.mod.kin M.kp (thn (ha.run pos pins s v G _ I q) fun us z ⟨vs, G1, I1, rr, q1⟩ => ⟨I1.kIn, ?_⟩) hs hp
  have q2 := q1 (z.heap.objs.size + 1) z.heap.objs.size (I1.hok.fresh (Nat.le_succ _)) (I1.hok.fresh (Nat.le_refl _)) (Nat.ne_of_lt (Nat.lt_succ_self _))
  have J := Inv.made (C := C) I1
  have rs : Vals (V.ref (z.heap.objs.size + 1) :: vs) (Value.ref (z.heap.objs.size + 1) :: us) := .cons rfl rr
  have len : (Value.ref (z.heap.objs.size + 1) :: us).length = ps.length := rs.length.symm.trans (F.len _ _ _ _ q2)
  have bind := hb _ (Value.ref (z.heap.objs.size + 1) :: us) J.kIn (by rw [List.append_nil]; exact len)
  rw [List.append_nil] at bind
  refine wpAny_call (make_map (f := f) I1.kIn M.makes M.init (beq_iff_eq.mp M.fn) (codeAny_mono (F.run _ X.stack _ _ ⟨Value.ref (z.heap.objs.size + 1) :: us, []⟩ _ _ _ (E v) (hr.make C us []) (J.env0.make C us []) bind rs q2) fun r s1 h => ?_))
  rcases r with er | fl
  · exact out v pins _ _ er s1 J h
  rcases fl with _ | _ | _ | u <;> first
    | exact False.elim h
    | (obtain ⟨y, G2, J2, ry, rfl, q3⟩ := J.after h
       exact ⟨ry, .ref _, G2, J2, rfl, q3⟩)
end
end Nz
namespace Nz
open PySem PySem.Spec PyProof.Rows L2
/-! ### Kind.__init__ -/
/-- a sentence at y, its atoms' data -/
def SentAt (H : Hp) (y : V) (ds : List (Str × Nat)) : Prop := ∃ q c t, y = .ref q ∧ H q = some (.tup [.int c, Fm.root t]) ∧ t.At H ∧ t.nodes ≤ 20 ∧ Atms H t.atoms ds
def Sents (H : Hp) (ys : List V) (dss : List (List (Str × Nat))) : Prop := ys.length = dss.length ∧ ∀ (i : Nat) (y : V) (ds : List (Str × Nat)), ys[i]? = some y → dss[i]? = some ds → SentAt H y ds
theorem SentAt.tup {H H' : Hp} {y : V} {ds : List (Str × Nat)} (e : TupSame H H') (h : SentAt H y ds) : SentAt H' y ds :=
  let ⟨q, c, t, h1, h2, h3, h4, h5⟩ := h
  ⟨q, c, t, h1, e _ _ h2, t.at_tup e h3, h4, h5.tup e⟩
theorem Sents.tup {H H' : Hp} {ys : List V} {dss : List (List (Str × Nat))} (e : TupSame H H') (h : Sents H ys dss) : Sents H' ys dss := ⟨h.1, fun i y d h1 h2 => (h.2 i y d h1 h2).tup e⟩
/-- all but x stands still -/
def SameBut1 (x : Addr) (H H' : Hp) : Prop := ∀ c u, c ≠ x → H c = some u → H' c = some u
structure KindT (K : PySem.W.Frag) (mg : Str → Option Value) (C fI : Addr) : Prop where
  gC : mg "Kind" = some (.ref C)
  cl : Cls K C
  made : Mk K C fI
  nR : NoAttr K C "relations"
  nS : NoAttr K C "sentences"
def kindF (p1 p2 : Addr) : List (Str × V) := putF "sentences" (.ref p2) (putF "relations" (.ref p1) [])
def spKind (K : PySem.W.Frag) (CK CD CU CA : Addr) : Sp := fun vs H Q E => ∃ (x dx a b : Addr) (xs ys : List V) (ms : List (Str × Int)) (dss : List (List (Str × Nat))), vs = [.ref x, .ref a, .ref b] ∧ H x = some (.ins CK dx []) ∧ SqL K H a xs ∧ SqL K H b ys ∧ Rels H xs ms ∧ Sents H ys dss ∧ ms.length ≤ 10 ∧
  (wrongW ms dss = none → ∀ p1 p2 H', SameBut1 x H H' → H p1 = none → H p2 = none → p1 ≠ p2 → H' x = some (.ins CK dx (kindF p1 p2)) → H' p1 = some (.lst xs) → H' p2 = some (.lst ys) → Q .non H') ∧
  (∀ z, wrongW ms dss = some (0, z) → Thrown E CD z H) ∧ (∀ z, wrongW ms dss = some (1, z) → Thrown E CU z H) ∧ ∀ z, wrongW ms dss = some (2, z) → Thrown E CA z H
theorem atomW_no0 {ms : List (Str × Int)} {d : Str × Nat} {j : Nat} {z : Str} (h : atomW ms d = some (j, z)) : j = 1 ∨ j = 2 := by
  unfold atomW at h
  split at h
  · cases h
    exact .inl rfl
  · split at h
    · cases h
    · cases h
      exact .inr rfl
theorem atomsW_no0 {ms : List (Str × Int)} {ds : List (Str × Nat)} {j : Nat} {z : Str} (h : atomsW ms ds = some (j, z)) : j = 1 ∨ j = 2 := by
  obtain ⟨d, _, e⟩ := List.exists_of_findSome?_eq_some h
  exact atomW_no0 e
theorem seqL_ins {K : PySem.W.Frag} {H : Hp} {b x C dx : Addr} {fs : List (Str × V)} {xs : List V} {u : HO} (h : SqL K H b xs) (e : H x = some (.ins C dx fs)) : SqL K (upd H x u) b xs := by
  rcases h with (h | ⟨z, h⟩) | h
  · exact .inl (.inl ((upd_ne (ne_of h e (by intro z; cases z))).trans h))
  · exact .inl (.inr ⟨z, (upd_ne (ne_of h e (by intro z; cases z))).trans h⟩)
  · exact .inr h
theorem wrongW_dup {ms : List (Str × Int)} {dss : List (List (Str × Nat))} {z : Str} (h : dupF [] (ms.map (·.1)) = some z) : wrongW ms dss = some (0, z) := by
  unfold wrongW
  rw [h]
theorem wrongW_no {ms : List (Str × Int)} {dss : List (List (Str × Nat))} (h : dupF [] (ms.map (·.1)) = none) : wrongW ms dss = dss.findSome? (atomsW ms) := by
  unfold wrongW
  rw [h]
  rfl
section
variable {P : Program} {w : World} {K : PySem.W.Frag} {mg : Str → Option Value} {base : Heap}
set_option maxHeartbeats 1000000 in
theorem ok_kind {f : Addr} {fd : FuncData} (F : Fun K "__init__" "Kind.__init__" s_kind f fd) {CK CD CU CA : Addr} (T : KindT K mg CK f) {fn : Addr} {fdn : FuncData} (GN : FnOk P w K mg base (L2.CX P w) 3 fn fdn ["relations"] (spChN K CD)) (bN : Binds K fdn ["relations"] [])
    (kN : PySem.W.keepIn K (.ref fn) = true) (gN : mg "check_names" = some (.ref fn)) {fa : Addr} {fda : FuncData} (GA : FnOk P w K mg base (L2.CX P w) 21 fa fda ["relations", "formula"] (spChA K CU CA)) (bA : Binds K fda ["relations", "formula"] [])
    (kA : PySem.W.keepIn K (.ref fa) = true) (gA : mg "check_atoms" = some (.ref fa)) (m_list : mg "list" = none) : FnOk P w K mg base (L2.CX P w) 22 f fd ["self", "relations", "sentences"] (spKind K CK CD CU CA) := by
  refine F.okX sc_kind (fun vs H Q E h => ?_) (fun cdv A outer s H vs Q E hr h => ?_)
  · obtain ⟨x, dx, a, b, xs, ys, ms, dss, rfl, _⟩ := h
    rfl
  obtain ⟨x, dx, a, b, xs, ys, ms, dss, rfl, hx, hSa, hSb, hR, hT, h10, q, e0, e1, e2⟩ := h
  have hr3 := hr.mono (show 3 ≤ 21 by decide)
  refine ⟨_, pss_cons (ps_expr (pe_callS GN hr3 rfl gN kN bN (fun v => passAt (takes_of rfl rfl rfl rfl) v) (pa_cons (pv 1) pa_nil)))
    (pss_cons (ps_for (passes_of rfl) rfl (pi_seq (pv 2)) (pg_name (i := 3) sc_kind.nd rfl (.inl rfl))
      (pss_one (ps_expr (pe_callS GA hr rfl gA kA bA (fun v => passAt (takes_of rfl rfl rfl rfl) v) (pa_cons (pv 1) (pa_cons (pe_ix (r := rIx K) ix_seq (pv 3) pe_int (fun _ _ => rfl)) pa_nil))))))
    (pss_cons (ps_fld (pv 0) (pe_callTy (r := rLstOf K) c_list rfl m_list (by decide +kernel) (pa_cons (pv 1) pa_nil)) rfl)
    (pss_one (ps_fld (pv 0) (pe_callTy (r := rLstOf K) c_list rfl m_list (by decide +kernel) (pa_cons (pv 2) pa_nil)) rfl)))), ?_⟩
  refine ⟨.ref a, rfl, a, xs, ms, rfl, hSa, hR, h10, fun nd H1 s1 => ?_, fun z hz => e0 z (wrongW_dup hz)⟩
  have wr := wrongW_no (dss := dss) nd
  refine .inl ⟨.ref b, rfl, b, rfl, ⟨ys, s1.seq hSb⟩, ?_⟩
  refine for_list (K := K) (a := b) (xs := ys) (fun i σ H2 => ∃ v, σ = [some (.ref x), some (.ref a), some (.ref b), v] ∧ Same H H2 ∧ (dss.take i).findSome? (atomsW ms) = none) ⟨none, rfl, s1, rfl⟩ ?_ ?_ ?_
  · rintro i σ H2 _ ⟨v, rfl, sm, _⟩
    exact sm.seq hSb
  · rintro i y σ H2 hy ⟨v, rfl, sm, h0⟩
    have hi : i < ys.length := (List.getElem?_eq_some_iff.mp hy).1
    have l0 := hT.1
    obtain ⟨ds, hd⟩ : ∃ ds, dss[i]? = some ds := ⟨_, List.getElem?_eq_getElem (by omega)⟩
    obtain ⟨q0, c, t, rfl, hq, hA, hn, hds⟩ := hT.2 i y ds hy hd
    obtain ⟨hit, nxt⟩ := findSome_at hd h0
    have tt := Same.tup sm
    refine ⟨.ref a, rfl, _, rfl, .inr (.inl ⟨q0, _, 1, t.root, rfl, rfl, SqT.of (sm _ _ hq), atI_nat (j := 1) rfl, a, xs, ms, t, ds, rfl, sm.seq hSa, hR.tup tt, h10, nd, t.at_tup tt hA, hn, hds.tup tt, ?_, ?_, ?_⟩)⟩
    · exact fun ok H3 s3 => ⟨_, rfl, sm.trans s3, nxt ok⟩
    · exact fun z hz d H3 s3 nd3 => e1 z (wr.trans (hit _ hz)) d H3 (sm.trans s3) (sm.free nd3)
    · exact fun z hz d H3 s3 nd3 => e2 z (wr.trans (hit _ hz)) d H3 (sm.trans s3) (sm.free nd3)
  · rintro σ H2 ⟨v, rfl, sm, h0⟩
    rw [hT.1, List.take_of_length_le (Nat.le_refl _)] at h0
    refine ⟨.ref a, rfl, a, xs, rfl, .inl (sm.seq hSa), fun p1 n1 => ⟨.ref x, rfl, x, CK, dx, [], rfl, same_new n1 _ _ (sm _ _ hx), T.cl, T.nR, (by decide), ?_⟩⟩
    have nx : H2 x = some (.ins CK dx []) := sm _ _ hx
    have n1' : H p1 = none := sm.free n1
    have x1 : x ≠ p1 := ne_of_none nx n1
    have hb1 : SqL K (upd H2 p1 (.lst xs)) b ys := (same_new n1).seq (sm.seq hSb)
    have hx1 : (upd H2 p1 (.lst xs)) x = some (.ins CK dx []) := same_new n1 _ _ nx
    refine ⟨.ref b, rfl, b, ys, rfl, .inl (seqL_ins hb1 hx1), fun p2 n2 => ?_⟩
    have x2 : x ≠ p2 := fun z => by
      rw [← z, upd_same] at n2
      cases n2
    have n2' : (upd H2 p1 (.lst xs)) p2 = none := by
      rw [upd_ne x2.symm] at n2
      exact n2
    have p12 : p1 ≠ p2 := fun z => by
      rw [← z, upd_same] at n2'
      cases n2'
    have n2'' : H2 p2 = none := by
      rw [upd_ne p12.symm] at n2'
      exact n2'
    refine ⟨.ref x, rfl, x, CK, dx, _, rfl, same_new n2 _ _ upd_same, T.cl, T.nS, (by show 1 < 1000; decide), ?_⟩
    refine q (wr.trans h0) p1 p2 _ (fun c u cx ec => ?_) n1' (sm.free n2'') p12 upd_same ?_ ?_
    · have e1 := sm _ _ ec
      rw [upd_ne cx, upd_ne (ne_of_none e1 n2''), upd_ne cx, upd_ne (ne_of_none e1 n1)]
      exact e1
    · rw [upd_ne x1.symm, upd_ne p12, upd_ne x1.symm, upd_same]
    · rw [upd_ne x2.symm, upd_same]
end
end Nz
namespace Nz
open PySem PySem.Spec PyProof.Rows L2
theorem Rels.snoc {H : Hp} {xs : List V} {ms : List (Str × Int)} {x : V} {m : Str × Int} (h : Rels H xs ms) (g : Rel4 H x m) : Rels H (xs ++ [x]) (ms ++ [m]) := by
  refine ⟨by simp [h.1], fun i y n hy hn => ?_⟩
  by_cases hi : i < xs.length
  · rw [List.getElem?_append_left hi] at hy
    rw [List.getElem?_append_left (h.1 ▸ hi)] at hn
    exact h.2 i y n hy hn
  · rw [List.getElem?_append_right (by omega)] at hy
    rw [List.getElem?_append_right (by have := h.1; omega), ← h.1] at hn
    cases hj : i - xs.length with
    | zero =>
      rw [hj] at hy hn
      cases hy
      cases hn
      exact g
    | succ j =>
      rw [hj] at hy
      simp at hy
theorem Rels.nil {H : Hp} : Rels H [] [] := ⟨rfl, fun i x m h => by simp at h⟩
section
variable {P : Program} {w : World} {K : PySem.W.Frag} {mg : Str → Option Value} {base : Heap}
/-! ### _law_relations -/
def spRel (K : PySem.W.Frag) : Sp := fun vs H Q _ => ∃ (c : Int) (a : Addr) (zs : List Str), vs = [.int c, .ref a] ∧ SqL K H a (zs.map V.str) ∧ zs.length = 7 ∧ (∀ z ∈ zs, z.length ≤ 200000) ∧
  ∀ (xs : List V) (ms : List (Str × Int)) (p : Addr) (H' : Hp), Rels H' xs ms → ms.length ≤ 6 → Same H H' → H p = none → H' p = some (.lst xs) → Q (.ref p) H'
set_option maxHeartbeats 1000000 in
theorem ok_relations {k : Nat} {f : Addr} {fd : FuncData} (F : Fun K "_law_relations" "_law_relations" s_relations f fd) {f_digits : Addr} {fd_digits : FuncData} (G_digits : FnOk P w K mg base CX0 (k) f_digits fd_digits ["cell", "many", "count"] (spDig K)) (b_digits : Binds K fd_digits ["cell", "many", "count"] []) (k_digits : PySem.W.keepIn K (.ref f_digits) = true) (g_digits : mg "_law_digits" = some (.ref f_digits)) (m_int : mg "int" = none) (m_range : mg "range" = none) : FnOk P w K mg base CX0 (k + 1) f fd ["cell", "names"] (spRel K) := by
  refine F.ok sc_relations (fun vs H Q E h => ?_) (fun cdv A outer s H vs Q E hr h => ?_)
  · obtain ⟨c, a, zs, rfl, _⟩ := h
    rfl
  have hr_digits := hr
  obtain ⟨c, a, zs, rfl, hS, h7, hz, q⟩ := h
  refine ⟨_, (pss_cons (ps_set (i := 2) sc_relations.nd rfl (.inl rfl) (pe_call G_digits hr_digits rfl g_digits k_digits b_digits .nil pass0 (pa_cons (pv 0) (pa_cons (pe_op op_pow pe_int pe_int) (pa_cons pe_int pa_nil)))))
    (pss_cons (ps_set (i := 3) sc_relations.nd rfl (.inl rfl) (pe_lst pa_nil))
    (pss_cons (ps_for PassesOwn.never rfl (pi_range1 rfl m_range (pa_cons (pe_op op_mod (pe_callTy (r := rIntOf) c_int rfl m_int (by decide +kernel) (pa_cons (pe_ix (r := rIx K) ix_seq (pv 2) pe_int (fun _ _ => rfl)) pa_nil)) pe_int) pa_nil)) (pg_name (i := 4) sc_relations.nd rfl (.inl rfl))
      (pss_cons (ps_set (i := 5) sc_relations.nd rfl (.inl rfl) (pe_callTy (r := rIntOf) c_int rfl m_int (by decide +kernel) (pa_cons (pe_ix (r := rIx K) ix_seq (pv 2) (pe_op op_add pe_int (pe_op op_mul pe_int (pv 4))) (fun _ _ => rfl)) pa_nil)))
    (pss_cons (ps_set (i := 6) sc_relations.nd rfl (.inl rfl) (pe_callTy (r := rIntOf) c_int rfl m_int (by decide +kernel) (pa_cons (pe_ix (r := rIx K) ix_seq (pv 2) (pe_op op_add pe_int (pe_op op_mul pe_int (pv 4))) (fun _ _ => rfl)) pa_nil)))
    (pss_cons (ps_set (i := 7) sc_relations.nd rfl (.inl rfl) (pe_ix (r := rIx K) ix_seq (pv 1) (pv 4) (fun _ _ => rfl)))
    (C8.pss_cut (ps_if (pt_cmpR op_eq (pe_op op_mod (pe_callTy (r := rIntOf) c_int rfl m_int (by decide +kernel) (pa_cons (pe_ix (r := rIx K) ix_seq (pv 2) pe_int (fun _ _ => rfl)) pa_nil)) pe_int) pe_int (nomark _)) (pss_one (ps_set (i := 7) sc_relations.nd rfl (.inl rfl) (pe_ix (r := rIx K) ix_seq (pv 1) (pe_op op_mod (pe_callTy (r := rIntOf) c_int rfl m_int (by decide +kernel) (pa_cons (pe_op op_fdivW (pv 5) pe_int) pa_nil)) pe_int) (fun _ _ => rfl)))) pss_nil)
    (pss_cons (ps_set (i := 8) sc_relations.nd rfl (.inl rfl) (pe_op op_add pe_int (pe_op op_mod (pe_callTy (r := rIntOf) c_int rfl m_int (by decide +kernel) (pa_cons (pe_op op_fdivW (pv 6) pe_int) pa_nil)) pe_int)))
    (C8.pss_cut (ps_if (pt_cmpR op_eq (pe_op op_mod (pe_callTy (r := rIntOf) c_int rfl m_int (by decide +kernel) (pa_cons (pv 6) pa_nil)) pe_int) pe_int (nomark _)) (pss_one (ps_set (i := 8) sc_relations.nd rfl (.inl rfl) (pe_op op_add pe_int (pe_op op_mod (pe_callTy (r := rIntOf) c_int rfl m_int (by decide +kernel) (pa_cons (pe_op op_fdivW (pv 6) pe_int) pa_nil)) (pe_op op_sub (pe_op op_pow pe_int pe_int) pe_int))))) pss_nil)
    (pss_one (ps_expr (pe_bm PySem.F.plainAttrs_list PySem.F.slot_list_append PySem.F.type_list_append mt_append (pv 3) (pa_cons (pe_tup (pa_cons (pv 7) (pa_cons (pe_op op_add pe_int (pe_op op_mod (pe_callTy (r := rIntOf) c_int rfl m_int (by decide +kernel) (pa_cons (pv 5) pa_nil)) pe_int)) (pa_cons (pv 8) (pa_cons (pe_cmpR op_eq (pe_op op_mod (pe_callTy (r := rIntOf) c_int rfl m_int (by decide +kernel) (pa_cons (pe_op op_fdivW (pv 5) pe_int) pa_nil)) pe_int) pe_int (nomark _)) pa_nil))))) pa_nil)))))))))))
    (pss_one (ps_ret (pv 3)))))), ?_⟩
  refine ⟨_, rfl, _, _, rfl, rfl, ⟨by decide, by decide, by decide⟩, c, _, 14, rfl, by decide, by decide, by decide, by decide, fun ds d hl hd nd => ?_⟩
  have s1 := same_new (o := .lst (ds.map V.int)) nd
  refine ⟨Nat.zero_le _, fun p np => ?_⟩
  have s2 := same_new (o := .lst ([] : List V)) np
  have l14 : ds.length = 14 := by omega
  have ndp : d ≠ p := ne_of_none upd_same np
  have np0 : H p = none := s1.free np
  refine ⟨_, rfl, int_at (SqL.of (s2 _ _ upd_same)) (by decide) (by omega) fun d0 _ => ?_⟩
  have e0 := Int.emod_nonneg d0 (show (7 : Int) ≠ 0 by decide)
  have e1 := Int.emod_lt_of_pos d0 (show (0 : Int) < 7 by decide)
  refine ⟨_, rfl, _, _, rfl, rfl, (by decide : (0 : Int) < 7), _, rfl, by omega, by omega, ?_⟩
  refine for_range (lo := 0) (n := (d0 % 7).toNat) (fun i σ H1 => ∃ (v4 v5 v6 v7 v8 : Option V) (xs : List V) (ms : List (Str × Int)), σ = [some (.int c), some (.ref a), some (.ref d), some (.ref p), v4, v5, v6, v7, v8] ∧ Same H H1 ∧ H1 d = some (.lst (ds.map V.int)) ∧
    H1 p = some (.lst xs) ∧ Rels H1 xs ms ∧ ms.length = i) ⟨none, none, none, none, none, [], [], rfl, s1.trans s2, s2 _ _ upd_same, upd_same, .nil, rfl⟩ ?_ ?_
  · rintro i σ H1 hi ⟨v4, v5, v6, v7, v8, xs, ms, rfl, sm, eD, eP, hR, lm⟩
    have i5 : i ≤ 5 := by omega
    refine ⟨_, rfl, _, rfl, _, _, rfl, rfl, .inl ⟨by decide, by decide⟩, _, _, rfl, rfl, int_at (SqL.of eD) (by omega) (by omega) fun sh hsh => ⟨sh, rfl, ?_⟩⟩
    refine ⟨_, rfl, _, rfl, _, _, rfl, rfl, .inl ⟨by decide, by decide⟩, _, _, rfl, rfl, int_at (SqL.of eD) (by omega) (by omega) fun mn hmn => ⟨mn, rfl, ?_⟩⟩
    refine ⟨_, rfl, _, rfl, str_at (sm.seq hS) (by omega) (by omega) fun z0 hz0 => ?_⟩
    refine ⟨fun σ' H' => ∃ (z : Str) (w8 : Option V), σ' = [some (.int c), some (.ref a), some (.ref d), some (.ref p), some (.int (0 + (i : Nat))), some (.int sh), some (.int mn), some (.str z), w8] ∧ H' = H1 ∧ z.length ≤ 200000, ?_, ?_⟩
    · refine ⟨_, rfl, int_at (SqL.of eD) (by decide) (by omega) fun d1 _ => ⟨d1, rfl, _, _, rfl, rfl, (by decide : (0 : Int) < 4), rfl, _, rfl, ite2 (fun _ => ?_) (fun _ => ?_)⟩⟩
      · have b0 := Int.emod_nonneg (sh / 6) (show (6 : Int) ≠ 0 by decide)
        have b1 := Int.emod_lt_of_pos (sh / 6) (show (0 : Int) < 6 by decide)
        refine ⟨_, rfl, _, rfl, _, _, rfl, rfl, divW (by decide) (by decide), _, rfl, _, _, rfl, rfl, (by decide : (0 : Int) < 6), ?_⟩
        exact str_at (sm.seq hS) b0 (by omega) fun z1 hz1 => ⟨z1, _, rfl, rfl, hz z1 hz1⟩
      · exact ⟨z0, _, rfl, rfl, hz z0 hz0⟩
    rintro σ2 H2 ⟨z, w8, rfl, rfl, lz⟩
    have v0 := Int.emod_nonneg (mn / 3) (show (4 : Int) ≠ 0 by decide)
    have v1 := Int.emod_nonneg (mn / 3) (show (10 : Int) ^ (9 : Int).toNat - 1 ≠ 0 by decide)
    refine ⟨_, rfl, _, _, rfl, rfl, divW (by decide) (by decide), _, rfl, _, _, rfl, rfl, (by decide : (0 : Int) < 4), _, _, rfl, rfl, ?_⟩
    refine ⟨fun σ' H' => ∃ va : Int, σ' = [some (.int c), some (.ref a), some (.ref d), some (.ref p), some (.int (0 + (i : Nat))), some (.int sh), some (.int mn), some (.str z), some (.int va)] ∧ H' = H2 ∧ 1 ≤ va, ?_, ?_⟩
    · refine ⟨_, rfl, _, rfl, _, _, rfl, rfl, (by decide : (0 : Int) < 3), rfl, _, rfl, ite2 (fun _ => ?_) (fun _ => ?_)⟩
      · refine ⟨_, rfl, _, _, rfl, rfl, divW (by decide) (by decide), _, rfl, _, _, rfl, rfl, ⟨by decide, by decide, by decide⟩, _, _, rfl, rfl, _, _, rfl, rfl, (by decide : (0 : Int) < 10 ^ (9 : Int).toNat - 1), _, _, rfl, rfl, ?_⟩
        exact ⟨_, rfl, rfl, by omega⟩
      · exact ⟨_, rfl, rfl, by omega⟩
    rintro σ3 H3 ⟨va, rfl, rfl, lva⟩
    have a0 := Int.emod_nonneg sh (show (3 : Int) ≠ 0 by decide)
    have a1 := Int.emod_lt_of_pos sh (show (0 : Int) < 3 by decide)
    refine ⟨_, rfl, .inl ⟨rfl, _, .inl (.inl eP)⟩, _, rfl, _, rfl, _, rfl, _, _, rfl, rfl, (by decide : (0 : Int) < 3), _, _, rfl, rfl, _, rfl, _, rfl, _, _, rfl, rfl, divW (by decide) (by decide), _, rfl, _, _, rfl, rfl, (by decide : (0 : Int) < 2), rfl,
      (by show 4 ≤ sizeLine; decide), fun t nt => ?_⟩
    have s3 := same_new (o := .tup [V.str z, .int (1 + sh % 3), .int va, .bl (decide (V.int (sh / 3 % 2) = V.int 1))]) nt
    have eP3 := s3 _ _ eP
    have tt : TupSame H3 _ := (Same.tup s3).trans (tup_upd (u := .lst (xs ++ [.ref t])) eP3)
    refine ⟨p, _, _, rfl, rfl, eP3, line6 (by have := hR.1; omega), _, _, _, _, _, xs ++ [.ref t], ms ++ [(z, 1 + sh % 3)], rfl, fun b u e => ?_, ?_, upd_same, (hR.tup tt).snoc ⟨t, va, _, rfl, tup_upd eP3 _ _ upd_same, by show 1 ≤ 1 + sh % 3; omega, by show 1 + sh % 3 ≤ 3; omega, lva, by show z.length ≤ 300000; omega⟩, by simp [lm]⟩
    · rw [upd_ne (ne_of_none e np0)]
      exact s3 _ _ (sm b u e)
    · rw [upd_ne ndp]
      exact s3 _ _ eD
  · rintro σ H1 ⟨v4, v5, v6, v7, v8, xs, ms, rfl, sm, eD, eP, hR, lm⟩
    exact ⟨_, rfl, q xs ms p H1 hR (by omega) sm np0 eP⟩
end
end Nz
namespace Nz
open PySem PySem.Spec PyProof.Rows L2
theorem Rel4.at {H : Hp} {x : V} {m : Str × Int} (h : Rel4 H x m) : RelAt H x m.2 :=
  let ⟨q, va, b, h1, h2, h3, h4, h5, h6⟩ := h
  ⟨q, m.1, va, [.bl b], h1, h2, h3, h4, h5, h6⟩
theorem Rels.all {H : Hp} {xs : List V} {ms : List (Str × Int)} (h : Rels H xs ms) : ∀ x ∈ xs, ∃ ar, RelAt H x ar := by
  intro x hx
  obtain ⟨i, hi, e⟩ := List.getElem_of_mem hx
  have hi2 : i < ms.length := h.1 ▸ hi
  exact ⟨_, (h.2 i x _ (by rw [List.getElem?_eq_getElem hi, e]) (List.getElem?_eq_getElem hi2)).at⟩
section
variable {P : Program} {w : World} {K : PySem.W.Frag} {mg : Str → Option Value} {base : Heap}
/-! ### _law_some -/
def spSome (K : PySem.W.Frag) : Sp := fun vs H Q _ => ∃ (a : Addr) (st : Str) (c : Int) (xs : List V) (ms : List (Str × Int)), vs = [.ref a, .str st, .int c] ∧ H a = some (.lst xs) ∧ Rels H xs ms ∧ ms.length ≤ 6 ∧ st.length ≤ 200000 ∧
  ∀ (ys : List V) (p : Addr) (H' : Hp), ys.length ≤ 100 → (∀ y ∈ ys, ∃ ar, RelAt H' y ar) → Same H H' → H p = none → H' p = some (.lst ys) → Q (.ref p) H'
set_option maxHeartbeats 1000000 in
theorem ok_some {k : Nat} {f : Addr} {fd : FuncData} (F : Fun K "_law_some" "_law_some" s_some f fd) (m_int : mg "int" = none) (m_len : mg "len" = none) (m_list : mg "list" = none) : FnOk P w K mg base CX0 (k + 1) f fd ["relations", "stranger", "cell"] (spSome K) := by
  refine F.ok sc_some (fun vs H Q E h => ?_) (fun cdv A outer s H vs Q E hr h => ?_)
  · obtain ⟨a, st, c, xs, ms, rfl, _⟩ := h
    rfl
  obtain ⟨a, st, c, xs, ms, rfl, hA, hR, h6, hst, q⟩ := h
  refine ⟨_, (pss_cons (ps_set (i := 3) sc_some.nd rfl (.inl rfl) (pe_callTy (r := rLstOf K) c_list rfl m_list (by decide +kernel) (pa_cons (pv 0) pa_nil)))
    (C8.pss_cut (ps_if (pt_cmpR op_eq (pe_op op_mod (pe_callTy (r := rIntOf) c_int rfl m_int (by decide +kernel) (pa_cons (pv 2) pa_nil)) pe_int) pe_int (nomark _)) (pss_one (ps_set (i := 3) sc_some.nd rfl (.inl rfl) (pe_op (r := rAd K) ad_any (pe_op op_rep (pv 0) pe_int) (pe_lst (pa_cons (pe_tup (pa_cons (pv 1) (pa_cons (pe_op op_add pe_int (pe_op op_mod (pe_callTy (r := rIntOf) c_int rfl m_int (by decide +kernel) (pa_cons (pe_op op_fdivW (pv 2) pe_int) pa_nil)) pe_int)) (pa_cons pe_int (pa_cons pe_bl pa_nil))))) pa_nil))))) pss_nil)
    (C8.pss_cut (ps_if (PW.pt (pw_and (pt_cmpR op_eq (pe_op op_mod (pe_callTy (r := rIntOf) c_int rfl m_int (by decide +kernel) (pa_cons (pe_op op_fdivW (pv 2) pe_int) pa_nil)) pe_int) pe_int (nomark _)) (pw_and1 (pt_cmpR op_gt (pe_callB (r := rLn K) c_len rfl m_len (by decide +kernel) (pa_cons (pv 0) pa_nil)) pe_int (nomark _))))) (pss_cons (ps_set (i := 4) sc_some.nd rfl (.inl rfl) (pe_ix (r := rIx K) ix_seq (pv 0) (pe_op op_mod (pe_callTy (r := rIntOf) c_int rfl m_int (by decide +kernel) (pa_cons (pe_op op_fdivW (pv 2) pe_int) pa_nil)) (pe_callB (r := rLn K) c_len rfl m_len (by decide +kernel) (pa_cons (pv 0) pa_nil))) (fun _ _ => rfl)))
    (pss_one (ps_expr (pe_bm PySem.F.plainAttrs_list PySem.F.slot_list_append PySem.F.type_list_append mt_append (pv 3) (pa_cons (pe_tup (pa_cons (pe_ix (r := rIx K) ix_seq (pv 4) pe_int (fun _ _ => rfl)) (pa_cons (pe_op op_add pe_int (pe_op op_mod (pe_callTy (r := rIntOf) c_int rfl m_int (by decide +kernel) (pa_cons (pe_op op_add (pe_ix (r := rIx K) ix_seq (pv 4) pe_int (fun _ _ => rfl)) (pe_op op_fdivW (pv 2) pe_int)) pa_nil)) pe_int)) (pa_cons (pe_ix (r := rIx K) ix_seq (pv 4) pe_int (fun _ _ => rfl)) (pa_cons (pe_ix (r := rIx K) ix_seq (pv 4) pe_int (fun _ _ => rfl)) pa_nil))))) pa_nil))))) pss_nil)
    (pss_one (ps_ret (pv 3)))))), ?_⟩
  refine ⟨_, rfl, a, xs, rfl, .inl (SqL.of hA), fun p np => ?_⟩
  have s1 := same_new (o := .lst xs) np
  have lx := hR.1
  refine ⟨fun σ' H' => ∃ (p' : Addr) (ys : List V), σ' = [some (.ref a), some (.str st), some (.int c), some (.ref p'), none] ∧ Same H H' ∧ H p' = none ∧ H' p' = some (.lst ys) ∧ ys.length ≤ 99 ∧ ∀ y ∈ ys, ∃ ar, RelAt H' y ar, ?_, ?_⟩
  · refine ⟨_, rfl, _, rfl, _, _, rfl, rfl, (by decide : (0 : Int) < 2), rfl, _, rfl, ite2 (fun _ => ?_) (fun _ => ?_)⟩
    · have e0 := Int.emod_nonneg (c / 2) (show (3 : Int) ≠ 0 by decide)
      have e1 := Int.emod_lt_of_pos (c / 2) (show (0 : Int) < 3 by decide)
      refine ⟨_, rfl, a, 4, xs, rfl, rfl, s1 _ _ hA, by decide, by decide, by show xs.length * 4 ≤ sizeLine; exact Nat.le_of_lt (line6 (by omega)), fun p1 n1 => ?_⟩
      have s2 := s1.trans (same_new (o := .lst (List.replicate (4 : Int).toNat xs).flatten) n1)
      refine ⟨_, rfl, _, rfl, _, _, rfl, rfl, divW (by decide) (by decide), _, rfl, _, _, rfl, rfl, (by decide : (0 : Int) < 3), _, _, rfl, rfl, (by show 4 ≤ sizeLine; decide), fun t nt => ?_⟩
      have s3 := same_new (o := .tup [V.str st, .int (1 + c / 2 % 3), .int 3, .bl false]) nt
      refine ⟨(by show 1 ≤ sizeLine; decide), fun l nl => ?_⟩
      have s4 := same_new (o := .lst [V.ref t]) nl
      have fl : (List.replicate (4 : Int).toNat xs).flatten.length = 4 * xs.length := by
        rw [List.length_flatten, List.map_replicate, List.sum_replicate_nat]
        rfl
      refine .inr (.inr (.inl ⟨p1, l, _, [.ref t], rfl, rfl, s4 _ _ (s3 _ _ upd_same), upd_same, by rw [fl]; exact Nat.le_of_lt (line6 (by show 4 * xs.length + 1 ≤ 1000000; omega)), fun p2 n2 => ?_⟩))
      have s5 := same_new (o := .lst ((List.replicate (4 : Int).toNat xs).flatten ++ [V.ref t])) n2
      have s25 := s3.trans (s4.trans s5)
      have sm := s2.trans s25
      refine ⟨p2, _, rfl, sm, (s2.trans (s3.trans s4)).free n2, upd_same, by rw [List.length_append, fl]; show 4 * xs.length + 1 ≤ 99; omega, fun y hy => ?_⟩
      rcases List.mem_append.mp hy with hy | hy
      · obtain ⟨l2, hl2, hy2⟩ := List.mem_flatten.mp hy
        rw [(List.mem_replicate.mp hl2).2] at hy2
        obtain ⟨ar, h⟩ := hR.all y hy2
        exact ⟨ar, h.tup (Same.tup sm)⟩
      · rw [List.mem_singleton.mp hy]
        exact ⟨1 + c / 2 % 3, t, st, 3, [.bl false], rfl, s5 _ _ (s4 _ _ upd_same), by omega, by omega, by decide, by omega⟩
    · exact ⟨p, xs, rfl, s1, np, upd_same, by omega, (hR.tup (Same.tup s1)).all⟩
  rintro σ2 H2 ⟨p', ys, rfl, sm, np', eP, ly, hy⟩
  have sA := sm _ _ hA
  refine ⟨fun σ' H' => ∃ (p' : Addr) (ys : List V) (v4 : Option V), σ' = [some (.ref a), some (.str st), some (.int c), some (.ref p'), v4] ∧ Same H H' ∧ H p' = none ∧ H' p' = some (.lst ys) ∧ ys.length ≤ 100 ∧ ∀ y ∈ ys, ∃ ar, RelAt H' y ar, ?_, ?_⟩
  · have stay : ∃ (p'' : Addr) (zs : List V) (v4 : Option V), [some (V.ref a), some (.str st), some (.int c), some (.ref p'), none] = [some (.ref a), some (.str st), some (.int c), some (.ref p''), v4] ∧ Same H H2 ∧ H p'' = none ∧ H2 p'' = some (.lst zs) ∧ zs.length ≤ 100 ∧ ∀ y ∈ zs, ∃ ar, RelAt H2 y ar :=
      ⟨p', ys, none, rfl, sm, np', eP, by omega, hy⟩
    refine ⟨_, rfl, _, _, rfl, rfl, divW (by decide) (by decide), _, rfl, _, _, rfl, rfl, (by decide : (0 : Int) < 4), rfl, _, rfl, ite2 (fun _ => ?_) (fun _ => ?_)⟩
    · refine ⟨_, rfl, .inl ⟨a, _, rfl, .inl (SqL.of sA), _, _, rfl, rfl, _, rfl, ite2 (fun pos => ?_) (fun _ => stay)⟩⟩
      have p0 : 0 < xs.length := by
        have := of_decide_eq_true pos
        omega
      have e0 := Int.emod_nonneg (c / 24) (show ((xs.length : Nat) : Int) ≠ 0 by omega)
      have e1 := Int.emod_lt_of_pos (c / 24) (show (0 : Int) < ((xs.length : Nat) : Int) by omega)
      have hi : (c / 24 % ((xs.length : Nat) : Int)).toNat < xs.length := by omega
      obtain ⟨x, hx⟩ : ∃ x, xs[(c / 24 % ((xs.length : Nat) : Int)).toNat]? = some x := ⟨_, List.getElem?_eq_getElem hi⟩
      have hi2 : (c / 24 % ((xs.length : Nat) : Int)).toNat < ms.length := hR.1 ▸ hi
      obtain ⟨q0, va, b, rfl, hq, m1, m3, hva, hl⟩ := hR.2 _ x _ hx (List.getElem?_eq_getElem hi2)
      generalize ms[(c / 24 % ((xs.length : Nat) : Int)).toNat] = m at hq m1 m3 hl
      have hq2 := sm _ _ hq
      have ax := atI_nat hx
      have en : (((c / 24 % ((xs.length : Nat) : Int)).toNat : Nat) : Int) = c / 24 % ((xs.length : Nat) : Int) := by omega
      rw [en] at ax
      refine ⟨_, rfl, _, rfl, _, _, rfl, rfl, divW (by decide) (by decide), _, rfl, _, rfl, .inl ⟨a, _, rfl, .inl (SqL.of sA), _, _, rfl, rfl, (by omega : (0 : Int) < ((xs.length : Nat) : Int)), .inl ⟨a, _, _, .ref q0, rfl, rfl, SqL.of sA, ax, ?_⟩⟩⟩
      have item : ∀ {Q : VK} {G : Hp} (j : Nat) (v : V), G q0 = some (.tup [.str m.1, .int m.2, .int va, .bl b]) → [V.str m.1, .int m.2, .int va, .bl b][j]? = some v → Q v G → rIx K (.ref q0) (.int (j : Nat)) G Q :=
        fun {Q G} j v hg hv h => .inr (.inl ⟨q0, _, _, v, rfl, rfl, SqT.of hg, atI_nat hv, h⟩)
      refine ⟨_, rfl, .inl ⟨rfl, _, .inl (.inl eP)⟩, _, rfl, item 0 _ hq2 rfl ?_⟩
      refine ⟨_, rfl, item 1 _ hq2 rfl ⟨_, rfl, _, _, rfl, rfl, divW (by decide) (by decide), _, _, rfl, rfl, _, rfl, _, _, rfl, rfl, (by decide : (0 : Int) < 3), _, _, rfl, rfl, ?_⟩⟩
      refine ⟨_, rfl, item 2 _ hq2 rfl ⟨_, rfl, item 3 _ hq2 rfl ⟨(by show 4 ≤ sizeLine; decide), fun t nt => ?_⟩⟩⟩
      have s3 := same_new (o := .tup [V.str m.1, .int (1 + (m.2 + c / 144) % 3), .int va, .bl b]) nt
      have eP3 := s3 _ _ eP
      have a0 := Int.emod_nonneg (m.2 + c / 144) (show (3 : Int) ≠ 0 by decide)
      have a1 := Int.emod_lt_of_pos (m.2 + c / 144) (show (0 : Int) < 3 by decide)
      have tt : TupSame H2 _ := (Same.tup s3).trans (tup_upd (u := .lst (ys ++ [.ref t])) eP3)
      refine ⟨p', _, _, rfl, rfl, eP3, line6 (by omega), p', ys ++ [.ref t], _, rfl, fun d u e => ?_, np', upd_same, by simp; omega, fun y hm => ?_⟩
      · rw [upd_ne (ne_of_none e np')]
        exact s3 _ _ (sm d u e)
      · rcases List.mem_append.mp hm with h | h
        · obtain ⟨ar, h⟩ := hy y h
          exact ⟨ar, h.tup tt⟩
        · rw [List.mem_singleton.mp h]
          exact ⟨_, t, m.1, va, [.bl b], rfl, tup_upd eP3 _ _ upd_same, by omega, by omega, hva, hl⟩
    · exact stay
  rintro σ3 H3 ⟨p', ys, v4, rfl, sm, np', eP, ly, hy⟩
  exact ⟨_, rfl, q ys p' H3 ly hy sm np' eP⟩
end
end Nz
namespace Nz
open PySem PySem.Spec PyProof.Rows L2
def tellW : Option (Nat × Str) → List V
  | none => [.str "none", .str ""]
  | some (0, z) => [.str "duplicate", .str z]
  | some (1, z) => [.str "unknown", .str z]
  | some (_, z) => [.str "arity", .str z]
theorem inV_str (z : Str) (zs : List Str) : inV (.str z) (zs.map V.str) = decide (z ∈ zs) := by
  unfold inV
  rw [List.any_map]
  induction zs with
  | nil => simp
  | cons y r ih =>
    rw [List.any_cons, ih]
    simp only [Function.comp, eqV, List.mem_cons, Bool.decide_or]
    congr 1
    by_cases h : y = z
    · simp [h]
    · rw [decide_eq_false (fun e => h e.symm)]
      simpa using h
theorem cutV_take (xs : List V) (k : Nat) : cutV xs none (some (k : Int)) = xs.take k := by
  unfold cutV
  rw [HT.sIx_none, HT.sIx_nat, List.drop_zero, Nat.sub_zero]
  rcases Nat.le_total k xs.length with h | h
  · rw [Nat.min_eq_left h]
  · rw [Nat.min_eq_right h, List.take_of_length_le h, List.take_of_length_le (Nat.le_refl _)]
theorem find_idx {ms : List (Str × Int)} {z : Str} {m : Str × Int} (h : ms.find? (fun m => decide (m.1 = z)) = some m) : ∃ j, ms[j]? = some m ∧ m.1 = z ∧ ∀ (i : Nat) (m' : Str × Int), i < j → ms[i]? = some m' → m'.1 ≠ z := by
  obtain ⟨h1, j, hj, e, h2⟩ := List.find?_eq_some_iff_getElem.mp h
  refine ⟨j, by rw [List.getElem?_eq_getElem hj, e], of_decide_eq_true h1, fun i m' hi hm c => ?_⟩
  have := h2 i hi
  obtain ⟨hi2, e2⟩ := List.getElem?_eq_some_iff.mp hm
  rw [e2] at this
  simp [c] at this
section
variable {P : Program} {w : World} {K : PySem.W.Frag} {mg : Str → Option Value} {base : Heap}
/-! ### _law_kind_wrong -/
def spKW (K : PySem.W.Frag) : Sp := fun vs H Q _ => ∃ (a b : Addr) (xs ys : List V) (ms : List (Str × Int)) (dss : List (List (Str × Nat))), vs = [.ref a, .ref b] ∧ SqL K H a xs ∧ SqL K H b ys ∧ Rels H xs ms ∧ Sents H ys dss ∧ ms.length ≤ 10 ∧
  ∀ p H', Same H H' → H p = none → H' p = some (.tup (tellW (wrongW ms dss))) → Q (.ref p) H'
set_option maxHeartbeats 1000000 in
theorem ok_kw {k : Nat} {f : Addr} {fd : FuncData} (F : Fun K "_law_kind_wrong" "_law_kind_wrong" s_kind_wrong f fd) {f_atoms : Addr} {fd_atoms : FuncData} (G_atoms : FnOk P w K mg base CX0 (k) f_atoms fd_atoms ["formula"] (spLa K)) (b_atoms : Binds K fd_atoms ["formula"] []) (k_atoms : PySem.W.keepIn K (.ref f_atoms) = true) (g_atoms : mg "_law_atoms" = some (.ref f_atoms)) (m_len : mg "len" = none) (m_range : mg "range" = none) : FnOk P w K mg base CX0 (k + 1) f fd ["relations", "sentences"] (spKW K) := by
  refine F.ok sc_kind_wrong (fun vs H Q E h => ?_) (fun cdv A outer s H vs Q E hr h => ?_)
  · obtain ⟨a, b, xs, ys, ms, dss, rfl, _⟩ := h
    rfl
  have hr_atoms := hr
  obtain ⟨a, b, xs, ys, ms, dss, rfl, hSa, hSb, hR, hT, h10, q⟩ := h
  refine ⟨_, (pss_cons (ps_setLc (i := 2) (own := [("relation", 6)]) (g := gName 6) (by rfl) sc_kind_wrong.nd rfl rfl (sw_true rfl rfl rfl (by decide +kernel)) (pi_seq (pv 0)) (blkOk_by (own := [("relation", 6)]) (N := ["relations", "sentences", "known", "k", "sentence", "atom", "relation"]) (sc := defScope s_kind_wrong) (by decide +kernel)) (fun _ _ _ _ _ => (pg_name (i := 6) sc_kind_wrong.nd rfl (.inl rfl))) (fun _ _ _ _ _ => pts_nil) (fun _ _ _ _ _ => (pe_ix (r := rIx K) ix_seq (pv 6) pe_int (fun _ _ => rfl))))
    (pss_cons (ps_for PassesOwn.never rfl (pi_range1 rfl m_range (pa_cons (pe_callB (r := rLn K) c_len rfl m_len (by decide +kernel) (pa_cons (pv 2) pa_nil)) pa_nil)) (pg_name (i := 3) sc_kind_wrong.nd rfl (.inl rfl))
      (pss_one (ps_if (pt_cmpR (r := rIn K false) op_in_seq (pe_ix (r := rIx K) ix_seq (pv 2) (pv 3) (fun _ _ => rfl)) (pe_slice (r := rSl K) sl_any (pv 2) po_none (po_some (pv 3))) rfl) (pss_one (ps_ret (pe_tup (pa_cons pe_str (pa_cons (pe_ix (r := rIx K) ix_seq (pv 2) (pv 3) (fun _ _ => rfl)) pa_nil))))) pss_nil)))
    (pss_cons (ps_for PassesOwn.never rfl (pi_seq (pv 1)) (pg_name (i := 4) sc_kind_wrong.nd rfl (.inl rfl))
      (pss_one (ps_for PassesOwn.never rfl (pi_seq (pe_call G_atoms hr_atoms rfl g_atoms k_atoms b_atoms .nil pass0 (pa_cons (pe_ix (r := rIx K) ix_seq (pv 4) pe_int (fun _ _ => rfl)) pa_nil))) (pg_name (i := 5) sc_kind_wrong.nd rfl (.inl rfl))
      (pss_cons (ps_if (pt_cmpR (r := rIn K true) op_notIn_seq (pe_ix (r := rIx K) ix_seq (pv 5) pe_int (fun _ _ => rfl)) (pv 2) rfl) (pss_one (ps_ret (pe_tup (pa_cons pe_str (pa_cons (pe_ix (r := rIx K) ix_seq (pv 5) pe_int (fun _ _ => rfl)) pa_nil))))) pss_nil)
    (pss_one (ps_if (pt_cmpR op_ne (pe_ix (r := rIx K) ix_seq (pe_ix (r := rIx K) ix_seq (pv 0) (pe_bm PySem.F.plainAttrs_list PySem.F.slot_list_index PySem.F.type_list_index mt_index (pv 2) (pa_cons (pe_ix (r := rIx K) ix_seq (pv 5) pe_int (fun _ _ => rfl)) pa_nil)) (fun _ _ => rfl)) pe_int (fun _ _ => rfl)) (pe_callB (r := rLn K) c_len rfl m_len (by decide +kernel) (pa_cons (pe_ix (r := rIx K) ix_seq (pv 5) pe_int (fun _ _ => rfl)) pa_nil)) (nomark _)) (pss_one (ps_ret (pe_tup (pa_cons pe_str (pa_cons (pe_ix (r := rIx K) ix_seq (pv 5) pe_int (fun _ _ => rfl)) pa_nil))))) pss_nil))))))
    (pss_one (ps_ret (pe_tup (pa_cons pe_str (pa_cons pe_str pa_nil)))))))), ?_⟩
  have lx := hR.1
  refine .inl ⟨.ref a, rfl, a, rfl, ⟨xs, hSa⟩, fun D nD => ?_⟩
  refine lc_list (K := K) (a := a) (xs := xs) (fun i H1 => Same H H1 ∧ H1 D = some (.lst (((ms.map (·.1)).take i).map V.str))) ⟨same_new nD, upd_same⟩ ?_ ?_ ?_
  · rintro i H1 _ ⟨sm, _⟩
    exact sm.seq hSa
  · rintro i x H1 hx ⟨sm, eD⟩
    have hi : i < xs.length := (List.getElem?_eq_some_iff.mp hx).1
    obtain ⟨m, hm⟩ : ∃ m, ms[i]? = some m := ⟨_, List.getElem?_eq_getElem (by omega)⟩
    obtain ⟨q0, va, b, rfl, hq, _⟩ := hR.2 i x m hx hm
    refine ⟨rfl, _, rfl, .inr (.inl ⟨q0, _, 0, .str m.1, rfl, rfl, SqT.of (sm _ _ hq), atI_nat (j := 0) rfl, _, eD, ?_, fun c u ec => ?_, ?_⟩)⟩
    · rw [List.length_map, List.length_take, List.length_map]
      exact small1000 (by omega)
    · rw [upd_ne (ne_of_none ec nD)]
      exact sm c u ec
    · rw [upd_same, List.take_add_one, List.getElem?_map, hm, List.map_append]
      rfl
  rintro H1 ⟨sm1, eD⟩
  rw [lx, ← List.length_map (as := ms) (f := fun m : Str × Int => m.1), List.take_of_length_le (Nat.le_refl _)] at eD
  generalize hns : ms.map (·.1) = ns at eD
  have ln : ns.length ≤ 10 := by rw [← hns, List.length_map]; omega
  have fl := all_flat ns
  refine ⟨_, rfl, .inl ⟨D, _, rfl, .inl (SqL.of eD), _, rfl, by rw [List.length_map]; omega, by rw [List.length_map]; omega, ?_⟩⟩
  refine for_range (lo := 0) (n := (((ns.map V.str).length : Nat) : Int).toNat) (fun i σ H2 => ∃ v, σ = [some (.ref a), some (.ref b), some (.ref D), v, none, none, none] ∧ Same H1 H2 ∧ dupF [] ns = dupF (ns.take i) (ns.drop i)) ⟨none, rfl, Same.refl _, rfl⟩ ?_ ?_
  · rintro i σ H2 hi ⟨v, rfl, sm, hd⟩
    rw [List.length_map] at hi
    have hi' : i < ns.length := by omega
    obtain ⟨z, hz⟩ : ∃ z, ns[i]? = some z := ⟨_, List.getElem?_eq_getElem hi'⟩
    have ax := atI_nat (show (ns.map V.str)[i]? = some (.str z) by rw [List.getElem?_map, hz]; rfl)
    rw [Int.zero_add]
    have eD2 := sm _ _ eD
    rw [dupF_at hz] at hd
    refine ⟨_, rfl, _, rfl, .inl ⟨D, _, _, .str z, rfl, rfl, SqL.of eD2, ax, _, rfl, _, rfl, _, rfl, .inl ⟨D, _, rfl, SqL.of eD2, fun r nr => ?_⟩⟩⟩
    rw [cutV_take, ← List.map_take]
    have s2 := same_new (o := .lst ((ns.take i).map V.str)) nr
    refine ⟨r, _, rfl, .inl (SqL.of upd_same), rfl, all_flat _, _, rfl, ite2 (fun c => ?_) (fun c => ?_)⟩
    · have c1 : inV (.str z) ((ns.take i).map V.str) = true := c
      rw [inV_str, decide_eq_true_iff] at c1
      rw [if_pos c1] at hd
      refine ⟨_, rfl, _, rfl, .inl ⟨D, _, _, .str z, rfl, rfl, SqL.of (s2 _ _ eD2), ax, (by show 2 ≤ sizeLine; decide), fun t nt => q t _ ?_ ?_ ?_⟩⟩
      · exact sm1.trans (sm.trans (s2.trans (same_new nt)))
      · exact (sm1.trans (sm.trans s2)).free nt
      · rw [wrongW_dup (by rw [hns]; exact hd), upd_same]
        rfl
    · have c1 : ¬ z ∈ ns.take i := fun h => c (by
        show inV (.str z) ((ns.take i).map V.str) = true
        rw [inV_str]
        exact decide_eq_true h)
      rw [if_neg c1] at hd
      exact ⟨_, rfl, sm.trans s2, hd⟩
  · rintro σ H2 ⟨v, rfl, sm, hd⟩
    rw [List.length_map, Int.toNat_natCast, dupF_end (Nat.le_refl _)] at hd
    have wr := wrongW_no (dss := dss) (by rw [hns]; exact hd)
    have sm2 := sm1.trans sm
    have eD2 := sm _ _ eD
    refine .inl ⟨.ref b, rfl, b, rfl, ⟨ys, sm2.seq hSb⟩, ?_⟩
    refine for_list (K := K) (a := b) (xs := ys) (fun i σ H3 => ∃ v4 v5 : Option V, σ = [some (.ref a), some (.ref b), some (.ref D), v, v4, v5, none] ∧ Same H2 H3 ∧ (dss.take i).findSome? (atomsW ms) = none) ⟨none, none, rfl, Same.refl _, rfl⟩ ?_ ?_ ?_
    · rintro i σ H3 _ ⟨v4, v5, rfl, s3, _⟩
      exact (sm2.trans s3).seq hSb
    · rintro i y σ H3 hy ⟨v4, v5, rfl, s3, h0⟩
      have hi : i < ys.length := (List.getElem?_eq_some_iff.mp hy).1
      have l0 := hT.1
      obtain ⟨ds, hd⟩ : ∃ ds, dss[i]? = some ds := ⟨_, List.getElem?_eq_getElem (by omega)⟩
      obtain ⟨q0, c, t, rfl, hq, hA, hn, hds⟩ := hT.2 i y ds hy hd
      obtain ⟨hit, nxt⟩ := findSome_at hd h0
      have sm3 := sm2.trans s3
      refine .inl ⟨_, rfl, .inr (.inl ⟨q0, _, 1, t.root, rfl, rfl, SqT.of (sm3 _ _ hq), atI_nat (j := 1) rfl, t, rfl, t.at_same sm3 hA, by omega, fun p H4 s4 np4 e4 => ⟨p, rfl, ⟨_, SqL.of e4⟩, ?_⟩⟩)⟩
      have sm4 := sm3.trans s4
      have eD4 := s4 _ _ (s3 _ _ eD2)
      refine for_list (K := K) (a := p) (xs := t.atoms) (fun j σ H5 => ∃ v5 : Option V, σ = [some (.ref a), some (.ref b), some (.ref D), v, some (.ref q0), v5, none] ∧ H5 = H4 ∧ (ds.take j).findSome? (atomW ms) = none) ⟨v5, rfl, rfl, rfl⟩ ?_ ?_ ?_
      · rintro j σ H5 _ ⟨v5, rfl, rfl, _⟩
        exact SqL.of e4
      · rintro j x σ H5 hx ⟨v5, rfl, rfl, g0⟩
        have hj : j < t.atoms.length := (List.getElem?_eq_some_iff.mp hx).1
        have l1 := hds.1
        obtain ⟨d, hd2⟩ : ∃ d, ds[j]? = some d := ⟨_, List.getElem?_eq_getElem (by omega)⟩
        obtain ⟨qa, p0, va, vs, rfl, ha, hp, hl, _, _⟩ := hds.2 j x d hx hd2
        obtain ⟨hit2, nxt2⟩ := findSome_at hd2 g0
        have ha4 := sm4 _ _ ha
        have hp4 := sm4 _ _ hp
        have out : ∀ (wd : Str) (jj : Nat), atomW ms d = some (jj, d.1) → tellW (some (jj, d.1)) = [.str wd, .str d.1] → ∀ tt, H5 tt = none → Q (.ref tt) (upd H5 tt (.tup [.str wd, .str d.1])) := fun wd jj aw tw tt nt =>
          q tt _ (sm4.trans (same_new nt)) (sm4.free nt) (by rw [wr, hit _ (hit2 _ aw), tw, upd_same])
        refine ⟨_, rfl, .inr (.inl ⟨qa, _, 1, .str d.1, rfl, rfl, SqT.of ha4, atI_nat (j := 1) rfl, _, rfl, D, _, rfl, .inl (SqL.of eD4), rfl, fl, _, rfl, ite2 (fun c1 => ?_) (fun c1 => ?_)⟩)⟩
        · have c2 : (!inV (.str d.1) (ns.map V.str)) = true := c1
          rw [inV_str] at c2
          have c3 : ¬ d.1 ∈ ns := by simpa using c2
          have aw : atomW ms d = some (1, d.1) := by
            unfold atomW
            have f0 : ms.find? (fun m => decide (m.1 = d.1)) = none := by
              rw [List.find?_eq_none]
              intro m hm e
              refine c3 ?_
              rw [← hns, ← of_decide_eq_true e]
              exact List.mem_map_of_mem hm
            rw [f0]
          exact ⟨_, rfl, .inr (.inl ⟨qa, _, 1, .str d.1, rfl, rfl, SqT.of ha4, atI_nat (j := 1) rfl, (by show 2 ≤ sizeLine; decide), out _ 1 aw rfl⟩)⟩
        · have c2 : ¬ (!inV (.str d.1) (ns.map V.str)) = true := c1
          rw [inV_str] at c2
          have c3 : d.1 ∈ ns := by simpa using c2
          rw [← hns] at c3
          obtain ⟨m0, hm0, e0⟩ := List.mem_map.mp c3
          cases hf : ms.find? (fun m => decide (m.1 = d.1)) with
          | none => exact absurd (List.find?_eq_none.mp hf m0 hm0) (by simp [e0])
          | some m =>
            obtain ⟨jx, hjx, em, ahead⟩ := find_idx hf
            obtain ⟨hjl, _⟩ := List.getElem?_eq_some_iff.mp hjx
            obtain ⟨xr, hxr⟩ : ∃ xr, xs[jx]? = some xr := ⟨_, List.getElem?_eq_getElem (by omega)⟩
            obtain ⟨qr, vr, br, rfl, hqr, _⟩ := hR.2 jx xr m hxr hjx
            have nsj : ∀ (i2 : Nat) (m2 : Str × Int), ms[i2]? = some m2 → (ns.map V.str)[i2]? = some (.str m2.1) := fun i2 m2 h => by
              rw [← hns, List.getElem?_map, List.getElem?_map, h]
              rfl
            refine ⟨_, rfl, _, rfl, .inl ⟨rfl, _, SqL.of eD4⟩, _, rfl, .inr (.inl ⟨qa, _, 1, .str d.1, rfl, rfl, SqT.of ha4, atI_nat (j := 1) rfl, D, _, _, jx, .str m.1, rfl, rfl, SqL.of eD4, rfl, fl, nsj jx m hjx, ?_, ?_, ?_⟩)⟩
            · show (m.1 == d.1) = true
              rw [em]
              exact beq_self_eq_true _
            · intro i2 z2 lt h2
              have hi2 : i2 < ms.length := by omega
              rw [nsj i2 _ (List.getElem?_eq_getElem hi2)] at h2
              cases h2
              exact beq_eq_false_iff_ne.mpr (ahead i2 _ lt (List.getElem?_eq_getElem hi2))
            · refine .inl ⟨a, _, _, .ref qr, rfl, rfl, sm4.seq hSa, atI_nat hxr, .inr (.inl ⟨qr, _, 1, .int m.2, rfl, rfl, SqT.of (sm4 _ _ hqr), atI_nat (j := 1) rfl, _, rfl, .inr (.inl ⟨qa, _, 2, .ref p0, rfl, rfl, SqT.of ha4, atI_nat (j := 2) rfl,
                .inl ⟨p0, _, rfl, .inr (SqT.of hp4), rfl, _, rfl, ite2 (fun c4 => ?_) (fun c4 => ?_)⟩⟩)⟩)⟩
              · have aw : atomW ms d = some (2, d.1) := by
                  unfold atomW
                  rw [hf]
                  refine if_neg fun z => ?_
                  rw [← hl] at z
                  simp [z] at c4
                exact ⟨_, rfl, .inr (.inl ⟨qa, _, 1, .str d.1, rfl, rfl, SqT.of ha4, atI_nat (j := 1) rfl, (by show 2 ≤ sizeLine; decide), out _ 2 aw rfl⟩)⟩
              · have aw : atomW ms d = none := by
                  unfold atomW
                  rw [hf]
                  refine if_pos (Classical.byContradiction fun z => c4 ?_)
                  rw [← hl] at z
                  have z2 : ¬ m.2 = ((List.map V.int vs).length : Int) := fun e => z (by rw [e, List.length_map])
                  simpa using z2
                exact ⟨_, rfl, rfl, nxt2 aw⟩
      · rintro σ H5 ⟨v5, rfl, rfl, g0⟩
        rw [hds.1, List.take_of_length_le (Nat.le_refl _)] at g0
        exact ⟨_, _, rfl, s3.trans s4, nxt g0⟩
    · rintro σ H3 ⟨v4, v5, rfl, s3, h0⟩
      rw [hT.1, List.take_of_length_le (Nat.le_refl _)] at h0
      have sm3 := sm2.trans s3
      refine ⟨(by show 2 ≤ sizeLine; decide), fun t nt => q t _ (sm3.trans (same_new nt)) (sm3.free nt) ?_⟩
      rw [wr, h0, upd_same]
      rfl
end
end Nz
namespace Nz
open PySem PySem.Spec PyProof.Rows L2
theorem sc_out : FnScope ["relations", "sentences", "e", "others"] ["relations", "sentences"] (defScope s_outcome) :=
  ⟨rfl, rfl, rfl, by decide +kernel, rfl, by decide +kernel, by decide +kernel⟩
/-! ### _law_outcome -/
/-- a class of errors that is named -/
structure ErrM (K : PySem.W.Frag) (mg : Str → Option Value) (nm : Str) (C : Addr) : Prop where
  gC : mg nm = some (.ref C)
  ty : PySem.W.typeIn K (.ref C) = some (.type "type")
  bx : PySem.W.subIn K (.ref C) (.type "BaseException") = some true
  hd : PySem.W.hasDictIn K C = true
/-- .. that is caught -/
structure ErrX (K : PySem.W.Frag) (C : Addr) : Prop where
  xf : XfC K C
  ex : ExcC K C
  no : PySem.W.findIn K (.ref C) "name" = some none
  me : PySem.W.subIn K (.ref C) (.ref C) = some true
  ve : PySem.W.subIn K (.ref C) (.type "ValueError") = some true
theorem cls_some {K : PySem.W.Frag} {C : Addr} (h : PySem.W.hasDictIn K C = true) : (PySem.W.clsIn K C).isSome = true := by
  obtain ⟨cd, hc, _⟩ := PySem.W.any_some h
  rw [hc]
  rfl
theorem kit_ref {K : PySem.W.Frag} {mg : Str → Option Value} {nm : Str} {C D : Addr} {b : Bool} (M : ErrM K mg nm C) (X : ErrX K D) (h : PySem.W.subIn K (.ref D) (.ref C) = some b) : PySem.W.kitOne K (.ref D) (.ref C) = some b := by
  have e2 : ((PySem.W.clsIn K C).isSome && PySem.W.typeIn K (.ref C) == some (.type "type")) = true := by
    rw [cls_some M.hd, M.ty]
    rfl
  have e3 : PySem.W.kitCls K (.ref D) (.ref C) = some b := (if_pos e2).trans h
  by_cases z : D = C
  · subst z
    rw [X.me] at h
    cases h
    exact if_pos (beq_self_eq_true _)
  · exact (if_neg (fun y => z (Value.ref.inj (beq_iff_eq.mp y)))).trans e3
theorem kit_ve {K : PySem.W.Frag} {D : Addr} (X : ErrX K D) : PySem.W.kitOne K (.ref D) (.type "ValueError") = some true := by
  have e1 : PySem.W.kitMeta "ValueError" = true := by decide +kernel
  have e2 : PySem.W.kitCls K (.ref D) (.type "ValueError") = some true := by
    unfold PySem.W.kitCls
    dsimp only
    rw [if_pos e1]
    exact X.ve
  have ne : ¬ ((Value.ref D == Value.type "ValueError") = true) := fun y => by
    have z := beq_iff_eq.mp y
    cases z
  exact (if_neg ne).trans e2
theorem isx_mk {K : PySem.W.Frag} {a D dd : Addr} {c : V} {cv : Value} {b : Bool} {fs : List (Str × V)} {H : Hp} {Q : VK} (ex : ExcC K D) (ed : H dd = some (.xd fs)) (hc : ∀ u, RelV c u → u = cv) (k : PySem.W.kitOne K (.ref D) cv = some b) (q : Q (.bl b) H) :
    rIsX K a (.ref D) (some dd) [.ref a, c] H Q := ⟨⟨c, cv, b, D, dd, fs, rfl, rfl, ex, rfl, ed, hc, k, q⟩⟩
def spOut (K : PySem.W.Frag) : Sp := fun vs H Q _ => ∃ (a b : Addr) (xs ys : List V) (ms : List (Str × Int)) (dss : List (List (Str × Nat))), vs = [.ref a, .ref b] ∧ SqL K H a xs ∧ SqL K H b ys ∧ Rels H xs ms ∧ Sents H ys dss ∧ ms.length ≤ 10 ∧
  ∀ p H', Same H H' → H p = none → H' p = some (.tup (tellW (wrongW ms dss) ++ [.bl true])) → Q (.ref p) H'
section
variable {P : Program} {w : World} {K : PySem.W.Frag} {mg : Str → Option Value} {base : Heap}
set_option maxHeartbeats 2000000 in
theorem ok_out {f : Addr} {fd : FuncData} (F : Fun K "_law_outcome" "_law_outcome" s_outcome f fd) {CK CD CU CA CS CT CI CC fK : Addr} {fdK : FuncData} (TK : KindT K mg CK fK) (GK : FnOk P w K mg base (L2.CX P w) 22 fK fdK ["self", "relations", "sentences"] (spKind K CK CD CU CA)) (bK : Binds K fdK ["self", "relations", "sentences"] [])
    (EU : ErrM K mg "UnknownName" CU) (ED : ErrM K mg "DuplicateName" CD) (EA : ErrM K mg "WrongArity" CA) (MS : ErrM K mg "SyntaxFault" CS) (MT : ErrM K mg "TooManyLayers" CT) (MI : ErrM K mg "InvalidPaper" CI) (MC : ErrM K mg "CensusError" CC)
    (XU : ErrX K CU) (XD : ErrX K CD) (XA : ErrX K CA)
    (uD : PySem.W.subIn K (.ref CU) (.ref CD) = some false) (uA : PySem.W.subIn K (.ref CU) (.ref CA) = some false) (uS : PySem.W.subIn K (.ref CU) (.ref CS) = some false) (uT : PySem.W.subIn K (.ref CU) (.ref CT) = some false) (uI : PySem.W.subIn K (.ref CU) (.ref CI) = some false) (uC : PySem.W.subIn K (.ref CU) (.ref CC) = some true)
    (dU : PySem.W.subIn K (.ref CD) (.ref CU) = some false) (dA : PySem.W.subIn K (.ref CD) (.ref CA) = some false) (dS : PySem.W.subIn K (.ref CD) (.ref CS) = some false) (dT : PySem.W.subIn K (.ref CD) (.ref CT) = some false) (dI : PySem.W.subIn K (.ref CD) (.ref CI) = some false) (dC : PySem.W.subIn K (.ref CD) (.ref CC) = some true)
    (aU : PySem.W.subIn K (.ref CA) (.ref CU) = some false) (aD : PySem.W.subIn K (.ref CA) (.ref CD) = some false) (aS : PySem.W.subIn K (.ref CA) (.ref CS) = some false) (aT : PySem.W.subIn K (.ref CA) (.ref CT) = some false) (aI : PySem.W.subIn K (.ref CA) (.ref CI) = some false) (aC : PySem.W.subIn K (.ref CA) (.ref CC) = some true)
    (m_isinstance : mg "isinstance" = none) (m_list : mg "list" = none) (m_ValueError : mg "ValueError" = none) : FnOk P w K mg base CX0 24 f fd ["relations", "sentences"] (spOut K) := by
  refine F.ok sc_out (fun vs H Q E h => ?_) (fun cdv A outer s H vs Q E hr h => ?_)
  · obtain ⟨a, b, xs, ys, ms, dss, rfl, _⟩ := h
    rfl
  obtain ⟨a, b, xs, ys, ms, dss, rfl, hSa, hSb, hR, hT, h10, q⟩ := h
  refine ⟨_, pss_cons (ps_many_as (i := 2) rfl rfl sc_out.nd rfl rfl takes0
    (fun W pn xe tk _ => pss_one (ps_expr (pe_makeS TK.made GK hr rfl TK.gC bK (fun v => passAt tk v) (pa_cons (pe_callTy (r := rLstOf K) c_list rfl m_list (by decide +kernel) (pa_cons (pv 0) pa_nil)) (pa_cons (pe_callTy (r := rLstOf K) c_list rfl m_list (by decide +kernel) (pa_cons (pv 1) pa_nil)) pa_nil)))))
      (.cons ⟨rfl, by decide, .inl EU.gC⟩ (fun a oe cls d pn hz hf => pss_cons (ps_set (i := 3) sc_out.nd rfl (.inl rfl) (pe_or (pe_callB (r := rIsX K a cls d) (call_isX hz hf) rfl m_isinstance (by decide +kernel) (pa_cons (pv 2) (pa_cons (pe_glob (v := .ref CD) (u := .ref CD) rfl ED.gC rfl) pa_nil))) (pe_or (pe_callB (r := rIsX K a cls d) (call_isX hz hf) rfl m_isinstance (by decide +kernel) (pa_cons (pv 2) (pa_cons (pe_glob (v := .ref CS) (u := .ref CS) rfl MS.gC rfl) pa_nil))) (pe_one (pe_callB (r := rIsX K a cls d) (call_isX hz hf) rfl m_isinstance (by decide +kernel) (pa_cons (pv 2) (pa_cons (pe_glob (v := .ref CA) (u := .ref CA) rfl EA.gC rfl) pa_nil)))))))
        (pss_cons (ps_set (i := 3) sc_out.nd rfl (.inl rfl) (pe_or (pv 3) (pe_or (pe_callB (r := rIsX K a cls d) (call_isX hz hf) rfl m_isinstance (by decide +kernel) (pa_cons (pv 2) (pa_cons (pe_glob (v := .ref CT) (u := .ref CT) rfl MT.gC rfl) pa_nil))) (pe_one (pe_callB (r := rIsX K a cls d) (call_isX hz hf) rfl m_isinstance (by decide +kernel) (pa_cons (pv 2) (pa_cons (pe_glob (v := .ref CI) (u := .ref CI) rfl MI.gC rfl) pa_nil)))))))
        (pss_one (ps_ret (pe_tup (pa_cons pe_str (pa_cons (pe_xf XU.xf XU.no hz hf (pv 2)) (pa_cons (pe_and (pe_callB (r := rIsX K a cls d) (call_isX hz hf) rfl m_isinstance (by decide +kernel) (pa_cons (pv 2) (pa_cons (pe_glob (v := .ref CC) (u := .ref CC) rfl MC.gC rfl) pa_nil))) (pe_and (pe_callB (r := rIsX K a cls d) (call_isX hz hf) rfl m_isinstance (by decide +kernel) (pa_cons (pv 2) (pa_cons (pe_bltn (v := .ty "ValueError") (u := .type "ValueError") rfl m_ValueError (by decide +kernel) rfl) pa_nil))) (pe_one (pe_not (pv 3))))) pa_nil))))))))
      (.cons ⟨rfl, by decide, .inl ED.gC⟩ (fun a oe cls d pn hz hf => pss_cons (ps_set (i := 3) sc_out.nd rfl (.inl rfl) (pe_or (pe_callB (r := rIsX K a cls d) (call_isX hz hf) rfl m_isinstance (by decide +kernel) (pa_cons (pv 2) (pa_cons (pe_glob (v := .ref CU) (u := .ref CU) rfl EU.gC rfl) pa_nil))) (pe_or (pe_callB (r := rIsX K a cls d) (call_isX hz hf) rfl m_isinstance (by decide +kernel) (pa_cons (pv 2) (pa_cons (pe_glob (v := .ref CS) (u := .ref CS) rfl MS.gC rfl) pa_nil))) (pe_one (pe_callB (r := rIsX K a cls d) (call_isX hz hf) rfl m_isinstance (by decide +kernel) (pa_cons (pv 2) (pa_cons (pe_glob (v := .ref CA) (u := .ref CA) rfl EA.gC rfl) pa_nil)))))))
        (pss_cons (ps_set (i := 3) sc_out.nd rfl (.inl rfl) (pe_or (pv 3) (pe_or (pe_callB (r := rIsX K a cls d) (call_isX hz hf) rfl m_isinstance (by decide +kernel) (pa_cons (pv 2) (pa_cons (pe_glob (v := .ref CT) (u := .ref CT) rfl MT.gC rfl) pa_nil))) (pe_one (pe_callB (r := rIsX K a cls d) (call_isX hz hf) rfl m_isinstance (by decide +kernel) (pa_cons (pv 2) (pa_cons (pe_glob (v := .ref CI) (u := .ref CI) rfl MI.gC rfl) pa_nil)))))))
        (pss_one (ps_ret (pe_tup (pa_cons pe_str (pa_cons (pe_xf XD.xf XD.no hz hf (pv 2)) (pa_cons (pe_and (pe_callB (r := rIsX K a cls d) (call_isX hz hf) rfl m_isinstance (by decide +kernel) (pa_cons (pv 2) (pa_cons (pe_glob (v := .ref CC) (u := .ref CC) rfl MC.gC rfl) pa_nil))) (pe_and (pe_callB (r := rIsX K a cls d) (call_isX hz hf) rfl m_isinstance (by decide +kernel) (pa_cons (pv 2) (pa_cons (pe_bltn (v := .ty "ValueError") (u := .type "ValueError") rfl m_ValueError (by decide +kernel) rfl) pa_nil))) (pe_one (pe_not (pv 3))))) pa_nil))))))))
      (.cons ⟨rfl, by decide, .inl EA.gC⟩ (fun a oe cls d pn hz hf => pss_cons (ps_set (i := 3) sc_out.nd rfl (.inl rfl) (pe_or (pe_callB (r := rIsX K a cls d) (call_isX hz hf) rfl m_isinstance (by decide +kernel) (pa_cons (pv 2) (pa_cons (pe_glob (v := .ref CU) (u := .ref CU) rfl EU.gC rfl) pa_nil))) (pe_or (pe_callB (r := rIsX K a cls d) (call_isX hz hf) rfl m_isinstance (by decide +kernel) (pa_cons (pv 2) (pa_cons (pe_glob (v := .ref CS) (u := .ref CS) rfl MS.gC rfl) pa_nil))) (pe_one (pe_callB (r := rIsX K a cls d) (call_isX hz hf) rfl m_isinstance (by decide +kernel) (pa_cons (pv 2) (pa_cons (pe_glob (v := .ref CD) (u := .ref CD) rfl ED.gC rfl) pa_nil)))))))
        (pss_cons (ps_set (i := 3) sc_out.nd rfl (.inl rfl) (pe_or (pv 3) (pe_or (pe_callB (r := rIsX K a cls d) (call_isX hz hf) rfl m_isinstance (by decide +kernel) (pa_cons (pv 2) (pa_cons (pe_glob (v := .ref CT) (u := .ref CT) rfl MT.gC rfl) pa_nil))) (pe_one (pe_callB (r := rIsX K a cls d) (call_isX hz hf) rfl m_isinstance (by decide +kernel) (pa_cons (pv 2) (pa_cons (pe_glob (v := .ref CI) (u := .ref CI) rfl MI.gC rfl) pa_nil)))))))
        (pss_one (ps_ret (pe_tup (pa_cons pe_str (pa_cons (pe_xf XA.xf XA.no hz hf (pv 2)) (pa_cons (pe_and (pe_callB (r := rIsX K a cls d) (call_isX hz hf) rfl m_isinstance (by decide +kernel) (pa_cons (pv 2) (pa_cons (pe_glob (v := .ref CC) (u := .ref CC) rfl MC.gC rfl) pa_nil))) (pe_and (pe_callB (r := rIsX K a cls d) (call_isX hz hf) rfl m_isinstance (by decide +kernel) (pa_cons (pv 2) (pa_cons (pe_bltn (v := .ty "ValueError") (u := .type "ValueError") rfl m_ValueError (by decide +kernel) rfl) pa_nil))) (pe_one (pe_not (pv 3))))) pa_nil)))))))) .nil))))
    (pss_one (ps_ret (pe_tup (pa_cons pe_str (pa_cons pe_str (pa_cons pe_bl pa_nil)))))), ?_⟩
  refine ⟨.ref a, rfl, a, xs, rfl, .inl hSa, fun p1 n1 => ⟨.ref b, rfl, b, ys, rfl, .inl ((same_new n1).seq hSb), fun p2 n2 x dx nx ndx dne => ?_⟩⟩
  have s1 := same_new (o := .lst xs) n1
  have s2 := same_new (o := .lst ys) n2
  have s3 : Same (upd (upd H p1 (.lst xs)) p2 (.lst ys)) (upd (upd (upd (upd H p1 (.lst xs)) p2 (.lst ys)) dx (.own x)) x (.ins CK dx [])) := fun c u e => by
    rw [upd_ne (ne_of_none e nx), upd_ne (ne_of_none e ndx)]
    exact e
  have sm := s1.trans (s2.trans s3)
  have nx0 : H x = none := (s1.trans s2).free nx
  refine ⟨x, dx, p1, p2, xs, ys, ms, dss, rfl, upd_same, SqL.of (s3 _ _ (s2 _ _ upd_same)), SqL.of (s3 _ _ upd_same), hR.tup (Same.tup sm), hT.tup (Same.tup sm), h10, ?_, ?_, ?_, ?_⟩
  · intro wr r1 r2 H4 sb m1 m2 m12 e1 e2 e3
    have s4 : Same H H4 := fun c u e => sb c u (ne_of_none e nx0) (sm c u e)
    refine ⟨rfl, (by show 3 ≤ sizeLine; decide), fun t nt => q t _ (s4.trans (same_new nt)) (s4.free nt) ?_⟩
    rw [wr, upd_same]
    rfl
  · intro z wr d H4 s4 nd ed
    have is : ∀ {nm : Str} {C : Addr} {b : Bool} {a' : Addr} {Q : VK}, ErrM K mg nm C → PySem.W.subIn K (.ref CD) (.ref C) = some b → Q (.bl b) H4 → rIsX K a' (.ref CD) (some d) [.ref a', .ref C] H4 Q :=
      fun {nm C b a' Q} M h q => isx_mk XD.ex ed (fun u r => r) (kit_ref M XD h) q
    have s5 := sm.trans s4
    refine ⟨false, PySem.W.exm_ref EU.bx EU.hd EU.ty dU, (fun z => nomatch z), fun _ => ⟨true, PySem.W.exm_ref ED.bx ED.hd ED.ty XD.me, fun _ a' na => ?_, fun z => nomatch z⟩⟩
    refine ⟨_, rfl, is EU dU ⟨false, rfl, iteF ⟨_, rfl, is MS dS ⟨false, rfl, iteF ⟨_, rfl, is EA dA ?_⟩⟩⟩⟩⟩
    refine ⟨_, rfl, false, rfl, iteF ⟨_, rfl, is MT dT ⟨false, rfl, iteF ⟨_, rfl, is MI dI ?_⟩⟩⟩⟩
    refine ⟨_, rfl, rfl, rfl, d, _, .str z, rfl, ed, rfl, _, rfl, is MC dC ⟨true, rfl, ?_⟩⟩
    refine ⟨_, rfl, isx_mk XD.ex ed (fun u r => r) (kit_ve XD) ⟨true, rfl, ?_⟩⟩
    refine ⟨_, rfl, false, rfl, (by show 3 ≤ sizeLine; decide), fun t nt => q t _ (s5.trans (same_new nt)) (s5.free nt) ?_⟩
    rw [wr, upd_same]
    rfl
  · intro z wr d H4 s4 nd ed
    have is : ∀ {nm : Str} {C : Addr} {b : Bool} {a' : Addr} {Q : VK}, ErrM K mg nm C → PySem.W.subIn K (.ref CU) (.ref C) = some b → Q (.bl b) H4 → rIsX K a' (.ref CU) (some d) [.ref a', .ref C] H4 Q :=
      fun {nm C b a' Q} M h q => isx_mk XU.ex ed (fun u r => r) (kit_ref M XU h) q
    have s5 := sm.trans s4
    refine ⟨true, PySem.W.exm_ref EU.bx EU.hd EU.ty XU.me, fun _ a' na => ?_, fun z => nomatch z⟩
    refine ⟨_, rfl, is ED uD ⟨false, rfl, iteF ⟨_, rfl, is MS uS ⟨false, rfl, iteF ⟨_, rfl, is EA uA ?_⟩⟩⟩⟩⟩
    refine ⟨_, rfl, false, rfl, iteF ⟨_, rfl, is MT uT ⟨false, rfl, iteF ⟨_, rfl, is MI uI ?_⟩⟩⟩⟩
    refine ⟨_, rfl, rfl, rfl, d, _, .str z, rfl, ed, rfl, _, rfl, is MC uC ⟨true, rfl, ?_⟩⟩
    refine ⟨_, rfl, isx_mk XU.ex ed (fun u r => r) (kit_ve XU) ⟨true, rfl, ?_⟩⟩
    refine ⟨_, rfl, false, rfl, (by show 3 ≤ sizeLine; decide), fun t nt => q t _ (s5.trans (same_new nt)) (s5.free nt) ?_⟩
    rw [wr, upd_same]
    rfl
  · intro z wr d H4 s4 nd ed
    have is : ∀ {nm : Str} {C : Addr} {b : Bool} {a' : Addr} {Q : VK}, ErrM K mg nm C → PySem.W.subIn K (.ref CA) (.ref C) = some b → Q (.bl b) H4 → rIsX K a' (.ref CA) (some d) [.ref a', .ref C] H4 Q :=
      fun {nm C b a' Q} M h q => isx_mk XA.ex ed (fun u r => r) (kit_ref M XA h) q
    have s5 := sm.trans s4
    refine ⟨false, PySem.W.exm_ref EU.bx EU.hd EU.ty aU, (fun z => nomatch z), fun _ => ⟨false, PySem.W.exm_ref ED.bx ED.hd ED.ty aD, (fun z => nomatch z), fun _ => ⟨true, PySem.W.exm_ref EA.bx EA.hd EA.ty XA.me, fun _ a' na => ?_, fun z => nomatch z⟩⟩⟩
    refine ⟨_, rfl, is EU aU ⟨false, rfl, iteF ⟨_, rfl, is MS aS ⟨false, rfl, iteF ⟨_, rfl, is ED aD ?_⟩⟩⟩⟩⟩
    refine ⟨_, rfl, false, rfl, iteF ⟨_, rfl, is MT aT ⟨false, rfl, iteF ⟨_, rfl, is MI aI ?_⟩⟩⟩⟩
    refine ⟨_, rfl, rfl, rfl, d, _, .str z, rfl, ed, rfl, _, rfl, is MC aC ⟨true, rfl, ?_⟩⟩
    refine ⟨_, rfl, isx_mk XA.ex ed (fun u r => r) (kit_ve XA) ⟨true, rfl, ?_⟩⟩
    refine ⟨_, rfl, false, rfl, (by show 3 ≤ sizeLine; decide), fun t nt => q t _ (s5.trans (same_new nt)) (s5.free nt) ?_⟩
    rw [wr, upd_same]
    rfl
end
end Nz
namespace Nz
open PySem PySem.Spec PyProof.Rows L2
theorem pl_up : ∀ {n : Nat} {d : PyData}, Pl n d → Pl (n + 1) d
  | 0, _, h => h.elim
  | _ + 1, .int _, _ => trivial
  | _ + 1, .bool _, _ => trivial
  | _ + 1, .str _, _ => trivial
  | _ + 1, .list _, h => ⟨h.1, fun d hd => pl_up (h.2 d hd)⟩
  | _ + 1, .tuple _, h => ⟨h.1, fun d hd => pl_up (h.2 d hd)⟩
  | _ + 1, .none, h => h.elim
  | _ + 1, .dict _, h => h.elim
theorem pl_mono {n : Nat} {d : PyData} (h : Pl n d) : ∀ {m : Nat}, n ≤ m → Pl m d := by
  intro m hm
  induction m with
  | zero =>
    obtain rfl : n = 0 := by omega
    exact h
  | succ m ih =>
    rcases Nat.lt_or_ge n (m + 1) with lt | ge
    · exact pl_up (ih (by omega))
    · obtain rfl : n = m + 1 := by omega
      exact h
section
variable {K : PySem.W.Frag} {H : Hp}
theorem pl_tup {n : Nat} {ds : List PyData} (l : ds.length ≤ 1000000) (h : ∀ d ∈ ds, Pl n d) : Pl (n + 1) (.tuple ds) := ⟨l, h⟩
/-- a formula as data -/
theorem fm_data : ∀ t : Fm, t.At H → ∃ d, Dp K H t.root d ∧ Pl (t.dep + 2) d
  | .atom _, ⟨q, p, n, v, vs, rfl, h2, h3, h4, _⟩ => by
    refine ⟨.tuple [.str "is", .str n, .tuple (vs.map .int), .int v], .tup (SqT.of h2) (.cons (.str _) (.cons (.str n) (.cons (.tup (SqT.of h3) (dpInts vs)) (.cons (.int v) .nil)))), pl_tup (by simp) fun e he => ?_⟩
    simp only [List.mem_cons, List.not_mem_nil, or_false] at he
    rcases he with rfl | rfl | rfl | rfl
    · trivial
    · trivial
    · refine ⟨by rw [List.length_map]; omega, fun x hx => ?_⟩
      obtain ⟨i, _, rfl⟩ := List.mem_map.mp hx
      trivial
    · trivial
  | .con _, ⟨q, s, rfl, _, h2⟩ => ⟨.tuple [.str s], .tup (SqT.of h2) (.cons (.str s) .nil), pl_tup (by simp) fun e he => by
      rw [List.mem_singleton.mp he]
      trivial⟩
  | .neg _ f, ⟨q, s, rfl, _, h2, hf⟩ => by
    obtain ⟨d, hd, pd⟩ := fm_data f hf
    refine ⟨.tuple [.str s, d], .tup (SqT.of h2) (.cons (.str s) (.cons hd .nil)), pl_tup (by simp) fun e he => ?_⟩
    simp only [List.mem_cons, List.not_mem_nil, or_false] at he
    rcases he with rfl | rfl
    · trivial
    · exact pd
  | .bin _ f g, ⟨q, s, rfl, _, h2, hf, hg⟩ => by
    obtain ⟨d, hd, pd⟩ := fm_data f hf
    obtain ⟨d', hd', pd'⟩ := fm_data g hg
    refine ⟨.tuple [.str s, d, d'], .tup (SqT.of h2) (.cons (.str s) (.cons hd (.cons hd' .nil))), pl_tup (by simp) fun e he => ?_⟩
    simp only [List.mem_cons, List.not_mem_nil, or_false] at he
    rcases he with rfl | rfl | rfl
    · trivial
    · exact pl_mono pd (by simp only [Fm.dep]; omega)
    · exact pl_mono pd' (by simp only [Fm.dep]; omega)
theorem rel_data {x : V} {m : Str × Int} (h : Rel4 H x m) : ∃ d, Dp K H x d ∧ Pl 23 d := by
  obtain ⟨q, va, b, rfl, h2, _⟩ := h
  refine ⟨.tuple [.str m.1, .int m.2, .int va, .bool b], .tup (SqT.of h2) (.cons (.str _) (.cons (.int _) (.cons (.int _) (.cons (.bl b) .nil)))), pl_tup (by simp) fun e he => ?_⟩
  simp only [List.mem_cons, List.not_mem_nil, or_false] at he
  rcases he with rfl | rfl | rfl | rfl <;> trivial
theorem sent_data {y : V} {ds : List (Str × Nat)} (h : SentAt H y ds) : ∃ d, Dp K H y d ∧ Pl 23 d := by
  obtain ⟨q, c, t, rfl, h2, hA, hn, _⟩ := h
  obtain ⟨d, hd, pd⟩ := fm_data (K := K) t hA
  have dl := t.dep_le
  refine ⟨.tuple [.int c, d], .tup (SqT.of h2) (.cons (.int c) (.cons hd .nil)), pl_tup (by simp) fun e he => ?_⟩
  simp only [List.mem_cons, List.not_mem_nil, or_false] at he
  rcases he with rfl | rfl
  · trivial
  · exact pl_mono pd (by omega)
theorem list_data {n : Nat} : ∀ {xs : List V}, (∀ x ∈ xs, ∃ d, Dp K H x d ∧ Pl n d) → ∃ ds, DpAll K H xs ds ∧ ∀ d ∈ ds, Pl n d
  | [], _ => ⟨[], .nil, by simp⟩
  | x :: r, h => by
    obtain ⟨d, hd, pd⟩ := h x List.mem_cons_self
    obtain ⟨ds, hs, ps⟩ := list_data (xs := r) fun y hy => h y (List.mem_cons_of_mem _ hy)
    refine ⟨d :: ds, .cons hd hs, fun e he => ?_⟩
    rcases List.mem_cons.mp he with rfl | he
    · exact pd
    · exact ps e he
/-- two lists of the same items -/
theorem same_lists {p r : Addr} {xs : List V} (h : ∀ x ∈ xs, ∃ d, Dp K H x d ∧ Pl 23 d) (l : xs.length ≤ 1000000) (hp : SqL K H p xs) (hr : SqL K H r xs) : ∃ d, Dp K H (.ref p) d ∧ Dp K H (.ref r) d ∧ Pl 24 d := by
  obtain ⟨ds, hd, pd⟩ := list_data h
  have ld := dpLen hd
  exact ⟨.list ds, .lst hp hd, .lst hr hd, by omega, pd⟩
theorem Rels.data {xs : List V} {ms : List (Str × Int)} (h : Rels H xs ms) : ∀ x ∈ xs, ∃ d, Dp K H x d ∧ Pl 23 d := by
  intro x hx
  obtain ⟨i, hi, e⟩ := List.getElem_of_mem hx
  have hi2 : i < ms.length := h.1 ▸ hi
  exact rel_data (h.2 i x _ (by rw [List.getElem?_eq_getElem hi, e]) (List.getElem?_eq_getElem hi2))
theorem Sents.data {ys : List V} {dss : List (List (Str × Nat))} (h : Sents H ys dss) : ∀ x ∈ ys, ∃ d, Dp K H x d ∧ Pl 23 d := by
  intro x hx
  obtain ⟨i, hi, e⟩ := List.getElem_of_mem hx
  have hi2 : i < dss.length := h.1 ▸ hi
  exact sent_data (h.2 i x _ (by rw [List.getElem?_eq_getElem hi, e]) (List.getElem?_eq_getElem hi2))
theorem Sents.snoc {ys : List V} {dss : List (List (Str × Nat))} {y : V} {ds : List (Str × Nat)} (h : Sents H ys dss) (g : SentAt H y ds) : Sents H (ys ++ [y]) (dss ++ [ds]) := by
  refine ⟨by simp [h.1], fun i x n hx hn => ?_⟩
  by_cases hi : i < ys.length
  · rw [List.getElem?_append_left hi] at hx
    rw [List.getElem?_append_left (h.1 ▸ hi)] at hn
    exact h.2 i x n hx hn
  · rw [List.getElem?_append_right (by omega)] at hx
    rw [List.getElem?_append_right (by have := h.1; omega), ← h.1] at hn
    cases hj : i - ys.length with
    | zero =>
      rw [hj] at hx hn
      cases hx
      cases hn
      exact g
    | succ j =>
      rw [hj] at hx
      simp at hx
theorem Sents.nil : Sents H [] [] := ⟨rfl, fun i x m h => by simp at h⟩
end
/-- what the law's tuple says -/
theorem tellW_two (r : Option (Nat × Str)) : ∃ wd z : Str, tellW r = [.str wd, .str z] ∧ (V.str wd = .str "none" ↔ r = none) := by
  rcases r with _ | ⟨j, z⟩
  · exact ⟨"none", "", rfl, by simp⟩
  · rcases j with _ | _ | j
    · exact ⟨"duplicate", z, rfl, by simp; decide⟩
    · exact ⟨"unknown", z, rfl, by simp; decide⟩
    · exact ⟨"arity", z, rfl, by simp; decide⟩
end Nz
namespace Nz
open PySem PySem.Spec PyProof.Rows L2
def spLaw (K : PySem.W.Frag) : Sp := fun vs H Q _ => ∃ (a : Addr) (ns : List Int), vs = [.ref a] ∧ SqL K H a (ns.map V.int) ∧ ns.length ≤ 63 ∧ ∀ H', Q (.bl true) H'
section
variable {P : Program} {w : World} {K : PySem.W.Frag} {mg : Str → Option Value} {base : Heap}
set_option maxHeartbeats 2000000 in
theorem ok_law {f : Addr} {fd : FuncData} (F : Fun K "law" "law" s_law f fd) {f_cell : Addr} {fd_cell : FuncData} (G_cell : FnOk P w K mg base CX0 (1) f_cell fd_cell ["script", "k"] (spCell K)) (b_cell : Binds K fd_cell ["script", "k"] []) (k_cell : PySem.W.keepIn K (.ref f_cell) = true) (g_cell : mg "_law_cell" = some (.ref f_cell)) {f_names : Addr} {fd_names : FuncData} (G_names : FnOk P w K mg base CX0 (2) f_names fd_names ["cell", "count"] (spNames K)) (b_names : Binds K fd_names ["cell", "count"] []) (k_names : PySem.W.keepIn K (.ref f_names) = true) (g_names : mg "_law_names" = some (.ref f_names)) {f_relations : Addr} {fd_relations : FuncData} (G_relations : FnOk P w K mg base CX0 (2) f_relations fd_relations ["cell", "names"] (spRel K)) (b_relations : Binds K fd_relations ["cell", "names"] []) (k_relations : PySem.W.keepIn K (.ref f_relations) = true) (g_relations : mg "_law_relations" = some (.ref f_relations)) {f_some : Addr} {fd_some : FuncData} (G_some : FnOk P w K mg base CX0 (1) f_some fd_some ["relations", "stranger", "cell"] (spSome K)) (b_some : Binds K fd_some ["relations", "stranger", "cell"] []) (k_some : PySem.W.keepIn K (.ref f_some) = true) (g_some : mg "_law_some" = some (.ref f_some)) {f_formula : Addr} {fd_formula : FuncData} (G_formula : FnOk P w K mg base CX0 (2) f_formula fd_formula ["cell", "count", "relations", "most"] (spFormula K)) (b_formula : Binds K fd_formula ["cell", "count", "relations", "most"] []) (k_formula : PySem.W.keepIn K (.ref f_formula) = true) (g_formula : mg "_law_formula" = some (.ref f_formula)) {f_kind_wrong : Addr} {fd_kind_wrong : FuncData} (G_kind_wrong : FnOk P w K mg base CX0 (2) f_kind_wrong fd_kind_wrong ["relations", "sentences"] (spKW K)) (b_kind_wrong : Binds K fd_kind_wrong ["relations", "sentences"] []) (k_kind_wrong : PySem.W.keepIn K (.ref f_kind_wrong) = true) (g_kind_wrong : mg "_law_kind_wrong" = some (.ref f_kind_wrong)) {f_outcome : Addr} {fd_outcome : FuncData} (G_outcome : FnOk P w K mg base CX0 (24) f_outcome fd_outcome ["relations", "sentences"] (spOut K)) (b_outcome : Binds K fd_outcome ["relations", "sentences"] []) (k_outcome : PySem.W.keepIn K (.ref f_outcome) = true) (g_outcome : mg "_law_outcome" = some (.ref f_outcome)) {f_equal : Addr} {fd_equal : FuncData} (G_equal : FnOk P w K mg base CX0 (24) f_equal fd_equal ["actual", "expected"] (spEq K 24)) (b_equal : Binds K fd_equal ["actual", "expected"] []) (k_equal : PySem.W.keepIn K (.ref f_equal) = true) (g_equal : mg "_law_equal" = some (.ref f_equal))
    {CK CD CU CA fK : Addr} {fdK : FuncData} (T_Kind : KindT K mg CK fK) (G_Kind : FnOk P w K mg base (L2.CX P w) 22 fK fdK ["self", "relations", "sentences"] (spKind K CK CD CU CA)) (b_Kind : Binds K fdK ["self", "relations", "sentences"] [])
    (m_int : mg "int" = none) (m_range : mg "range" = none) (m_list : mg "list" = none) : FnOk P w K mg base CX0 30 f fd ["script"] (spLaw K) := by
  refine F.ok sc_law (fun vs H Q E h => ?_) (fun cdv A outer s H vs Q E hr h => ?_)
  · obtain ⟨a, ns, rfl, _⟩ := h
    rfl
  obtain ⟨a, ns, rfl, hS, h63, q⟩ := h
  have hr_cell := hr.mono (show 1 ≤ 29 by decide)
  have hr_some := hr_cell
  have hr_names := hr.mono (show 2 ≤ 29 by decide)
  have hr_formula := hr_names
  have hr_relations := hr_names
  have hr_kind_wrong := hr_names
  have hr_outcome := hr.mono (show 24 ≤ 29 by decide)
  have hr_equal := hr_outcome
  have hr_Kind := hr.mono (show 23 ≤ 29 by decide)
  refine ⟨_, (pss_cons (ps_set (i := 1) sc_law.nd rfl (.inl rfl) (pe_call G_names hr_names rfl g_names k_names b_names .nil pass0 (pa_cons (pe_call G_cell hr_cell rfl g_cell k_cell b_cell .nil pass0 (pa_cons (pv 0) (pa_cons pe_int pa_nil))) (pa_cons pe_int pa_nil))))
    (pss_cons (ps_set (i := 2) sc_law.nd rfl (.inl rfl) (pe_call G_relations hr_relations rfl g_relations k_relations b_relations .nil pass0 (pa_cons (pe_call G_cell hr_cell rfl g_cell k_cell b_cell .nil pass0 (pa_cons (pv 0) (pa_cons pe_int pa_nil))) (pa_cons (pv 1) pa_nil))))
    (pss_cons (ps_set (i := 3) sc_law.nd rfl (.inl rfl) (pe_call G_some hr_some rfl g_some k_some b_some .nil pass0 (pa_cons (pv 2) (pa_cons (pe_ix (r := rIx K) ix_seq (pv 1) pe_int (fun _ _ => rfl)) (pa_cons (pe_call G_cell hr_cell rfl g_cell k_cell b_cell .nil pass0 (pa_cons (pv 0) (pa_cons pe_int pa_nil))) pa_nil)))))
    (pss_cons (ps_set (i := 4) sc_law.nd rfl (.inl rfl) (pe_lst pa_nil))
    (pss_cons (ps_for PassesOwn.never rfl (pi_range1 rfl m_range (pa_cons (pe_op op_mod (pe_callTy (r := rIntOf) c_int rfl m_int (by decide +kernel) (pa_cons (pe_call G_cell hr_cell rfl g_cell k_cell b_cell .nil pass0 (pa_cons (pv 0) (pa_cons pe_int pa_nil))) pa_nil)) pe_int) pa_nil)) (pg_name (i := 5) sc_law.nd rfl (.inl rfl))
      (pss_cons (ps_set (i := 6) sc_law.nd rfl (.inl rfl) (pe_op op_add pe_int (pe_op op_mod (pe_callTy (r := rIntOf) c_int rfl m_int (by decide +kernel) (pa_cons (pe_op op_fdivW (pe_call G_cell hr_cell rfl g_cell k_cell b_cell .nil pass0 (pa_cons (pv 0) (pa_cons pe_int pa_nil))) (pe_op op_add pe_int (pe_op op_mul pe_int (pv 5)))) pa_nil)) pe_int)))
    (pss_one (ps_expr (pe_bm PySem.F.plainAttrs_list PySem.F.slot_list_append PySem.F.type_list_append mt_append (pv 4) (pa_cons (pe_tup (pa_cons (pv 6) (pa_cons (pe_call G_formula hr_formula rfl g_formula k_formula b_formula .nil pass0 (pa_cons (pe_call G_cell hr_cell rfl g_cell k_cell b_cell .nil pass0 (pa_cons (pv 0) (pa_cons (pe_op op_add pe_int (pv 5)) pa_nil))) (pa_cons (pv 6) (pa_cons (pv 3) (pa_cons pe_int pa_nil))))) pa_nil))) pa_nil))))))
    (pss_cons (ps_set (i := 7) sc_law.nd rfl (.inl rfl) (pe_call G_kind_wrong hr_kind_wrong rfl g_kind_wrong k_kind_wrong b_kind_wrong .nil pass0 (pa_cons (pv 2) (pa_cons (pv 4) pa_nil))))
    (pss_cons (ps_if (pt_not (pt_val (pe_call G_equal hr_equal rfl g_equal k_equal b_equal .nil pass0 (pa_cons (pe_call G_outcome hr_outcome rfl g_outcome k_outcome b_outcome .nil pass0 (pa_cons (pv 2) (pa_cons (pv 4) pa_nil))) (pa_cons (pe_tup (pa_cons (pe_ix (r := rIx K) ix_seq (pv 7) pe_int (fun _ _ => rfl)) (pa_cons (pe_ix (r := rIx K) ix_seq (pv 7) pe_int (fun _ _ => rfl)) (pa_cons pe_bl pa_nil)))) pa_nil))))) (pss_one (ps_ret pe_bl)) pss_nil)
    (pss_cons (ps_if (pt_cmpR op_ne (pe_ix (r := rIx K) ix_seq (pv 7) pe_int (fun _ _ => rfl)) pe_str (nomark _)) (pss_one (ps_ret pe_bl)) pss_nil)
    (pss_cons (ps_set (i := 8) sc_law.nd rfl (.inl rfl) (pe_callTy (r := rLstOf K) c_list rfl m_list (by decide +kernel) (pa_cons (pv 2) pa_nil)))
    (pss_cons (ps_set (i := 9) sc_law.nd rfl (.inl rfl) (pe_callTy (r := rLstOf K) c_list rfl m_list (by decide +kernel) (pa_cons (pv 4) pa_nil)))
    (pss_cons (ps_set (i := 10) sc_law.nd rfl (.inl rfl) (pe_make T_Kind.made G_Kind hr_Kind rfl T_Kind.gC b_Kind .nil passL (pa_cons (pv 8) (pa_cons (pv 9) pa_nil))))
    (pss_cons (ps_if (PW.pt (pw_or (pt_not (pt_val (pe_call G_equal hr_equal rfl g_equal k_equal b_equal .nil pass0 (pa_cons (pv 8) (pa_cons (pv 2) pa_nil))))) (pw_or1 (pt_not (pt_val (pe_call G_equal hr_equal rfl g_equal k_equal b_equal .nil pass0 (pa_cons (pv 9) (pa_cons (pv 4) pa_nil)))))))) (pss_one (ps_ret pe_bl)) pss_nil)
    (pss_cons (ps_expr (pe_bm PySem.F.plainAttrs_list PySem.F.slot_list_append PySem.F.type_list_append mt_append (pv 8) (pa_cons (pe_tup (pa_cons (pe_ix (r := rIx K) ix_seq (pv 1) pe_int (fun _ _ => rfl)) (pa_cons pe_int (pa_cons pe_int (pa_cons pe_bl pa_nil))))) pa_nil)))
    (pss_cons (ps_expr (pe_bm0 PySem.F.plainAttrs_list PySem.F.slot_list_clear PySem.F.type_list_clear mt_clear (pv 9)))
    (pss_cons (ps_set (i := 11) sc_law.nd rfl (.inl rfl) (pe_make T_Kind.made G_Kind hr_Kind rfl T_Kind.gC b_Kind .nil passL (pa_cons (pe_lst (pa_cons (pe_tup (pa_cons (pe_ix (r := rIx K) ix_seq (pv 1) pe_int (fun _ _ => rfl)) (pa_cons pe_int (pa_cons pe_int (pa_cons pe_bl pa_nil))))) pa_nil)) (pa_cons (pe_lst (pa_cons (pe_tup (pa_cons pe_int (pa_cons (pe_tup (pa_cons pe_str pa_nil)) pa_nil))) pa_nil)) pa_nil))))
    (pss_cons (ps_if (PW.pt (pw_or (pt_not (pt_val (pe_call G_equal hr_equal rfl g_equal k_equal b_equal .nil pass0 (pa_cons (pe_fld (pv 10) rfl) (pa_cons (pv 2) pa_nil))))) (pw_or1 (pt_not (pt_val (pe_call G_equal hr_equal rfl g_equal k_equal b_equal .nil pass0 (pa_cons (pe_fld (pv 10) rfl) (pa_cons (pv 4) pa_nil)))))))) (pss_one (ps_ret pe_bl)) pss_nil)
    (pss_one (ps_ret (pe_and (pe_call G_equal hr_equal rfl g_equal k_equal b_equal .nil pass0 (pa_cons (pe_fld (pv 11) rfl) (pa_cons (pe_lst (pa_cons (pe_tup (pa_cons (pe_ix (r := rIx K) ix_seq (pv 1) pe_int (fun _ _ => rfl)) (pa_cons pe_int (pa_cons pe_int (pa_cons pe_bl pa_nil))))) pa_nil)) pa_nil))) (pe_one (pe_call G_equal hr_equal rfl g_equal k_equal b_equal .nil pass0 (pa_cons (pe_fld (pv 11) rfl) (pa_cons (pe_lst (pa_cons (pe_tup (pa_cons pe_int (pa_cons (pe_tup (pa_cons pe_str pa_nil)) pa_nil))) pa_nil)) pa_nil))))))))))))))))))))))), ?_⟩
  refine ⟨.ref a, rfl, a, ns, 0, rfl, hS, h63, by decide, fun c0 => ⟨c0, 7, rfl, by decide, fun zs pN H1 lz hz s1 np1 e1 => ?_⟩⟩
  obtain ⟨z6, hz6⟩ : ∃ z6, zs[6]? = some z6 := ⟨_, List.getElem?_eq_getElem (by omega)⟩
  have lz6 : z6.length ≤ 200000 := (hz z6 (List.mem_of_getElem? hz6)).2
  have a6 := atI_nat (show (zs.map V.str)[6]? = some (.str z6) by rw [List.getElem?_map, hz6]; rfl)
  have six : ∀ {G : Hp} {Q' : VK}, SqL K G pN (zs.map V.str) → Q' (.str z6) G → rIx K (.ref pN) (.int 6) G Q' := fun {G Q'} h q' => .inl ⟨pN, _, _, .str z6, rfl, rfl, h, a6, q'⟩
  refine ⟨.ref a, rfl, a, ns, 1, rfl, s1.seq hS, h63, by decide, fun c1 => ⟨.ref pN, rfl, c1, pN, zs, rfl, SqL.of e1, by omega, fun z h => (hz z h).2, fun xs ms R H2 hR hm s2 np2 e2 => ?_⟩⟩
  have s12 := s1.trans s2
  refine ⟨.ref R, rfl, .ref pN, rfl, six (SqL.of (s2 _ _ e1)) ⟨.ref a, rfl, a, ns, 2, rfl, s12.seq hS, h63, by decide, fun c2 => ⟨R, z6, c2, xs, ms, rfl, e2, hR, hm, lz6, fun os O H3 lo ho s3 np3 e3 => ?_⟩⟩⟩
  have s13 := s12.trans s3
  refine ⟨Nat.zero_le _, fun S nS => ?_⟩
  have s4 := same_new (o := .lst ([] : List V)) nS
  have s14 := s13.trans s4
  refine ⟨.ref a, rfl, a, ns, 3, rfl, s14.seq hS, h63, by decide, fun c3 => ⟨c3, rfl, _, _, rfl, rfl, (by decide : (0 : Int) < 5), _, rfl, by omega, by omega, ?_⟩⟩
  have eR3 := s3 _ _ e2
  have eN3 := s3 _ _ (s2 _ _ e1)
  have nS0 : H S = none := s13.free nS
  refine for_range (lo := 0) (n := (c3 % 5).toNat) (fun i σ H5 => ∃ (v5 v6 : Option V) (ys : List V) (dss : List (List (Str × Nat))), σ = [some (.ref a), some (.ref pN), some (.ref R), some (.ref O), some (.ref S), v5, v6, none, none, none, none, none] ∧ Same H3 H5 ∧
    H5 S = some (.lst ys) ∧ Sents H5 ys dss ∧ ys.length = i) ⟨none, none, [], [], rfl, s4, upd_same, .nil, rfl⟩ ?_ ?_
  · rintro i σ H5 hi ⟨v5, v6, ys, dss, rfl, s5, eS, hT, ly⟩
    have i5 : i < 5 := by omega
    have s15 := s13.trans s5
    refine ⟨.ref a, rfl, a, ns, 3, rfl, s15.seq hS, h63, by decide, fun c4 => ⟨.int (0 + (i : Nat)), rfl, _, _, rfl, rfl, .inl ⟨by decide, by decide⟩, _, _, rfl, rfl, _, _, rfl, rfl, divW (by omega) (by omega), _, rfl, _, _, rfl, rfl, (by decide : (0 : Int) < 4), _, _, rfl, rfl, ?_⟩⟩
    have g0 := Int.emod_nonneg (c4 / (5 + 7 * (0 + (i : Int)))) (show (4 : Int) ≠ 0 by decide)
    have g1 := Int.emod_lt_of_pos (c4 / (5 + 7 * (0 + (i : Int)))) (show (0 : Int) < 4 by decide)
    dsimp only
    generalize c4 / (5 + 7 * (0 + (i : Int))) % 4 = g at g0 g1 ⊢
    obtain ⟨n, hn, hn4⟩ : ∃ n : Nat, 1 + g = n ∧ n ≤ 4 := ⟨(1 + g).toNat, by omega, by omega⟩
    rw [hn]
    refine ⟨_, rfl, .inl ⟨rfl, _, .inl (.inl eS)⟩, _, rfl, .ref a, rfl, .int (0 + (i : Nat)), rfl, _, _, rfl, rfl, a, ns, 4 + i, by rw [Int.zero_add]; rfl, s15.seq hS, h63, by omega, fun c5 => ?_⟩
    refine ⟨_, rfl, .ref O, rfl, c5, n, 5, O, os, rfl, SqL.of (s5 _ _ e3), by omega, hn4, by decide, by decide, fun y hy => let ⟨ar, h⟩ := ho y hy; ⟨ar, h.tup (Same.tup s5)⟩, fun t H6 ht hA s6 => ?_⟩
    refine ⟨(by show 2 ≤ sizeLine; decide), fun tt nt => ?_⟩
    have s7 := same_new (o := .tup [V.int n, t.root]) nt
    have eS7 := s7 _ _ (s6 _ _ eS)
    obtain ⟨ds, hds⟩ := atms_of t hA
    have tu : TupSame H6 _ := (Same.tup s7).trans (tup_upd (u := .lst (ys ++ [.ref tt])) eS7)
    refine ⟨S, _, _, rfl, rfl, eS7, line6 (by omega), _, _, ys ++ [.ref tt], dss ++ [ds], rfl, fun b u e => ?_, upd_same, (hT.tup ((Same.tup s6).trans tu)).snoc ⟨tt, n, t, rfl, tup_upd eS7 _ _ upd_same, t.at_tup tu hA, by omega, hds.tup tu⟩, by simp [ly]⟩
    rw [upd_ne (ne_of_none e nS)]
    exact s7 _ _ (s6 _ _ (s5 b u e))
  rintro σ H5 ⟨v5, v6, ys, dss, rfl, s5, eS, hT, ly⟩
  have ly5 : ys.length ≤ 5 := by omega
  have hR5 := hR.tup (Same.tup (s3.trans s5))
  have eR5 := s5 _ _ eR3
  have eN5 := s5 _ _ eN3
  have m10 : ms.length ≤ 10 := by omega
  refine ⟨_, rfl, _, rfl, R, S, xs, ys, ms, dss, rfl, SqL.of eR5, SqL.of eS, hR5, hT, m10, fun W H7 s7 np7 e7 => ?_⟩
  obtain ⟨wd, z, ew, hw⟩ := tellW_two (wrongW ms dss)
  rw [ew] at e7
  have hR7 := hR5.tup (Same.tup s7)
  have hT7 := hT.tup (Same.tup s7)
  have eR7 := s7 _ _ eR5
  have eS7 := s7 _ _ eS
  have eN7 := s7 _ _ eN5
  refine ⟨_, rfl, _, rfl, R, S, xs, ys, ms, dss, rfl, SqL.of eR7, SqL.of eS7, hR7, hT7, m10, fun U H8 s8 np8 e8 => ?_⟩
  rw [ew] at e8
  have e7' := s8 _ _ e7
  refine ⟨_, rfl, .inr (.inl ⟨W, _, 0, .str wd, rfl, rfl, SqT.of e7', atI_nat (j := 0) rfl, _, rfl, .inr (.inl ⟨W, _, 1, .str z, rfl, rfl, SqT.of e7', atI_nat (j := 1) rfl, (by show 3 ≤ sizeLine; decide), fun T nT => ?_⟩)⟩)⟩
  have s9 := same_new (o := .tup [V.str wd, .str z, .bl true]) nT
  refine ⟨.ref U, .ref T, .tuple [.str wd, .str z, .bool true], rfl, .tup (SqT.of (s9 _ _ e8)) (.cons (.str _) (.cons (.str _) (.cons (.bl _) .nil))), .tup (SqT.of upd_same) (.cons (.str _) (.cons (.str _) (.cons (.bl _) .nil))), pl_tup (by simp) (fun e he => ?_), fun H10 s10 => ⟨true, rfl, iteF ?_⟩⟩
  · simp only [List.mem_cons, List.not_mem_nil, or_false] at he
    rcases he with rfl | rfl | rfl <;> trivial
  have s7a := s8.trans (s9.trans s10)
  have e7a := s7a _ _ e7
  refine ⟨_, rfl, .inr (.inl ⟨W, _, 0, .str wd, rfl, rfl, SqT.of e7a, atI_nat (j := 0) rfl, rfl, _, rfl, ite2 (fun _ => q _) (fun c => ?_)⟩)⟩
  have wr : wrongW ms dss = none := hw.mp (Classical.byContradiction fun y => c (by simpa using y))
  clear hw ew c
  have hRa := hR7.tup (Same.tup s7a)
  have hTa := hT7.tup (Same.tup s7a)
  have eRa := s7a _ _ eR7
  have eSa := s7a _ _ eS7
  have eNa := s7a _ _ eN7
  refine ⟨_, rfl, R, xs, rfl, .inl (SqL.of eRa), fun F1 nF1 => ?_⟩
  have t1 := same_new (o := .lst xs) nF1
  refine ⟨_, rfl, S, ys, rfl, .inl (SqL.of (t1 _ _ eSa)), fun F2 nF2 => ?_⟩
  have t2 := same_new (o := .lst ys) nF2
  refine ⟨_, rfl, _, rfl, fun x dx nx ndx dne => ?_⟩
  have t3 : Same (upd (upd H10 F1 (.lst xs)) F2 (.lst ys)) (upd (upd (upd (upd H10 F1 (.lst xs)) F2 (.lst ys)) dx (.own x)) x (.ins CK dx [])) := fun c u e => by
    rw [upd_ne (ne_of_none e nx), upd_ne (ne_of_none e ndx)]
    exact e
  have t13 := t1.trans (t2.trans t3)
  refine ⟨x, dx, F1, F2, xs, ys, ms, dss, rfl, upd_same, SqL.of (t3 _ _ (t2 _ _ upd_same)), SqL.of (t3 _ _ upd_same), hRa.tup (Same.tup t13), hTa.tup (Same.tup t13), m10, ?_, ?_, ?_, ?_⟩
  · intro _ p1 p2 H11 sb m1 m2 m12 k1 k2 k3
    have nx10 : H10 x = none := (t1.trans t2).free nx
    have same11 : Same H10 H11 := fun c u e => sb c u (ne_of_none e nx10) (t13 c u e)
    have xF1 : F1 ≠ x := ne_of_none (t2 _ _ upd_same) nx
    have xF2 : F2 ≠ x := ne_of_none upd_same nx
    have eF1 : H11 F1 = some (.lst xs) := sb _ _ xF1 (t3 _ _ (t2 _ _ upd_same))
    have eF2 : H11 F2 = some (.lst ys) := sb _ _ xF2 (t3 _ _ upd_same)
    have xs6 : xs.length ≤ 6 := by
      have := hR.1
      omega
    have hRb := hRa.tup (Same.tup same11)
    have hTb := hTa.tup (Same.tup same11)
    obtain ⟨d1, dA, dB, dP⟩ := same_lists (K := K) hRb.data (by omega) (SqL.of eF1) (SqL.of (same11 _ _ eRa))
    refine ⟨rfl, _, rfl, _, rfl, .ref F1, .ref R, d1, rfl, dA, dB, dP, fun H12 s12 => ⟨true, rfl, iteF ?_⟩⟩
    have hTc := hTb.tup (Same.tup s12)
    obtain ⟨d2, dC, dD, dQ⟩ := same_lists (K := K) hTc.data (by omega) (SqL.of (s12 _ _ eF2)) (SqL.of (s12 _ _ (same11 _ _ eSa)))
    refine ⟨_, rfl, _, rfl, .ref F2, .ref S, d2, rfl, dC, dD, dQ, fun H13 s13 => ⟨true, rfl, iteF ?_⟩⟩
    have sj := s12.trans s13
    have fF1 := sj _ _ eF1
    have fF2 := sj _ _ eF2
    have fN := sj _ _ (same11 _ _ eNa)
    have fR := sj _ _ (same11 _ _ eRa)
    have fS := sj _ _ (same11 _ _ eSa)
    have fx := sj _ _ k1
    have fp1 := sj _ _ k2
    have fp2 := sj _ _ k3
    have hRd := hRb.tup (Same.tup sj)
    have hTd := hTb.tup (Same.tup sj)
    clear dA dB dP dC dD dQ
    -- first_list.append
    refine ⟨_, rfl, .inl ⟨rfl, _, .inl (.inl fF1)⟩, _, rfl, six (SqL.of fN) ⟨(by show 4 ≤ sizeLine; decide), fun t nt => ?_⟩⟩
    have st := same_new (o := .tup [V.str z6, .int 1, .int 2, .bl true]) nt
    refine ⟨F1, _, _, rfl, rfl, st _ _ fF1, line6 (by omega), ?_⟩
    have F12 : F1 ≠ F2 := ne_of_none upd_same nF2
    have gF2 : (upd (upd H13 t (.tup [V.str z6, .int 1, .int 2, .bl true])) F1 (.lst (xs ++ [.ref t]))) F2 = some (.lst ys) := by
      rw [upd_ne F12.symm]
      exact st _ _ fF2
    -- second_list.clear
    refine ⟨_, rfl, .inl ⟨rfl, _, .inl (.inl gF2)⟩, F2, _, rfl, rfl, gF2, ?_⟩
    have carry : ∀ c u, c ≠ F1 → c ≠ F2 → H13 c = some u → (upd (upd (upd H13 t (.tup [V.str z6, .int 1, .int 2, .bl true])) F1 (.lst (xs ++ [.ref t]))) F2 (.lst [])) c = some u := fun c u c1 c2 e => by
      rw [upd_ne c2, upd_ne c1]
      exact st _ _ e
    have away : ∀ c u, H10 c = some u → c ≠ F1 ∧ c ≠ F2 := fun c u e => ⟨ne_of_none e nF1, ne_of_none (t1 _ _ e) nF2⟩
    have tu : TupSame H13 (upd (upd (upd H13 t (.tup [V.str z6, .int 1, .int 2, .bl true])) F1 (.lst (xs ++ [.ref t]))) F2 (.lst [])) := (Same.tup st).trans ((tup_upd (st _ _ fF1)).trans (tup_upd gF2))
    have hN := carry _ _ (away _ _ eNa).1 (away _ _ eNa).2 fN
    have hRr := carry _ _ (away _ _ eRa).1 (away _ _ eRa).2 fR
    have hSs := carry _ _ (away _ _ eSa).1 (away _ _ eSa).2 fS
    have hx := carry _ _ xF1.symm xF2.symm fx
    have hp1 := carry _ _ (ne_of_none (t3 _ _ (t2 _ _ upd_same)) m1).symm (ne_of_none (t3 _ _ upd_same) m1).symm fp1
    have hp2 := carry _ _ (ne_of_none (t3 _ _ (t2 _ _ upd_same)) m2).symm (ne_of_none (t3 _ _ upd_same) m2).symm fp2
    have hRe := hRd.tup tu
    have hTe := hTd.tup tu
    generalize (upd (upd (upd H13 t (.tup [V.str z6, .int 1, .int 2, .bl true])) F1 (.lst (xs ++ [.ref t]))) F2 (.lst [])) = B0 at hN hRr hSs hx hp1 hp2 hRe hTe ⊢
    -- other
    refine ⟨_, rfl, six (SqL.of hN) ⟨(by show 4 ≤ sizeLine; decide), fun u1 nu1 => ⟨(by show 1 ≤ sizeLine; decide), fun L1 nL1 => ?_⟩⟩⟩
    have w1 := same_new (o := .tup [V.str z6, .int 2, .int 3, .bl false]) nu1
    have w2 := same_new (o := .lst [V.ref u1]) nL1
    refine ⟨(by show 1 ≤ sizeLine; decide), fun u2 nu2 => ⟨(by show 2 ≤ sizeLine; decide), fun u3 nu3 => ⟨(by show 1 ≤ sizeLine; decide), fun L2 nL2 y dy ny ndy dney => ?_⟩⟩⟩
    have w3 := same_new (o := .tup [V.str "true"]) nu2
    have w4 := same_new (o := .tup [V.int 1, .ref u2]) nu3
    have w5 := same_new (o := .lst [V.ref u3]) nL2
    have w12 := w1.trans w2
    have w35 := w3.trans (w4.trans w5)
    have w15 := w12.trans w35
    have fu1 := w35 _ _ (w2 _ _ upd_same)
    have fL1 := w35 _ _ (upd_same (H := upd B0 u1 (.tup [V.str z6, .int 2, .int 3, .bl false])) (a := L1) (o := .lst [V.ref u1]))
    have fu2 := w5 _ _ (w4 _ _ (upd_same (a := u2) (o := .tup [V.str "true"])))
    have fu3 := w5 _ _ (upd_same (a := u3) (o := .tup [V.int 1, .ref u2]))
    have fL2 := upd_same (H := upd (upd (upd (upd B0 u1 (.tup [V.str z6, .int 2, .int 3, .bl false])) L1 (.lst [V.ref u1])) u2 (.tup [V.str "true"])) u3 (.tup [V.int 1, .ref u2])) (a := L2) (o := .lst [V.ref u3])
    clear w35 w12 w5 w4 w3 w2 w1 nL2
    generalize (upd (upd (upd (upd (upd B0 u1 (.tup [V.str z6, .int 2, .int 3, .bl false])) L1 (.lst [V.ref u1])) u2 (.tup [V.str "true"])) u3 (.tup [V.int 1, .ref u2])) L2 (.lst [V.ref u3])) = B5 at w15 fu1 fL1 fu2 fu3 fL2 ny ndy ⊢
    have w6 : Same B5 (upd (upd B5 dy (.own y)) y (.ins CK dy [])) := fun c u e => by
      rw [upd_ne (ne_of_none e ny), upd_ne (ne_of_none e ndy)]
      exact e
    have rl : Rels (upd (upd B5 dy (.own y)) y (.ins CK dy [])) [V.ref u1] [(z6, 2)] := Rels.nil.snoc ⟨u1, 3, false, rfl, w6 _ _ fu1, (by decide : (1 : Int) ≤ 2), (by decide : (2 : Int) ≤ 3), by decide, by show z6.length ≤ 300000; omega⟩
    have sl : Sents (upd (upd B5 dy (.own y)) y (.ins CK dy [])) [V.ref u3] [[]] := Sents.nil.snoc ⟨u3, 1, .con (.ref u2), rfl, w6 _ _ fu3, ⟨u2, "true", rfl, by decide, w6 _ _ fu2⟩, (by show 1 ≤ 20; decide), ⟨rfl, fun i x d h => by simp [Fm.atoms] at h⟩⟩
    have wo : wrongW [(z6, 2)] [[]] = none := by simp [wrongW, dupF, sentsW, atomsW]
    refine ⟨y, dy, L1, L2, [.ref u1], [.ref u3], [(z6, 2)], [[]], rfl, upd_same, SqL.of (w6 _ _ fL1), SqL.of (w6 _ _ fL2), rl, sl, (by show 1 ≤ 10; decide), ?_, ?_, ?_, ?_⟩
    · intro _ r1 r2 H14 sb2 n1 n2 n12 j1 j2 j3
      have v1 : Same B0 H14 := fun c u e => sb2 c u (ne_of_none (w15 _ _ e) ny) (w6 _ _ (w15 _ _ e))
      have v5 : Same B5 H14 := fun c u e => sb2 c u (ne_of_none e ny) (w6 _ _ e)
      have hRf := hRe.tup (Same.tup v1)
      obtain ⟨e1, dA, dB, dP⟩ := same_lists (K := K) hRf.data (by omega) (SqL.of (v1 _ _ hp1)) (SqL.of (v1 _ _ hRr))
      have lkR : ∀ g1 g2 : Addr, (kindF g1 g2).lookup ("relations" : Str) = some (V.ref g1) := fun g1 g2 => by
        unfold kindF
        rw [lookup_putF, if_neg (by decide), lookup_putF, if_pos rfl]
      have lkS : ∀ g1 g2 : Addr, (kindF g1 g2).lookup ("sentences" : Str) = some (V.ref g2) := fun g1 g2 => by
        unfold kindF
        rw [lookup_putF, if_pos rfl]
      refine ⟨rfl, _, rfl, x, CK, dx, kindF p1 p2, .ref p1, rfl, v1 _ _ hx, T_Kind.cl, T_Kind.nR, lkR _ _, _, rfl, .ref p1, .ref R, e1, rfl, dA, dB, dP, fun H15 s15 => ⟨true, rfl, iteF ?_⟩⟩
      have hTf := (hTe.tup (Same.tup v1)).tup (Same.tup s15)
      have v15 := v1.trans s15
      obtain ⟨e2, dC, dD, dQ⟩ := same_lists (K := K) hTf.data (by omega) (SqL.of (v15 _ _ hp2)) (SqL.of (v15 _ _ hSs))
      refine ⟨_, rfl, x, CK, dx, kindF p1 p2, .ref p2, rfl, v15 _ _ hx, T_Kind.cl, T_Kind.nS, lkS _ _, _, rfl, .ref p2, .ref S, e2, rfl, dC, dD, dQ, fun H16 s16 => ⟨true, rfl, iteF ?_⟩⟩
      have v16 := v15.trans s16
      have o16 := s15.trans s16
      have v5a := v5.trans o16
      have tr : ∀ {G : Hp} {u : Addr}, G u = some (.tup [V.str z6, .int 2, .int 3, .bl false]) → Dp K G (.ref u) (.tuple [.str z6, .int 2, .int 3, .bool false]) := fun h => .tup (SqT.of h) (.cons (.str _) (.cons (.int _) (.cons (.int _) (.cons (.bl _) .nil))))
      refine ⟨_, rfl, y, CK, dy, kindF r1 r2, .ref r1, rfl, o16 _ _ j1, T_Kind.cl, T_Kind.nR, lkR _ _, _, rfl, six (SqL.of (v16 _ _ hN)) ⟨(by show 4 ≤ sizeLine; decide), fun u4 nu4 => ⟨(by show 1 ≤ sizeLine; decide), fun L3 nL3 => ?_⟩⟩⟩
      have x1 := same_new (o := .tup [V.str z6, .int 2, .int 3, .bl false]) nu4
      have x2 := same_new (o := .lst [V.ref u4]) nL3
      have x12 := x1.trans x2
      refine ⟨.ref r1, .ref L3, .list [.tuple [.str z6, .int 2, .int 3, .bool false]], rfl, .lst (SqL.of (x12 _ _ (o16 _ _ j2))) (.cons (tr (x12 _ _ (v5a _ _ fu1))) .nil), .lst (SqL.of upd_same) (.cons (tr (x2 _ _ upd_same)) .nil), ⟨by simp, fun e he => ?_⟩, fun H17 s17 => ⟨true, rfl, iteT ?_⟩⟩
      · rw [List.mem_singleton.mp he]
        refine pl_tup (by simp) fun e he => ?_
        simp only [List.mem_cons, List.not_mem_nil, or_false] at he
        rcases he with rfl | rfl | rfl | rfl <;> trivial
      have o17 := o16.trans (x12.trans s17)
      have v5b := v5a.trans (x12.trans s17)
      have ts : ∀ {G : Hp} {u u' : Addr}, G u = some (.tup [V.int 1, .ref u']) → G u' = some (.tup [V.str "true"]) → Dp K G (.ref u) (.tuple [.int 1, .tuple [.str "true"]]) := fun h h' => .tup (SqT.of h) (.cons (.int _) (.cons (.tup (SqT.of h') (.cons (.str _) .nil)) .nil))
      refine ⟨_, rfl, y, CK, dy, kindF r1 r2, .ref r2, rfl, o17 _ _ j1, T_Kind.cl, T_Kind.nS, lkS _ _, (by show 1 ≤ sizeLine; decide), fun u5 nu5 => ⟨(by show 2 ≤ sizeLine; decide), fun u6 nu6 => ⟨(by show 1 ≤ sizeLine; decide), fun L4 nL4 => ?_⟩⟩⟩
      have y1 := same_new (o := .tup [V.str "true"]) nu5
      have y2 := same_new (o := .tup [V.int 1, .ref u5]) nu6
      have y3 := same_new (o := .lst [V.ref u6]) nL4
      have y13 := y1.trans (y2.trans y3)
      refine ⟨.ref r2, .ref L4, .list [.tuple [.int 1, .tuple [.str "true"]]], rfl, .lst (SqL.of (y13 _ _ (o17 _ _ j3))) (.cons (ts (y13 _ _ (v5b _ _ fu3)) (y13 _ _ (v5b _ _ fu2))) .nil), .lst (SqL.of upd_same) (.cons (ts (y3 _ _ upd_same) (y3 _ _ (y2 _ _ upd_same))) .nil), ⟨by simp, fun e he => ?_⟩, fun H18 _ => q H18⟩
      rw [List.mem_singleton.mp he]
      refine pl_tup (by simp) fun e he => ?_
      simp only [List.mem_cons, List.not_mem_nil, or_false] at he
      rcases he with rfl | rfl
      · trivial
      · exact pl_tup (by simp) fun e he => by
          rw [List.mem_singleton.mp he]
          trivial
    all_goals exact fun z hz => absurd (wo.symm.trans hz) (by simp)
  all_goals exact fun z hz => absurd (wr.symm.trans hz) (by simp)
end
end Nz
namespace Nz
open PySem PySem.Spec PyProof.Rows L2
/-! ### what the top has left; the end -/
set_option maxHeartbeats 4000000 in
theorem all_mk {l : PySem.W.OpenLaw} {w : World} {K : PySem.W.Frag} {h : Heap} {mg : Str → Option Value} {fa CC CS CU CD CA CT CI CK f1 f2 f3 f4 f5 f6 f7 f8 f9 f10 f11 f12 f13 f14 f15 f16 f17 f18 f19 : Addr} (X : K.In h) (G : h.Ns mainGlobals mg) (hfa : mg "law" = some (.ref fa))
    {od1 an1 od2 an2 od3 an3 od4 an4 od5 an5 od6 an6 od7 an7 od8 an8 od9 an9 od10 an10 od11 an11 od12 an12 od13 an13 od14 an14 od15 an15 od16 an16 od17 an17 od18 an18 od19 an19 : Option Addr} {sl1 sl2 sl3 sl4 sl5 sl6 sl7 sl8 sl9 sl10 sl11 sl12 sl13 sl14 sl15 sl16 sl17 sl18 sl19 : Array (Option Value)} {oc1 kV1 dc1 pm1 cd1 ct1 oc2 kV2 dc2 pm2 cd2 ct2 oc3 kV3 dc3 pm3 cd3 ct3 oc4 kV4 dc4 pm4 cd4 ct4 oc5 kV5 dc5 pm5 cd5 ct5 oc6 kV6 dc6 pm6 cd6 ct6 oc7 kV7 dc7 pm7 cd7 ct7 oc8 kV8 dc8 pm8 cd8 ct8 oc9 kV9 dc9 pm9 cd9 ct9 oc10 kV10 dc10 pm10 cd10 ct10 oc11 kV11 dc11 pm11 cd11 ct11 oc12 kV12 dc12 pm12 cd12 ct12 oc13 kV13 dc13 pm13 cd13 ct13 oc14 kV14 dc14 pm14 cd14 ct14 oc15 kV15 dc15 pm15 cd15 ct15 oc16 kV16 dc16 pm16 cd16 ct16 oc17 kV17 dc17 pm17 cd17 ct17 oc18 kV18 dc18 pm18 cd18 ct18 oc19 kV19 dc19 pm19 cd19 ct19 : Value}
    {nmCU qCU : Str} {NCU : Addr} {bsCU : List Value} {snCU : List Str} {subCU : List Value} {abCU : Bool} {colCU : Option Bool} {ddCU : Option Addr} {m0CU m1CU m2CU m3CU m5CU : Option Value}
    {nmCD qCD : Str} {NCD : Addr} {bsCD : List Value} {snCD : List Str} {subCD : List Value} {abCD : Bool} {colCD : Option Bool} {ddCD : Option Addr} {m0CD m1CD m2CD m3CD m5CD : Option Value}
    {nmCA qCA : Str} {NCA : Addr} {bsCA : List Value} {snCA : List Str} {subCA : List Value} {abCA : Bool} {colCA : Option Bool} {ddCA : Option Addr} {m0CA m1CA m2CA m3CA m5CA : Option Value}
    (aCC : PySem.W.nsIn K mainGlobals "CensusError" = some (some (.ref CC)))
    (aCS : PySem.W.nsIn K mainGlobals "SyntaxFault" = some (some (.ref CS)))
    (aCU : PySem.W.nsIn K mainGlobals "UnknownName" = some (some (.ref CU)))
    (aCD : PySem.W.nsIn K mainGlobals "DuplicateName" = some (some (.ref CD)))
    (aCA : PySem.W.nsIn K mainGlobals "WrongArity" = some (some (.ref CA)))
    (aCT : PySem.W.nsIn K mainGlobals "TooManyLayers" = some (some (.ref CT)))
    (aCI : PySem.W.nsIn K mainGlobals "InvalidPaper" = some (some (.ref CI)))
    (aCK : PySem.W.nsIn K mainGlobals "Kind" = some (some (.ref CK)))
    (tyCC : PySem.W.typeIn K (.ref CC) = some (.type "type"))
    (bxCC : PySem.W.subIn K (.ref CC) (.type "BaseException") = some true)
    (hdCC : PySem.W.hasDictIn K CC = true)
    (tyCS : PySem.W.typeIn K (.ref CS) = some (.type "type"))
    (bxCS : PySem.W.subIn K (.ref CS) (.type "BaseException") = some true)
    (hdCS : PySem.W.hasDictIn K CS = true)
    (tyCU : PySem.W.typeIn K (.ref CU) = some (.type "type"))
    (bxCU : PySem.W.subIn K (.ref CU) (.type "BaseException") = some true)
    (hdCU : PySem.W.hasDictIn K CU = true)
    (tyCD : PySem.W.typeIn K (.ref CD) = some (.type "type"))
    (bxCD : PySem.W.subIn K (.ref CD) (.type "BaseException") = some true)
    (hdCD : PySem.W.hasDictIn K CD = true)
    (tyCA : PySem.W.typeIn K (.ref CA) = some (.type "type"))
    (bxCA : PySem.W.subIn K (.ref CA) (.type "BaseException") = some true)
    (hdCA : PySem.W.hasDictIn K CA = true)
    (tyCT : PySem.W.typeIn K (.ref CT) = some (.type "type"))
    (bxCT : PySem.W.subIn K (.ref CT) (.type "BaseException") = some true)
    (hdCT : PySem.W.hasDictIn K CT = true)
    (tyCI : PySem.W.typeIn K (.ref CI) = some (.type "type"))
    (bxCI : PySem.W.subIn K (.ref CI) (.type "BaseException") = some true)
    (hdCI : PySem.W.hasDictIn K CI = true)
    (rdCC : PySem.W.readsIn K CC (.type "type") = true)
    (gaCC : PySem.W.specialIn K (.ref CC) "__getattribute__" = some (some (.builtin "type.__getattribute__")))
    (fiCC : PySem.W.findCls K (.ref CC) (.type "type") "__init__" = some (.val (.builtin "ValueError.__init__")))
    (xCU : K.lookup CU = some (excClassObj nmCU qCU CU NCU bsCU [.ref CC, .type "ValueError", .type "Exception", .type "BaseException", .type "object"] true snCU subCU abCU colCU ddCU m0CU m1CU m2CU m3CU m5CU "ValueError.__new__"))
    (saCU : PySem.W.findIn K (.ref CU) "__setattr__" = some (some (.builtin "object.__setattr__")))
    (kcCU : PySem.W.keepIn K (.ref CU) = true)
    (noCU : PySem.W.findIn K (.ref CU) "name" = some none)
    (gaCU : PySem.W.findIn K (.ref CU) "__getattribute__" = some (some (.builtin "BaseException.__getattribute__")))
    (ggCU : PySem.W.findIn K (.ref CU) "__getattr__" = some none)
    (haCU : PySem.W.findIn K (.ref CU) "__class__" = some (some (.builtin "object.__class__")))
    (hmCU : PySem.W.mroIn K CU (.type "object") = some true)
    (meCU : PySem.W.subIn K (.ref CU) (.ref CU) = some true)
    (veCU : PySem.W.subIn K (.ref CU) (.type "ValueError") = some true)
    (sCUCC : PySem.W.subIn K (.ref CU) (.ref CC) = some true)
    (sCUCS : PySem.W.subIn K (.ref CU) (.ref CS) = some false)
    (sCUCD : PySem.W.subIn K (.ref CU) (.ref CD) = some false)
    (sCUCA : PySem.W.subIn K (.ref CU) (.ref CA) = some false)
    (sCUCT : PySem.W.subIn K (.ref CU) (.ref CT) = some false)
    (sCUCI : PySem.W.subIn K (.ref CU) (.ref CI) = some false)
    (xCD : K.lookup CD = some (excClassObj nmCD qCD CD NCD bsCD [.ref CC, .type "ValueError", .type "Exception", .type "BaseException", .type "object"] true snCD subCD abCD colCD ddCD m0CD m1CD m2CD m3CD m5CD "ValueError.__new__"))
    (saCD : PySem.W.findIn K (.ref CD) "__setattr__" = some (some (.builtin "object.__setattr__")))
    (kcCD : PySem.W.keepIn K (.ref CD) = true)
    (noCD : PySem.W.findIn K (.ref CD) "name" = some none)
    (gaCD : PySem.W.findIn K (.ref CD) "__getattribute__" = some (some (.builtin "BaseException.__getattribute__")))
    (ggCD : PySem.W.findIn K (.ref CD) "__getattr__" = some none)
    (haCD : PySem.W.findIn K (.ref CD) "__class__" = some (some (.builtin "object.__class__")))
    (hmCD : PySem.W.mroIn K CD (.type "object") = some true)
    (meCD : PySem.W.subIn K (.ref CD) (.ref CD) = some true)
    (veCD : PySem.W.subIn K (.ref CD) (.type "ValueError") = some true)
    (sCDCC : PySem.W.subIn K (.ref CD) (.ref CC) = some true)
    (sCDCS : PySem.W.subIn K (.ref CD) (.ref CS) = some false)
    (sCDCU : PySem.W.subIn K (.ref CD) (.ref CU) = some false)
    (sCDCA : PySem.W.subIn K (.ref CD) (.ref CA) = some false)
    (sCDCT : PySem.W.subIn K (.ref CD) (.ref CT) = some false)
    (sCDCI : PySem.W.subIn K (.ref CD) (.ref CI) = some false)
    (xCA : K.lookup CA = some (excClassObj nmCA qCA CA NCA bsCA [.ref CC, .type "ValueError", .type "Exception", .type "BaseException", .type "object"] true snCA subCA abCA colCA ddCA m0CA m1CA m2CA m3CA m5CA "ValueError.__new__"))
    (saCA : PySem.W.findIn K (.ref CA) "__setattr__" = some (some (.builtin "object.__setattr__")))
    (kcCA : PySem.W.keepIn K (.ref CA) = true)
    (noCA : PySem.W.findIn K (.ref CA) "name" = some none)
    (gaCA : PySem.W.findIn K (.ref CA) "__getattribute__" = some (some (.builtin "BaseException.__getattribute__")))
    (ggCA : PySem.W.findIn K (.ref CA) "__getattr__" = some none)
    (haCA : PySem.W.findIn K (.ref CA) "__class__" = some (some (.builtin "object.__class__")))
    (hmCA : PySem.W.mroIn K CA (.type "object") = some true)
    (meCA : PySem.W.subIn K (.ref CA) (.ref CA) = some true)
    (veCA : PySem.W.subIn K (.ref CA) (.type "ValueError") = some true)
    (sCACC : PySem.W.subIn K (.ref CA) (.ref CC) = some true)
    (sCACS : PySem.W.subIn K (.ref CA) (.ref CS) = some false)
    (sCACU : PySem.W.subIn K (.ref CA) (.ref CU) = some false)
    (sCACD : PySem.W.subIn K (.ref CA) (.ref CD) = some false)
    (sCACT : PySem.W.subIn K (.ref CA) (.ref CT) = some false)
    (sCACI : PySem.W.subIn K (.ref CA) (.ref CI) = some false)
    (ocG : PySem.W.specialIn K (.builtin "object.__class__") "__get__" = some (some (.builtin "getset_descriptor.__get__")))
    (ocT : PySem.W.takesIn K (.builtin "object.__class__") = some true)
    (pgK : PySem.W.plainGet K CK Str.empty = true)
    (hdK : PySem.W.hasDictIn K CK = true)
    (poK : PySem.W.plainOver K CK = true)
    (saK : PySem.W.findIn K (.ref CK) "__setattr__" = some (some (.builtin "object.__setattr__")))
    (mkK : PySem.W.makesIn K CK = true)
    (kcK : PySem.W.keepIn K (.ref CK) = true)
    (nR : PySem.W.findIn K (.ref CK) "relations" = some none)
    (nS : PySem.W.findIn K (.ref CK) "sentences" = some none)
    (a1 : PySem.W.nsIn K mainGlobals "atoms_of" = some (some (.ref f1)))
    (l1 : K.lookup f1 = some ⟨oc1, od1, .func (PySem.W.fnOf "atoms_of" "atoms_of" (defArgs s_atoms_of) (defBody s_atoms_of) (defScope s_atoms_of) .none kV1 dc1 pm1 an1 cd1 ct1), sl1⟩)
    (c1 : PySem.W.codeIn K cd1 "atoms_of" = true)
    (k1 : PySem.W.keepIn K (.ref f1) = true)
    (a2 : PySem.W.nsIn K mainGlobals "check_names" = some (some (.ref f2)))
    (l2 : K.lookup f2 = some ⟨oc2, od2, .func (PySem.W.fnOf "check_names" "check_names" (defArgs s_check_names) (defBody s_check_names) (defScope s_check_names) .none kV2 dc2 pm2 an2 cd2 ct2), sl2⟩)
    (c2 : PySem.W.codeIn K cd2 "check_names" = true)
    (k2 : PySem.W.keepIn K (.ref f2) = true)
    (a3 : PySem.W.nsIn K mainGlobals "check_atoms" = some (some (.ref f3)))
    (l3 : K.lookup f3 = some ⟨oc3, od3, .func (PySem.W.fnOf "check_atoms" "check_atoms" (defArgs s_check_atoms) (defBody s_check_atoms) (defScope s_check_atoms) .none kV3 dc3 pm3 an3 cd3 ct3), sl3⟩)
    (c3 : PySem.W.codeIn K cd3 "check_atoms" = true)
    (k3 : PySem.W.keepIn K (.ref f3) = true)
    (a4 : PySem.W.nsIn K mainGlobals "_law_cell" = some (some (.ref f4)))
    (l4 : K.lookup f4 = some ⟨oc4, od4, .func (PySem.W.fnOf "_law_cell" "_law_cell" (defArgs s_cell) (defBody s_cell) (defScope s_cell) .none kV4 dc4 pm4 an4 cd4 ct4), sl4⟩)
    (c4 : PySem.W.codeIn K cd4 "_law_cell" = true)
    (k4 : PySem.W.keepIn K (.ref f4) = true)
    (a5 : PySem.W.nsIn K mainGlobals "_law_digits" = some (some (.ref f5)))
    (l5 : K.lookup f5 = some ⟨oc5, od5, .func (PySem.W.fnOf "_law_digits" "_law_digits" (defArgs s_digits) (defBody s_digits) (defScope s_digits) .none kV5 dc5 pm5 an5 cd5 ct5), sl5⟩)
    (c5 : PySem.W.codeIn K cd5 "_law_digits" = true)
    (k5 : PySem.W.keepIn K (.ref f5) = true)
    (a6 : PySem.W.nsIn K mainGlobals "_law_equal" = some (some (.ref f6)))
    (l6 : K.lookup f6 = some ⟨oc6, od6, .func (PySem.W.fnOf "_law_equal" "_law_equal" (defArgs s_equal) (defBody s_equal) (defScope s_equal) .none kV6 dc6 pm6 an6 cd6 ct6), sl6⟩)
    (c6 : PySem.W.codeIn K cd6 "_law_equal" = true)
    (k6 : PySem.W.keepIn K (.ref f6) = true)
    (a7 : PySem.W.nsIn K mainGlobals "_law_names" = some (some (.ref f7)))
    (l7 : K.lookup f7 = some ⟨oc7, od7, .func (PySem.W.fnOf "_law_names" "_law_names" (defArgs s_names) (defBody s_names) (defScope s_names) .none kV7 dc7 pm7 an7 cd7 ct7), sl7⟩)
    (c7 : PySem.W.codeIn K cd7 "_law_names" = true)
    (k7 : PySem.W.keepIn K (.ref f7) = true)
    (a8 : PySem.W.nsIn K mainGlobals "_law_relations" = some (some (.ref f8)))
    (l8 : K.lookup f8 = some ⟨oc8, od8, .func (PySem.W.fnOf "_law_relations" "_law_relations" (defArgs s_relations) (defBody s_relations) (defScope s_relations) .none kV8 dc8 pm8 an8 cd8 ct8), sl8⟩)
    (c8 : PySem.W.codeIn K cd8 "_law_relations" = true)
    (k8 : PySem.W.keepIn K (.ref f8) = true)
    (a9 : PySem.W.nsIn K mainGlobals "_law_some" = some (some (.ref f9)))
    (l9 : K.lookup f9 = some ⟨oc9, od9, .func (PySem.W.fnOf "_law_some" "_law_some" (defArgs s_some) (defBody s_some) (defScope s_some) .none kV9 dc9 pm9 an9 cd9 ct9), sl9⟩)
    (c9 : PySem.W.codeIn K cd9 "_law_some" = true)
    (k9 : PySem.W.keepIn K (.ref f9) = true)
    (a10 : PySem.W.nsIn K mainGlobals "_law_atom" = some (some (.ref f10)))
    (l10 : K.lookup f10 = some ⟨oc10, od10, .func (PySem.W.fnOf "_law_atom" "_law_atom" (defArgs s_atom) (defBody s_atom) (defScope s_atom) .none kV10 dc10 pm10 an10 cd10 ct10), sl10⟩)
    (c10 : PySem.W.codeIn K cd10 "_law_atom" = true)
    (k10 : PySem.W.keepIn K (.ref f10) = true)
    (a11 : PySem.W.nsIn K mainGlobals "_law_formula" = some (some (.ref f11)))
    (l11 : K.lookup f11 = some ⟨oc11, od11, .func (PySem.W.fnOf "_law_formula" "_law_formula" (defArgs s_formula) (defBody s_formula) (defScope s_formula) .none kV11 dc11 pm11 an11 cd11 ct11), sl11⟩)
    (c11 : PySem.W.codeIn K cd11 "_law_formula" = true)
    (k11 : PySem.W.keepIn K (.ref f11) = true)
    (a12 : PySem.W.nsIn K mainGlobals "_law_atoms" = some (some (.ref f12)))
    (l12 : K.lookup f12 = some ⟨oc12, od12, .func (PySem.W.fnOf "_law_atoms" "_law_atoms" (defArgs s_atoms) (defBody s_atoms) (defScope s_atoms) .none kV12 dc12 pm12 an12 cd12 ct12), sl12⟩)
    (c12 : PySem.W.codeIn K cd12 "_law_atoms" = true)
    (k12 : PySem.W.keepIn K (.ref f12) = true)
    (a13 : PySem.W.nsIn K mainGlobals "_law_kind_wrong" = some (some (.ref f13)))
    (l13 : K.lookup f13 = some ⟨oc13, od13, .func (PySem.W.fnOf "_law_kind_wrong" "_law_kind_wrong" (defArgs s_kind_wrong) (defBody s_kind_wrong) (defScope s_kind_wrong) .none kV13 dc13 pm13 an13 cd13 ct13), sl13⟩)
    (c13 : PySem.W.codeIn K cd13 "_law_kind_wrong" = true)
    (k13 : PySem.W.keepIn K (.ref f13) = true)
    (a14 : PySem.W.nsIn K mainGlobals "_law_outcome" = some (some (.ref f14)))
    (l14 : K.lookup f14 = some ⟨oc14, od14, .func (PySem.W.fnOf "_law_outcome" "_law_outcome" (defArgs s_outcome) (defBody s_outcome) (defScope s_outcome) .none kV14 dc14 pm14 an14 cd14 ct14), sl14⟩)
    (c14 : PySem.W.codeIn K cd14 "_law_outcome" = true)
    (k14 : PySem.W.keepIn K (.ref f14) = true)
    (a15 : PySem.W.nsIn K mainGlobals "law" = some (some (.ref f15)))
    (l15 : K.lookup f15 = some ⟨oc15, od15, .func (PySem.W.fnOf "law" "law" (defArgs s_law) (defBody s_law) (defScope s_law) .none kV15 dc15 pm15 an15 cd15 ct15), sl15⟩)
    (c15 : PySem.W.codeIn K cd15 "law" = true)
    (k15 : PySem.W.keepIn K (.ref f15) = true)
    (a16 : PySem.W.findIn K (.ref CU) "__init__" = some (some (.ref f16)))
    (t16 : PySem.W.typeIn K (.ref f16) = some (.type "function"))
    (l16 : K.lookup f16 = some ⟨oc16, od16, .func (PySem.W.fnOf "__init__" "UnknownName.__init__" (defArgs s_unk) (defBody s_unk) (defScope s_unk) .none kV16 dc16 pm16 an16 cd16 ct16), sl16⟩)
    (c16 : PySem.W.codeIn K cd16 "UnknownName.__init__" = true)
    (k16 : PySem.W.keepIn K (.ref f16) = true)
    (a17 : PySem.W.findIn K (.ref CD) "__init__" = some (some (.ref f17)))
    (t17 : PySem.W.typeIn K (.ref f17) = some (.type "function"))
    (l17 : K.lookup f17 = some ⟨oc17, od17, .func (PySem.W.fnOf "__init__" "DuplicateName.__init__" (defArgs s_dup) (defBody s_dup) (defScope s_dup) .none kV17 dc17 pm17 an17 cd17 ct17), sl17⟩)
    (c17 : PySem.W.codeIn K cd17 "DuplicateName.__init__" = true)
    (k17 : PySem.W.keepIn K (.ref f17) = true)
    (a18 : PySem.W.findIn K (.ref CA) "__init__" = some (some (.ref f18)))
    (t18 : PySem.W.typeIn K (.ref f18) = some (.type "function"))
    (l18 : K.lookup f18 = some ⟨oc18, od18, .func (PySem.W.fnOf "__init__" "WrongArity.__init__" (defArgs s_ari) (defBody s_ari) (defScope s_ari) .none kV18 dc18 pm18 an18 cd18 ct18), sl18⟩)
    (c18 : PySem.W.codeIn K cd18 "WrongArity.__init__" = true)
    (k18 : PySem.W.keepIn K (.ref f18) = true)
    (a19 : PySem.W.findIn K (.ref CK) "__init__" = some (some (.ref f19)))
    (i19 : PySem.W.isFn K (.ref f19) = true)
    (l19 : K.lookup f19 = some ⟨oc19, od19, .func (PySem.W.fnOf "__init__" "Kind.__init__" (defArgs s_kind) (defBody s_kind) (defScope s_kind) .none kV19 dc19 pm19 an19 cd19 ct19), sl19⟩)
    (c19 : PySem.W.codeIn K cd19 "Kind.__init__" = true)
    (k19 : PySem.W.keepIn K (.ref f19) = true)
    (z_all : PySem.W.nsIn K mainGlobals "all" = some none)
    (z_bool : PySem.W.nsIn K mainGlobals "bool" = some none)
    (z_int : PySem.W.nsIn K mainGlobals "int" = some none)
    (z_isinstance : PySem.W.nsIn K mainGlobals "isinstance" = some none)
    (z_len : PySem.W.nsIn K mainGlobals "len" = some none)
    (z_list : PySem.W.nsIn K mainGlobals "list" = some none)
    (z_min : PySem.W.nsIn K mainGlobals "min" = some none)
    (z_range : PySem.W.nsIn K mainGlobals "range" = some none)
    (z_str : PySem.W.nsIn K mainGlobals "str" = some none)
    (z_tuple : PySem.W.nsIn K mainGlobals "tuple" = some none)
    (z_set : PySem.W.nsIn K mainGlobals "set" = some none)
    (z_ValueError : PySem.W.nsIn K mainGlobals "ValueError" = some none) :
    ∃ fd : FuncData, (∀ (s : Shared) (v : Value), BindsTo s fd ⟨[v], []⟩ [("script", v)]) ∧ ∀ base : Heap, K.In base → base.Ns mainGlobals mg → FnOk l.prog w K mg base CX0 30 fa fd ["script"] (spLaw K) := by
  have e := hfa.symm.trans (PySem.W.mg_of X G a15)
  cases e
  have F1 := fun_mk (st := s_atoms_of) l1 c1 k1
  have g1 := PySem.W.mg_of X G a1
  have b1 := F1.binds (ps := ["formula"]) fun _ _ _ _ _ _ us hl => match us, hl with | [_], _ => rfl
  have F2 := fun_mk (st := s_check_names) l2 c2 k2
  have g2 := PySem.W.mg_of X G a2
  have b2 := F2.binds (ps := ["relations"]) fun _ _ _ _ _ _ us hl => match us, hl with | [_], _ => rfl
  have F3 := fun_mk (st := s_check_atoms) l3 c3 k3
  have g3 := PySem.W.mg_of X G a3
  have b3 := F3.binds (ps := ["relations", "formula"]) fun _ _ _ _ _ _ us hl => match us, hl with | [_, _], _ => rfl
  have F4 := fun_mk (st := s_cell) l4 c4 k4
  have g4 := PySem.W.mg_of X G a4
  have b4 := F4.binds (ps := ["script", "k"]) fun _ _ _ _ _ _ us hl => match us, hl with | [_, _], _ => rfl
  have F5 := fun_mk (st := s_digits) l5 c5 k5
  have g5 := PySem.W.mg_of X G a5
  have b5 := F5.binds (ps := ["cell", "many", "count"]) fun _ _ _ _ _ _ us hl => match us, hl with | [_, _, _], _ => rfl
  have F6 := fun_mk (st := s_equal) l6 c6 k6
  have g6 := PySem.W.mg_of X G a6
  have b6 := F6.binds (ps := ["actual", "expected"]) fun _ _ _ _ _ _ us hl => match us, hl with | [_, _], _ => rfl
  have F7 := fun_mk (st := s_names) l7 c7 k7
  have g7 := PySem.W.mg_of X G a7
  have b7 := F7.binds (ps := ["cell", "count"]) fun _ _ _ _ _ _ us hl => match us, hl with | [_, _], _ => rfl
  have F8 := fun_mk (st := s_relations) l8 c8 k8
  have g8 := PySem.W.mg_of X G a8
  have b8 := F8.binds (ps := ["cell", "names"]) fun _ _ _ _ _ _ us hl => match us, hl with | [_, _], _ => rfl
  have F9 := fun_mk (st := s_some) l9 c9 k9
  have g9 := PySem.W.mg_of X G a9
  have b9 := F9.binds (ps := ["relations", "stranger", "cell"]) fun _ _ _ _ _ _ us hl => match us, hl with | [_, _, _], _ => rfl
  have F10 := fun_mk (st := s_atom) l10 c10 k10
  have g10 := PySem.W.mg_of X G a10
  have b10 := F10.binds (ps := ["digit", "count", "relations"]) fun _ _ _ _ _ _ us hl => match us, hl with | [_, _, _], _ => rfl
  have F11 := fun_mk (st := s_formula) l11 c11 k11
  have g11 := PySem.W.mg_of X G a11
  have b11 := F11.binds (ps := ["cell", "count", "relations", "most"]) fun _ _ _ _ _ _ us hl => match us, hl with | [_, _, _, _], _ => rfl
  have F12 := fun_mk (st := s_atoms) l12 c12 k12
  have g12 := PySem.W.mg_of X G a12
  have b12 := F12.binds (ps := ["formula"]) fun _ _ _ _ _ _ us hl => match us, hl with | [_], _ => rfl
  have F13 := fun_mk (st := s_kind_wrong) l13 c13 k13
  have g13 := PySem.W.mg_of X G a13
  have b13 := F13.binds (ps := ["relations", "sentences"]) fun _ _ _ _ _ _ us hl => match us, hl with | [_, _], _ => rfl
  have F14 := fun_mk (st := s_outcome) l14 c14 k14
  have g14 := PySem.W.mg_of X G a14
  have b14 := F14.binds (ps := ["relations", "sentences"]) fun _ _ _ _ _ _ us hl => match us, hl with | [_, _], _ => rfl
  have F15 := fun_mk (st := s_law) l15 c15 k15
  have g15 := PySem.W.mg_of X G a15
  have F16 := fun_mk (st := s_unk) l16 c16 k16
  have b16 := F16.binds (ps := ["self", "name"]) fun _ _ _ _ _ _ us hl => match us, hl with | [_, _], _ => rfl
  have F17 := fun_mk (st := s_dup) l17 c17 k17
  have b17 := F17.binds (ps := ["self", "name"]) fun _ _ _ _ _ _ us hl => match us, hl with | [_, _], _ => rfl
  have F18 := fun_mk (st := s_ari) l18 c18 k18
  have b18 := F18.binds (ps := ["self", "name"]) fun _ _ _ _ _ _ us hl => match us, hl with | [_, _], _ => rfl
  have F19 := fun_mk (st := s_kind) l19 c19 k19
  have b19 := F19.binds (ps := ["self", "relations", "sentences"]) fun _ _ _ _ _ _ us hl => match us, hl with | [_, _, _], _ => rfl
  have m_all := PySem.W.mg_none_of X G z_all
  have m_bool := PySem.W.mg_none_of X G z_bool
  have m_int := PySem.W.mg_none_of X G z_int
  have m_isinstance := PySem.W.mg_none_of X G z_isinstance
  have m_len := PySem.W.mg_none_of X G z_len
  have m_list := PySem.W.mg_none_of X G z_list
  have m_min := PySem.W.mg_none_of X G z_min
  have m_range := PySem.W.mg_none_of X G z_range
  have m_str := PySem.W.mg_none_of X G z_str
  have m_tuple := PySem.W.mg_none_of X G z_tuple
  have m_set := PySem.W.mg_none_of X G z_set
  have m_ValueError := PySem.W.mg_none_of X G z_ValueError
  have MCC : ErrM K mg "CensusError" CC := ⟨PySem.W.mg_of X G aCC, tyCC, bxCC, hdCC⟩
  have MCS : ErrM K mg "SyntaxFault" CS := ⟨PySem.W.mg_of X G aCS, tyCS, bxCS, hdCS⟩
  have MCU : ErrM K mg "UnknownName" CU := ⟨PySem.W.mg_of X G aCU, tyCU, bxCU, hdCU⟩
  have MCD : ErrM K mg "DuplicateName" CD := ⟨PySem.W.mg_of X G aCD, tyCD, bxCD, hdCD⟩
  have MCA : ErrM K mg "WrongArity" CA := ⟨PySem.W.mg_of X G aCA, tyCA, bxCA, hdCA⟩
  have MCT : ErrM K mg "TooManyLayers" CT := ⟨PySem.W.mg_of X G aCT, tyCT, bxCT, hdCT⟩
  have MCI : ErrM K mg "InvalidPaper" CI := ⟨PySem.W.mg_of X G aCI, tyCI, bxCI, hdCI⟩
  have OCU : OexC K CU := ⟨⟨_, _, _, _, _, _, _, _, _, _, _, _, _, _, _, xCU, (show PySem.HandSPX.refsVE [Value.type "ValueError", .type "Exception", .type "BaseException", .type "object"] = true by decide +kernel)⟩, saCU, bxCU, tyCU, kcCU⟩
  have ECU : ErrT K mg "UnknownName" CU f16 := ⟨PySem.W.mg_of X G aCU, OCU, a16, t16, noCU⟩
  have XCU : ErrX K CU := ⟨⟨gaCU, ggCU, bxCU, hdCU⟩, ⟨gaCU, ggCU, bxCU, hdCU, haCU, ocG, ocT, hmCU⟩, noCU, meCU, veCU⟩
  have OCD : OexC K CD := ⟨⟨_, _, _, _, _, _, _, _, _, _, _, _, _, _, _, xCD, (show PySem.HandSPX.refsVE [Value.type "ValueError", .type "Exception", .type "BaseException", .type "object"] = true by decide +kernel)⟩, saCD, bxCD, tyCD, kcCD⟩
  have ECD : ErrT K mg "DuplicateName" CD f17 := ⟨PySem.W.mg_of X G aCD, OCD, a17, t17, noCD⟩
  have XCD : ErrX K CD := ⟨⟨gaCD, ggCD, bxCD, hdCD⟩, ⟨gaCD, ggCD, bxCD, hdCD, haCD, ocG, ocT, hmCD⟩, noCD, meCD, veCD⟩
  have OCA : OexC K CA := ⟨⟨_, _, _, _, _, _, _, _, _, _, _, _, _, _, _, xCA, (show PySem.HandSPX.refsVE [Value.type "ValueError", .type "Exception", .type "BaseException", .type "object"] = true by decide +kernel)⟩, saCA, bxCA, tyCA, kcCA⟩
  have ECA : ErrT K mg "WrongArity" CA f18 := ⟨PySem.W.mg_of X G aCA, OCA, a18, t18, noCA⟩
  have XCA : ErrX K CA := ⟨⟨gaCA, ggCA, bxCA, hdCA⟩, ⟨gaCA, ggCA, bxCA, hdCA, haCA, ocG, ocT, hmCA⟩, noCA, meCA, veCA⟩
  have BT : BaseT K mg CC := ⟨PySem.W.mg_of X G aCC, ⟨rdCC, gaCC⟩, fiCC⟩
  have TK : KindT K mg CK f19 := ⟨PySem.W.mg_of X G aCK, ⟨pgK, hdK, poK, saK⟩, ⟨mkK, a19, i19, kcK⟩, nR, nS⟩
  refine ⟨PySem.W.fnOf "law" "law" (defArgs s_law) (defBody s_law) (defScope s_law) .none kV15 dc15 pm15 an15 cd15 ct15, fun s v => .of_eq rfl, fun base _ _ => ?_⟩
  have okc := ok_cell (P := l.prog) (w := w) (base := base) (k := 0) F4 m_len m_int
  have okd := ok_digits (P := l.prog) (w := w) (base := base) (k := 0) F5 m_range m_int
  have okn := ok_names (P := l.prog) (w := w) (base := base) (k := 1) F7 okd b5 k5 g5 m_int m_len m_range
  have okr := ok_relations (P := l.prog) (w := w) (base := base) (k := 1) F8 okd b5 k5 g5 m_int m_range
  have oks := ok_some (P := l.prog) (w := w) (base := base) (k := 0) F9 m_int m_len m_list
  have oka := ok_atom (P := l.prog) (w := w) (base := base) (k := 0) F10 m_int m_len m_list m_min m_range m_tuple
  have okf := ok_formula (P := l.prog) (w := w) (base := base) (k := 1) F11 okd b5 k5 g5 oka b10 k10 g10 m_int m_len m_range
  have okt := ok_atoms (P := l.prog) (w := w) (base := base) (k := 0) F12 m_len m_range
  have okw := ok_kw (P := l.prog) (w := w) (base := base) (k := 1) F13 okt b12 k12 g12 m_len m_range
  have oke := ok_equal (P := l.prog) (w := w) (base := base) F6 b6 k6 g6 m_all m_bool m_int m_isinstance m_len m_list m_range m_str m_tuple 24
  have oko := ok_atoms_of (P := l.prog) (w := w) (base := base) F1 b1 k1 g1 20
  have iU := ok_unk (P := l.prog) (w := w) (base := base) (k := 0) F16 BT ECU
  have iD := ok_dup (P := l.prog) (w := w) (base := base) (k := 0) F17 BT ECD
  have iA := ok_ari (P := l.prog) (w := w) (base := base) (k := 0) F18 BT ECA
  have okN := ok_chn (P := l.prog) (w := w) (base := base) (k := 1) F2 ECD iD b17 m_set
  have okA := ok_cha (P := l.prog) (w := w) (base := base) F3 oko b1 k1 g1 ECU iU b16 ECA iA b18 m_len
  have okK := ok_kind (P := l.prog) (w := w) (base := base) F19 TK okN b2 k2 g2 okA b3 k3 g3 m_list
  have okO := ok_out (P := l.prog) (w := w) (base := base) F14 TK okK b19 MCU MCD MCA MCS MCT MCI MCC XCU XCD XCA sCUCD sCUCA sCUCS sCUCT sCUCI sCUCC sCDCU sCDCA sCDCS sCDCT sCDCI sCDCC sCACU sCACD sCACS sCACT sCACI sCACC m_isinstance m_list m_ValueError
  exact ok_law   F15 okc b4 k4 g4 okn b7 k7 g7 okr b8 k8 g8 oks b9 k9 g9 okf b11 k11 g11 okw b13 k13 g13 okO b14 k14 g14 oke b6 k6 g6 TK okK b19 m_int m_range m_list
end Nz
open PySem PySem.W PyProof.Rows
set_option maxHeartbeats 0 in
theorem PySem.Challenge.cw_oneofeach_k09_making_a_kind_holds : PySem.Challenge.rw_oneofeach_k09_making_a_kind.Holds := by
  w_on; o_law; k_head; (case hw => w_witness2)
  k_fill
  refine L2.walk_of (l := PySem.Challenge.rw_oneofeach_k09_making_a_kind) (n := 63) (k := 30) (x := "script") (CX := fun _ => L2.CX0) (sp := fun w => Nz.spLaw _) rfl (by decide) rfl ⟨rfl, by decide, by decide⟩
    (fun w h Y => PySem.W.kIn_of Y) ?F (fun _ _ a ns hl _ hS => ⟨a, ns, rfl, hS, hl, fun _ => rfl⟩) (fun _ _ _ _ _ h => h)
  case F =>
    intro w mg fa h KX G hmg
    refine' Nz.all_mk KX G hmg ?aCC ?aCS ?aCU ?aCD ?aCA ?aCT ?aCI ?aCK ?tyCC ?bxCC ?hdCC ?tyCS ?bxCS ?hdCS ?tyCU ?bxCU ?hdCU ?tyCD ?bxCD ?hdCD ?tyCA ?bxCA ?hdCA ?tyCT ?bxCT ?hdCT ?tyCI ?bxCI ?hdCI ?rdCC ?gaCC ?fiCC ?xCU ?saCU ?kcCU ?noCU ?gaCU ?ggCU ?haCU ?hmCU ?meCU ?veCU ?sCUCC ?sCUCS ?sCUCD ?sCUCA ?sCUCT ?sCUCI ?xCD ?saCD ?kcCD ?noCD ?gaCD ?ggCD ?haCD ?hmCD ?meCD ?veCD ?sCDCC ?sCDCS ?sCDCU ?sCDCA ?sCDCT ?sCDCI ?xCA ?saCA ?kcCA ?noCA ?gaCA ?ggCA ?haCA ?hmCA ?meCA ?veCA ?sCACC ?sCACS ?sCACU ?sCACD ?sCACT ?sCACI ?ocG ?ocT ?pgK ?hdK ?poK ?saK ?mkK ?kcK ?nR ?nS ?a1 ?l1 ?c1 ?k1 ?a2 ?l2 ?c2 ?k2 ?a3 ?l3 ?c3 ?k3 ?a4 ?l4 ?c4 ?k4 ?a5 ?l5 ?c5 ?k5 ?a6 ?l6 ?c6 ?k6 ?a7 ?l7 ?c7 ?k7 ?a8 ?l8 ?c8 ?k8 ?a9 ?l9 ?c9 ?k9 ?a10 ?l10 ?c10 ?k10 ?a11 ?l11 ?c11 ?k11 ?a12 ?l12 ?c12 ?k12 ?a13 ?l13 ?c13 ?k13 ?a14 ?l14 ?c14 ?k14 ?a15 ?l15 ?c15 ?k15 ?a16 ?t16 ?l16 ?c16 ?k16 ?a17 ?t17 ?l17 ?c17 ?k17 ?a18 ?t18 ?l18 ?c18 ?k18 ?a19 ?i19 ?l19 ?c19 ?k19 ?z_all ?z_bool ?z_int ?z_isinstance ?z_len ?z_list ?z_min ?z_range ?z_str ?z_tuple ?z_set ?z_ValueError
    (case aCC => k_is)
    (case aCS => k_is)
    (case aCU => k_is)
    (case aCD => k_is)
    (case aCA => k_is)
    (case aCT => k_is)
    (case aCI => k_is)
    (case aCK => k_is)
    (case tyCC => k_is)
    (case bxCC => k_is)
    (case hdCC => k_is)
    (case tyCS => k_is)
    (case bxCS => k_is)
    (case hdCS => k_is)
    (case tyCU => k_is)
    (case bxCU => k_is)
    (case hdCU => k_is)
    (case tyCD => k_is)
    (case bxCD => k_is)
    (case hdCD => k_is)
    (case tyCA => k_is)
    (case bxCA => k_is)
    (case hdCA => k_is)
    (case tyCT => k_is)
    (case bxCT => k_is)
    (case hdCT => k_is)
    (case tyCI => k_is)
    (case bxCI => k_is)
    (case hdCI => k_is)
    (case rdCC => k_is)
    (case gaCC => k_is)
    (case fiCC => k_is)
    (case xCU => k_is)
    (case saCU => k_is)
    (case kcCU => k_is)
    (case noCU => k_is)
    (case gaCU => k_is)
    (case ggCU => k_is)
    (case haCU => k_is)
    (case hmCU => k_is)
    (case meCU => k_is)
    (case veCU => k_is)
    (case sCUCC => k_is)
    (case sCUCS => k_is)
    (case sCUCD => k_is)
    (case sCUCA => k_is)
    (case sCUCT => k_is)
    (case sCUCI => k_is)
    (case xCD => k_is)
    (case saCD => k_is)
    (case kcCD => k_is)
    (case noCD => k_is)
    (case gaCD => k_is)
    (case ggCD => k_is)
    (case haCD => k_is)
    (case hmCD => k_is)
    (case meCD => k_is)
    (case veCD => k_is)
    (case sCDCC => k_is)
    (case sCDCS => k_is)
    (case sCDCU => k_is)
    (case sCDCA => k_is)
    (case sCDCT => k_is)
    (case sCDCI => k_is)
    (case xCA => k_is)
    (case saCA => k_is)
    (case kcCA => k_is)
    (case noCA => k_is)
    (case gaCA => k_is)
    (case ggCA => k_is)
    (case haCA => k_is)
    (case hmCA => k_is)
    (case meCA => k_is)
    (case veCA => k_is)
    (case sCACC => k_is)
    (case sCACS => k_is)
    (case sCACU => k_is)
    (case sCACD => k_is)
    (case sCACT => k_is)
    (case sCACI => k_is)
    (case ocG => k_is)
    (case ocT => k_is)
    (case pgK => k_is)
    (case hdK => k_is)
    (case poK => k_is)
    (case saK => k_is)
    (case mkK => k_is)
    (case kcK => k_is)
    (case nR => k_is)
    (case nS => k_is)
    (case a1 => k_is)
    (case l1 => k_is)
    (case c1 => k_is)
    (case k1 => k_is)
    (case a2 => k_is)
    (case l2 => k_is)
    (case c2 => k_is)
    (case k2 => k_is)
    (case a3 => k_is)
    (case l3 => k_is)
    (case c3 => k_is)
    (case k3 => k_is)
    (case a4 => k_is)
    (case l4 => k_is)
    (case c4 => k_is)
    (case k4 => k_is)
    (case a5 => k_is)
    (case l5 => k_is)
    (case c5 => k_is)
    (case k5 => k_is)
    (case a6 => k_is)
    (case l6 => k_is)
    (case c6 => k_is)
    (case k6 => k_is)
    (case a7 => k_is)
    (case l7 => k_is)
    (case c7 => k_is)
    (case k7 => k_is)
    (case a8 => k_is)
    (case l8 => k_is)
    (case c8 => k_is)
    (case k8 => k_is)
    (case a9 => k_is)
    (case l9 => k_is)
    (case c9 => k_is)
    (case k9 => k_is)
    (case a10 => k_is)
    (case l10 => k_is)
    (case c10 => k_is)
    (case k10 => k_is)
    (case a11 => k_is)
    (case l11 => k_is)
    (case c11 => k_is)
    (case k11 => k_is)
    (case a12 => k_is)
    (case l12 => k_is)
    (case c12 => k_is)
    (case k12 => k_is)
    (case a13 => k_is)
    (case l13 => k_is)
    (case c13 => k_is)
    (case k13 => k_is)
    (case a14 => k_is)
    (case l14 => k_is)
    (case c14 => k_is)
    (case k14 => k_is)
    (case a15 => k_is)
    (case l15 => k_is)
    (case c15 => k_is)
    (case k15 => k_is)
    (case a16 => k_is)
    (case t16 => k_is)
    (case l16 => k_is)
    (case c16 => k_is)
    (case k16 => k_is)
    (case a17 => k_is)
    (case t17 => k_is)
    (case l17 => k_is)
    (case c17 => k_is)
    (case k17 => k_is)
    (case a18 => k_is)
    (case t18 => k_is)
    (case l18 => k_is)
    (case c18 => k_is)
    (case k18 => k_is)
    (case a19 => k_is)
    (case i19 => k_is)
    (case l19 => k_is)
    (case c19 => k_is)
    (case k19 => k_is)
    (case z_all => k_is)
    (case z_bool => k_is)
    (case z_int => k_is)
    (case z_isinstance => k_is)
    (case z_len => k_is)
    (case z_list => k_is)
    (case z_min => k_is)
    (case z_range => k_is)
    (case z_str => k_is)
    (case z_tuple => k_is)
    (case z_set => k_is)
    (case z_ValueError => k_is)
