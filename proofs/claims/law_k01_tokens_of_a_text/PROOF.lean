import PyProof.Rows.All
import Wide.All
import OpenK.AllK
import Wide.FinOn
import HandS.ForMost
import HandS.TupAny
import HandS.Conv
import HandS.IsInst
import HandS.Style
import KE.GoesEnum
import PyProof.TupleOfSeq
import KE.GoesMore
import HandS.Wide
import HandS.Walk
import HandS.Codes
import HandS.Evl
import KE.KSortedM
import HandS.TryMany
import HandS.ExcInit
import HandS.ExcIs
import KE.KExcIs
import HandS.ExcField
import HandS.ClsMeth
import HandS.FStr
import HandS.ExcOwn
import HandS.Iter
import HandS.StrMore
import PySem.Challenge.RW_oneofeach_k01_tokens_of_a_text
set_option Elab.async false
set_option linter.all false
set_option maxRecDepth 100000
namespace Nz
open PySem PySem.Spec PyProof.Rows L2
/-! ### sorted(t), t a tuple of ints -/
section
variable {prog : Program} {w : World} {A : Around} {E : Value → Shared → Prop} {s : Shared}
/-- the heap behind the collecting of vs -/
def gath (h : Heap) (vs : List Value) : Heap :=
  (h.push (seqObj "list" #[] 0)).update h.objs.size (Obj.mapSeq (· ++ vs.toArray))
theorem gath_size (h : Heap) (vs : List Value) : (gath h vs).objs.size = h.objs.size + 1 :=
  (Heap.size_update ..).trans (size_push' _ _)
theorem gath_old {h : Heap} {vs : List Value} {b : Addr} {o : Obj} (e : h.get? b = some o) : (gath h vs).get? b = some o :=
  (Heap.get?_update_other _ _ (Nat.ne_of_gt (Heap.lt_size e))).trans (Heap.get?_push_of_some _ e)
set_option maxHeartbeats 1000000 in
theorem gather_tup {t : Addr} {vs : List Value} {Q : List Value → Shared → Prop} (ht : IsTup s.heap t vs.toArray)
    (hz : vs.length ≤ sizeLine) (fin : Q vs { s with heap := gath s.heap vs }) : wpAny (model prog w) A (collect (.ref t)) Q E s := by
  obtain ⟨o, ho, hc, n, hd⟩ := ht
  have new0 : (s.heap.push (seqObj "list" #[] 0)).get? s.heap.objs.size = some (seqObj "list" #[] 0) := Heap.get?_push_size _ rfl
  have old : (s.heap.push (seqObj "list" #[] 0)).get? t = some o := Heap.get?_push_of_some _ ho
  unfold collect
  refine wpAny_bind (wpAny_runValue (codeAny_builtin entry_proto_collect' (?k : wpAny _ _
    (do again (.builtin "list.__iadd__" ⟨[← newList [], .ref t], []⟩)) _ _ s)))
  refine wpAny_bind (wpAny_newList (wpAny_pure ⟨Code.quiet_builtin _ (by decide +kernel), codeAny_builtin entry_list_iadd'
    (?k2 : wpAny _ _ (Builtin.List.listExtendWith (.ref s.heap.objs.size) (.ref t) (.ref s.heap.objs.size)) _ _
      { s with heap := s.heap.push (seqObj "list" #[] 0) })⟩))
  unfold Builtin.List.listExtendWith
  refine wpAny_bind (wpAny_typeOf (T := "tuple") ⟨o, old, hc⟩ ?_)
  have tt : (Value.type "tuple" == Value.type "tuple") = true := by rfl
  rw [if_pos (by simp [tt])]
  refine wpAny_bind (listItems_at old hd (wpAny_bind (listItems_at (xs := #[]) (n := 0) new0 rfl ?_)))
  rw [if_neg (by simp)]
  refine wpAny_bind (listUpdate_at (xs := #[]) (n := 0) new0 rfl ?_ (Nat.zero_le _) (by
    show (#[] ++ vs.toArray).size ≤ sizeLine + 1
    simp only [Array.size_append, List.size_toArray, List.length_nil]
    omega))
  refine wpAny_pure (?k3 : wpAny (model prog w) A (do
      match (← load s.heap.objs.size).data with
      | .seq xs _ => pure xs.toList
      | _ => unsupported "internal:collect") Q E { s with heap := gath s.heap vs })
  refine wpAny_bind (wpAny_load (get?_update_seq new0 _) ?_)
  have e : ((#[] : Array Value) ++ vs.toArray).toList = vs := by simp
  exact wpAny_pure (e.symm ▸ fin)
set_option maxHeartbeats 1000000 in
theorem sort_tup {t : Addr} {vs : List Value} {ns : List Int} {Q : Value → Shared → Prop}
    (ht : IsTup s.heap t vs.toArray) (hI : IntsAre vs ns) (lt : vs.length < 64)
    (fin : ∀ (out : List Value) (ms : List Int) (p : Addr) (g : Heap) (ep : Nat), IntsAre out ms → ms.Perm ns →
      ms.Pairwise (· ≤ ·) → s.heap.objs.size ≤ p → (∀ b o, s.heap.get? b = some o → g.get? b = some o) →
      g.get? p = some (seqObj "list" out.toArray ep) → Q (.ref p) { s with heap := g }) :
    wpAny (model prog w) A (call (.builtin "sorted") [.ref t]) Q E s := by
  have hz : vs.length ≤ sizeLine := by
    rw [sizeLine_eq]
    omega
  refine (fun z => Calls.call_function_entry kind_sorted plain_sorted entry_sorted (args_sorted1 _) z) ?_
  unfold Builtin.«sorted»
  refine wpAny_bind (m := checkCount "sorted" 1 1 [Value.ref t].length) (wpAny_pure (wpAny_bind (gather_tup ht hz (wpAny_bind (wpAny_newList ?_ hz)))))
  have hoL : ((gath s.heap vs).push (seqObj "list" vs.toArray 0)).get? (gath s.heap vs).objs.size = some (seqObj "list" vs.toArray 0) :=
    Heap.get?_push_size _ rfl
  refine wpAny_bind (s := { s with heap := (gath s.heap vs).push (seqObj "list" vs.toArray 0) }) (wpAny_holding (wpAny_call_entry slot_list_sort
    ⟨_, hoL, rfl⟩ entry_list_sort (list_sort_tree hoL hI lt fun out ms a1 a2 a3 => ⟨_, rfl, ?_⟩) (args_list_sort _)))
  obtain ⟨ep, he⟩ := sortedHeap_at (vs := vs) (out := out) hoL
  have hgs : s.heap.objs.size ≤ (gath s.heap vs).objs.size := by
    rw [gath_size]
    exact Nat.le_succ _
  refine wpAny_pure ⟨_, rfl, fin out.toList ms _ _ ep a1 a2 a3 hgs (fun b u hb => ?_) ?_⟩
  · have hb1 := gath_old (vs := vs) hb
    have hb2 := Heap.get?_push_of_some (seqObj "list" vs.toArray 0) hb1
    rw [sortedHeap_old (Nat.ne_of_lt (Heap.lt_size hb1)) (Heap.lt_size hb2)]
    exact hb2
  · exact he
end
section
variable {X : Cx}
def rSortT (K : PySem.W.Frag) : List V → Hp → VK → Prop := fun vs H Q => ∃ (a : Addr) (ns : List Int), vs = [V.ref a] ∧
  SqT K H a (ns.map V.int) ∧ ns.length < 64 ∧
  ∀ (ms : List Int) (p : Addr), ms.Perm ns → ms.Pairwise (· ≤ ·) → H p = none → Q (.ref p) (upd H p (.lst (ms.map V.int)))
theorem cr_sortTup : CallR X (.builtin "sorted") (rSortT X.K) := by
  intro pins s σ H vs us Q I r ⟨a, ns, e0, hs, h64, q⟩
  subst e0
  obtain ⟨its, rv, hl, _⟩ := I.tuple hs
  rw [Vals.ref1 r]
  have hi := rv.ints
  refine sort_tup hl hi (by rw [hi.length]; exact h64) fun out ms p g ep h1 h2 h3 hp hk he => ?_
  have hlen : (ms.map V.int).length ≤ sizeLine := by
    rw [List.length_map, h2.length_eq]
    exact small64 h64
  exact ⟨.ref p, upd H p (.lst (ms.map V.int)), I.laid (t' := s.toks) hk hp ⟨hlen, out, ep, vals_of_ints h1, he⟩, rfl,
    q ms p h2 h3 (I.hok.fresh hp)⟩
end
end Nz
namespace Nz
open PySem PySem.Spec PyProof.Rows L2
/-! ### enumerate(t), t a tuple -/
abbrev enumO (n : Nat) : Obj :=
  { cls := .type "enumerate", data := .fields #[.none, .bool false, .ref n, rawInt 0, .none, .none] }
set_option maxHeartbeats 1000000 in
theorem meets_enumT {t : Addr} {o : Obj} {H : Heap → Prop} (B : Begins (.ref t) o H) :
    Meets (Builtin.«enumerate.__new__» ⟨[.type "enumerate", .ref t], []⟩) (fun _ R s => H s.heap ∧
      R (.ok (.ret (.ref (s.heap.push o).objs.size))) { s with heap := (s.heap.push o).push (enumO s.heap.objs.size) }) :=
  .of_wp fun prog w A R s h => by
    obtain ⟨hp, g, d, tk, os⟩ := s
    obtain ⟨h1, h⟩ := h
    have hsub := sub_enumerate
    have q1 : ∀ {A' : Around} {E : Value → Shared → Prop} {Q : Value → Shared → Prop}, Q (.ref hp.objs.size) ⟨hp.push o, g, d, tk, os⟩ →
        wpAny (model prog w) A' (pyIter (.ref t)) Q E ⟨hp, g, d, tk, os⟩ := fun q => B.iter prog w _ _ ⟨hp, g, d, tk, os⟩ _ h1 q
    wp_walk using q1
    refine wpAny_stack_any fun st => wpAny_pure ?_
    split
    · rename_i c _ _ _ _ _
      cases (c == Value.type "enumerate")
      all_goals
        wp_walk using q1
        exact ⟨_, rfl, h⟩
    · wp_walk using q1
      exact ⟨_, rfl, h⟩
section
variable {prog : Program} {w : World} {A : Around} {E : Value → Shared → Prop} {s : Shared}
theorem call_enumT {t : Addr} {o : Obj} {H : Heap → Prop} {Q : Value → Shared → Prop} (B : Begins (.ref t) o H) (h1 : H s.heap)
    (fin : ∀ g, IsEnum g (s.heap.objs.size + 1) s.heap.objs.size 0 .none → g.get? s.heap.objs.size = some o →
      g.objs.size = s.heap.objs.size + 2 → (∀ b u, s.heap.get? b = some u → g.get? b = some u) → Q (.ref (s.heap.objs.size + 1)) { s with heap := g }) :
    wpAny (model prog w) A (call (.type "enumerate") [.ref t]) Q E s := by
  have hz : (s.heap.push o).objs.size = s.heap.objs.size + 1 := Heap.size_push ..
  have new := Heap.get?_push_size (s.heap.push o)
    (o := enumO s.heap.objs.size) rfl
  rw [hz] at new
  refine callType_new F.called_enumerate (by decide) (F.typeCall_enumerate_1 _) (F.newCall_enumerate_1 _)
    (fun obj => F.args_object_init_2 obj _) F.entry_enumerate_new (meets_enumT B) ⟨h1, ?_⟩
  refine (?g : _ ∧ _)
  rw [hz]
  exact ⟨⟨_, new, rfl⟩, fin _ new (Heap.get?_push_of_some _ (Heap.get?_push_size _ B.free)) (by rw [Heap.size_push, hz])
    fun b u x => Heap.get?_push_of_some _ (Heap.get?_push_of_some _ x)⟩
end
/-- the tuple at a, item by item, each in a new pair with its place -/
def IteT (K : PySem.W.Frag) (a : Addr) : It :=
  ⟨fun i H => ∃ (xs : List V) (x : V), SqT K H a xs ∧ xs[i]? = some x,
   fun i H v H' => ∃ T x, v = .ref T ∧ H T = none ∧ H' = upd H T (.tup [.int (i : Nat), x]) ∧ ∀ xs, SqT K H a xs → xs[i]? = some x,
   fun i H => ∃ xs : List V, SqT K H a xs ∧ xs.length ≤ i⟩
theorem apartE {h : Heap} {a e it : Addr} {k : Int} {old : Value} {its : Array Value} {i : Nat} (ht : h.IsTuple a its)
    (he : IsEnum h e it k old) (hi : h.IsTupleIter it a i) : a ≠ it ∧ e ∉ [it, a] ∧ e ≠ it := by
  obtain ⟨o1, g1, c1, _⟩ := ht
  obtain ⟨o2, g2, c2, _⟩ := hi
  have g3 : h.get? e = some _ := he
  have ne1 : a ≠ it := fun z => by
    subst z
    rw [g1] at g2
    cases g2
    rw [c1] at c2
    revert c2
    decide
  have ne2 : e ≠ it := fun z => by
    subst z
    rw [g3] at g2
    cases g2
    exact absurd (show Value.type "enumerate" = .type "tuple_iterator" from c2) (by simp)
  have ne3 : e ≠ a := fun z => by
    subst z
    rw [g3] at g1
    cases g1
    exact absurd (show Value.type "enumerate" = .type "tuple" from c1) (by simp)
  exact ⟨ne1, by simp [ne2, ne3], ne2⟩
theorem turn_enumT {P : Program} {w : World} {K : PySem.W.Frag} {elts : List Expr} {kk : Nat} {tpos : Pos} (a e it : Addr) :
    Turn P w K (.Tuple elts kk tpos) (IteT K a) [e, it] e
      (fun i h => (∃ old, IsEnum h e it ((i : Nat) : Int) old) ∧ h.IsTupleIter it a i) where
  mem := by simp
  obj := fun i h st b hb => by
    obtain ⟨⟨old, he⟩, o, ho, hc, hd⟩ := st
    rcases (show b = e ∨ b = it by simpa using hb) with rfl | rfl
    · exact ⟨_, he, fun v q => nomatch q⟩
    · exact ⟨o, ho, fun v q => by rw [hd] at q; cases q⟩
  keep := fun i h h' ⟨⟨old, he⟩, hi⟩ k => ⟨⟨old, k e (by simp) _ he⟩, hi.at fun o q => k it (by simp) o q⟩
  item := by
    intro X hP hw hK hc i pins s σ H E I hf st hg
    subst hP hw hK
    obtain ⟨⟨old, he⟩, hit⟩ := st
    obtain ⟨xs, x, hq, hx⟩ := hg
    obtain ⟨its, rv, p, hz⟩ := I.tuple hq
    obtain ⟨u, hu, ru⟩ := rv.get hx
    have p' : s.heap.IsTuple a its.toArray := p
    obtain ⟨na, nin, ne⟩ := apartE p' he hit
    have hel : e < s.heap.objs.size := Heap.lt_size he
    have hil : it < s.heap.objs.size := by
      obtain ⟨_, q, _⟩ := hit
      exact Heap.lt_size q
    have hlt : i < its.toArray.size := by
      have := (List.getElem?_eq_some_iff.mp hu).1
      simpa using this
    refine wpAny_pyNext_enum_itemD (Draws.tuple (A := X.A.in1) (I.ok.hd hc) it a na its.toArray) he ⟨hit, p'⟩ hlt ne nin
      fun y g tk hy ho st1 hT hsz hk => ?_
    have ey : y = u := by
      have h2 : its.toArray[i]? = some u := by simpa using hu
      exact Option.some.inj (hy.symm.trans h2)
    subst ey
    refine ⟨_, rfl, wpAny_letOwnedTupleGo_enum (s := { s with heap := g, toks := tk + 1 }) ho fun g2 he2 sb => ?_⟩
    have hT2 : g2.get? s.heap.objs.size = some { cls := .type "tuple", data := .seq #[.int i tk, y] } :=
      (sb.2 _ (Nat.ne_of_gt hel)).trans hT
    have new : ObjOk X.prog X.w (upd H s.heap.objs.size (.tup [.int (i : Nat), x])) g2 s.heap.objs.size (.tup [.int (i : Nat), x]) :=
      ⟨by show 2 ≤ sizeLine; decide, [.int i tk, y], .cons ⟨_, rfl⟩ (.cons ru .nil), ⟨_, hT2, rfl, _, rfl⟩⟩
    have I1 : Inv X pins σ (upd H s.heap.objs.size (.tup [.int (i : Nat), x])) { s with heap := g2, toks := tk + 1 } :=
      I.turnedNew (ch := [e, it]) (fun b ob hb q => (sb.2 b (fun z => hb (by simp [z]))).trans
        (hk b ob (fun z => hb (by simp [z])) (fun z => hb (by simp [z])) q)) hf (Nat.le_refl _) new
    refine ⟨.ref s.heap.objs.size, _, I1, rfl, ⟨_, x, rfl, I.hok.fresh (Nat.le_refl _), rfl, fun ys hy => by
      rw [I.tuple_inj hy hq]
      exact hx⟩, ⟨⟨y, ?_⟩, st1.1.at fun o q => (sb.2 it (Ne.symm ne)).trans q⟩, fun b hb => ?_⟩
    · rw [show ((i + 1 : Nat) : Int) = (i : Int) + 1 by omega]
      exact he2
    · have hb' : b < s.heap.objs.size := by
        rcases (show b = e ∨ b = it by simpa using hb) with rfl | rfl
        · exact hel
        · exact hil
      rw [upd_ne (Nat.ne_of_lt hb')]
      exact (hf b hb).1
  done := by
    intro X hP hw hK hc i pins s σ H E I hf st hg
    subst hP hw hK
    obtain ⟨⟨old, he⟩, hit⟩ := st
    obtain ⟨xs, hq, hx⟩ := hg
    obtain ⟨its, rv, p, hz⟩ := I.tuple hq
    have p' : s.heap.IsTuple a its.toArray := p
    obtain ⟨na, nin, ne⟩ := apartE p' he hit
    obtain ⟨f0, f1, f2, f3, f4, f5⟩ := hf it (by simp)
    have hl := rv.length
    have none_at : its.toArray[i]? = none := by
      simp
      omega
    unfold pyNext
    have hT : s.TypeIs (.ref e) "enumerate" := ⟨_, he, rfl⟩
    refine wpAny_bind (wpAny_attempt (wpAny_callSpecial?_slot (name := Str.ofString "__next__") hT F.slot_enumerate_next (wpAny_call_entry
      F.slot_enumerate_next hT F.entry_enumerate_next (?g : wpAny _ _ (field (.ref e) 2 >>= _) _ _ _) (F.args_enumerate_next_1 _))))
    refine wpAny_bind (wpAny_field he rfl (x := .ref it) rfl (wpAny_bind (wpAny_nextOf_tuple_end (I.ok.hd hc) hit p' none_at fun g x hx' hs => ?_)))
    obtain ⟨o, ho, hcls⟩ := hs
    refine wpAny_bind (wpAny_isInstance (T := "StopIteration") (b := true) ⟨o, ho, hcls⟩ isSubtype_stop (wpAny_pure ⟨rfl, ?_⟩))
    exact I.turned (t' := s.toks) (fun b o hb q => hx' b o hb q) f0 f1 f3 f4 f5
  self := fun A i s Q E ⟨⟨_, he⟩, _⟩ h => wpAny_pyIter_enum he h
end Nz
namespace Nz
open PySem PySem.Spec PyProof.Rows L2
def iEnumT (K : PySem.W.Frag) (ta : TA) : TI := fun σ H R => ta σ H fun vs H1 => ∃ a xs, vs = [.ref a] ∧ SqT K H1 a xs ∧ R (IteT K a) H1
theorem pi_enumT {X : Cx} {e : Expr} {ta : TA} {p pos tpos : Pos} {elts : List Expr} {kk : Nat} (hg : Gl X "enumerate")
    (hm : X.mg "enumerate" = none) (ha : PA X [e] ta) (hs : starEach [e] X.env = [(false, eval e X.env)] := by rfl) :
    PI X (.Tuple elts kk tpos) (.Call (.Name "enumerate" p) [e] [] pos) (iEnumT X.K ta) := by
  refine ⟨fun pins s σ H R I h => Call_ (ld_blt I hg hm boot_enumerate (PyProof.Rows.callWith_type1 (thn (ha.run pos pins s σ H _ I h)
    fun us s1 ⟨vs, H1, I1, r1, a, xs, ex, hq, q⟩ => ?_) hs rfl))⟩
  subst ex
  rcases r1 with _ | ⟨r, rr⟩
  cases rr
  cases r
  obtain ⟨its, rv, p', hz⟩ := I1.tuple hq
  refine call_enumT (begins_tuple a its.toArray) (show s1.heap.IsTuple a its.toArray from p') fun g he hit hsz hk => wpAny_pyIter_enum he ?_
  have I2 : Inv X pins σ H1 { s1 with heap := g } := I1.kept (t' := s1.toks) hk
  refine ⟨s1.heap.objs.size + 1, [s1.heap.objs.size + 1, s1.heap.objs.size], _, _, H1, rfl, I2,
    turn_enumT a (s1.heap.objs.size + 1) s1.heap.objs.size, ⟨⟨.none, he⟩, ⟨_, hit, rfl, rfl⟩⟩, fun b hb => ?_, q⟩
  have hle : s1.heap.objs.size ≤ b := by
    rcases (show b = s1.heap.objs.size + 1 ∨ b = s1.heap.objs.size by simpa using hb) with z | z
    · rw [z]
      exact Nat.le_succ _
    · rw [z]
      exact Nat.le_refl _
  exact I1.fpOk hle (I1.hok.fresh hle)
end Nz
namespace Nz
open PySem PySem.Spec PyProof.Rows L2
/-! ### t[::-1], t a tuple -/
section
variable {prog : Program} {w : World} {A : Around} {E : Value → Shared → Prop} {s : Shared}
theorem fm_congr {α β : Type} {f g : α → Option β} : ∀ l : List α, (∀ x ∈ l, f x = g x) → l.filterMap f = l.filterMap g
  | [], _ => rfl
  | a :: r, h => by
    have ih := fm_congr r fun x hx => h x (List.mem_cons_of_mem _ hx)
    rw [List.filterMap_cons, List.filterMap_cons, h a List.mem_cons_self, ih]
theorem pick_back (xs : Array Value) : ((List.range xs.size).filterMap fun (m : Nat) => xs[(((xs.size : Int) - 1) + (m : Int) * (-1)).toNat]?).toArray = xs.toList.reverse.toArray := by
  congr 1
  apply List.ext_getElem?
  intro i
  have e : ((List.range xs.size).filterMap fun (m : Nat) => xs[(((xs.size : Int) - 1) + (m : Int) * (-1)).toNat]?) =
      (List.range xs.size).filterMap fun (m : Nat) => xs.toList.reverse[m]? := by
    refine fm_congr _ fun m hm => ?_
    have hm := List.mem_range.mp hm
    have h2 : (((xs.size : Int) - 1) + (m : Int) * (-1)).toNat = xs.size - 1 - m := by omega
    rw [h2, List.getElem?_reverse (by simpa using hm)]
    simp
  rw [e]
  have all : ∀ l : List Value, ((List.range l.length).filterMap fun m => l[m]?) = l := by
    intro l
    induction l with
    | nil => rfl
    | cons a t ih =>
      rw [List.length_cons, List.range_succ_eq_map, List.filterMap_cons, List.filterMap_map]
      simp only [List.getElem?_cons_zero]
      congr 1
  have := all xs.toList.reverse
  rw [List.length_reverse, Array.length_toList] at this
  rw [this]
theorem adjust_back (n : Nat) : Builtin.Slice.sliceAdjust none none (-1) (n : Int) = ((n : Int) - 1, -1) := by
  unfold Builtin.Slice.sliceAdjust
  simp
theorem places_back (n : Nat) : Builtin.Slice.slicePlaces ((n : Int) - 1) (-1) (-1) = n := by
  unfold Builtin.Slice.slicePlaces
  have h1 : ¬ ((-1 : Int) > 0) := by decide
  simp only [h1, if_false]
  split
  · rw [show (- -1 : Int) = 1 by decide, Int.ediv_one]
    omega
  · omega
theorem applied_back {sl : Addr} {vs : Value} {n : Nat} {Q : Int × Int × Nat → Shared → Prop} (hs : s.heap.IsSliceOf sl .none .none vs) (ps : IsPart vs (some (-1)))
    (h : Q ((n : Int) - 1, -1, n) s) : wpAny (model prog w) A (Builtin.Slice.sliceApplied (.ref sl) (pure (n : Int))) Q E s := by
  obtain ⟨os, hos, hcs, hds⟩ := id hs
  unfold Builtin.Slice.sliceApplied Builtin.Slice.sliceFields
  refine wpAny_bind (wpAny_bind (wpAny_field hos hds (x := .none) rfl (wpAny_bind (wpAny_field hos hds (x := .none) rfl
    (wpAny_bind (wpAny_field hos hds (x := vs) rfl (wpAny_pure ?_)))))))
  refine wpAny_bind (HT.slicePart_ ps ?_)
  refine (?g1 : wpAny _ _ (if ((-1 : Int) == 0) = true then _ else _) _ _ s)
  rw [if_neg (by decide)]
  refine wpAny_bind (HT.slicePart_ .none (wpAny_bind (HT.slicePart_ .none (wpAny_bind (wpAny_pure ?_)))))
  refine (?g2 : wpAny _ _ (match Builtin.Slice.sliceAdjust none none (-1) (n : Int) with
    | (lo, hi) => pure (lo, (-1 : Int), Builtin.Slice.slicePlaces lo hi (-1))) _ _ s)
  rw [adjust_back n]
  refine (?g3 : wpAny _ _ (pure ((n : Int) - 1, (-1 : Int), Builtin.Slice.slicePlaces ((n : Int) - 1) (-1) (-1))) _ _ s)
  rw [places_back]
  exact wpAny_pure h
theorem item_back {t sl : Addr} {items : Array Value} {vs : Value} {Q : Value → Shared → Prop} (ht : IsTup s.heap t items) (hs : s.heap.IsSliceOf sl .none .none vs) (ps : IsPart vs (some (-1)))
    (h : Q (.ref s.heap.objs.size) { s with heap := s.heap.push { cls := .type "tuple", data := .seq items.toList.reverse.toArray } }) (hz : items.size ≤ sizeLine) :
    wpAny (model prog w) A (getItem (.ref t) (.ref sl)) Q E s := by
  have z : items.toList.reverse.toArray.size ≤ sizeLine := by
    rw [List.size_toArray, List.length_reverse, Array.length_toList]
    exact hz
  have fit : sizeOk (.seq items.toList.reverse.toArray) := z
  obtain ⟨os, hos, hcs, hds⟩ := id hs
  have hTs : s.TypeIs (.ref sl) "slice" := ⟨os, hos, hcs⟩
  unfold getItem
  try with_reducible refine wpAny_holding ?_
  first | refine wpAny_bind (wpAny_pure ?_) | skip
  refine wpAny_bind (wpAny_sequenceKey ht.typeIs (by decide) ?_)
  have entry := args_tuple_getitem (.ref t) (.ref sl)
  refine wpAny_bind (wpAny_callSpecial?_slot (name := Str.ofString "__getitem__") ht.typeIs PyProof.Rows.slot_tuple_getitem (wpAny_call_entry
    PyProof.Rows.slot_tuple_getitem ht.typeIs entry_tuple_getitem ?_ entry))
  refine (?g5 : wpAny _ _ (Builtin.Tuple.tupleItemsOf (.ref t) >>= _) _ _ s)
  refine wpAny_bind (tupleItemsOf_ ht (wpAny_bind (wpAny_typeOf hTs ?_)))
  rw [if_pos (by decide)]
  refine wpAny_bind (applied_back hs ps ?_)
  have no : ¬ ((((items.size : Int) - 1) == 0 && (-1 : Int) == 1 && items.size == items.size) = true) := by simp
  refine (?g4 : wpAny _ _ (if (((items.size : Int) - 1) == 0 && (-1 : Int) == 1 && items.size == items.size) = true then _ else _) _ _ s)
  rw [if_neg no, pick_back]
  first
    | exact wpAny_bind (m := Builtin.Tuple.tupleExact _) (wpAny_newObj_type (wpAny_pure ⟨_, rfl, wpAny_pure h⟩) fit)
    | exact wpAny_bind (m := Builtin.Tuple.tupleExact _) (wpAny_newObj_type (wpAny_bind (wpAny_pure (wpAny_pure ⟨_, rfl, wpAny_pure h⟩))) fit)
end
section
variable {X : Cx}
def tRevT (K : PySem.W.Frag) (te : TE) : TE := fun σ H Q => te σ H fun x H1 => ∃ a xs, x = .ref a ∧ SqT K H1 a xs ∧ ∀ p, H1 p = none → Q (.ref p) (upd H1 p (.tup xs.reverse))
theorem pe_revT {e : Expr} {te : TE} {k : Nat} {p1 p2 p3 pos : Pos} (he : PE X e te) :
    PE X (.Subscript e (.Slice none none (some (.UnaryOp .USub (.Constant (.int 1) k p1) p2)) p3) pos) (tRevT X.K te) := by
  refine ⟨fun pins s σ H Q I h => Subscript_ (thn (he.run pins s σ H _ I h) fun v s1 ⟨x, H1, I1, r1, a, xs, ex, hx, q⟩ => ?_)⟩
  subst ex
  cases r1
  have hst : PO X (some (.UnaryOp .USub (.Constant (.int 1) k p1) p2)) (tPart (tUn (rU fun i => .int (-i)) (tC (.int 1)))) :=
    po_some (pe_un un_neg pe_int)
  refine wpAny_Slice ?_
  rw [evalPart_none]
  refine wpAny_pure (wpAny_pure ?_)
  refine thn (hst.run pins s1 σ H1 (fun o H4 => o = some (-1) ∧ H4 = H1) I1 ⟨1, rfl, -1, rfl, rfl, rfl⟩) fun vs s4 ⟨o, H4, I4, ps, eo, e4⟩ => ?_
  subst eo e4
  have I5 : Inv X pins σ H4 { s4 with heap := s4.heap.push { cls := .type "slice", data := .fields #[.none, .none, vs] } } :=
    I4.kept (t' := s4.toks) fun b ob q => Heap.get?_push_of_some _ q
  obtain ⟨its, r, ht, hz⟩ := I5.tuple hx
  have hlen := r.length
  refine tail_any (ops := [.ref a, .ref s4.heap.objs.size]) ht.typeIs PyProof.Rows.slot_tuple_getitem.lookup ?_ (by with_unfolding_all rfl)
  refine item_back ht (Heap.IsSliceOf.new _ .none .none vs) ps ?_ (by rw [List.size_toArray]; omega)
  refine ⟨.ref _, _, I5.laid (t' := s4.toks) (o := .tup xs.reverse) (fun b ob q => Heap.get?_push_of_some _ q) (Nat.le_refl _) ?_, rfl, q _ (I5.hok.fresh (Nat.le_refl _))⟩
  exact ⟨by rw [List.length_reverse]; exact hz, _, r.reverse, ⟨_, Heap.get?_push_size _ rfl, rfl, _, rfl⟩⟩
end
end Nz
namespace Nz
open PySem PySem.Spec PyProof.Rows L2
/-! ### rules that take several kinds of values -/
section
variable {X : Cx} {K : PySem.W.Frag}
theorem or_op {f : Value → Value → Sem Value} {r r' : R2} (h : OpR X f r) (h' : OpR X f r') : OpR X f (fun x y H Q => r x y H Q ∨ r' x y H Q) := by
  intro pins s σ H x y v u Q I rx ry q
  rcases q with q | q
  · exact h pins s σ H x y v u Q I rx ry q
  · exact h' pins s σ H x y v u Q I rx ry q
theorem or_call {f : Value} {r r' : List V → Hp → VK → Prop} (h : CallR X f r) (h' : CallR X f r') : CallR X f (fun x H Q => r x H Q ∨ r' x H Q) := by
  intro pins s σ H xs us Q I rx q
  rcases q with q | q
  · exact h pins s σ H xs us Q I rx q
  · exact h' pins s σ H xs us Q I rx q
theorem or_iter {tg e : Expr} {t t' : TI} (h : PI X tg e t) (h' : PI X tg e t') : PI X tg e (fun σ H R => t σ H R ∨ t' σ H R) :=
  ⟨fun pins s σ H R I q => q.elim (h.run pins s σ H R I) (h'.run pins s σ H R I)⟩
/-- len of a list or tuple; of a text -/
def rLn (K : PySem.W.Frag) : List V → Hp → VK → Prop := fun vs H Q => (∃ p ys, vs = [.ref p] ∧ (SqL K H p ys ∨ SqT K H p ys) ∧ Q (.int ys.length) H) ∨ ∃ z, vs = [.str z] ∧ z.length ≤ sizeLine ∧ Q (.int z.length) H
theorem c_len : CallR X (.builtin "len") (rLn X.K) := or_call call_len_seq call_len_str
def rTupOf (K : PySem.W.Frag) : List V → Hp → VK → Prop := fun vs H Q => ∃ p ys, vs = [.ref p] ∧ ((SqL K H p ys ∧ ∀ l, H l = none → Q (.ref l) (upd H l (.tup ys))) ∨ (SqT K H p ys ∧ Q (.ref p) H))
theorem c_tuple : CallR X (.type "tuple") (rTupOf X.K) := call_tuple_of
def rLstOf (K : PySem.W.Frag) : List V → Hp → VK → Prop := fun vs H Q => ∃ p ys, vs = [.ref p] ∧ (SqL K H p ys ∨ SqT K H p ys) ∧ ∀ l, H l = none → Q (.ref l) (upd H l (.lst ys))
theorem c_list : CallR X (.type "list") (rLstOf X.K) := call_list_of
def rIntOf : List V → Hp → VK → Prop := fun vs H Q => ∃ i, vs = [.int i] ∧ Q (.int i) H
theorem c_int : CallR X (.type "int") rIntOf := by
  intro pins s σ H xs us Q I r ⟨i, e, q⟩
  exact call_int1 pins s σ H xs us Q I r (.inl ⟨i, e, q⟩)
/-- a slice of a list, a tuple, a text -/
def rSl (K : PySem.W.Frag) : V → Option Int → Option Int → Hp → VK → Prop := fun x lo hi H Q => rSlL K x lo hi H Q ∨ rSlA K x lo hi H Q ∨ rSlS x lo hi H Q
theorem sl_any : SlR X (rSl X.K) := sl_list.or (sl_tupA.or sl_str)
/-- + of ints; of texts; of lists; of tuples -/
def rAd (K : PySem.W.Frag) : R2 := fun x y H Q => (∃ i j, x = .int i ∧ y = .int j ∧ Q (.int (i + j)) H) ∨ (∃ i j, x = .str i ∧ y = .str j ∧ i.length + j.length ≤ sizeLine ∧ Q (.str (i ++ j)) H) ∨ rCat x y H Q ∨ rCatA K x y H Q
theorem ad_any : OpR X (binaryOp .Add) (rAd X.K) := or_op op_add (or_op op_add_str (or_op op_cat op_catA))
def rAdS : R2 := fun x y H Q => ∃ i j, x = .str i ∧ y = .str j ∧ i.length + j.length ≤ sizeLine ∧ Q (.str (i ++ j)) H
theorem ad_str : OpR X (binaryOp .Add) rAdS := op_add_str
/-- == of flat things; of data -/
def rEqA (K : PySem.W.Frag) : R2 := fun x y H Q => (scal x y = true ∧ Q (.bl (decide (x = y))) H) ∨ rEqD K x y H Q
theorem eq_any (hu : X.A.units + 64 < cLine) : OpR X (compareOp .Eq) (rEqA X.K) := or_op op_eq (op_eqD hu)
def rNeA (K : PySem.W.Frag) : R2 := fun x y H Q => (scal x y = true ∧ Q (.bl (!decide (x = y))) H) ∨ rNeD K x y H Q
theorem ne_any (hu : X.A.units + 64 < cLine) : OpR X (compareOp .NotEq) (rNeA X.K) := or_op op_ne (op_neD hu)
/-- a for over a list or a tuple -/
def iSeq (K : PySem.W.Frag) (tl : TE) : TI := fun σ H R => iList K tl σ H R ∨ iTup K tl σ H R
theorem pi_seq {tg l : Expr} {tl : TE} (hl : PE X l tl) : PI X tg l (iSeq X.K tl) := or_iter (pi_list hl) (pi_tup hl)
end
end Nz
namespace Qw
open PySem PySem.Spec PyProof.Rows L2
open Evl (Ex)

/-- a value as a tree: klst is a list that is only read (the script), lst one that the program made; ins: an instance of the class at C -/
inductive W where
  | non | bl (b : Bool) | int (i : Int) | str (s : Str) | tup (ws : List W) | lst (ws : List W) | klst (ws : List W) | ktup (ws : List W)
  | ins (nm : Str) (ns : List Str) (ws : List W) | dct (t : Bool) (ks : List (List Key)) (ws : List W) | opq (v : V) | exc (a d : Addr) (x fn : Str) (w : W)

def kW : Key → W
  | .inl i => .int i
  | .inr s => .str s
/-- a dict; t: its keys are tuples -/
def DctAt (I : Hp) (a : Addr) (t : Bool) (ks : List (List Key)) (vs : List V) : Prop := ks.length = vs.length ∧
  ((t = true ∧ I a = some (.dT (ks.zip vs))) ∨ (t = false ∧ ∃ ls : List Key, ks = ls.map (fun k => [k]) ∧ I a = some (.dK (ls.zip vs))))
mutual
def IsW (K : PySem.W.Frag) (I : Hp) : W → V → Prop
  | .non, v => v = .non
  | .bl b, v => v = .bl b
  | .int i, v => v = .int i
  | .str s, v => v = .str s
  | .tup ws, v => ∃ a vs, v = .ref a ∧ I a = some (.tup vs) ∧ IsWs K I ws vs
  | .lst ws, v => ∃ a vs, v = .ref a ∧ I a = some (.lst vs) ∧ IsWs K I ws vs
  | .klst ws, v => ∃ a vs, v = .ref a ∧ SqL K I a vs ∧ IsWs K I ws vs
  | .ktup ws, v => ∃ a vs, v = .ref a ∧ SqT K I a vs ∧ IsWs K I ws vs
  | .ins _ ns ws, v => ∃ a C dx vs, v = .ref a ∧ I a = some (.ins C dx (ns.zip vs)) ∧ vs.length ≤ ns.length ∧ (Cls K C ∧ ∀ f ∈ ns, NoAttr K C f) ∧ IsWs K I ws vs
  | .dct t ks ws, v => ∃ a vs, v = .ref a ∧ DctAt I a t ks vs ∧ IsWs K I ws vs
  | .opq x, v => v = x
  | .exc a d _ fn w, v => v = .ref a ∧ ∃ u, I d = some (.xd [(fn, u)]) ∧ IsW K I w u
def IsWs (K : PySem.W.Frag) (I : Hp) : List W → List V → Prop
  | [], vs => vs = []
  | w :: ws, vs => ∃ v r, vs = v :: r ∧ IsW K I w v ∧ IsWs K I ws r
end
/-- a tuple that we know -/
theorem sqT_of {K : PySem.W.Frag} {I : Hp} {a : Addr} {vs : List V} (h : I a = some (.tup vs)) : SqT K I a vs := .inl (.inl h)
variable {K : PySem.W.Frag} {I I' I1 I2 H H' H1 H2 I0 H0 : Hp}

theorem DctAt.mono {a : Addr} {t : Bool} {ks : List (List Key)} {vs : List V} (e : Ex I I') (h : DctAt I a t ks vs) : DctAt I' a t ks vs :=
  ⟨h.1, h.2.imp (fun ⟨x, y⟩ => ⟨x, e _ _ y⟩) fun ⟨x, ls, y, z⟩ => ⟨x, ls, y, e _ _ z⟩⟩
mutual
theorem IsW.mono (e : Ex I I') : ∀ {w : W} {v : V}, IsW K I w v → IsW K I' w v
  | .non, _, h => h
  | .bl _, _, h => h
  | .int _, _, h => h
  | .str _, _, h => h
  | .opq _, _, h => h
  | .exc _ _ _ _ _, v, h => by
    simp only [IsW] at h ⊢
    obtain ⟨h1, u, h2, h3⟩ := h
    exact ⟨h1, u, e _ _ h2, IsW.mono e h3⟩
  | .tup ws, v, h => by
    simp only [IsW] at h ⊢
    obtain ⟨a, vs, rfl, h, r⟩ := h
    exact ⟨a, vs, rfl, e _ _ h, IsWs.mono e r⟩
  | .lst ws, v, h => by
    simp only [IsW] at h ⊢
    obtain ⟨a, vs, rfl, h, r⟩ := h
    exact ⟨a, vs, rfl, e _ _ h, IsWs.mono e r⟩
  | .klst ws, v, h => by
    simp only [IsW] at h ⊢
    obtain ⟨a, vs, rfl, h, r⟩ := h
    exact ⟨a, vs, rfl, Evl.ex_l e h, IsWs.mono e r⟩
  | .ktup ws, v, h => by
    simp only [IsW] at h ⊢
    obtain ⟨a, vs, rfl, h, r⟩ := h
    exact ⟨a, vs, rfl, Evl.ex_t e h, IsWs.mono e r⟩
  | .ins C ns ws, v, h => by
    simp only [IsW] at h ⊢
    obtain ⟨a, C, dx, vs, rfl, h, hl, hd, r⟩ := h
    exact ⟨a, C, dx, vs, rfl, e _ _ h, hl, hd, IsWs.mono e r⟩
  | .dct t ks ws, v, h => by
    simp only [IsW] at h ⊢
    obtain ⟨a, vs, rfl, h, r⟩ := h
    exact ⟨a, vs, rfl, h.mono e, IsWs.mono e r⟩
theorem IsWs.mono (e : Ex I I') : ∀ {ws : List W} {vs : List V}, IsWs K I ws vs → IsWs K I' ws vs
  | [], _, h => h
  | w :: ws, vs, h => by
    simp only [IsWs] at h ⊢
    obtain ⟨v, r, rfl, h, t⟩ := h
    exact ⟨v, r, rfl, IsW.mono e h, IsWs.mono e t⟩
end
theorem IsWs.nil : IsWs K I [] [] := by simp only [IsWs]
theorem IsWs.cons {w : W} {v : V} {ws : List W} {vs : List V} (h : IsW K I w v) (t : IsWs K I ws vs) : IsWs K I (w :: ws) (v :: vs) := by
  simp only [IsWs]
  exact ⟨v, vs, rfl, h, t⟩
theorem IsWs.len : ∀ {ws : List W} {vs : List V}, IsWs K I ws vs → ws.length = vs.length
  | [], vs, h => by simp only [IsWs] at h; simp [h]
  | w :: ws, vs, h => by
    simp only [IsWs] at h
    obtain ⟨v, r, rfl, _, t⟩ := h
    simp [IsWs.len t]
theorem IsWs.get : ∀ {ws : List W} {vs : List V} {i : Nat} {w : W}, IsWs K I ws vs → ws[i]? = some w → ∃ v, vs[i]? = some v ∧ IsW K I w v
  | [], vs, i, w, h, e => by simp at e
  | w :: ws, vs, 0, u, h, e => by
    simp only [IsWs] at h
    obtain ⟨v, r, rfl, h, t⟩ := h
    simp at e
    subst e
    exact ⟨v, rfl, h⟩
  | w :: ws, vs, i + 1, u, h, e => by
    simp only [IsWs] at h
    obtain ⟨v, r, rfl, h, t⟩ := h
    obtain ⟨x, h1, h2⟩ := IsWs.get (i := i) t (by simpa using e)
    exact ⟨x, by simpa using h1, h2⟩
theorem IsWs.getV {ws : List W} {vs : List V} {i : Nat} {v : V} (h : IsWs K I ws vs) (e : vs[i]? = some v) : ∃ w, ws[i]? = some w ∧ IsW K I w v := by
  have hl := h.len
  have hi : i < ws.length := by rw [hl]; exact (List.getElem?_eq_some_iff.mp e).1
  obtain ⟨x, h1, h2⟩ := h.get (List.getElem?_eq_getElem hi)
  rw [e] at h1
  cases h1
  exact ⟨_, List.getElem?_eq_getElem hi, h2⟩
theorem IsWs.append : ∀ {ws us : List W} {vs xs : List V}, IsWs K I ws vs → IsWs K I us xs → IsWs K I (ws ++ us) (vs ++ xs)
  | [], us, vs, xs, h, t => by simp only [IsWs] at h; subst h; exact t
  | w :: ws, us, vs, xs, h, t => by
    simp only [IsWs] at h
    obtain ⟨v, r, rfl, h, q⟩ := h
    exact IsWs.cons h (q.append t)
theorem IsWs.take : ∀ {ws : List W} {vs : List V} (n : Nat), IsWs K I ws vs → IsWs K I (ws.take n) (vs.take n)
  | [], vs, n, h => by simp only [IsWs] at h; subst h; simp [IsWs]
  | w :: ws, vs, 0, h => by simp [IsWs]
  | w :: ws, vs, n + 1, h => by
    simp only [IsWs] at h
    obtain ⟨v, r, rfl, h, q⟩ := h
    exact IsWs.cons h (q.take n)
theorem IsWs.drop : ∀ {ws : List W} {vs : List V} (n : Nat), IsWs K I ws vs → IsWs K I (ws.drop n) (vs.drop n)
  | [], vs, n, h => by simp only [IsWs] at h; subst h; simp [IsWs]
  | w :: ws, vs, 0, h => h
  | w :: ws, vs, n + 1, h => by
    simp only [IsWs] at h
    obtain ⟨v, r, rfl, h, q⟩ := h
    exact q.drop n
theorem IsWs.set : ∀ {ws : List W} {vs : List V} {w : W} {v : V} (n : Nat), IsWs K I ws vs → IsW K I w v → IsWs K I (ws.set n w) (vs.set n v)
  | [], vs, _, _, n, h, _ => by simp only [IsWs] at h; subst h; simp [IsWs]
  | _ :: ws, vs, _, _, 0, h, t => by
    simp only [IsWs] at h
    obtain ⟨v, r, rfl, h, q⟩ := h
    exact IsWs.cons t q
  | _ :: ws, vs, _, _, n + 1, h, t => by
    simp only [IsWs] at h
    obtain ⟨v, r, rfl, h, q⟩ := h
    exact IsWs.cons h (q.set n t)
theorem IsWs.reverse : ∀ {ws : List W} {vs : List V}, IsWs K I ws vs → IsWs K I ws.reverse vs.reverse
  | [], vs, h => by simp only [IsWs] at h; subst h; simp [IsWs]
  | _ :: ws, vs, h => by
    simp only [IsWs] at h
    obtain ⟨v, r, rfl, h, q⟩ := h
    rw [List.reverse_cons, List.reverse_cons]
    exact q.reverse.append (IsWs.cons h IsWs.nil)
theorem IsWs.ints : ∀ {ns : List Int} {vs : List V}, IsWs K I (ns.map W.int) vs → vs = ns.map V.int
  | [], vs, h => by simp only [List.map_nil, IsWs] at h; rw [h]; rfl
  | n :: ns, vs, h => by
    simp only [List.map_cons, IsWs] at h
    obtain ⟨v, r, rfl, h, q⟩ := h
    simp only [IsW] at h
    rw [h, IsWs.ints q]
    rfl
theorem IsWs.ofInts : ∀ {ns : List Int}, IsWs K I (ns.map W.int) (ns.map V.int)
  | [] => by simp [IsWs]
  | n :: ns => IsWs.cons (by simp [IsW]) IsWs.ofInts
theorem IsWs.strs : ∀ {ns : List Str} {vs : List V}, IsWs K I (ns.map W.str) vs → vs = ns.map V.str
  | [], vs, h => by simp only [List.map_nil, IsWs] at h; rw [h]; rfl
  | n :: ns, vs, h => by
    simp only [List.map_cons, IsWs] at h
    obtain ⟨v, r, rfl, h, q⟩ := h
    simp only [IsW] at h
    rw [h, IsWs.strs q]
    rfl

/-! ### heaps: I what is fixed, H all -/
structure Ext (I H I' H' : Hp) : Prop where
  h : Ex H H'
  i : Ex I I'
  ih : Ex I' H'
  k : ∀ a, H a ≠ none → I' a = I a
theorem Ext.refl (e : Ex I H) : Ext I H I H := ⟨Ex.refl _, Ex.refl _, e, fun _ _ => rfl⟩
theorem ne_some {a : Addr} (e : Ex H H') (h : H a ≠ none) : H' a ≠ none := by
  cases q : H a with
  | none => exact absurd q h
  | some o => rw [e _ _ q]; exact fun z => nomatch z
theorem Ext.trans (a : Ext I H I1 H1) (b : Ext I1 H1 I2 H2) : Ext I H I2 H2 :=
  ⟨a.h.trans b.h, a.i.trans b.i, b.ih, fun x hx => (b.k x (ne_some a.h hx)).trans (a.k x hx)⟩
theorem some_ne {a : Addr} {o : HO} (h : H a = some o) : H a ≠ none := by rw [h]; exact fun z => nomatch z
/-- a new fixed object -/
theorem Ext.new {p : Addr} {o : HO} (e : Ext I H I1 H1) (hp : H1 p = none) : Ext I H (upd I1 p o) (upd H1 p o) := by
  have hi : I1 p = none := Evl.fresh_back e.ih hp
  refine ⟨e.h.trans (Ex.new hp), e.i.trans (Ex.new hi), fun a u q => ?_, fun a ha => ?_⟩
  · by_cases ha : a = p
    · subst ha
      rw [upd_same] at q ⊢
      exact q
    · rw [upd_ne ha] at q ⊢
      exact e.ih _ _ q
  · have : a ≠ p := fun z => ne_some e.h ha (z ▸ hp)
    rw [upd_ne this]
    exact e.k a ha
/-- a new object of our own -/
theorem Ext.newOwn {p : Addr} {o : HO} (e : Ext I H I1 H1) (hp : H1 p = none) : Ext I H I1 (upd H1 p o) :=
  ⟨e.h.trans (Ex.new hp), e.i, e.ih.trans (Ex.new hp), e.k⟩
/-- one of our own is fixed -/
theorem Ext.fix {p : Addr} {o : HO} (e : Ext I H I1 H1) (hp : H p = none) (hi : I1 p = none) (ho : H1 p = some o) : Ext I H (upd I1 p o) H1 := by
  refine ⟨e.h, e.i.trans (Ex.new hi), fun a u q => ?_, fun a ha => ?_⟩
  · by_cases hb : a = p
    · subst hb
      rw [upd_same] at q
      rw [ho]
      exact q
    · rw [upd_ne hb] at q
      exact e.ih _ _ q
  · have : a ≠ p := fun z => ha (z ▸ hp)
    rw [upd_ne this]
    exact e.k a ha
/-- one of our own is changed -/
theorem Ext.chg {p : Addr} {o : HO} (e : Ext I H I1 H1) (hp : H p = none) (hi : I1 p = none) : Ext I H I1 (upd H1 p o) :=
  ⟨e.h.mut hp, e.i, e.ih.mut hi, e.k⟩

inductive SV where
  | imm (w : W) | own (w : W)
def SV.w : SV → W
  | .imm w => w
  | .own w => w
abbrev En := List (Option SV)
def OwnAt (K : PySem.W.Frag) (I H : Hp) (p : Addr) : W → Prop
  | .lst ws => ∃ vs, H p = some (.lst vs) ∧ IsWs K I ws vs
  | .dct t ks ws => ∃ vs, DctAt H p t ks vs ∧ IsWs K I ws vs
  | .ins nm ns ws => nm = ⟨#[p]⟩ ∧ ∃ C dx vs, H p = some (.ins C dx (ns.zip vs)) ∧ vs.length ≤ ns.length ∧ (Cls K C ∧ ∀ f ∈ ns, NoAttr K C f) ∧ IsWs K I ws vs
  | _ => False
theorem OwnAt.ne {p : Addr} {w : W} (h : OwnAt K I H p w) : H p ≠ none := by
  cases w with
  | lst ws => obtain ⟨vs, h, _⟩ := h; exact some_ne h
  | dct t ks ws =>
    obtain ⟨vs, ⟨_, h⟩, _⟩ := h
    rcases h with ⟨_, h⟩ | ⟨_, _, _, h⟩ <;> exact some_ne h
  | ins nm ns ws => obtain ⟨_, C, dx, vs, h, _⟩ := h; exact some_ne h
  | _ => exact h.elim
theorem OwnAt.mono {p : Addr} {w : W} (e : Ex I I') (hp : H' p = H p) (h : OwnAt K I H p w) : OwnAt K I' H' p w := by
  cases w with
  | lst ws => obtain ⟨vs, h, r⟩ := h; exact ⟨vs, hp.trans h, r.mono e⟩
  | dct t ks ws =>
    obtain ⟨vs, ⟨l, h⟩, r⟩ := h
    exact ⟨vs, ⟨l, h.imp (fun ⟨x, y⟩ => ⟨x, hp.trans y⟩) fun ⟨x, ls, y, z⟩ => ⟨x, ls, y, hp.trans z⟩⟩, r.mono e⟩
  | ins nm ns ws => obtain ⟨hn, C, dx, vs, h, l, c, r⟩ := h; exact ⟨hn, C, dx, vs, hp.trans h, l, c, r.mono e⟩
  | _ => exact h.elim
theorem OwnAt.fix {p : Addr} {w : W} {o : HO} (hi : I p = none) (ho : H p = some o) (h : OwnAt K I H p w) : IsW K (upd I p o) w (.ref p) := by
  cases w with
  | lst ws =>
    obtain ⟨vs, h, r⟩ := h
    rw [ho] at h
    cases h
    simp only [IsW]
    exact ⟨p, vs, rfl, upd_same, r.mono (Ex.new hi)⟩
  | dct t ks ws =>
    obtain ⟨vs, ⟨l, h⟩, r⟩ := h
    simp only [IsW]
    refine ⟨p, vs, rfl, ⟨l, ?_⟩, r.mono (Ex.new hi)⟩
    rcases h with ⟨x, h⟩ | ⟨x, ls, y, h⟩
    · rw [ho] at h; cases h; exact .inl ⟨x, upd_same⟩
    · rw [ho] at h; cases h; exact .inr ⟨x, ls, y, upd_same⟩
  | ins nm ns ws =>
    obtain ⟨hn, C, dx, vs, h, l, c, r⟩ := h
    rw [ho] at h
    cases h
    simp only [IsW]
    exact ⟨p, C, dx, vs, rfl, upd_same, l, c, r.mono (Ex.new hi)⟩
  | _ => exact h.elim
/-- a result, made since H -/
def Res (K : PySem.W.Frag) (I' H' H : Hp) : SV → V → Prop
  | .imm w, v => IsW K I' w v
  | .own w, v => ∃ p, v = .ref p ∧ I' p = none ∧ H p = none ∧ OwnAt K I' H' p w
theorem Res.weak {sv : SV} {v : V} (e : Ex H H1) (r : Res K I' H' H1 sv v) : Res K I' H' H sv v := by
  cases sv with
  | imm w => exact r
  | own w =>
    obtain ⟨p, rfl, a, b, c⟩ := r
    exact ⟨p, rfl, a, Evl.fresh_back e b, c⟩
theorem Res.mono {sv : SV} {v : V} (e : Ext I H I' H') (r : Res K I H H0 sv v) : Res K I' H' H0 sv v := by
  cases sv with
  | imm w => exact IsW.mono e.i r
  | own w =>
    obtain ⟨p, rfl, a, b, c⟩ := r
    have hs := c.ne
    have hp : H' p = H p := by
      cases q : H p with
      | none => exact absurd q hs
      | some o => exact e.h _ _ q
    exact ⟨p, rfl, (e.k p hs).trans a, b, c.mono e.i hp⟩
theorem Res.use {sv : SV} {v : V} (e : Ext I H I' H') (r : Res K I' H' H sv v) : ∃ I'', Ext I H I'' H' ∧ Ex I' I'' ∧ IsW K I'' sv.w v := by
  cases sv with
  | imm w => exact ⟨I', e, Ex.refl _, r⟩
  | own w =>
    obtain ⟨p, rfl, a, b, c⟩ := r
    cases q : H' p with
    | none => exact absurd q c.ne
    | some o => exact ⟨upd I' p o, e.fix b a q, Ex.new a, c.fix a q⟩

structure Sat (K : PySem.W.Frag) (I0 H0 I : Hp) (e : En) (σ : L2.St) (H : Hp) : Prop where
  x : Ext I0 H0 I H
  len : e.length = σ.length
  slot : ∀ (i : Nat) (sv : SV), e[i]? = some (some sv) → ∃ v, σ[i]? = some (some v) ∧ Res K I H H0 sv v
  sep : ∀ (i j : Nat) (w w' : W), e[i]? = some (some (SV.own w)) → e[j]? = some (some (SV.own w')) → i ≠ j → σ[i]? ≠ σ[j]?
variable {e : En} {σ : L2.St}
theorem Sat.mono (S : Sat K I0 H0 I e σ H) (x : Ext I H I' H') : Sat K I0 H0 I' e σ H' :=
  ⟨S.x.trans x, S.len, fun i sv h => let ⟨v, a, b⟩ := S.slot i sv h; ⟨v, a, b.mono x⟩, S.sep⟩
theorem Sat.ext (S : Sat K I0 H0 I e σ H) : Ex I H := S.x.ih
theorem Sat.ref (S : Sat K I0 H0 I e σ H) : Ext I H I H := Ext.refl S.x.ih
theorem set_get {α : Type} {l : List α} {i j : Nat} {x y : α} (h : (l.set i x)[j]? = some y) : (j = i ∧ y = x) ∨ (j ≠ i ∧ l[j]? = some y) := by
  by_cases e : j = i
  · subst e
    have hl : j < l.length := by
      have := (List.getElem?_eq_some_iff.mp h).1
      simpa using this
    rw [List.getElem?_set_self hl] at h
    cases h
    exact .inl ⟨rfl, rfl⟩
  · rw [List.getElem?_set_ne (Ne.symm e)] at h
    exact .inr ⟨e, h⟩
/-- a slot is stored -/
theorem Sat.set (S : Sat K I0 H0 I e σ H) (x : Ext I H I' H') {sv : SV} {v : V} (r : Res K I' H' H sv v) (i : Nat) : Sat K I0 H0 I' (e.set i (some sv)) (σ.set i (some v)) H' := by
  have S' := S.mono x
  have own : ∀ (j : Nat) (w : W), e[j]? = some (some (.own w)) → ∃ p, σ[j]? = some (some (.ref p)) ∧ H p ≠ none := fun j w h => by
    obtain ⟨v, a, b⟩ := S.slot j _ h
    obtain ⟨p, rfl, _, _, c⟩ := b
    exact ⟨p, a, c.ne⟩
  have at_i : i < e.length → (σ.set i (some v))[i]? = some (some v) := fun h => List.getElem?_set_self (by rw [← S.len]; exact h)
  refine ⟨S'.x, by simp [S'.len], fun j sv' h => ?_, fun j k w w' h1 h2 hne => ?_⟩
  · rcases set_get h with ⟨rfl, hz⟩ | ⟨hj, h⟩
    · cases hz
      have hl : j < e.length := by simpa using (List.getElem?_eq_some_iff.mp h).1
      exact ⟨v, at_i hl, r.weak S.x.h⟩
    · rw [List.getElem?_set_ne (Ne.symm hj)]
      exact S'.slot j sv' h
  · rcases set_get h1 with ⟨rfl, hz⟩ | ⟨hj, h⟩
    · cases hz
      have hl : j < e.length := by simpa using (List.getElem?_eq_some_iff.mp h1).1
      rcases set_get h2 with ⟨rfl, _⟩ | ⟨hk, h'⟩
      · exact absurd rfl hne
      · rw [at_i hl, List.getElem?_set_ne (Ne.symm hk)]
        obtain ⟨p, hp, hs⟩ := own k w' h'
        obtain ⟨q, rfl, _, hq, _⟩ := r
        rw [hp]
        intro z
        cases z
        exact hs hq
    · rcases set_get h2 with ⟨rfl, hz⟩ | ⟨hk, h'⟩
      · cases hz
        have hl : k < e.length := by simpa using (List.getElem?_eq_some_iff.mp h2).1
        rw [at_i hl, List.getElem?_set_ne (Ne.symm hj)]
        obtain ⟨p, hp, hs⟩ := own j w h
        obtain ⟨q, rfl, _, hq, _⟩ := r
        rw [hp]
        intro z
        cases z
        exact hs hq
      · rw [List.getElem?_set_ne (Ne.symm hj), List.getElem?_set_ne (Ne.symm hk)]
        exact S.sep j k w w' h h' hne
/-- a slot is forgotten -/
theorem Sat.del (S : Sat K I0 H0 I e σ H) (i : Nat) (o : Option V) : Sat K I0 H0 I (e.set i none) (σ.set i o) H := by
  refine ⟨S.x, by simp [S.len], fun j sv' h => ?_, fun j k w w' h1 h2 hne => ?_⟩
  · rcases set_get h with ⟨rfl, hz⟩ | ⟨hj, h⟩
    · cases hz
    · rw [List.getElem?_set_ne (Ne.symm hj)]
      exact S.slot j sv' h
  · rcases set_get h1 with ⟨rfl, hz⟩ | ⟨hj, h⟩
    · cases hz
    · rcases set_get h2 with ⟨rfl, hz⟩ | ⟨hk, h'⟩
      · cases hz
      · rw [List.getElem?_set_ne (Ne.symm hj), List.getElem?_set_ne (Ne.symm hk)]
        exact S.sep j k w w' h h' hne
/-- one of our own, at slot i, is changed -/
theorem Sat.chg (S : Sat K I0 H0 I e σ H) {i : Nat} {w w' : W} {p : Addr} {o : HO} (hs : e[i]? = some (some (.own w))) (hp : σ[i]? = some (some (.ref p))) (n : OwnAt K I (upd H p o) p w') :
    Sat K I0 H0 I (e.set i (some (.own w'))) σ (upd H p o) := by
  obtain ⟨v, a, q, rfl, hi, h0, hq⟩ := S.slot i _ hs
  rw [hp] at a
  cases a
  have hl : i < e.length := (List.getElem?_eq_some_iff.mp hs).1
  refine ⟨S.x.chg h0 hi, by simp [S.len], fun j sv' h => ?_, fun j k u u' h1 h2 hne => ?_⟩
  · rcases set_get h with ⟨rfl, hz⟩ | ⟨hj, h⟩
    · cases hz
      exact ⟨_, hp, p, rfl, hi, h0, n⟩
    · obtain ⟨v, a, b⟩ := S.slot j sv' h
      refine ⟨v, a, ?_⟩
      cases sv' with
      | imm u => exact b
      | own u =>
        obtain ⟨q, rfl, b1, b2, b3⟩ := b
        have hqp : q ≠ p := by
          rintro rfl
          exact S.sep j i u w h hs hj (a.trans hp.symm)
        exact ⟨q, rfl, b1, b2, b3.mono (Ex.refl _) (upd_ne hqp)⟩
  · have f : ∀ {j : Nat} {u : W}, (e.set i (some (SV.own w')))[j]? = some (some (SV.own u)) → ∃ u : W, e[j]? = some (some (SV.own u)) := fun {j u} h => by
      rcases set_get h with ⟨rfl, _⟩ | ⟨_, h⟩
      · exact ⟨w, hs⟩
      · exact ⟨u, h⟩
    obtain ⟨_, h1⟩ := f h1
    obtain ⟨_, h2⟩ := f h2
    exact S.sep j k _ _ h1 h2 hne
/-- one of our own is fixed -/
def fixSlot (e : En) (i : Nat) : En := match e[i]? with
  | some (some (.own w)) => e.set i (some (.imm w))
  | _ => e
theorem fix_own {j i : Nat} {u : W} (h : (fixSlot e i)[j]? = some (some (.own u))) : j ≠ i ∧ e[j]? = some (some (.own u)) := by
  unfold fixSlot at h
  split at h
  next w hs =>
    rcases set_get h with ⟨rfl, hz⟩ | h
    · cases hz
    · exact h
  next hn =>
    refine ⟨?_, h⟩
    rintro rfl
    exact hn u h
theorem Sat.fix (S : Sat K I0 H0 I e σ H) (i : Nat) : ∃ I', Ex I I' ∧ Sat K I0 H0 I' (fixSlot e i) σ H := by
  unfold fixSlot
  split
  next w hs =>
    obtain ⟨v, a, p, rfl, hi, h0, hq⟩ := S.slot i _ hs
    cases q : H p with
    | none => exact absurd q hq.ne
    | some o =>
      have hl : i < e.length := (List.getElem?_eq_some_iff.mp hs).1
      have x1 : Ext I0 H0 (upd I p o) H := S.x.fix h0 hi q
      have eI : Ex I (upd I p o) := Ex.new hi
      refine ⟨upd I p o, eI, x1, by simp [S.len], fun j sv' h => ?_, fun j k u u' h1 h2 hne => ?_⟩
      · rcases set_get h with ⟨rfl, hz⟩ | ⟨hj, h⟩
        · cases hz
          exact ⟨_, a, hq.fix hi q⟩
        · obtain ⟨v, a', b⟩ := S.slot j sv' h
          refine ⟨v, a', ?_⟩
          cases sv' with
          | imm u => exact IsW.mono eI b
          | own u =>
            obtain ⟨q', rfl, b1, b2, b3⟩ := b
            have hqp : q' ≠ p := by
              rintro rfl
              exact S.sep j i u w h hs hj (a'.trans a.symm)
            exact ⟨q', rfl, (upd_ne hqp).trans b1, b2, b3.mono eI rfl⟩
      · rcases set_get h1 with ⟨_, h⟩ | ⟨_, h1⟩
        · cases h
        · rcases set_get h2 with ⟨_, h⟩ | ⟨_, h2⟩
          · cases h
          · exact S.sep j k _ _ h1 h2 hne
  next => exact ⟨I, Ex.refl _, S⟩
end Qw
namespace Qw
open PySem PySem.Spec PyProof.Rows L2 Nz
open Evl (Ex)
/-! ### readings by functions of the slots -/
def tW (K : PySem.W.Frag) (f : En → Option W) : TE := fun σ H Q => ∃ I0 H0 I e w, Sat K I0 H0 I e σ H ∧ f e = some w ∧ ∀ I' H' v, Ext I H I' H' → IsW K I' w v → Q v H'
def tR (K : PySem.W.Frag) (f : En → Option SV) : TE := fun σ H Q => ∃ I0 H0 I e sv, Sat K I0 H0 I e σ H ∧ f e = some sv ∧ ∀ I' H' v, Ext I H I' H' → Res K I' H' H sv v → Q v H'
def tT (K : PySem.W.Frag) (f : En → Option Bool) : TT := fun σ H Q => ∃ I0 H0 I e b, Sat K I0 H0 I e σ H ∧ f e = some b ∧ ∀ I' H', Ext I H I' H' → Q b H'
def tA (K : PySem.W.Frag) (f : En → Option (List W)) : TA := fun σ H Q => ∃ I0 H0 I e ws, Sat K I0 H0 I e σ H ∧ f e = some ws ∧ ∀ I' H' vs, Ext I H I' H' → IsWs K I' ws vs → Q vs H'
def tO (K : PySem.W.Frag) (f : En → Option (Option Int)) : TO := fun σ H Q => ∃ I0 H0 I e o, Sat K I0 H0 I e σ H ∧ f e = some o ∧ ∀ I' H', Ext I H I' H' → Q o H'

/-! ### the functions -/
def fVar (i : Nat) : En → Option W := fun e => match e[i]? with
  | some (some (.imm w)) => some w
  | _ => none
def fC (w : W) : En → Option W := fun _ => some w
def fBin (o : W → W → Option W) (f g : En → Option W) : En → Option W := fun e => match f e with
  | some a => (match g e with
    | some b => o a b
    | none => none)
  | none => none
def fBinR (o : W → W → Option SV) (f g : En → Option W) : En → Option SV := fun e => match f e with
  | some a => (match g e with
    | some b => o a b
    | none => none)
  | none => none
def fUn (o : W → Option W) (f : En → Option W) : En → Option W := fun e => match f e with
  | some a => o a
  | none => none
def fFrz (f : En → Option SV) : En → Option W := fun e => match f e with
  | some sv => some sv.w
  | none => none
def fImm (f : En → Option W) : En → Option SV := fun e => match f e with
  | some w => some (.imm w)
  | none => none
def fNil : En → Option (List W) := fun _ => some []
def fCons (f : En → Option W) (g : En → Option (List W)) : En → Option (List W) := fun e => match f e with
  | some a => (match g e with
    | some b => some (a :: b)
    | none => none)
  | none => none
def fCall (o : List W → Option SV) (g : En → Option (List W)) : En → Option SV := fun e => match g e with
  | some ws => o ws
  | none => none
def fCallW (o : List W → Option W) (g : En → Option (List W)) : En → Option W := fun e => match g e with
  | some ws => o ws
  | none => none
def fNone : En → Option (Option Int) := fun _ => some none
def fSome (f : En → Option W) : En → Option (Option Int) := fun e => match f e with
  | some (.int i) => some (some i)
  | _ => none
def fSl (o : W → Option Int → Option Int → Option SV) (f : En → Option W) (g h : En → Option (Option Int)) : En → Option SV := fun e => match f e with
  | some a => (match g e with
    | some l => (match h e with
      | some u => o a l u
      | none => none)
    | none => none)
  | none => none
/-- all slots read as fixed -/
def view : En → En := List.map fun s => match s with
  | some (.own w) => some (.imm w)
  | s => s
def flatW : W → Bool
  | .non => true
  | .bl _ => true
  | .int _ => true
  | .str _ => true
  | _ => false
def fBor (f : En → Option W) : En → Option W := fun e => match f (view e) with
  | some w => if flatW w = true then some w else none
  | none => none

section
variable {X : Cx} {K : PySem.W.Frag} {I I' I1 I2 H H' H1 H2 I0 H0 : Hp} {e : En} {σ : L2.St}
theorem pe_imp {ex : Expr} {t t' : TE} (h : PE X ex t) (k : ∀ σ H Q, t' σ H Q → t σ H Q) : PE X ex t' := ⟨fun pins s σ H Q I q => h.run pins s σ H Q I (k σ H Q q)⟩
theorem pt_imp {ex : Expr} {t t' : TT} (h : PT X ex t) (k : ∀ σ H Q, t' σ H Q → t σ H Q) : PT X ex t' := ⟨fun pins s σ H Q I q => h.run pins s σ H Q I (k σ H Q q)⟩
theorem pa_imp {ex : List Expr} {t t' : TA} (h : PA X ex t) (k : ∀ σ H Q, t' σ H Q → t σ H Q) : PA X ex t' := ⟨fun pos pins s σ H Q I q => h.run pos pins s σ H Q I (k σ H Q q)⟩
theorem po_imp {ex : Option Expr} {t t' : TO} (h : PO X ex t) (k : ∀ σ H Q, t' σ H Q → t σ H Q) : PO X ex t' := ⟨fun pins s σ H Q I q => h.run pins s σ H Q I (k σ H Q q)⟩
theorem frz_use {f : En → Option SV} {Q : VK} : tW K (fFrz f) σ H Q → tR K f σ H Q := fun ⟨I0, H0, I, e, w, S, hf, k⟩ => by
  unfold fFrz at hf
  split at hf
  next sv hs =>
    cases hf
    refine ⟨I0, H0, I, e, sv, S, hs, fun I' H' v x r => ?_⟩
    obtain ⟨I'', x', _, q⟩ := r.use x
    exact k _ _ _ x' q
  next => cases hf
theorem imm_use {f : En → Option W} {Q : VK} : tR K (fImm f) σ H Q → tW K f σ H Q := fun ⟨I0, H0, I, e, sv, S, hf, k⟩ => by
  unfold fImm at hf
  split at hf
  next w hs =>
    cases hf
    exact ⟨I0, H0, I, e, w, S, hs, fun I' H' v x r => k _ _ _ x r⟩
  next => cases hf
/-- frozen -/
theorem qfrz {ex : Expr} {f : En → Option SV} (h : PE X ex (tR X.K f)) : PE X ex (tW X.K (fFrz f)) := pe_imp h fun _ _ _ => frz_use
theorem qimm {ex : Expr} {f : En → Option W} (h : PE X ex (tW X.K f)) : PE X ex (tR X.K (fImm f)) := pe_imp h fun _ _ _ => imm_use
/-! ### names, constants -/
theorem qv (i : Nat) {x : Str} {pos : Pos} (hN : X.N[i]? = some x := by rfl) (hv : Vis X.env.scope x := by first | exact Or.inl rfl | exact Or.inr (Or.inl rfl) | exact Or.inr (Or.inr rfl)) (hd : (x == ("__debug__" : Str)) = false := by decide)
    (hcd : (x == ("__classdict__" : Str)) = false := by decide) : PE X (.Name x pos) (tW X.K (fVar i)) := pe_imp (pe_var hN hv hd hcd) fun σ H Q ⟨I0, H0, I, e, w, S, hf, k⟩ => by
  unfold fVar at hf
  split at hf
  next w' hs =>
    cases hf
    obtain ⟨v, a, b⟩ := S.slot i _ hs
    exact ⟨v, a, k _ _ _ S.ref b⟩
  next => cases hf
theorem q_c {ex : Expr} {v : V} {w : W} (h : PE X ex (tC v)) (r : ∀ I, IsW X.K I w v) : PE X ex (tW X.K (fC w)) := pe_imp h fun σ H Q ⟨I0, H0, I, e, w', S, hf, k⟩ => by
  cases hf
  exact k _ _ _ S.ref (r _)
theorem qint {i : Int} {j pos} : PE X (.Constant (.int i) j pos) (tW X.K (fC (.int i))) := q_c pe_int fun _ => by simp [IsW]
theorem qbl {b : Bool} {j pos} : PE X (.Constant (.bool b) j pos) (tW X.K (fC (.bl b))) := q_c pe_bl fun _ => by simp [IsW]
theorem qnon {j pos} : PE X (.Constant .none j pos) (tW X.K (fC .non)) := q_c pe_non fun _ => by simp [IsW]
theorem qstr {x : Str} {j pos} : PE X (.Constant (.str x) j pos) (tW X.K (fC (.str x))) := q_c pe_str fun _ => by simp [IsW]
/-! ### two operands -/
theorem bin_use {f g : En → Option W} {a b : W} {R : V → V → Hp → Prop} (S : Sat K I0 H0 I e σ H) (ha : f e = some a) (hb : g e = some b) (k : ∀ I' H' x y, Ext I H I' H' → IsW K I' a x → IsW K I' b y → R x y H') :
    tW K f σ H fun x H1 => tW K g σ H1 fun y H2 => R x y H2 :=
  ⟨I0, H0, I, e, a, S, ha, fun I1 H1 x x1 r1 => ⟨I0, H0, I1, e, b, S.mono x1, hb, fun I2 H2 y x2 r2 => k I2 H2 x y (x1.trans x2) (IsW.mono x2.i r1) r2⟩⟩
def BinV (K : PySem.W.Frag) (r : R2) (o : W → W → Option W) : Prop := ∀ (I H : Hp) (a b : W) (x y : V) (w : W) (Q : VK), Ex I H → IsW K I a x → IsW K I b y → o a b = some w → (∀ I' H' v, Ext I H I' H' → IsW K I' w v → Q v H') → r x y H Q
def BinR (K : PySem.W.Frag) (r : R2) (o : W → W → Option SV) : Prop := ∀ (I H : Hp) (a b : W) (x y : V) (sv : SV) (Q : VK), Ex I H → IsW K I a x → IsW K I b y → o a b = some sv → (∀ I' H' v, Ext I H I' H' → Res K I' H' H sv v → Q v H') → r x y H Q
theorem binV_use {r : R2} {o : W → W → Option W} {f g : En → Option W} (hw : BinV K r o) {Q : VK} : tW K (fBin o f g) σ H Q → tOp r (tW K f) (tW K g) σ H Q := fun ⟨I0, H0, I, e, w, S, hf, k⟩ => by
  unfold fBin at hf
  split at hf
  next a ha =>
    split at hf
    next b hb => exact bin_use S ha hb fun I' H' x y x1 r1 r2 => hw I' H' a b x y w Q x1.ih r1 r2 hf fun I2 H2 v x2 r => k _ _ _ (x1.trans x2) r
    next => cases hf
  next => cases hf
theorem binR_use {r : R2} {o : W → W → Option SV} {f g : En → Option W} (hw : BinR K r o) {Q : VK} : tR K (fBinR o f g) σ H Q → tOp r (tW K f) (tW K g) σ H Q := fun ⟨I0, H0, I, e, w, S, hf, k⟩ => by
  unfold fBinR at hf
  split at hf
  next a ha =>
    split at hf
    next b hb => exact bin_use S ha hb fun I' H' x y x1 r1 r2 => hw I' H' a b x y w Q x1.ih r1 r2 hf fun I2 H2 v x2 r => k _ _ _ (x1.trans x2) (r.weak x1.h)
    next => cases hf
  next => cases hf
theorem qop {op : Operator} {r : R2} {o : W → W → Option W} {a b : Expr} {f g : En → Option W} {pos : Pos} (ho : OpR X (binaryOp op) r) (hw : BinV X.K r o) (ha : PE X a (tW X.K f)) (hb : PE X b (tW X.K g)) :
    PE X (.BinOp a op b pos) (tW X.K (fBin o f g)) := pe_imp (pe_op ho ha hb) fun _ _ _ => binV_use hw
theorem qopR {op : Operator} {r : R2} {o : W → W → Option SV} {a b : Expr} {f g : En → Option W} {pos : Pos} (ho : OpR X (binaryOp op) r) (hw : BinR X.K r o) (ha : PE X a (tW X.K f)) (hb : PE X b (tW X.K g)) :
    PE X (.BinOp a op b pos) (tR X.K (fBinR o f g)) := pe_imp (pe_op ho ha hb) fun _ _ _ => binR_use hw
theorem qcmp {op : CmpOp} {r : R2} {o : W → W → Option W} {a b : Expr} {f g : En → Option W} {pos : Pos} (ho : OpR X (compareOp op) r) (hw : BinV X.K r o) (ha : PE X a (tW X.K f)) (hb : PE X b (tW X.K g)) (hm : behindInMarks op b = false) :
    PE X (.Compare a [op] [b] pos) (tW X.K (fBin o f g)) := pe_imp (pe_cmpR ho ha hb hm) fun _ _ _ => binV_use hw
/-! ### ints -/
def addI : W → W → Option W
  | .int i, .int j => some (.int (i + j))
  | _, _ => none
def subW : W → W → Option W
  | .int i, .int j => some (.int (i - j))
  | _, _ => none
def small (i : Int) : Bool := decide (-(2 ^ 64) < i ∧ i < 2 ^ 64)
def mulW : W → W → Option W
  | .int i, .int j => if small i = true ∨ small j = true then some (.int (i * j)) else none
  | _, _ => none
def modW : W → W → Option W
  | .int i, .int j => if 0 < j then some (.int (i % j)) else none
  | _, _ => none
def divW : W → W → Option W
  | .int i, .int j => if 0 < j ∧ j < 2 ^ 1000 then some (.int (i / j)) else none
  | _, _ => none
def powW : W → W → Option W
  | .int i, .int j => if 0 ≤ j ∧ j ≤ 1000 ∧ i.natAbs < 2 ^ 64 then some (.int (i ^ j.toNat)) else none
  | _, _ => none
theorem isInt {i : Int} {v : V} : IsW K I (.int i) v ↔ v = .int i := by simp [IsW]
theorem isBl {i : Bool} {v : V} : IsW K I (.bl i) v ↔ v = .bl i := by simp [IsW]
theorem isStr {i : Str} {v : V} : IsW K I (.str i) v ↔ v = .str i := by simp [IsW]
theorem isNon {v : V} : IsW K I .non v ↔ v = .non := by simp [IsW]
theorem bv_add : BinV K (rI0 fun i j => .int (i + j)) addI := by
  intro I H a b x y w Q ex ra rb ho k
  cases a <;> cases b <;> try (cases ho; done)
  cases ho
  rw [isInt] at ra rb
  exact ⟨_, _, ra, rb, k _ _ _ (Ext.refl ex) (isInt.mpr rfl)⟩
theorem bv_sub : BinV K (rI0 fun i j => .int (i - j)) subW := by
  intro I H a b x y w Q ex ra rb ho k
  cases a <;> cases b <;> try (cases ho; done)
  cases ho
  rw [isInt] at ra rb
  exact ⟨_, _, ra, rb, k _ _ _ (Ext.refl ex) (isInt.mpr rfl)⟩
theorem bv_mod : BinV K (rI (fun _ j => 0 < j) fun i j => .int (i % j)) modW := by
  intro I H a b x y w Q ex ra rb ho k
  cases a <;> cases b <;> try (cases ho; done)
  simp only [modW] at ho
  split at ho
  next h =>
    cases ho
    rw [isInt] at ra rb
    exact ⟨_, _, ra, rb, h, k _ _ _ (Ext.refl ex) (isInt.mpr rfl)⟩
  next => cases ho
theorem bv_div : BinV K (rI CDivW fun i j => .int (i / j)) divW := by
  intro I H a b x y w Q ex ra rb ho k
  cases a <;> cases b <;> try (cases ho; done)
  simp only [divW] at ho
  split at ho
  next h =>
    cases ho
    rw [isInt] at ra rb
    refine ⟨_, _, ra, rb, ⟨h.1, ?_⟩, k _ _ _ (Ext.refl ex) (isInt.mpr rfl)⟩
    rename_i j
    have hn : j.natAbs ≠ 0 := by omega
    have h2 : j.natAbs < 2 ^ 1000 := by
      have e : ((j.natAbs : Nat) : Int) < ((2 ^ 1000 : Nat) : Int) := by
        rw [Int.natAbs_of_nonneg (by omega), Int.natCast_pow]
        exact h.2
      exact Int.ofNat_lt.mp e
    exact Nat.lt_trans ((Nat.log2_lt hn).mpr h2) (by decide)
  next => cases ho
theorem bv_pow : BinV K (rI CPow fun i j => .int (i ^ j.toNat)) powW := by
  intro I H a b x y w Q ex ra rb ho k
  cases a <;> cases b <;> try (cases ho; done)
  simp only [powW] at ho
  split at ho
  next h =>
    cases ho
    rw [isInt] at ra rb
    exact ⟨_, _, ra, rb, ⟨h.1, by omega, h.2.2⟩, k _ _ _ (Ext.refl ex) (isInt.mpr rfl)⟩
  next => cases ho
def rMul2 : R2 := fun x y H Q => ∃ i j, x = .int i ∧ y = .int j ∧ (small i = true ∨ small j = true) ∧ Q (.int (i * j)) H
theorem op_mul2 : OpR X (binaryOp .Mult) rMul2 := by
  intro pins s σ H x y v u Q I rx ry h
  obtain ⟨i, j, rfl, rfl, c, q⟩ := h
  refine op_mul pins s σ H _ _ v u Q I rx ry ⟨i, j, rfl, rfl, ?_, q⟩
  rcases c with c | c
  · exact .inl (of_decide_eq_true c)
  · exact .inr (of_decide_eq_true c)
theorem bv_mul : BinV K rMul2 mulW := by
  intro I H a b x y w Q ex ra rb ho k
  cases a <;> cases b <;> try (cases ho; done)
  simp only [mulW] at ho
  split at ho
  next h =>
    cases ho
    rw [isInt] at ra rb
    exact ⟨_, _, ra, rb, h, k _ _ _ (Ext.refl ex) (isInt.mpr rfl)⟩
  next => cases ho
end
end Qw
namespace Nz
open PySem PySem.Spec PyProof.Rows L2
/-! ### the mathematics -/
def rng (n : Int) : List Int := (List.range n.toNat).map fun i => ((i : Nat) : Int)
theorem rng_length (n : Int) : (rng n).length = n.toNat := by
  unfold rng
  rw [List.length_map, List.length_range]
theorem rgV_rng (n : Int) : rgV 0 n = (rng n).map V.int := by
  unfold rgV rng
  rw [List.map_map, Int.sub_zero]
  refine List.map_congr_left fun i _ => ?_
  show V.int (0 + (i : Nat)) = V.int ((i : Nat) : Int)
  rw [Int.zero_add]
theorem rng_sorted (n : Int) : (rng n).Pairwise (· ≤ ·) := by
  unfold rng
  rw [List.pairwise_map]
  exact List.pairwise_lt_range.imp fun h => by omega
def isRen (ns : List Int) (n : Int) : Bool := (rng n).isPerm ns
theorem ren_eq {ns ms : List Int} (n : Int) (hp : ms.Perm ns) (hs : ms.Pairwise (· ≤ ·)) : decide (ms = rng n) = isRen ns n := by
  unfold isRen
  rw [Bool.eq_iff_iff, decide_eq_true_iff, List.isPerm_iff]
  exact ⟨fun e => e ▸ hp, fun h => PySem.W.ksm_same (hp.trans h.symm) hs (rng_sorted n)⟩
/-! ### data -/
theorem dpInts {K : PySem.W.Frag} {H : Hp} : ∀ ns : List Int, DpAll K H (ns.map V.int) (ns.map PyData.int)
  | [] => .nil
  | n :: r => .cons (.int n) (dpInts r)
theorem layInts : ∀ ns : List Int, PyData.canLayAll0 (ns.map PyData.int) = true
  | [] => by simp [PyData.canLayAll0]
  | n :: r => by simp [PyData.canLayAll0, PyData.canLay0, layInts r]
theorem depInts : ∀ ns : List Int, PyData.depthAll (ns.map PyData.int) ≤ 1
  | [] => by simp [PyData.depthAll]
  | n :: r => by
    have := depInts r
    simp [PyData.depthAll, PyData.depth]
    try omega
theorem shInts (ns : List Int) : SeqAt.shaped (.list (ns.map PyData.int)) = true := by
  have h := depInts ns
  have h2 : PyData.depthAll (ns.map PyData.int) + 1 ≤ 64 := by omega
  simpa [SeqAt.shaped, PyData.canLay0, layInts ns, PyData.depth] using h2
theorem shIntsT (ns : List Int) : SeqAt.shaped (.tuple (ns.map PyData.int)) = true := by
  have h := depInts ns
  have h2 : PyData.depthAll (ns.map PyData.int) + 1 ≤ 64 := by omega
  simpa [SeqAt.shaped, PyData.canLay0, layInts ns, PyData.depth] using h2
theorem eqvInts : ∀ ms ns : List Int, PyData.eqvAll (ms.map PyData.int) (ns.map PyData.int) = decide (ms = ns)
  | [], [] => by simp [PyData.eqvAll]
  | [], _ :: _ => by simp [PyData.eqvAll]
  | _ :: _, [] => by simp [PyData.eqvAll]
  | m :: r, n :: t => by
    simp only [List.map_cons, PyData.eqvAll, eqvInts r t]
    by_cases h : m = n <;> by_cases h2 : r = t <;> simp [h, h2, PyData.eqv]
theorem eqvL (ms ns : List Int) : PyData.eqv (.list (ms.map .int)) (.list (ns.map .int)) = decide (ms = ns) := by
  rw [← eqvInts]
  simp [PyData.eqv]
theorem eqvT (ms ns : List Int) : PyData.eqv (.tuple (ms.map .int)) (.tuple (ns.map .int)) = decide (ms = ns) := by
  rw [← eqvInts]
  simp [PyData.eqv]
theorem same_new {H : Hp} {p : Addr} {o : HO} (h : H p = none) : Same H (upd H p o) := fun b x e => by
  rw [upd_ne (ne_of_none e h)]
  exact e
theorem upd_more {H : Hp} {p : Addr} {o : HO} {ds : List Int} {d : Int} : upd (upd H p o) p (.lst (ds.map V.int ++ [.int d])) = upd H p (.lst ((ds ++ [d]).map V.int)) := by
  rw [upd_upd, List.map_append]
  rfl
theorem taken_perm {α : Type} {l : List α} {i : Nat} {y : α} (h : l[i]? = some y) : (y :: l.eraseIdx i).Perm l := by
  obtain ⟨hi, e⟩ := List.getElem?_eq_some_iff.mp h
  have e2 : l = l.take i ++ y :: l.drop (i + 1) := by
    rw [← e, ← List.drop_eq_getElem_cons hi, List.take_append_drop]
  rw [List.eraseIdx_eq_take_drop_succ]
  conv => rhs; rw [e2]
  exact List.perm_middle.symm
theorem pop_perm {α : Type} {ns rs all : List α} {i : Nat} {y : α} (h : rs[i]? = some y) (p : (ns ++ rs).Perm all) : ((ns ++ [y]) ++ rs.eraseIdx i).Perm all := by
  refine List.Perm.trans ?_ p
  rw [List.append_assoc]
  exact List.Perm.append_left ns (taken_perm h)
theorem mem_rng {n : Nat} {x : Int} (h : x ∈ rng n) : 0 ≤ x ∧ x < n := by
  unfold rng at h
  obtain ⟨i, hi, e⟩ := List.mem_map.mp h
  have := List.mem_range.mp hi
  omega
theorem nodup_rng (n : Int) : (rng n).Nodup := by
  unfold rng
  unfold List.Nodup
  rw [List.pairwise_map]
  exact List.pairwise_lt_range.imp fun h => by omega
theorem at_map {ns : List Int} {i : Nat} (h : i < ns.length) : (ns.map V.int)[i]? = some (.int ns[i]) := by
  rw [List.getElem?_map, List.getElem?_eq_getElem h]
  rfl
theorem sameT {K : PySem.W.Frag} {H H' : Hp} {a : Addr} {xs : List V} (e : Same H H') (h : SqT K H a xs) : SqT K H' a xs := by
  rcases h with (h | ⟨o, h⟩) | h
  · exact .inl (.inl (e _ _ h))
  · exact .inl (.inr ⟨o, e _ _ h⟩)
  · exact .inr h
theorem tyL {K : PySem.W.Frag} {H : Hp} {a : Addr} {xs : List V} (h : SqL K H a xs) : TyX K H (.ref a) (.type "list") := by
  rcases h with (h | ⟨o, h⟩) | ⟨o, its, n, h, hc, _⟩
  · exact .base (.lst h)
  · exact .base (.frz h)
  · exact .kList h hc
theorem tyT {K : PySem.W.Frag} {H : Hp} {a : Addr} {xs : List V} (h : SqT K H a xs) : TyX K H (.ref a) (.type "tuple") := by
  rcases h with (h | ⟨o, h⟩) | ⟨o, its, n, h, hc, _⟩
  · exact .base (.tup h)
  · exact .fTuple h
  · exact .kTuple h hc
theorem line6 {n : Nat} (h : n ≤ 1000000) : n < sizeLine := by
  rw [sizeLine_eq]
  omega
theorem free_same {H H' : Hp} (e : Same H H') {p : Addr} (h : H' p = none) : H p = none := e.free h
end Nz
namespace Qw
open PySem PySem.Spec PyProof.Rows L2 Nz
open Evl (Ex)
variable {X : Cx} {K : PySem.W.Frag} {I I' I1 I2 H H' H1 H2 I0 H0 : Hp} {e : En} {σ : L2.St}
theorem sqL_of {p : Addr} {xs : List V} (h : H p = some (.lst xs)) : SqL K H p xs := .inl (.inl h)
/-- lists and tuples alike -/
theorem isSeqW {ws : List W} {w : W} {v : V} (hw : w = .lst ws ∨ w = .tup ws ∨ w = .klst ws) (h : IsW K I w v) : ∃ p vs, v = .ref p ∧ (SqL K I p vs ∨ SqT K I p vs) ∧ IsWs K I ws vs := by
  rcases hw with rfl | rfl | rfl <;> simp only [IsW] at h <;> obtain ⟨p, vs, rfl, h, r⟩ := h
  · exact ⟨p, vs, rfl, .inl (sqL_of h), r⟩
  · exact ⟨p, vs, rfl, .inr (sqT_of h), r⟩
  · exact ⟨p, vs, rfl, .inl h, r⟩
/-! ### + * with texts, lists, tuples -/
def addW : W → W → Option SV
  | .int i, .int j => some (.imm (.int (i + j)))
  | .str a, .str b => if a.length + b.length ≤ sizeLine then some (.imm (.str (a ++ b))) else none
  | .lst a, .lst b => if a.length + b.length ≤ sizeLine then some (.own (.lst (a ++ b))) else none
  | .tup a, .tup b => if a.length + b.length ≤ sizeLine then some (.imm (.tup (a ++ b))) else none
  | _, _ => none
theorem br_add : BinR K (rAd K) addW := by
  intro I H a b x y sv Q ex ra rb ho k
  cases a <;> cases b <;> try (cases ho; done)
  · cases ho
    rw [isInt] at ra rb
    exact .inl ⟨_, _, ra, rb, k _ _ _ (Ext.refl ex) (by simp [Res, IsW])⟩
  · simp only [addW] at ho
    split at ho
    next h =>
      cases ho
      rw [isStr] at ra rb
      exact .inr (.inl ⟨_, _, ra, rb, h, k _ _ _ (Ext.refl ex) (by simp [Res, IsW])⟩)
    next => cases ho
  · simp only [addW] at ho
    split at ho
    next h =>
      cases ho
      have ra' := IsW.mono ex ra
      have rb' := IsW.mono ex rb
      simp only [IsW] at ra rb ra' rb'
      obtain ⟨p, vs, rfl, hp, rp⟩ := ra
      obtain ⟨q, us, rfl, hq, rq⟩ := rb
      refine .inr (.inr (.inr ⟨p, q, vs, us, rfl, rfl, sqT_of (ex _ _ hp), sqT_of (ex _ _ hq), by rw [← rp.len, ← rq.len]; exact h, fun z => ?_, fun _ z => ?_, fun _ _ l hl => ?_⟩))
      · subst z
        have e1 := rp.len
        rename_i ws us'
        cases ws with
        | nil => exact k _ _ _ (Ext.refl ex) (by simp only [Res, IsW]; exact ⟨q, us, rfl, hq, rq⟩)
        | cons _ _ => simp at e1
      · subst z
        have e1 := rq.len
        rename_i ws us' _
        cases us' with
        | nil => exact k _ _ _ (Ext.refl ex) (by simp only [Res, IsW, List.append_nil]; exact ⟨p, vs, rfl, hp, rp⟩)
        | cons _ _ => simp at e1
      · refine k (upd I l (.tup (vs ++ us))) _ _ ((Ext.refl ex).new hl) ?_
        have hi : I l = none := Evl.fresh_back ex hl
        simp only [Res, IsW]
        exact ⟨l, vs ++ us, rfl, upd_same, (rp.append rq).mono (Ex.new hi)⟩
    next => cases ho
  · simp only [addW] at ho
    split at ho
    next h =>
      cases ho
      simp only [IsW] at ra rb
      obtain ⟨p, vs, rfl, hp, rp⟩ := ra
      obtain ⟨q, us, rfl, hq, rq⟩ := rb
      refine .inr (.inr (.inl ⟨p, q, vs, us, rfl, rfl, ex _ _ hp, ex _ _ hq, by rw [← rp.len, ← rq.len]; exact h, fun l hl => ?_⟩))
      have hi : I l = none := Evl.fresh_back ex hl
      exact k I _ _ ((Ext.refl ex).newOwn hl) ⟨l, rfl, hi, hl, vs ++ us, upd_same, rp.append rq⟩
    next => cases ho
/-- a list n times -/
def repW : W → W → Option SV
  | .lst a, .int k => if -(2 ^ 63) ≤ k ∧ k < 2 ^ 63 ∧ a.length * k.toNat ≤ sizeLine then some (.own (.lst (List.replicate k.toNat a).flatten)) else none
  | _, _ => none
theorem isWs_rep {ws : List W} {vs : List V} (h : IsWs K I ws vs) : ∀ n : Nat, IsWs K I (List.replicate n ws).flatten (List.replicate n vs).flatten
  | 0 => IsWs.nil
  | n + 1 => by
    rw [List.replicate_succ, List.replicate_succ, List.flatten_cons, List.flatten_cons]
    exact h.append (isWs_rep h n)
theorem br_rep : BinR K rRep repW := by
  intro I H a b x y sv Q ex ra rb ho k
  cases a <;> cases b <;> try (cases ho; done)
  simp only [repW] at ho
  split at ho
  next h =>
    cases ho
    rw [isInt] at rb
    simp only [IsW] at ra
    obtain ⟨p, vs, rfl, hp, rp⟩ := ra
    refine ⟨p, _, vs, rfl, rb, ex _ _ hp, h.1, h.2.1, by rw [← rp.len]; exact h.2.2, fun l hl => ?_⟩
    have hi : I l = none := Evl.fresh_back ex hl
    exact k I _ _ ((Ext.refl ex).newOwn hl) ⟨l, rfl, hi, hl, _, upd_same, isWs_rep rp _⟩
  next => cases ho
/-! ### comparisons -/
def cmpI (p : Int → Int → Bool) : W → W → Option W
  | .int i, .int j => some (.bl (p i j))
  | _, _ => none
theorem bv_cmpI {p : Int → Int → Bool} : BinV K (rI0 fun i j => .bl (p i j)) (cmpI p) := by
  intro I H a b x y w Q ex ra rb ho k
  cases a <;> cases b <;> try (cases ho; done)
  cases ho
  rw [isInt] at ra rb
  exact ⟨_, _, ra, rb, k _ _ _ (Ext.refl ex) (isBl.mpr rfl)⟩
mutual
def toD : W → Option PyData
  | .non => some .none
  | .bl b => some (.bool b)
  | .int i => some (.int i)
  | .str s => some (.str s)
  | .tup ws => (toDs ws).map .tuple
  | .lst ws => (toDs ws).map .list
  | .klst ws => (toDs ws).map .list
  | _ => none
def toDs : List W → Option (List PyData)
  | [] => some []
  | w :: ws => match toD w with
    | some d => (match toDs ws with
      | some ds => some (d :: ds)
      | none => none)
    | none => none
end
set_option maxHeartbeats 2000000 in
mutual
theorem toD_dp : ∀ {w : W} {v : V} {d : PyData}, IsW K I w v → toD w = some d → Dp K I v d
  | .non, _, _, h, e => by simp only [toD, Option.some.injEq] at e; subst e; rw [isNon] at h; subst h; exact .non
  | .bl b, _, _, h, e => by simp only [toD, Option.some.injEq] at e; subst e; rw [isBl] at h; subst h; exact .bl _
  | .int b, _, _, h, e => by simp only [toD, Option.some.injEq] at e; subst e; rw [isInt] at h; subst h; exact .int _
  | .str b, _, _, h, e => by simp only [toD, Option.some.injEq] at e; subst e; rw [isStr] at h; subst h; exact .str _
  | .tup ws, _, _, h, e => by
    simp only [toD] at e
    simp only [IsW] at h
    obtain ⟨p, vs, rfl, hp, r⟩ := h
    cases q : toDs ws with
    | none => rw [q] at e; cases e
    | some ds => rw [q] at e; cases e; exact .tup (sqT_of hp) (toDs_dp r q)
  | .lst ws, _, _, h, e => by
    simp only [toD] at e
    simp only [IsW] at h
    obtain ⟨p, vs, rfl, hp, r⟩ := h
    cases q : toDs ws with
    | none => rw [q] at e; cases e
    | some ds => rw [q] at e; cases e; exact .lst (sqL_of hp) (toDs_dp r q)
  | .klst ws, _, _, h, e => by
    simp only [toD] at e
    simp only [IsW] at h
    obtain ⟨p, vs, rfl, hp, r⟩ := h
    cases q : toDs ws with
    | none => rw [q] at e; cases e
    | some ds => rw [q] at e; cases e; exact .lst hp (toDs_dp r q)
  | .ins _ _ _, _, _, _, e => by simp [toD] at e
  | .ktup _, _, _, _, e => by simp [toD] at e
  | .dct _ _ _, _, _, _, e => by simp [toD] at e
  | .opq _, _, _, _, e => by simp [toD] at e
theorem toDs_dp : ∀ {ws : List W} {vs : List V} {ds : List PyData}, IsWs K I ws vs → toDs ws = some ds → DpAll K I vs ds
  | [], _, _, h, e => by simp only [toDs, Option.some.injEq] at e; subst e; simp only [IsWs] at h; subst h; exact .nil
  | w :: ws, _, _, h, e => by
    simp only [toDs] at e
    simp only [IsWs] at h
    obtain ⟨v, r, rfl, h1, h2⟩ := h
    split at e
    next d hd =>
      split at e
      next ds hds => cases e; exact .cons (toD_dp h1 hd) (toDs_dp h2 hds)
      next => cases e
    next => cases e
end
def eqB : W → W → Option Bool
  | .int i, .int j => some (decide (i = j))
  | .str i, .str j => some (decide (i = j))
  | .bl i, .bl j => some (decide (i = j))
  | a, b => match toD a with
    | some d => (match toD b with
      | some d' => if SeqAt.shaped d = true ∧ SeqAt.shaped d' = true then some (PyData.eqv d d') else none
      | none => none)
    | none => none
def eqW (a b : W) : Option W := (eqB a b).map .bl
def neW (a b : W) : Option W := (eqB a b).map fun c => .bl (!c)
theorem eqB_use {a b : W} {x y : V} {c : Bool} (ra : IsW K I a x) (rb : IsW K I b y) (ho : eqB a b = some c) : (scal x y = true ∧ c = decide (x = y)) ∨ ∃ d d', Dp K I x d ∧ Dp K I y d' ∧ SeqAt.shaped d = true ∧ SeqAt.shaped d' = true ∧ c = PyData.eqv d d' := by
  unfold eqB at ho
  split at ho
  · cases ho; rw [isInt] at ra rb; subst ra rb; exact .inl ⟨rfl, by simp⟩
  · cases ho; rw [isStr] at ra rb; subst ra rb; exact .inl ⟨rfl, by simp⟩
  · cases ho; rw [isBl] at ra rb; subst ra rb; exact .inl ⟨rfl, by simp⟩
  · split at ho
    next d hd =>
      split at ho
      next d' hd' =>
        split at ho
        next h => cases ho; exact .inr ⟨d, d', toD_dp ra hd, toD_dp rb hd', h.1, h.2, rfl⟩
        next => cases ho
      next => cases ho
    next => cases ho
theorem bv_eq : BinV K (rEqA K) eqW := by
  intro I H a b x y w Q ex ra rb ho k
  unfold eqW at ho
  cases q : eqB a b with
  | none => rw [q] at ho; cases ho
  | some c =>
    rw [q] at ho
    cases ho
    rcases eqB_use (IsW.mono ex ra) (IsW.mono ex rb) q with ⟨h1, rfl⟩ | ⟨d, d', h1, h2, h3, h4, rfl⟩
    · exact .inl ⟨h1, k _ _ _ (Ext.refl ex) (isBl.mpr rfl)⟩
    · exact .inr ⟨d, d', h1, h2, h3, h4, k _ _ _ (Ext.refl ex) (isBl.mpr rfl)⟩
theorem bv_ne : BinV K (rNeA K) neW := by
  intro I H a b x y w Q ex ra rb ho k
  unfold neW at ho
  cases q : eqB a b with
  | none => rw [q] at ho; cases ho
  | some c =>
    rw [q] at ho
    cases ho
    rcases eqB_use (IsW.mono ex ra) (IsW.mono ex rb) q with ⟨h1, rfl⟩ | ⟨d, d', h1, h2, h3, h4, rfl⟩
    · exact .inl ⟨h1, k _ _ _ (Ext.refl ex) (isBl.mpr rfl)⟩
    · exact .inr ⟨d, d', h1, h2, h3, h4, k _ _ _ (Ext.refl ex) (isBl.mpr rfl)⟩
/-! ### is None, is False -/
def isNonW : W → W → Option W
  | .opq _, _ => none
  | a, .non => some (.bl (match a with
    | .non => true
    | _ => false))
  | .bl a, .bl b => some (.bl (decide (a = b)))
  | _, _ => none
def rIsNB : R2 := fun x y H Q => (y = .non ∧ Q (.bl (decide (x = .non))) H) ∨ rIsB x y H Q
theorem op_isNB : OpR X (compareOp .Is) rIsNB := or_op op_isN op_isBl
def rNotNB : R2 := fun x y H Q => (y = .non ∧ Q (.bl (!decide (x = .non))) H) ∨ rNotB x y H Q
theorem op_notNB : OpR X (compareOp .IsNot) rNotNB := or_op op_notN op_notBl
theorem isNon_dec {w : W} {v : V} (h : IsW K I w v) (hw : ∀ x, w ≠ .opq x) : decide (v = .non) = (match w with
    | .non => true
    | _ => false) := by
  cases w <;> simp only [IsW] at h
  all_goals first
    | (obtain ⟨_, _, rfl, _⟩ := h; rfl)
    | (obtain ⟨_, _, _, rfl, _⟩ := h; rfl)
    | (obtain ⟨_, _, _, _, rfl, _⟩ := h; rfl)
    | (obtain ⟨rfl, _⟩ := h; rfl)
    | (subst h; rfl)
    | exact absurd rfl (hw _)
theorem bv_isN : BinV K rIsNB isNonW := by
  intro I H a b x y w Q ex ra rb ho k
  cases b with
  | non =>
    rw [isNon] at rb
    by_cases hop : ∃ z, a = .opq z
    · obtain ⟨z, rfl⟩ := hop
      cases ho
    · have e := isNon_dec ra fun z q => hop ⟨z, q⟩
      refine .inl ⟨rb, ?_⟩
      rw [e]
      cases a <;> first | (cases ho; done) | (cases ho; exact k _ _ _ (Ext.refl ex) (isBl.mpr rfl))
  | bl b =>
    cases a <;> try (cases ho; done)
    cases ho
    rw [isBl] at ra rb
    exact .inr ⟨_, _, ra, rb, k _ _ _ (Ext.refl ex) (isBl.mpr rfl)⟩
  | _ => cases a <;> exact nomatch ho
def notNonW (a b : W) : Option W := match isNonW a b with
  | some (.bl c) => some (.bl (!c))
  | _ => none
theorem bv_notN : BinV K rNotNB notNonW := by
  intro I H a b x y w Q ex ra rb ho k
  cases b with
  | non =>
    rw [isNon] at rb
    by_cases hop : ∃ z, a = .opq z
    · obtain ⟨z, rfl⟩ := hop
      cases ho
    · have e := isNon_dec ra fun z q => hop ⟨z, q⟩
      refine .inl ⟨rb, ?_⟩
      rw [e]
      cases a <;> first | (cases ho; done) | (cases ho; exact k _ _ _ (Ext.refl ex) (isBl.mpr rfl))
  | bl b =>
    cases a <;> try (cases ho; done)
    cases ho
    rw [isBl] at ra rb
    exact .inr ⟨_, _, ra, rb, k _ _ _ (Ext.refl ex) (isBl.mpr rfl)⟩
  | _ => cases a <;> exact nomatch ho
/-! ### in -/
def toV : W → V
  | .bl b => .bl b
  | .int i => .int i
  | .str s => .str s
  | _ => .non
theorem flat_toV {w : W} {v : V} (h : IsW K I w v) (f : flatW w = true) : v = toV w ∧ flatV v = true := by
  cases w <;> simp only [IsW] at h <;> try (exact absurd f Bool.false_ne_true)
  all_goals (subst h; exact ⟨rfl, rfl⟩)
theorem flat_toVs : ∀ {ws : List W} {vs : List V}, IsWs K I ws vs → ws.all flatW = true → vs = ws.map toV ∧ vs.all flatV = true
  | [], _, h, _ => by simp only [IsWs] at h; subst h; exact ⟨rfl, rfl⟩
  | w :: ws, _, h, f => by
    simp only [IsWs] at h
    obtain ⟨v, r, rfl, h1, h2⟩ := h
    rw [List.all_cons, Bool.and_eq_true] at f
    obtain ⟨a1, a2⟩ := flat_toV h1 f.1
    obtain ⟨b1, b2⟩ := flat_toVs h2 f.2
    refine ⟨by rw [a1, b1]; rfl, ?_⟩
    rw [List.all_cons, a2, b2]
    rfl
def inStr (i j : Str) : Bool := match i.cps.toList with
  | [c] => decide (c ∈ j.cps.toList)
  | _ => !(Builtin.Str.occurrences j i 0 j.length 1).isEmpty
def inSeq (a : W) (ws : List W) : Option Bool := if flatW a = true ∧ ws.all flatW = true then some (inV (toV a) (ws.map toV)) else none
def inB : W → W → Option Bool
  | a, .lst ws => inSeq a ws
  | a, .tup ws => inSeq a ws
  | a, .klst ws => inSeq a ws
  | a, .ktup ws => inSeq a ws
  | .str i, .str j => some (inStr i j)
  | _, _ => none
def inW (a b : W) : Option W := (inB a b).map .bl
def notInW (a b : W) : Option W := (inB a b).map fun c => .bl (!c)
def rInA (K : PySem.W.Frag) (neg : Bool) : R2 := fun x y H Q => rIn K neg x y H Q ∨ (∃ (c : Nat) (z : Str), x = .str ⟨#[c]⟩ ∧ y = .str z ∧ Q (.bl (if neg then !decide (c ∈ z.cps.toList) else decide (c ∈ z.cps.toList))) H) ∨
  ∃ i j : Str, x = .str i ∧ y = .str j ∧ Q (.bl (if neg then !(!(Builtin.Str.occurrences j i 0 j.length 1).isEmpty) else !(Builtin.Str.occurrences j i 0 j.length 1).isEmpty)) H
theorem op_inA : OpR X (compareOp .In) (rInA X.K false) := or_op op_in_seq (or_op op_in_sign op_in_str)
theorem op_notInA : OpR X (compareOp .NotIn) (rInA X.K true) := or_op op_notIn_seq (or_op op_notIn_sign op_notIn_str)
theorem str_one {i : Str} {c : Nat} (h : i.cps.toList = [c]) : i = ⟨#[c]⟩ := by
  obtain ⟨⟨l⟩⟩ := i
  have e : l = [c] := h
  rw [e]
theorem inB_use {neg : Bool} {a b : W} {x y : V} {c : Bool} {Q : VK} (ex : Ex I H) (ra : IsW K I a x) (rb : IsW K I b y) (ho : inB a b = some c) (k : Q (.bl (if neg then !c else c)) H) : rInA K neg x y H Q := by
  have sq : ∀ ws : List W, (b = .lst ws ∨ b = .tup ws ∨ b = .klst ws) → inSeq a ws = some c → rInA K neg x y H Q := fun ws hb ho => by
    obtain ⟨p, vs, rfl, hp, r⟩ := isSeqW hb rb
    unfold inSeq at ho
    split at ho
    next h =>
      cases ho
      obtain ⟨e1, e2⟩ := flat_toV ra h.1
      obtain ⟨e3, e4⟩ := flat_toVs r h.2
      refine .inl ⟨p, vs, rfl, hp.imp (Evl.ex_l ex) (Evl.ex_t ex), e2, e4, ?_⟩
      rw [e3, e1]
      exact k
    next => cases ho
  unfold inB at ho
  split at ho
  · exact sq _ (.inl rfl) ho
  · exact sq _ (.inr (.inl rfl)) ho
  · exact sq _ (.inr (.inr rfl)) ho
  · next ws =>
    simp only [IsW] at rb
    obtain ⟨p, vs, rfl, hp, r⟩ := rb
    unfold inSeq at ho
    split at ho
    next h =>
      cases ho
      obtain ⟨e1, e2⟩ := flat_toV ra h.1
      obtain ⟨e3, e4⟩ := flat_toVs r h.2
      refine .inl ⟨p, vs, rfl, .inr (Evl.ex_t ex hp), e2, e4, ?_⟩
      rw [e3, e1]
      exact k
    next => cases ho
  · next i j =>
    cases ho
    rw [isStr] at ra rb
    subst ra rb
    by_cases hc : ∃ c, i.cps.toList = [c]
    · obtain ⟨c, hc⟩ := hc
      have e : inStr i j = decide (c ∈ j.cps.toList) := by
        unfold inStr
        rw [hc]
      rw [e] at k
      exact .inr (.inl ⟨c, _, by rw [str_one hc], rfl, k⟩)
    · have e : inStr i j = !(Builtin.Str.occurrences j i 0 j.length 1).isEmpty := by
        unfold inStr
        split
        next c q => exact absurd ⟨c, q⟩ hc
        next => rfl
      rw [e] at k
      exact .inr (.inr ⟨_, _, rfl, rfl, k⟩)
  · cases ho
theorem bv_in : BinV K (rInA K false) inW := by
  intro I H a b x y w Q ex ra rb ho k
  unfold inW at ho
  cases q : inB a b with
  | none => rw [q] at ho; cases ho
  | some c => rw [q] at ho; cases ho; exact inB_use ex ra rb q (k _ _ _ (Ext.refl ex) (isBl.mpr rfl))
theorem bv_notIn : BinV K (rInA K true) notInW := by
  intro I H a b x y w Q ex ra rb ho k
  unfold notInW at ho
  cases q : inB a b with
  | none => rw [q] at ho; cases ho
  | some c => rw [q] at ho; cases ho; exact inB_use ex ra rb q (k _ _ _ (Ext.refl ex) (isBl.mpr rfl))
/-! ### subscripts -/
def ixW : W → W → Option W
  | .lst ws, .int i => atI ws i
  | .tup ws, .int i => atI ws i
  | .klst ws, .int i => atI ws i
  | .str z, .int i => if z.length ≤ sizeLine then (atI z.cps.toList i).map fun c => .str ⟨#[c]⟩ else none
  | _, _ => none
def rIxA (K : PySem.W.Frag) : R2 := fun x y H Q => rIxL K x y H Q ∨ rIxT K x y H Q ∨ rIxS x y H Q
theorem ix_any : IxR X (rIxA X.K) := ix_list.or (ix_tup.or ix_str)
theorem atI_ws {ws : List W} {vs : List V} {i : Int} {w : W} (h : IsWs K I ws vs) (e : atI ws i = some w) : ∃ v, atI vs i = some v ∧ IsW K I w v := by
  unfold atI at e ⊢
  rw [← h.len]
  cases q : ixN ws.length i with
  | none => rw [q] at e; cases e
  | some j =>
    rw [q] at e
    exact h.get e
theorem bv_ix : BinV K (rIxA K) ixW := by
  intro I H a b x y w Q ex ra rb ho k
  unfold ixW at ho
  split at ho
  · simp only [IsW] at ra
    obtain ⟨p, vs, rfl, hp, r⟩ := ra
    rw [isInt] at rb
    obtain ⟨v, h1, h2⟩ := atI_ws r ho
    exact .inl ⟨p, vs, _, v, rfl, rb, sqL_of (ex _ _ hp), h1, k _ _ _ (Ext.refl ex) h2⟩
  · simp only [IsW] at ra
    obtain ⟨p, vs, rfl, hp, r⟩ := ra
    rw [isInt] at rb
    obtain ⟨v, h1, h2⟩ := atI_ws r ho
    exact .inr (.inl ⟨p, vs, _, v, rfl, rb, sqT_of (ex _ _ hp), h1, k _ _ _ (Ext.refl ex) h2⟩)
  · simp only [IsW] at ra
    obtain ⟨p, vs, rfl, hp, r⟩ := ra
    rw [isInt] at rb
    obtain ⟨v, h1, h2⟩ := atI_ws r ho
    exact .inl ⟨p, vs, _, v, rfl, rb, Evl.ex_l ex hp, h1, k _ _ _ (Ext.refl ex) h2⟩
  · split at ho
    next hz =>
      rw [isStr] at ra
      rw [isInt] at rb
      rename_i z i
      cases q : atI z.cps.toList i with
      | none => rw [q] at ho; cases ho
      | some c =>
        rw [q] at ho
        cases ho
        exact .inr (.inr ⟨z, i, c, ra, rb, hz, q, k _ _ _ (Ext.refl ex) (isStr.mpr rfl)⟩)
    next => cases ho
  · cases ho
theorem qix {a b : Expr} {f g : En → Option W} {pos : Pos} (ha : PE X a (tW X.K f)) (hb : PE X b (tW X.K g)) (hs : PlainIx b := by intro _ _; rfl) : PE X (.Subscript a b pos) (tW X.K (fBin ixW f g)) :=
  pe_imp (pe_ix ix_any ha hb hs) fun _ _ _ => binV_use bv_ix
/-! ### slices -/
def cutW (ws : List W) (lo hi : Option Int) : List W := (ws.drop (HT.sIx ws.length 0 lo)).take (HT.sIx ws.length ws.length hi - HT.sIx ws.length 0 lo)
def slW : W → Option Int → Option Int → Option SV
  | .lst ws, lo, hi => some (.own (.lst (cutW ws lo hi)))
  | .klst ws, lo, hi => some (.own (.lst (cutW ws lo hi)))
  | .tup ws, lo, hi => some (.imm (.tup (cutW ws lo hi)))
  | .str z, lo, hi => if z.length ≤ sizeLine then some (.imm (.str (cutS z lo hi))) else none
  | _, _, _ => none
theorem isWs_cut {ws : List W} {vs : List V} {lo hi : Option Int} (h : IsWs K I ws vs) : IsWs K I (cutW ws lo hi) (cutV vs lo hi) := by
  unfold cutW cutV
  rw [h.len]
  exact (h.drop _).take _
theorem qsl {a : Expr} {lo hi : Option Expr} {f : En → Option W} {g h : En → Option (Option Int)} {pos p2 : Pos} (ha : PE X a (tW X.K f)) (hl : PO X lo (tO X.K g)) (hh : PO X hi (tO X.K h)) :
    PE X (.Subscript a (.Slice lo hi none p2) pos) (tR X.K (fSl slW f g h)) := pe_imp (pe_slice (r := rSl X.K) sl_any ha hl hh) fun σ H Q ⟨I0, H0, I, e, sv, S, hf, k⟩ => by
  unfold fSl at hf
  split at hf
  next w hw =>
    split at hf
    next l hl =>
      split at hf
      next u hu =>
        refine ⟨I0, H0, I, e, w, S, hw, fun I1 H1 x x1 r1 => ⟨I0, H0, I1, e, l, S.mono x1, hl, fun I2 H2 x2 => ⟨I0, H0, I2, e, u, S.mono (x1.trans x2), hu, fun I3 H3 x3 => ?_⟩⟩⟩
        have X13 := x2.trans x3
        have XX := x1.trans X13
        have r3 := IsW.mono X13.i r1
        unfold slW at hf
        split at hf
        · cases hf
          simp only [IsW] at r3
          obtain ⟨p, vs, rfl, hp, r⟩ := r3
          refine .inl ⟨p, vs, rfl, sqL_of (XX.ih _ _ hp), fun q hq => ?_⟩
          exact k _ _ _ (XX.newOwn hq) ⟨q, rfl, Evl.fresh_back XX.ih hq, Evl.fresh_back XX.h hq, _, upd_same, isWs_cut r⟩
        · cases hf
          simp only [IsW] at r3
          obtain ⟨p, vs, rfl, hp, r⟩ := r3
          refine .inl ⟨p, vs, rfl, Evl.ex_l XX.ih hp, fun q hq => ?_⟩
          exact k _ _ _ (XX.newOwn hq) ⟨q, rfl, Evl.fresh_back XX.ih hq, Evl.fresh_back XX.h hq, _, upd_same, isWs_cut r⟩
        · cases hf
          simp only [IsW] at r3
          obtain ⟨p, vs, rfl, hp, r⟩ := r3
          refine .inr (.inl ⟨p, vs, rfl, sqT_of (XX.ih _ _ hp), fun z => ?_, fun _ q hq => ?_⟩)
          · refine k _ _ _ XX ?_
            simp only [Res, IsW]
            refine ⟨p, vs, rfl, hp, ?_⟩
            have e := isWs_cut (lo := l) (hi := u) r
            have e2 : cutV vs l u = vs := by
              unfold cutV
              rw [z.1, z.2]
              simp
            rw [e2] at e
            exact e
          · refine k _ _ _ (XX.new hq) ?_
            simp only [Res, IsW]
            exact ⟨q, _, rfl, upd_same, (isWs_cut r).mono (Ex.new (Evl.fresh_back XX.ih hq))⟩
        · split at hf
          next hz =>
            cases hf
            rw [isStr] at r3
            subst r3
            exact .inr (.inr ⟨_, rfl, hz, k _ _ _ XX (by simp [Res, IsW])⟩)
          next => cases hf
        · cases hf
      next => cases hf
    next => cases hf
  next => cases hf
theorem IsW.cons' {w : W} {v : V} {ws : List W} {vs : List V} (h : IsW K I w v) (t : IsWs K I ws vs) : IsWs K I (w :: ws) (v :: vs) := IsWs.cons h t
theorem qno : PO X none (tO X.K fNone) := po_imp po_none fun σ H Q ⟨I0, H0, I, e, o, S, hf, k⟩ => by
  cases hf
  exact k _ _ S.ref
theorem qso {a : Expr} {f : En → Option W} (ha : PE X a (tW X.K f)) : PO X (some a) (tO X.K (fSome f)) := po_imp (po_some ha) fun σ H Q ⟨I0, H0, I, e, o, S, hf, k⟩ => by
  unfold fSome at hf
  split at hf
  next i hi =>
    cases hf
    refine ⟨I0, H0, I, e, _, S, hi, fun I' H' v x r => ?_⟩
    rw [isInt] at r
    exact ⟨i, r, k _ _ x⟩
  next => cases hf
/-! ### argument lists, displays -/
theorem qnil : PA X [] (tA X.K fNil) := pa_imp pa_nil fun σ H Q ⟨I0, H0, I, e, o, S, hf, k⟩ => by
  cases hf
  exact k _ _ _ S.ref IsWs.nil
theorem qcons {a : Expr} {es : List Expr} {f : En → Option W} {g : En → Option (List W)} (ha : PE X a (tW X.K f)) (hr : PA X es (tA X.K g)) (hs : starEach (a :: es) X.env = (false, eval a X.env) :: starEach es X.env := by rfl) :
    PA X (a :: es) (tA X.K (fCons f g)) := pa_imp (pa_cons ha hr hs) fun σ H Q ⟨I0, H0, I, e, o, S, hf, k⟩ => by
  unfold fCons at hf
  split at hf
  next w hw =>
    split at hf
    next ws hws =>
      cases hf
      exact ⟨I0, H0, I, e, w, S, hw, fun I1 H1 x x1 r1 => ⟨I0, H0, I1, e, ws, S.mono x1, hws, fun I2 H2 xs x2 r2 => k _ _ _ (x1.trans x2) ((IsW.mono x2.i r1).cons' r2)⟩⟩
    next => cases hf
  next => cases hf
end Qw
namespace Qw
open PySem PySem.Spec PyProof.Rows L2 Nz
open Evl (Ex)
variable {X : Cx} {K : PySem.W.Frag} {I I' I1 I2 H H' H1 H2 I0 H0 : Hp} {e : En} {σ : L2.St}
/-! ### displays -/
def tupL (ws : List W) : Option W := if ws.length ≤ sizeLine then some (.tup ws) else none
def lstL (ws : List W) : Option SV := if ws.length ≤ sizeLine then some (.own (.lst ws)) else none
theorem qtup {es : List Expr} {x1} {pos : Pos} {f : En → Option (List W)} (h : PA X es (tA X.K f)) : PE X (.Tuple es x1 pos) (tW X.K (fCallW tupL f)) := pe_imp (pe_tup h) fun σ H Q ⟨I0, H0, I, e, w, S, hf, k⟩ => by
  unfold fCallW at hf
  split at hf
  next ws hws =>
    unfold tupL at hf
    split at hf
    next hz =>
      cases hf
      refine ⟨I0, H0, I, e, ws, S, hws, fun I1 H1 vs x1 r1 => ⟨by rw [← r1.len]; exact hz, fun p hp => ?_⟩⟩
      refine k _ _ _ (x1.new hp) ?_
      simp only [IsW]
      exact ⟨p, vs, rfl, upd_same, r1.mono (Ex.new (Evl.fresh_back x1.ih hp))⟩
    next => cases hf
  next => cases hf
theorem qlst {es : List Expr} {pos : Pos} {f : En → Option (List W)} (h : PA X es (tA X.K f)) : PE X (.List es pos) (tR X.K (fCall lstL f)) := pe_imp (pe_lst h) fun σ H Q ⟨I0, H0, I, e, w, S, hf, k⟩ => by
  unfold fCall at hf
  split at hf
  next ws hws =>
    unfold lstL at hf
    split at hf
    next hz =>
      cases hf
      refine ⟨I0, H0, I, e, ws, S, hws, fun I1 H1 vs x1 r1 => ⟨by rw [← r1.len]; exact hz, fun p hp => ?_⟩⟩
      exact k _ _ _ (x1.newOwn hp) ⟨p, rfl, Evl.fresh_back x1.ih hp, Evl.fresh_back x1.h hp, vs, upd_same, r1⟩
    next => cases hf
  next => cases hf
/-! ### calls of builtins -/
def CalV (K : PySem.W.Frag) (r : List V → Hp → VK → Prop) (o : List W → Option W) : Prop := ∀ (I H : Hp) (ws : List W) (vs : List V) (w : W) (Q : VK), Ex I H → IsWs K I ws vs → o ws = some w → (∀ I' H' v, Ext I H I' H' → IsW K I' w v → Q v H') → r vs H Q
def CalR (K : PySem.W.Frag) (r : List V → Hp → VK → Prop) (o : List W → Option SV) : Prop := ∀ (I H : Hp) (ws : List W) (vs : List V) (w : SV) (Q : VK), Ex I H → IsWs K I ws vs → o ws = some w → (∀ I' H' v, Ext I H I' H' → Res K I' H' H w v → Q v H') → r vs H Q
theorem calV_use {r : List V → Hp → VK → Prop} {o : List W → Option W} {f : En → Option (List W)} (hw : CalV K r o) {Q : VK} : tW K (fCallW o f) σ H Q → tCB r (tA K f) σ H Q := fun ⟨I0, H0, I, e, w, S, hf, k⟩ => by
  unfold fCallW at hf
  split at hf
  next ws hws => exact ⟨I0, H0, I, e, ws, S, hws, fun I1 H1 vs x1 r1 => hw I1 H1 ws vs w Q x1.ih r1 hf fun I2 H2 v x2 r2 => k _ _ _ (x1.trans x2) r2⟩
  next => cases hf
theorem calR_use {r : List V → Hp → VK → Prop} {o : List W → Option SV} {f : En → Option (List W)} (hw : CalR K r o) {Q : VK} : tR K (fCall o f) σ H Q → tCB r (tA K f) σ H Q := fun ⟨I0, H0, I, e, w, S, hf, k⟩ => by
  unfold fCall at hf
  split at hf
  next ws hws => exact ⟨I0, H0, I, e, ws, S, hws, fun I1 H1 vs x1 r1 => hw I1 H1 ws vs w Q x1.ih r1 hf fun I2 H2 v x2 r2 => k _ _ _ (x1.trans x2) (r2.weak x1.h)⟩
  next => cases hf
theorem qcB {id : String} {x : Str} {r : List V → Hp → VK → Prop} {o : List W → Option W} {f : En → Option (List W)} {a : Expr} {es : List Expr} {p pos : Pos} (hc : CallR X (.builtin id) r) (hw : CalV X.K r o) (hg : Gl X x) (hm : X.mg x = none) (hv : bootBuiltins x = some (.builtin id))
    (ha : PA X (a :: es) (tA X.K f)) (hn : x ≠ "__name__" := by decide) (hdb : (x == ("__debug__" : Str)) = false := by decide) (hs : starEach (a :: es) X.env = (false, eval a X.env) :: starEach es X.env := by rfl) (hpl : (backTo pos (starEach es X.env)).any (·.1) = false := by rfl) :
    PE X (.Call (.Name x p) (a :: es) [] pos) (tW X.K (fCallW o f)) := pe_imp (pe_callB hc hg hm hv ha hn hdb hs hpl) fun _ _ _ => calV_use hw
theorem qcT {id : String} {x : Str} {r : List V → Hp → VK → Prop} {o : List W → Option W} {f : En → Option (List W)} {a : Expr} {es : List Expr} {p pos : Pos} (hc : CallR X (.type id) r) (hw : CalV X.K r o) (hg : Gl X x) (hm : X.mg x = none) (hv : bootBuiltins x = some (.type id))
    (ha : PA X (a :: es) (tA X.K f)) (hn : x ≠ "__name__" := by decide) (hdb : (x == ("__debug__" : Str)) = false := by decide) (hs : starEach (a :: es) X.env = (false, eval a X.env) :: starEach es X.env := by rfl) (hpl : (backTo pos (starEach es X.env)).any (·.1) = false := by rfl) :
    PE X (.Call (.Name x p) (a :: es) [] pos) (tW X.K (fCallW o f)) := pe_imp (pe_callTy hc hg hm hv ha hn hdb hs hpl) fun _ _ _ => calV_use hw
theorem qcBR {id : String} {x : Str} {r : List V → Hp → VK → Prop} {o : List W → Option SV} {f : En → Option (List W)} {a : Expr} {es : List Expr} {p pos : Pos} (hc : CallR X (.builtin id) r) (hw : CalR X.K r o) (hg : Gl X x) (hm : X.mg x = none) (hv : bootBuiltins x = some (.builtin id))
    (ha : PA X (a :: es) (tA X.K f)) (hn : x ≠ "__name__" := by decide) (hdb : (x == ("__debug__" : Str)) = false := by decide) (hs : starEach (a :: es) X.env = (false, eval a X.env) :: starEach es X.env := by rfl) (hpl : (backTo pos (starEach es X.env)).any (·.1) = false := by rfl) :
    PE X (.Call (.Name x p) (a :: es) [] pos) (tR X.K (fCall o f)) := pe_imp (pe_callB hc hg hm hv ha hn hdb hs hpl) fun _ _ _ => calR_use hw
theorem qcTR {id : String} {x : Str} {r : List V → Hp → VK → Prop} {o : List W → Option SV} {f : En → Option (List W)} {a : Expr} {es : List Expr} {p pos : Pos} (hc : CallR X (.type id) r) (hw : CalR X.K r o) (hg : Gl X x) (hm : X.mg x = none) (hv : bootBuiltins x = some (.type id))
    (ha : PA X (a :: es) (tA X.K f)) (hn : x ≠ "__name__" := by decide) (hdb : (x == ("__debug__" : Str)) = false := by decide) (hs : starEach (a :: es) X.env = (false, eval a X.env) :: starEach es X.env := by rfl) (hpl : (backTo pos (starEach es X.env)).any (·.1) = false := by rfl) :
    PE X (.Call (.Name x p) (a :: es) [] pos) (tR X.K (fCall o f)) := pe_imp (pe_callTy hc hg hm hv ha hn hdb hs hpl) fun _ _ _ => calR_use hw
/-- a written type's name as a value -/
theorem qty {x : Str} {T : String} {pos : Pos} (hg : Gl X x) (hm : X.mg x = none) (hv : bootBuiltins x = some (.type T)) (hn : x ≠ "__name__" := by decide) (hd : (x == ("__debug__" : Str)) = false := by decide) : PE X (.Name x pos) (tW X.K (fC (.opq (.ty T)))) :=
  q_c (pe_bltn (v := .ty T) hg hm hv rfl hn hd) fun _ => by simp [IsW]
/-- what is wanted of one argument -/
theorem one {ws : List W} {vs : List V} {w : W} (h : IsWs K I (w :: ws) vs) : ∃ v r, vs = v :: r ∧ IsW K I w v ∧ IsWs K I ws r := by simpa only [IsWs] using h
theorem isNil {vs : List V} (h : IsWs K I [] vs) : vs = [] := by simpa only [IsWs] using h
/-- len -/
def lenW : List W → Option W
  | [.lst ws] => some (.int ws.length)
  | [.tup ws] => some (.int ws.length)
  | [.klst ws] => some (.int ws.length)
  | [.str s] => if s.length ≤ sizeLine then some (.int s.length) else none
  | _ => none
theorem cv_len : CalV K (rLn K) lenW := by
  intro I H ws vs w Q ex r ho k
  have sq : ∀ (u : W) (ys : List W), (u = .lst ys ∨ u = .tup ys ∨ u = .klst ys) → ws = [u] → w = .int ys.length → rLn K vs H Q := fun u ys hu e e2 => by
    subst e e2
    obtain ⟨v, r', rfl, h1, h2⟩ := one r
    rw [isNil h2]
    obtain ⟨p, us, rfl, hp, q⟩ := isSeqW hu h1
    refine .inl ⟨p, us, rfl, hp.imp (Evl.ex_l ex) (Evl.ex_t ex), k _ _ _ (Ext.refl ex) ?_⟩
    rw [isInt, q.len]
  unfold lenW at ho
  split at ho
  · cases ho; exact sq _ _ (.inl rfl) rfl rfl
  · cases ho; exact sq _ _ (.inr (.inl rfl)) rfl rfl
  · cases ho; exact sq _ _ (.inr (.inr rfl)) rfl rfl
  · split at ho
    next hz =>
      cases ho
      obtain ⟨v, r', rfl, h1, h2⟩ := one r
      rw [isNil h2]
      rw [isStr] at h1
      subst h1
      exact .inr ⟨_, rfl, hz, k _ _ _ (Ext.refl ex) (isInt.mpr rfl)⟩
    next => cases ho
  · cases ho
/-- int(i), int(text) -/
def intW : List W → Option W
  | [.int i] => some (.int i)
  | [.str s] => if s.length ≤ 640 then (match PySem.intText? s with
    | some n => some (.int n)
    | none => none) else none
  | _ => none
def rInt2 : List V → Hp → VK → Prop := fun vs H Q => rIntOf vs H Q ∨ ∃ a n, vs = [.str a] ∧ PySem.intText? a = some n ∧ a.length ≤ 640 ∧ Q (.int n) H
theorem c_int2 : CallR X (.type "int") rInt2 := or_call c_int call_int_str
theorem cv_int : CalV K rInt2 intW := by
  intro I H ws vs w Q ex r ho k
  unfold intW at ho
  split at ho
  · cases ho
    obtain ⟨v, r', rfl, h1, h2⟩ := one r
    rw [isNil h2]
    rw [isInt] at h1
    subst h1
    exact .inl ⟨_, rfl, k _ _ _ (Ext.refl ex) (isInt.mpr rfl)⟩
  · split at ho
    next hz =>
      split at ho
      next n hn =>
        cases ho
        obtain ⟨v, r', rfl, h1, h2⟩ := one r
        rw [isNil h2]
        rw [isStr] at h1
        subst h1
        exact .inr ⟨_, n, rfl, hn, hz, k _ _ _ (Ext.refl ex) (isInt.mpr rfl)⟩
      next => cases ho
    next => cases ho
  · cases ho
/-- str(i) -/
def strW : List W → Option W
  | [.int i] => if i.natAbs < 2 ^ 1000 then some (.str (toString i)) else none
  | _ => none
theorem cv_str : CalV K (fun xs H Q => ∃ i, xs = [.int i] ∧ i.natAbs.log2 < 1920 ∧ Q (.str (toString i)) H) strW := by
  intro I H ws vs w Q ex r ho k
  unfold strW at ho
  split at ho
  · split at ho
    next i hz =>
      cases ho
      obtain ⟨v, r', rfl, h1, h2⟩ := one r
      rw [isNil h2]
      rw [isInt] at h1
      subst h1
      refine ⟨_, rfl, ?_, k _ _ _ (Ext.refl ex) (isStr.mpr rfl)⟩
      by_cases h0 : i.natAbs = 0
      · rw [h0]; decide
      · exact Nat.lt_trans ((Nat.log2_lt h0).mpr hz) (by decide)
    next => cases ho
  · cases ho
/-- list(..), tuple(..) of a list or a tuple -/
def listW : List W → Option SV
  | [.lst ws] => some (.own (.lst ws))
  | [.tup ws] => some (.own (.lst ws))
  | [.klst ws] => some (.own (.lst ws))
  | _ => none
theorem cr_list : CalR K (rLstOf K) listW := by
  intro I H ws vs w Q ex r ho k
  have sq : ∀ (u : W) (ys : List W), (u = .lst ys ∨ u = .tup ys ∨ u = .klst ys) → ws = [u] → w = .own (.lst ys) → rLstOf K vs H Q := fun u ys hu e e2 => by
    subst e e2
    obtain ⟨v, r', rfl, h1, h2⟩ := one r
    rw [isNil h2]
    obtain ⟨p, us, rfl, hp, q⟩ := isSeqW hu h1
    exact ⟨p, us, rfl, hp.imp (Evl.ex_l ex) (Evl.ex_t ex), fun l hl => k _ _ _ ((Ext.refl ex).newOwn hl) ⟨l, rfl, Evl.fresh_back ex hl, hl, us, upd_same, q⟩⟩
  unfold listW at ho
  split at ho
  · cases ho; exact sq _ _ (.inl rfl) rfl rfl
  · cases ho; exact sq _ _ (.inr (.inl rfl)) rfl rfl
  · cases ho; exact sq _ _ (.inr (.inr rfl)) rfl rfl
  · cases ho
def tupleW : List W → Option W
  | [.lst ws] => some (.tup ws)
  | [.tup ws] => some (.tup ws)
  | [.klst ws] => some (.tup ws)
  | _ => none
theorem cv_tuple : CalV K (rTupOf K) tupleW := by
  intro I H ws vs w Q ex r ho k
  have sq : ∀ (u : W) (ys : List W), (u = .lst ys ∨ u = .klst ys) → ws = [u] → w = .tup ys → rTupOf K vs H Q := fun u ys hu e e2 => by
    subst e e2
    obtain ⟨v, r', rfl, h1, h2⟩ := one r
    rw [isNil h2]
    obtain ⟨p, us, rfl, hp, q⟩ : ∃ p us, v = .ref p ∧ SqL K I p us ∧ IsWs K I ys us := by
      rcases hu with rfl | rfl <;> simp only [IsW] at h1 <;> obtain ⟨p, us, rfl, hp, q⟩ := h1
      · exact ⟨p, us, rfl, sqL_of hp, q⟩
      · exact ⟨p, us, rfl, hp, q⟩
    refine ⟨p, us, rfl, .inl ⟨Evl.ex_l ex hp, fun l hl => k _ _ _ ((Ext.refl ex).new hl) ?_⟩⟩
    simp only [IsW]
    exact ⟨l, us, rfl, upd_same, q.mono (Ex.new (Evl.fresh_back ex hl))⟩
  unfold tupleW at ho
  split at ho
  · cases ho; exact sq _ _ (.inl rfl) rfl rfl
  · cases ho
    obtain ⟨v, r', rfl, h1, h2⟩ := one r
    rw [isNil h2]
    have h1' := h1
    simp only [IsW] at h1
    obtain ⟨p, us, rfl, hp, q⟩ := h1
    exact ⟨p, us, rfl, .inr ⟨sqT_of (ex _ _ hp), k _ _ _ (Ext.refl ex) h1'⟩⟩
  · cases ho; exact sq _ _ (.inr rfl) rfl rfl
  · cases ho
/-- all, any of a list of bools -/
def bools : List W → Option (List Bool)
  | [] => some []
  | .bl b :: ws => (match bools ws with
    | some bs => some (b :: bs)
    | none => none)
  | _ => none
theorem bools_vs : ∀ {ws : List W} {vs : List V} {bs : List Bool}, IsWs K I ws vs → bools ws = some bs → vs = bs.map V.bl
  | [], _, _, h, e => by cases e; rw [isNil h]; rfl
  | w :: ws, _, bs, h, e => by
    cases w <;> try (cases e; done)
    simp only [bools] at e
    split at e
    next b bs hb =>
      cases e
      obtain ⟨v, r, rfl, h1, h2⟩ := one h
      rw [isBl] at h1
      rw [h1, bools_vs h2 hb]
      rfl
    next => cases e
def allW : List W → Option W
  | [.lst ws] => (match bools ws with
    | some bs => some (.bl (bs.all id))
    | none => none)
  | _ => none
def anyW : List W → Option W
  | [.lst ws] => (match bools ws with
    | some bs => some (.bl (bs.any id))
    | none => none)
  | _ => none
theorem cv_all : CalV K (rAll K) allW := by
  intro I H ws vs w Q ex r ho k
  unfold allW at ho
  split at ho
  · split at ho
    next bs hb =>
      cases ho
      obtain ⟨v, r', rfl, h1, h2⟩ := one r
      rw [isNil h2]
      simp only [IsW] at h1
      obtain ⟨p, us, rfl, hp, q⟩ := h1
      have e := bools_vs q hb
      subst e
      exact ⟨p, bs, rfl, sqL_of (ex _ _ hp), k _ _ _ (Ext.refl ex) (isBl.mpr rfl)⟩
    next => cases ho
  · cases ho
theorem cv_any : CalV K (rAny K) anyW := by
  intro I H ws vs w Q ex r ho k
  unfold anyW at ho
  split at ho
  · split at ho
    next bs hb =>
      cases ho
      obtain ⟨v, r', rfl, h1, h2⟩ := one r
      rw [isNil h2]
      simp only [IsW] at h1
      obtain ⟨p, us, rfl, hp, q⟩ := h1
      have e := bools_vs q hb
      subst e
      exact ⟨p, bs, rfl, sqL_of (ex _ _ hp), k _ _ _ (Ext.refl ex) (isBl.mpr rfl)⟩
    next => cases ho
  · cases ho
/-- max, min of two ints -/
def max2W : List W → Option W
  | [.int i, .int j] => some (.int (if j > i then j else i))
  | _ => none
def min2W : List W → Option W
  | [.int i, .int j] => some (.int (if j < i then j else i))
  | _ => none
theorem cv_max2 : CalV K (fun xs H Q => ∃ i j, xs = [.int i, .int j] ∧ Q (.int (if j > i then j else i)) H) max2W := by
  intro I H ws vs w Q ex r ho k
  unfold max2W at ho
  split at ho
  · cases ho
    obtain ⟨v, r', rfl, h1, h2⟩ := one r
    obtain ⟨v', r'', rfl, h3, h4⟩ := one h2
    rw [isNil h4]
    rw [isInt] at h1 h3
    subst h1 h3
    exact ⟨_, _, rfl, k _ _ _ (Ext.refl ex) (isInt.mpr rfl)⟩
  · cases ho
theorem cv_min2 : CalV K (fun xs H Q => ∃ i j, xs = [.int i, .int j] ∧ Q (.int (if j < i then j else i)) H) min2W := by
  intro I H ws vs w Q ex r ho k
  unfold min2W at ho
  split at ho
  · cases ho
    obtain ⟨v, r', rfl, h1, h2⟩ := one r
    obtain ⟨v', r'', rfl, h3, h4⟩ := one h2
    rw [isNil h4]
    rw [isInt] at h1 h3
    subst h1 h3
    exact ⟨_, _, rfl, k _ _ _ (Ext.refl ex) (isInt.mpr rfl)⟩
  · cases ho
/-- isinstance(x, T) -/
def tyName : W → Option String
  | .non => some "NoneType"
  | .bl _ => some "bool"
  | .int _ => some "int"
  | .str _ => some "str"
  | .tup _ => some "tuple"
  | .lst _ => some "list"
  | .klst _ => some "list"
  | _ => none
theorem tyName_x {w : W} {v : V} {T : String} (h : IsW K H w v) (e : tyName w = some T) : TyX K H v (.type T) := by
  cases w <;> simp only [tyName, Option.some.injEq] at e <;> try (cases e; done)
  all_goals (subst e; simp only [IsW] at h)
  · subst h; exact .base .non
  · subst h; exact .base (.bl _)
  · subst h; exact .base (.int _)
  · subst h; exact .base (.str _)
  · obtain ⟨p, vs, rfl, hp, _⟩ := h
    exact .base (.tup hp)
  · obtain ⟨p, vs, rfl, hp, _⟩ := h
    exact .base (.lst hp)
  · obtain ⟨p, vs, rfl, hp, _⟩ := h
    rcases hp with (hp | ⟨o, hp⟩) | ⟨o, its, n, h1, h2, _⟩
    · exact .base (.lst hp)
    · exact .base (.frz hp)
    · exact .kList h1 h2
def isTy (n T : String) : Option Bool := match n, T with
  | "int", "int" => some true | "bool", "int" => some true | "str", "int" => some false | "tuple", "int" => some false | "list", "int" => some false | "NoneType", "int" => some false
  | "int", "bool" => some false | "bool", "bool" => some true | "str", "bool" => some false | "tuple", "bool" => some false | "list", "bool" => some false | "NoneType", "bool" => some false
  | "int", "str" => some false | "bool", "str" => some false | "str", "str" => some true | "tuple", "str" => some false | "list", "str" => some false | "NoneType", "str" => some false
  | "int", "tuple" => some false | "bool", "tuple" => some false | "str", "tuple" => some false | "tuple", "tuple" => some true | "list", "tuple" => some false | "NoneType", "tuple" => some false
  | "int", "list" => some false | "bool", "list" => some false | "str", "list" => some false | "tuple", "list" => some false | "list", "list" => some true | "NoneType", "list" => some false
  | _, _ => none
theorem kit_any {n T : String} {b : Bool} (h : isTy n T = some b) : PySem.W.kitOne K (.type n) (.type T) = some b := by
  unfold isTy at h
  split at h <;> first | (cases h; exact kit_ty (by decide +kernel)) | (cases h)
def isiW : List W → Option W
  | [w, .opq (.ty T)] => (match tyName w with
    | some n => (match isTy n T with
      | some b => some (.bl b)
      | none => none)
    | none => none)
  | _ => none
theorem cv_isi : CalV K (rIsi K) isiW := by
  intro I H ws vs w Q ex r ho k
  unfold isiW at ho
  split at ho
  · split at ho
    next n hn =>
      split at ho
      next b hb =>
        cases ho
        obtain ⟨v, r', rfl, h1, h2⟩ := one r
        obtain ⟨v', r'', rfl, h3, h4⟩ := one h2
        rw [isNil h4]
        simp only [IsW] at h3
        subst h3
        exact ⟨_, _, _, _, b, rfl, .ty _, tyName_x (IsW.mono ex h1) hn, kit_any hb, k _ _ _ (Ext.refl ex) (isBl.mpr rfl)⟩
      next => cases ho
    next => cases ho
  · cases ho
end Qw
namespace Qw
open PySem PySem.Spec PyProof.Rows L2 Nz
open Evl (Ex)
variable {X : Cx} {K : PySem.W.Frag} {I I' I1 I2 H H' H1 H2 I0 H0 : Hp} {e : En} {σ : L2.St}
/-! ### all slots fixed for a while -/
def fixN (e : En) : Nat → En
  | 0 => e
  | n + 1 => fixSlot (fixN e n) n
theorem fixSlot_get (e : En) (i j : Nat) : (fixSlot e i)[j]? = if j = i then (view e)[j]? else e[j]? := by
  unfold fixSlot view
  by_cases h : j = i
  · subst h
    rw [if_pos rfl, List.getElem?_map]
    split
    next w hs =>
      have hl : j < e.length := (List.getElem?_eq_some_iff.mp hs).1
      rw [List.getElem?_set_self hl, hs]
      rfl
    next hn =>
      cases q : e[j]? with
      | none => rfl
      | some o =>
        cases o with
        | none => rfl
        | some sv =>
          cases sv with
          | imm w => rfl
          | own w => exact absurd q (hn w)
  · rw [if_neg h]
    split
    next w hs => rw [List.getElem?_set_ne (Ne.symm h)]
    next => rfl
theorem view_view_get (e : En) (i : Nat) (e' : En) (h : e'[i]? = e[i]?) : (view e')[i]? = (view e)[i]? := by
  unfold view
  rw [List.getElem?_map, List.getElem?_map, h]
theorem fixN_get (e : En) (n j : Nat) : (fixN e n)[j]? = if j < n then (view e)[j]? else e[j]? := by
  induction n generalizing j with
  | zero => rw [if_neg (Nat.not_lt_zero _)]; rfl
  | succ n ih =>
    show (fixSlot (fixN e n) n)[j]? = _
    rw [fixSlot_get]
    by_cases h : j = n
    · subst h
      rw [if_pos rfl, if_pos (Nat.lt_succ_self _)]
      refine view_view_get e j _ ?_
      rw [ih, if_neg (Nat.lt_irrefl _)]
    · rw [if_neg h, ih]
      by_cases h2 : j < n
      · rw [if_pos h2, if_pos (by omega)]
      · rw [if_neg h2, if_neg (by omega)]
theorem fixN_view (e : En) : fixN e e.length = view e := by
  refine List.ext_getElem? fun j => ?_
  rw [fixN_get]
  by_cases h : j < e.length
  · rw [if_pos h]
  · rw [if_neg h]
    have h1 : e[j]? = none := List.getElem?_eq_none_iff.mpr (by omega)
    unfold view
    rw [List.getElem?_map, h1]
    rfl
theorem Sat.fixN (S : Sat K I0 H0 I e σ H) : ∀ n, ∃ I', Ex I I' ∧ Sat K I0 H0 I' (fixN e n) σ H
  | 0 => ⟨I, Ex.refl _, S⟩
  | n + 1 => by
    obtain ⟨I1, x1, S1⟩ := Sat.fixN S n
    obtain ⟨I2, x2, S2⟩ := S1.fix n
    exact ⟨I2, x1.trans x2, S2⟩
theorem Sat.view (S : Sat K I0 H0 I e σ H) : ∃ I', Ex I I' ∧ Sat K I0 H0 I' (view e) σ H := by
  have h := S.fixN e.length
  rw [fixN_view] at h
  exact h
theorem flat_any {w : W} {v : V} (f : flatW w = true) (h : IsW K I w v) : IsW K I' w v := by
  cases w <;> first | exact absurd f Bool.false_ne_true | (simp only [IsW] at h ⊢; exact h)
/-- a flat value is read while all is fixed -/
theorem qbor {ex : Expr} {f : En → Option W} (h : PE X ex (tW X.K f)) : PE X ex (tW X.K (fBor f)) := pe_imp h fun σ H Q ⟨I0, H0, I, e, w, S, hf, k⟩ => by
  unfold fBor at hf
  split at hf
  next w' hw =>
    split at hf
    next fl =>
      cases hf
      obtain ⟨J, xJ, SJ⟩ := S.view
      exact ⟨I0, H0, J, _, w, SJ, hw, fun I' H' v x r => k I H' v ⟨x.h, Ex.refl _, S.ext.trans x.h, fun _ _ => rfl⟩ (flat_any fl r)⟩
    next => cases hf
  next => cases hf
/-! ### tests -/
def truW : W → Option Bool
  | .non => some false
  | .bl b => some b
  | .int i => some (i != 0)
  | .str y => if y.length ≤ sizeLine then some ((y.length : Int) != 0) else none
  | .tup ws => some (!ws.isEmpty)
  | .lst ws => some (!ws.isEmpty)
  | .klst ws => some (!ws.isEmpty)
  | _ => none
theorem isEmp {ws : List W} {vs : List V} (h : IsWs K I ws vs) : (!ws.isEmpty) = !vs.isEmpty := by
  have e := h.len
  cases ws <;> cases vs <;> simp_all
theorem truW_x {w : W} {v : V} {b : Bool} (h : IsW K H w v) (e : truW w = some b) : TruV K v H b := by
  unfold truW at e
  split at e
  · cases e; rw [isNon] at h; subst h; rfl
  · cases e; rw [isBl] at h; subst h; rfl
  · cases e; rw [isInt] at h; subst h; rfl
  · split at e
    next hz => cases e; rw [isStr] at h; subst h; exact ⟨hz, rfl⟩
    next => cases e
  · cases e
    simp only [IsW] at h
    obtain ⟨p, vs, rfl, hp, r⟩ := h
    exact .inr (.inl ⟨vs, sqT_of hp, isEmp r⟩)
  · cases e
    simp only [IsW] at h
    obtain ⟨p, vs, rfl, hp, r⟩ := h
    exact .inl ⟨vs, sqL_of hp, isEmp r⟩
  · cases e
    simp only [IsW] at h
    obtain ⟨p, vs, rfl, hp, r⟩ := h
    exact .inl ⟨vs, hp, isEmp r⟩
  · cases e
def fTru (f : En → Option W) : En → Option Bool := fun e => match f (view e) with
  | some w => truW w
  | none => none
def fAnd (f g : En → Option Bool) : En → Option Bool := fun e => match f e with
  | some true => g e
  | r => r
def fOr (f g : En → Option Bool) : En → Option Bool := fun e => match f e with
  | some false => g e
  | r => r
def fNot (f : En → Option Bool) : En → Option Bool := fun e => match f e with
  | some b => some (!b)
  | none => none
theorem qt {a : Expr} {f : En → Option W} (ha : PE X a (tW X.K f)) (he : ∀ whole, isTrue a X.env whole = (do let v ← whole; standAt a.pos; holding [v] (truthy v)) := by exact fun _ => rfl) : PT X a (tT X.K (fTru f)) :=
  pt_imp (pt_truth ha he) fun σ H Q ⟨I0, H0, I, e, b, S, hf, k⟩ => by
    unfold fTru at hf
    split at hf
    next w hw =>
      obtain ⟨J, xJ, SJ⟩ := S.view
      exact ⟨I0, H0, J, _, w, SJ, hw, fun I' H' v x r => ⟨b, truW_x (IsW.mono x.ih r) hf, k I H' ⟨x.h, Ex.refl _, S.ext.trans x.h, fun _ _ => rfl⟩⟩⟩
    next => cases hf
/-- a comparison as a test -/
def fTst (f : En → Option W) : En → Option Bool := fun e => match f (view e) with
  | some (.bl b) => some b
  | _ => none
theorem qtc {op : CmpOp} {r : R2} {o : W → W → Option W} {a b : Expr} {f g : En → Option W} {pos : Pos} (ho : OpR X (compareOp op) r) (hw : BinV X.K r o) (ha : PE X a (tW X.K f)) (hb : PE X b (tW X.K g)) (hm : behindInMarks op b = false) :
    PT X (.Compare a [op] [b] pos) (tT X.K (fTst (fBin o f g))) := pt_imp (pt_cmpR ho ha hb hm) fun σ H Q ⟨I0, H0, I, e, b, S, hf, k⟩ => by
  unfold fTst at hf
  split at hf
  next w hw' =>
    cases hf
    obtain ⟨J, xJ, SJ⟩ := S.view
    exact binV_use hw ⟨I0, H0, J, _, _, SJ, hw', fun I' H' v x r => ⟨b, isBl.mp r, k I H' ⟨x.h, Ex.refl _, S.ext.trans x.h, fun _ _ => rfl⟩⟩⟩
  next => cases hf
theorem tT_and {f g : En → Option Bool} {Q : Bool → Hp → Prop} : tT K (fAnd f g) σ H Q → tAnd (tT K f) (tT K g) σ H Q := fun ⟨I0, H0, I, e, b, S, hf, k⟩ => by
  unfold fAnd at hf
  split at hf
  next hw => exact ⟨I0, H0, I, e, true, S, hw, fun I1 H1 x1 => iteT ⟨I0, H0, I1, e, b, S.mono x1, hf, fun I2 H2 x2 => k _ _ (x1.trans x2)⟩⟩
  next r hr =>
    cases b with
    | true => exact absurd hf hr
    | false => exact ⟨I0, H0, I, e, false, S, hf, fun I1 H1 x1 => iteF (k _ _ x1)⟩
theorem tT_or {f g : En → Option Bool} {Q : Bool → Hp → Prop} : tT K (fOr f g) σ H Q → tOr (tT K f) (tT K g) σ H Q := fun ⟨I0, H0, I, e, b, S, hf, k⟩ => by
  unfold fOr at hf
  split at hf
  next hw => exact ⟨I0, H0, I, e, false, S, hw, fun I1 H1 x1 => iteF ⟨I0, H0, I1, e, b, S.mono x1, hf, fun I2 H2 x2 => k _ _ (x1.trans x2)⟩⟩
  next r hr =>
    cases b with
    | false => exact absurd hf hr
    | true => exact ⟨I0, H0, I, e, true, S, hf, fun I1 H1 x1 => iteT (k _ _ x1)⟩
theorem pw_imp {ex : Expr} {t t' : TT} (h : PW X ex t) (k : ∀ σ H Q, t' σ H Q → t σ H Q) : PW X ex t' := ⟨fun wh pins s σ H Q I q => h.run wh pins s σ H Q I (k σ H Q q)⟩
theorem qand1 {a : Expr} {f : En → Option Bool} {pos : Pos} (ha : PT X a (tT X.K f)) : PW X (.BoolOp .And [a] pos) (tT X.K f) := pw_and1 ha
theorem qor1 {a : Expr} {f : En → Option Bool} {pos : Pos} (ha : PT X a (tT X.K f)) : PW X (.BoolOp .Or [a] pos) (tT X.K f) := pw_or1 ha
theorem qand {a b : Expr} {rest : List Expr} {f g : En → Option Bool} {pos : Pos} (ha : PT X a (tT X.K f)) (hb : PW X (.BoolOp .And (b :: rest) pos) (tT X.K g)) : PW X (.BoolOp .And (a :: b :: rest) pos) (tT X.K (fAnd f g)) :=
  pw_imp (pw_and ha hb) fun _ _ _ => tT_and
theorem qor {a b : Expr} {rest : List Expr} {f g : En → Option Bool} {pos : Pos} (ha : PT X a (tT X.K f)) (hb : PW X (.BoolOp .Or (b :: rest) pos) (tT X.K g)) : PW X (.BoolOp .Or (a :: b :: rest) pos) (tT X.K (fOr f g)) :=
  pw_imp (pw_or ha hb) fun _ _ _ => tT_or
theorem qnot {a : Expr} {f : En → Option Bool} {pos : Pos} (ha : PT X a (tT X.K f)) : PT X (.UnaryOp .Not a pos) (tT X.K (fNot f)) := pt_imp (pt_not ha) fun σ H Q ⟨I0, H0, I, e, b, S, hf, k⟩ => by
  unfold fNot at hf
  split at hf
  next c hc => cases hf; exact ⟨I0, H0, I, e, c, S, hc, fun I1 H1 x1 => k _ _ x1⟩
  next => cases hf
/-! ### and, or, not of bools, if as values -/
def fAndV (f g : En → Option W) : En → Option W := fun e => match f e with
  | some (.bl true) => g e
  | some (.bl false) => some (.bl false)
  | _ => none
def fOrV (f g : En → Option W) : En → Option W := fun e => match f e with
  | some (.bl false) => g e
  | some (.bl true) => some (.bl true)
  | _ => none
def fNotV (f : En → Option W) : En → Option W := fun e => match f e with
  | some (.bl b) => some (.bl (!b))
  | _ => none
def fIf (t : En → Option Bool) (f g : En → Option W) : En → Option W := fun e => match t e with
  | some true => f e
  | some false => g e
  | none => none
theorem qandV {a b : Expr} {rest : List Expr} {f g : En → Option W} {pos : Pos} (ha : PE X a (tW X.K f)) (hb : PE X (.BoolOp .And (b :: rest) pos) (tW X.K g)) : PE X (.BoolOp .And (a :: b :: rest) pos) (tW X.K (fAndV f g)) :=
  pe_imp (pe_and ha hb) fun σ H Q ⟨I0, H0, I, e, w, S, hf, k⟩ => by
    unfold fAndV at hf
    split at hf
    next hw => exact ⟨I0, H0, I, e, _, S, hw, fun I1 H1 v x1 r => ⟨true, isBl.mp r, iteT ⟨I0, H0, I1, e, w, S.mono x1, hf, fun I2 H2 v x2 r2 => k _ _ _ (x1.trans x2) r2⟩⟩⟩
    next hw => cases hf; exact ⟨I0, H0, I, e, _, S, hw, fun I1 H1 v x1 r => ⟨false, isBl.mp r, iteF (k _ _ _ x1 (isBl.mpr rfl))⟩⟩
    next => cases hf
theorem qorV {a b : Expr} {rest : List Expr} {f g : En → Option W} {pos : Pos} (ha : PE X a (tW X.K f)) (hb : PE X (.BoolOp .Or (b :: rest) pos) (tW X.K g)) : PE X (.BoolOp .Or (a :: b :: rest) pos) (tW X.K (fOrV f g)) :=
  pe_imp (pe_or ha hb) fun σ H Q ⟨I0, H0, I, e, w, S, hf, k⟩ => by
    unfold fOrV at hf
    split at hf
    next hw => exact ⟨I0, H0, I, e, _, S, hw, fun I1 H1 v x1 r => ⟨false, isBl.mp r, iteF ⟨I0, H0, I1, e, w, S.mono x1, hf, fun I2 H2 v x2 r2 => k _ _ _ (x1.trans x2) r2⟩⟩⟩
    next hw => cases hf; exact ⟨I0, H0, I, e, _, S, hw, fun I1 H1 v x1 r => ⟨true, isBl.mp r, iteT (k _ _ _ x1 (isBl.mpr rfl))⟩⟩
    next => cases hf
theorem qoneV {a : Expr} {op} {f : En → Option W} {pos : Pos} (ha : PE X a (tW X.K f)) : PE X (.BoolOp op [a] pos) (tW X.K f) := pe_one ha
theorem qnotV {a : Expr} {f : En → Option W} {pos : Pos} (ha : PE X a (tW X.K f)) : PE X (.UnaryOp .Not a pos) (tW X.K (fNotV f)) := pe_imp (pe_not ha) fun σ H Q ⟨I0, H0, I, e, w, S, hf, k⟩ => by
  unfold fNotV at hf
  split at hf
  next b hw => cases hf; exact ⟨I0, H0, I, e, _, S, hw, fun I1 H1 v x1 r => ⟨b, isBl.mp r, k _ _ _ x1 (isBl.mpr rfl)⟩⟩
  next => cases hf
theorem qif {c a b : Expr} {t : En → Option Bool} {f g : En → Option W} {pos : Pos} (hc : PT X c (tT X.K t)) (ha : PE X a (tW X.K f)) (hb : PE X b (tW X.K g)) : PE X (.IfExp c a b pos) (tW X.K (fIf t f g)) :=
  pe_imp (pe_ifExp hc ha hb) fun σ H Q ⟨I0, H0, I, e, w, S, hf, k⟩ => by
    unfold fIf at hf
    split at hf
    next hw => exact ⟨I0, H0, I, e, true, S, hw, fun I1 H1 x1 => iteT ⟨I0, H0, I1, e, w, S.mono x1, hf, fun I2 H2 v x2 r2 => k _ _ _ (x1.trans x2) r2⟩⟩
    next hw => exact ⟨I0, H0, I, e, false, S, hw, fun I1 H1 x1 => iteF ⟨I0, H0, I1, e, w, S.mono x1, hf, fun I2 H2 v x2 r2 => k _ _ _ (x1.trans x2) r2⟩⟩
    next => cases hf
end Qw
set_option maxHeartbeats 4000000
namespace Nz
open PySem PySem.Spec PyProof.Rows L2
abbrev Hnd := Value × (Addr → Value → Option Addr → TS)
/-- the ends of a clause's suite: the name is gone behind it -/
def Ends.off (D : Ends) (i : Nat) : Ends := ⟨fun v G => D.nx (v.set i none) G, D.rt, fun v G => D.bk (v.set i none) G, fun v G => D.ct (v.set i none) G⟩
/-- what clauses with the one name in slot i wish -/
def wClauses (K : PySem.W.Frag) (i : Nat) (W0 : WX) (D : Ends) : List Hnd → WX
  | [] => W0
  | hd :: tl => fun cls d v G => ∃ b, PySem.W.exmOne K cls hd.1 = some b ∧ (b = true → ∀ a, G a = none → hd.2 a cls d (Ends.off D i) (v.set i (some (.ref a))) G) ∧ (b = false → wClauses K i W0 D tl cls d v G)
inductive Clauses (X : Cx) (n : Str) : List ExceptHandler → List Hnd → Prop
  | nil : Clauses X n [] []
  | cons {x : Str} {c : Value} {ts : Addr → Value → Option Addr → TS} {b₁ : Stmt} {su : List Stmt} {q1 q2 : Pos} {hs : List ExceptHandler} {l : List Hnd} (hc : Names X x c)
      (hu : ∀ (a : Addr) (oe : Obj) (cls : Value) (d : Option Addr) (pn : List (Addr × Obj)), Zc cls d oe → (∃ vs, oe.data = .fields vs) → PSs (X.suite a ((a, oe) :: pn)) (b₁ :: su) (ts a cls d)) (r : Clauses X n hs l) :
      Clauses X n (.ExceptHandler (some (.Name x q1)) (some n) (b₁ :: su) q2 :: hs) ((c, ts) :: l)
section
variable {X : Cx} {n : Str} {i : Nat} {W0 : WX}
/-- the clauses, one after the other, at a caught exception -/
theorem clauses_run {pins : List (Addr × Obj)} {D : Ends} (st : X.stack = X.env :: X.outer) (fr : X.env.frame = some X.env.locals) (nd : X.N.Nodup) (at_ : X.N[i]? = some n) (lo : X.env.kindOf n = some .local)
    {a : Addr} {B : Heap} {sI : Shared} {v : L2.St} {G : Hp} {cls : Value} {d : Option Addr} {s1 : Shared} {h1 : Heap} (up : sI.heap.UpToSlots h1) (fl : HandSPX.FlyingZ B (X.env :: X.outer) a (Zc cls d) h1) (na : G a = none)
    (land : ∀ h2, B.StaysIn h2 → sI.heap.UpToSlots h2 → Inv X pins v G { s1 with heap := h2 })
    (back : ∀ h2, sI.heap.UpToSlots h2 → HandSPX.HeldZ B (X.env :: X.outer) a (Zc cls d) X.env.locals h2 → W0 cls d v G → X.xe (.ref a) { s1 with heap := h2 }) :
    ∀ {hs : List ExceptHandler} {l : List Hnd}, Clauses X n hs l → wClauses X.K i W0 D l cls d v G → wpAny (model X.prog X.w) X.A (handleBy (.ref a) X.env hs) (SP X pins D) X.xe { s1 with heap := h1 } := by
  have away : ∀ {g : Heap} {o : Obj} {ws : Array Value}, g.FunFrames B (X.env :: X.outer) → g.get? a = some o → o.data = .fields ws → a ∉ frs (X.env :: X.outer) := by
    intro g o ws ff e dd hm
    obtain ⟨_, o', e', hnf⟩ := ff.mem hm
    exact hnf ws (by rw [e] at e'; cases e'; exact dd)
  obtain ⟨oe, ws, he, hz, hd⟩ := fl.there
  have off := away fl.2.2.1 he hd
  have nL : a ≠ X.env.locals := fun z => off (List.mem_filterMap.mpr ⟨X.env, .head _, fr.trans (congrArg some z.symm)⟩)
  have nF : a ∉ X.fs := fun hm => let ⟨e, m, q⟩ := List.mem_filterMap.mp hm; off (List.mem_filterMap.mpr ⟨e, .tail _ m, q⟩)
  have J1 := land h1 fl.1 up
  have ok := J1.ok
  have S1 := J1.suite he hd na nL nF
  intro hs l hk
  induction hk with
  | nil =>
    intro w
    refine wpAny_handleBy_nil ?_
    obtain ⟨_, _, _, ob, us, T, _, _, g1, _, g3, g4, _⟩ := id fl
    unfold PySem.passOn
    refine wpAny_bind (wpAny_field g1 g3 g4 ?_)
    rw [if_neg (by simp : ¬ ((Value.ref T == Value.none) = true))]
    have out : wpAny (model X.prog X.w) X.A (setFlight (.ref a) X.env.frame) (fun _ s4 => wpAny (model X.prog X.w) X.A (throw (.ref a) : Sem Flow) (SP X pins D) X.xe s4) X.xe { s1 with heap := h1 } := by
      rw [fr]
      exact HandSPX.setFlight_upZ fl fun h4 hh4 up4 => wpAny_throw (back h4 (up.trans up4) hh4 w)
    first
      | exact wpAny_bind (wpAny_pure (wpAny_bind out))
      | exact wpAny_bind out
  | @cons x c ts b₁ su q1 q2 hs2 l2 hc hu r ih =>
    intro ⟨b, hb, yes, no⟩
    refine wpAny_handleBy_cons (codeAny_handlers_test ?_) (by intro q; cases q)
    have LT : PySem.W.Looks (model X.prog X.w) h1 (typeOf (.ref a)) cls := fun _ _ _ _ k q => wpAny_typeOf_ref (k _ _ he) (hz.1 ▸ q)
    have named : ∀ {Q : Value → Shared → Prop} {E : Value → Shared → Prop}, Q c { s1 with heap := h1 } → wpAny (model X.prog X.w) (X.A.mark (some (.ref a))) (eval (.Name x q1) X.env) Q E { s1 with heap := h1 } := by
      intro Q E q
      rcases hc with ⟨hg, hdb, hm | ⟨hm, hv, hnn⟩⟩
      · exact ld_glob (X := X.suite a ((a, oe) :: (X.pn ++ pins))) S1 hg hm q hdb
      · exact ld_blt (X := X.suite a ((a, oe) :: (X.pn ++ pins))) S1 hg hm hv q hnn hdb
    refine named ((PySem.W.exm_one J1.kIn LT hb).here ?_)
    cases b with
    | false => exact ih (no rfl)
    | true =>
      refine codeAny_handlers_suite_as (HandSPX.lands_againZ fl fun h4 fl4 up4 => ?_)
      have J4 := land h4 fl4.1 (up.trans up4)
      obtain ⟨oe4, _, he4, hz4, hd4⟩ := fl4.there
      refine store_ok (X := X.suite a ((a, oe4) :: (X.pn ++ pins))) (v := .ref a) (J4.suite he4 hd4 na nL nF) nd at_ (.inl lo) rfl (fun s5 S5 => ?_) (.inr lo)
      refine wpAny_mono ((hu a oe4 cls d (X.pn ++ pins) hz4 ⟨_, hd4⟩).run [] s5 _ G _ S5 (yes rfl a na)) (fun f s6 z => ?_) fun _ _ z => z.elim
      have bye : ∀ {v6 : L2.St} {G6 : Hp} {Q : Shared → Prop}, Inv (X.suite a ((a, oe4) :: (X.pn ++ pins))) [] v6 G6 s6 → (∀ s7, Inv X pins (v6.set i none) G6 s7 → Q s7) →
          wpAny (model X.prog X.w) X.A (do bindName X.env n .none; unbindBehindTheSuite X.env n q2) (fun _ s7 => Q s7) X.xe s6 := fun S6 k => gone_ok (S6.unsuite ok) nd at_ lo k
      cases f with
      | ret u => exact let ⟨_, _, _, S6, rr, qq⟩ := z; bye S6 fun s7 J7 => ⟨_, _, _, J7, rr, qq⟩
      | next => exact let ⟨_, _, S6, qq⟩ := z; bye S6 fun s7 J7 => ⟨_, _, J7, qq⟩
      | brk => exact let ⟨_, _, S6, qq⟩ := z; bye S6 fun s7 J7 => ⟨_, _, J7, qq⟩
      | cont => exact let ⟨_, _, S6, qq⟩ := z; bye S6 fun s7 J7 => ⟨_, _, J7, qq⟩
theorem ps_many_as {body : List Stmt} {h₀ : ExceptHandler} {hs : List ExceptHandler} {l : List Hnd} {pos : Pos} {tb : WX → TS} (st : X.stack = X.env :: X.outer) (fr : X.env.frame = some X.env.locals) (nd : X.N.Nodup) (at_ : X.N[i]? = some n) (lo : X.env.kindOf n = some .local)
    (tk : Takes X W0) (hb : ∀ (W : WX) (pn : List (Addr × Obj)) (xe : Value → Shared → Prop), Takes (X.tr pn xe) W → PassesOwn (model X.prog X.w) X.A X.env xe → PSs (X.tr pn xe) body (tb W))
    (hh : Clauses X n (h₀ :: hs) l) : PS X (.Try body (h₀ :: hs) [] [] pos) (fun D v G => tb (wClauses X.K i W0 D l) D v G) := by
  constructor
  intro pins s v G D I q
  have ok := I.ok
  refine wpAny_Try_except (wpAny_mono ((hb (wClauses X.K i W0 D l) (X.pn ++ pins) (fun e z₁ => wpAny (model X.prog X.w) X.A (noteFrame e X.env) (fun _ z₂ => wpAny (model X.prog X.w) X.A (setFlight e none)
    (fun _ z₃ => wpAny (model X.prog X.w) X.A (handleBy e X.env (h₀ :: hs)) (SP X pins D) X.xe z₃) X.xe z₂) X.xe z₁) (fun u s1 xx => ?_) PassesOwn.looking).run [] s v G D (I.toTry _) q) (fun f s1 z => ?_) fun _ _ z => z)
  · obtain ⟨a, B, sI, _, v1, G1, cls, d, rfl, J', nb, up, sky, na, os, ag, w⟩ := xx
    have J : Inv X pins v1 G1 sI := J'.ofTry ok
    refine Sky.land Zc.steady (by rw [ok.frames, st] : X.A.frames = some (X.env :: X.outer)) fr (by rw [← st]; exact sky : Sky B (X.env :: X.outer) a (Zc cls d) X.env.locals s1.heap) fun h1 fl up1 => ?_
    exact clauses_run (sI := sI) st fr nd at_ lo (up.trans up1) fl na (fun h2 k2 u2 => J.landed (s' := { s1 with heap := h2 }) nb k2 u2 os ag)
      (fun h2 u2 hh2 w2 => tk _ _ ⟨a, B, sI, pins, v1, G1, cls, d, rfl, J, nb, u2, .inr (.inr (by rw [st]; exact hh2)), na, os, ag, w2⟩) hh w
  · cases f with
    | ret u => exact let ⟨_, _, _, J1, rr, qq⟩ := z; ⟨_, _, _, J1.ofTry ok, rr, qq⟩
    | next => exact let ⟨_, _, J1, qq⟩ := z; wpAny_execs_nil ⟨_, _, J1.ofTry ok, qq⟩
    | brk => exact let ⟨_, _, J1, qq⟩ := z; ⟨_, _, J1.ofTry ok, qq⟩
    | cont => exact let ⟨_, _, J1, qq⟩ := z; ⟨_, _, J1.ofTry ok, qq⟩
end
/-! ### C.__init__(self, ..) of an own class that has none of its own: ValueError's -/
section
variable {X : Cx} {C : Addr} {mc : Value} {n : Str} {e : Expr} {es : List Expr} {ta : TA} {p1 p2 pos : Pos}
theorem pe_uinit {pl : Sem Bool} (hg : Gl X n) (hm : X.mg n = some (.ref C)) (rd : ClX.CRead X.K C mc) (fi : PySem.W.findCls X.K (.ref C) mc "__init__" = some (.val (.builtin "ValueError.__init__"))) (ha : PA X (e :: es) ta)
    (hc : eval (.Call (.Attribute (.Name n p1) "__init__" p2) (e :: es) [] pos) X.env = (do
      let ov ← eval (.Name n p1) X.env
      standAt p2.atName
      let (f, first) ← holding [ov] (getMethod ov "__init__" pl)
      callWith pos f first (backTo pos (starEach (e :: es) X.env)) (backToKw pos (keywordEach [] X.env))) := by rfl)
    (hs : starEach (e :: es) X.env = (false, eval e X.env) :: starEach es X.env := by rfl) (hp : (backTo pos (starEach es X.env)).any (·.1) = false := by rfl) (hd : (n == ("__debug__" : Str)) = false := by decide) :
    PE X (.Call (.Attribute (.Name n p1) "__init__" p2) (e :: es) [] pos) (tVeI X.K ta) := by
  constructor
  intro pins s σ H Q I h
  refine PySem.W.methodCall_KW (ld_glob I hg hm ?_ hd) hc
  refine PySem.W.method_cls I.kIn rd.ga (PySem.W.cls_value I.kIn rd.rd fi (by decide +kernel) ?_)
  refine PyProof.Rows.callWith_method1 (thn (ha.run pos pins _ σ H _ (I.tok _) h) fun us s1 ⟨vs, H1, I1, rr, a, D, ws, ev, hl, T, ea, q⟩ => ?_) hs hp
  subst ev
  cases rr with
  | @cons _ u0 _ ur ra rw' =>
    obtain rfl : u0 = Value.ref a := ra
    exact oinit_ok T I1 ea (by rw [← Paired.length rw', sizeLine_eq]; omega) fun s' J => ⟨.non, H1, J, rfl, q⟩
end
/-! ### isinstance of a caught exception with fields -/
/-- isinstance(e, c), e the exception that the suite holds: its class is at D, its dict at d -/
structure rIsX (K : PySem.W.Frag) (a : Addr) (cls : Value) (d : Option Addr) (xs : List V) (H : Hp) (Q : VK) : Prop where
  ex : ∃ (c : V) (cv : Value) (b : Bool) (D dd : Addr) (fs : List (Str × V)), xs = [.ref a, c] ∧ cls = .ref D ∧ ExcC K D ∧ d = some dd ∧ H dd = some (.xd fs) ∧
  (∀ u, RelV c u → u = cv) ∧ PySem.W.kitOne K (.ref D) cv = some b ∧ Q (.bl b) H
theorem call_isX {X : Cx} {a : Addr} {oe : Obj} {cls : Value} {d : Option Addr} {pn : List (Addr × Obj)} (hz : Zc cls d oe) (hf : ∃ vs, oe.data = .fields vs) : CallR (X.suite a ((a, oe) :: pn)) (.builtin "isinstance") (rIsX X.K a cls d) := by
  intro pins s σ H xs us Q I r h
  obtain ⟨c, cv, b, D, dd, fs, rfl, rfl, C, rfl, ed, hcv, e, q⟩ := h.ex
  rcases r with _ | ⟨rx, _ | ⟨rt, rr⟩⟩
  cases rr
  cases rx
  obtain rfl := hcv _ rt
  obtain ⟨hget, _⟩ := I.pin (a, oe) (List.mem_append_left _ (.head _))
  obtain ⟨vs, hv⟩ := hf
  have hx : ObjOk X.prog X.w H s.heap dd (.xd fs) := I.hok dd _ ed
  obtain ⟨mA, ⟨od, _, _, ho, _⟩, _⟩ := hx
  have J : PySem.W.InstAt s.heap a oe D (some od) := ⟨hget, hz.1, by unfold PySem.W.notCls; rw [hv] <;> rfl, by rw [hz.2]; exact ho⟩
  have hcl : (PySem.W.clsIn X.K D).isSome = true := by
    obtain ⟨cd, hc, _⟩ := PySem.W.any_some C.hd
    rw [hc]; rfl
  exact PySem.W.kia_one (PySem.W.kitx_exc hcl C.hg C.hk C.hs C.ha C.hn C.ht C.hm) I.kIn J e (fun z => nomatch z) fun tk => ⟨.bl b, H, I.kept (t' := tk) fun _ _ z => z, rfl, q⟩
end Nz
namespace Nz
open PySem PySem.Spec PyProof.Rows L2
/-- C(e, ..), C's own __init__ keeping sp; what it raises goes where E says, at the slots as they stand -/
def tMakeS (C : Addr) (sp : Sp) (E : L2.St → XK) (t : TA) : TE := fun v G Q => t v G fun vs G1 => ∀ x dx, G1 x = none → G1 dx = none → dx ≠ x →
  sp (.ref x :: vs) (upd (upd G1 dx (.own x)) x (.ins C dx [])) (fun y G2 => y = .non ∧ Q (.ref x) G2) (E v)
section
variable {X : Cx} {CX : CXT} {k : Nat} {f C : Addr} {fd : FuncData} {ps : List Str} {sp : Sp} {E : L2.St → XK} {x : Str} {p pos : Pos} {e : Expr} {es : List Expr} {t : TA}
theorem pe_makeS (M : Mk X.K C f) (F : FnOk X.prog X.w X.K X.mg X.base CX k f fd ps sp) (hr : Room (k + 1) X.A) (hg : Gl X x) (hm : X.mg x = some (.ref C)) (hb : Binds X.K fd ps []) (out : ∀ v, PassesAt CX X v (E v)) (ha : PA X (e :: es) t)
    (hd : (x == ("__debug__" : Str)) = false := by decide) (hs : starEach (e :: es) X.env = (false, eval e X.env) :: starEach es X.env := by rfl) (hp : (backTo pos (starEach es X.env)).any (·.1) = false := by rfl) :
    PE X (.Call (.Name x p) (e :: es) [] pos) (tMakeS C sp E t) := by
  constructor
  intro pins s v G Q I q
  refine wpAny_Call_Name_kw (ld_glob I hg hm ?_ hd)
  refine PySem.W.callWith_K (h₀ := X.base) I.ok.mod.kin M.kp (thn (ha.run pos pins s v G _ I q) fun us z ⟨vs, G1, I1, rr, q1⟩ => ⟨I1.kIn, ?_⟩) hs hp
  have q2 := q1 (z.heap.objs.size + 1) z.heap.objs.size (I1.hok.fresh (Nat.le_succ _)) (I1.hok.fresh (Nat.le_refl _)) (Nat.ne_of_lt (Nat.lt_succ_self _))
  have J := Inv.made (C := C) I1
  have rs : Vals (V.ref (z.heap.objs.size + 1) :: vs) (Value.ref (z.heap.objs.size + 1) :: us) := .cons rfl rr
  have len : (Value.ref (z.heap.objs.size + 1) :: us).length = ps.length := rs.length.symm.trans (F.len _ _ _ _ q2)
  have bind := hb _ (Value.ref (z.heap.objs.size + 1) :: us) J.kIn (by rw [List.append_nil]; exact len)
  rw [List.append_nil] at bind
  refine wpAny_call (make_map (f := f) I1.kIn M.makes M.init (beq_iff_eq.mp M.fn) (codeAny_mono (F.run _ X.stack _ _ ⟨Value.ref (z.heap.objs.size + 1) :: us, []⟩ _ _ _ (E v) (hr.make C us []) (J.env0.make C us []) bind rs q2) fun r s1 h => ?_))
  rcases r with er | fl
  · exact out v pins _ _ er s1 J h
  rcases fl with _ | _ | _ | u <;> first
    | exact False.elim h
    | (obtain ⟨y, G2, J2, ry, rfl, q3⟩ := J.after h
       exact ⟨ry, .ref _, G2, J2, rfl, q3⟩)
end
end Nz
namespace Qw
open PySem PySem.Spec PyProof.Rows L2 Nz
open Evl (Ex)
variable {X : Cx} {K : PySem.W.Frag} {I I' I1 I2 H H' H1 H2 I0 H0 : Hp} {e : En} {σ : L2.St}
/-- what is wished where an own exception with one field leaves: its class's name, its dict -/
abbrev TQ := Str → Addr → L2.St → Hp → Prop
def wxW (X : Cx) : WX := fun cls d σ H => ∃ W0, Takes X W0 ∧ W0 cls d σ H
def wxQ (X : Cx) : TQ := fun x d σ H => ∀ C, X.mg x = some (.ref C) → wxW X (.ref C) (some d) σ H
theorem takes_wx : Takes X (wxW X) := fun u s' ⟨a, B, sI, pins, v, G, cls, d, h1, h2, h3, h4, h5, h6, h7, h8, W0, tk, w⟩ => tk u s' ⟨a, B, sI, pins, v, G, cls, d, h1, h2, h3, h4, h5, h6, h7, h8, w⟩
variable {T : TQ}
inductive Out where
  | nx (e : En) | rt (sv : SV) | bk (e : En) | ct (e : En) | ex (x fn : Str) (w : W) (e : En)
def OutOk (K : PySem.W.Frag) (T : TQ) (I0 H0 I : Hp) (D : Ends) : Out → Prop
  | .nx e => ∀ I' σ' H', Sat K I0 H0 I' e σ' H' → Ex I I' → D.nx σ' H'
  | .bk e => ∀ I' σ' H', Sat K I0 H0 I' e σ' H' → Ex I I' → D.bk σ' H'
  | .ct e => ∀ I' σ' H', Sat K I0 H0 I' e σ' H' → Ex I I' → D.ct σ' H'
  | .rt sv => ∀ I' H' v, Ext I0 H0 I' H' → Res K I' H' H0 sv v → D.rt v H'
  | .ex x fn w e => ∀ I' σ' H' d u, Sat K I0 H0 I' e σ' H' → Ex I I' → I' d = some (.xd [(fn, u)]) → IsW K I' w u → T x d σ' H'
def tS (K : PySem.W.Frag) (T : TQ) (F : En → Option Out) : TS := fun D σ H => ∃ I0 H0 I e o, Sat K I0 H0 I e σ H ∧ F e = some o ∧ OutOk K T I0 H0 I D o
abbrev PQ (X : Cx) (sts : List Stmt) (F : En → Option Out) : Prop := PSs X sts (tS X.K (wxQ X) F)
theorem OutOk.later {D : Ends} {o : Out} (h : OutOk K T I0 H0 I D o) (hx : Ex I I') : OutOk K T I0 H0 I' D o := by
  cases o with
  | nx e => exact fun J σ' H' s y => h J σ' H' s (hx.trans y)
  | bk e => exact fun J σ' H' s y => h J σ' H' s (hx.trans y)
  | ct e => exact fun J σ' H' s y => h J σ' H' s (hx.trans y)
  | rt sv => exact h
  | ex x fn w e => exact fun J σ' H' d u s y => h J σ' H' d u s (hx.trans y)
theorem ps_imp {st : Stmt} {t t' : TS} (h : PS X st t) (k : ∀ D σ H, t' D σ H → t D σ H) : PS X st t' := ⟨fun pins s σ H D I q => h.run pins s σ H D I (k D σ H q)⟩
theorem pss_imp {sts : List Stmt} {t t' : TS} (h : PSs X sts t) (k : ∀ D σ H, t' D σ H → t D σ H) : PSs X sts t' := ⟨fun pins s σ H D I q => h.run pins s σ H D I (k D σ H q)⟩
/-! ### rows of statements -/
def sNext : En → Option Out := fun e => some (.nx e)
def sSeq (F G : En → Option Out) : En → Option Out := fun e => match F e with
  | some (.nx e') => G e'
  | r => r
def sFix (i : Nat) (G : En → Option Out) : En → Option Out := fun e => G (fixSlot e i)
theorem qpass : PSs X [] (tS X.K (wxQ X) sNext) := pss_imp pss_nil fun D σ H ⟨I0, H0, I, e, o, S, hf, k⟩ => by
  cases hf
  exact k I σ H S (Ex.refl _)
theorem seq_use {F G : En → Option Out} {D : Ends} : tS K T (sSeq F G) D σ H → tSeq (tS K T F) (tS K T G) D σ H := fun ⟨I0, H0, I, e, o, S, hf, k⟩ => by
  unfold sSeq at hf
  split at hf
  next e' he => exact ⟨I0, H0, I, e, _, S, he, fun I' σ' H' S' x => ⟨I0, H0, I', e', o, S', hf, k.later x⟩⟩
  next hn =>
    refine ⟨I0, H0, I, e, o, S, hf, ?_⟩
    cases o with
    | nx e' => exact absurd hf (hn e')
    | bk e' => exact k
    | ct e' => exact k
    | rt sv => exact k
    | ex x fn w e' => exact k
theorem qseq {st : Stmt} {rest : List Stmt} {F G : En → Option Out} (h1 : PS X st (tS X.K (wxQ X) F)) (h2 : PSs X rest (tS X.K (wxQ X) G)) : PSs X (st :: rest) (tS X.K (wxQ X) (sSeq F G)) := pss_imp (pss_cons h1 h2) fun _ _ _ => seq_use
theorem qone {st : Stmt} {F : En → Option Out} (h1 : PS X st (tS X.K (wxQ X) F)) : PSs X [st] (tS X.K (wxQ X) F) := pss_one h1
theorem qfix (i : Nat) {sts : List Stmt} {G : En → Option Out} (h : PSs X sts (tS X.K (wxQ X) G)) : PSs X sts (tS X.K (wxQ X) (sFix i G)) := pss_imp h fun D σ H ⟨I0, H0, I, e, o, S, hf, k⟩ => by
  obtain ⟨I', x, S'⟩ := S.fix i
  exact ⟨I0, H0, I', _, o, S', hf, k.later x⟩
/-! ### if, return, name = .. -/
def sIf (t : En → Option Bool) (F G : En → Option Out) : En → Option Out := fun e => match t e with
  | some true => F e
  | some false => G e
  | none => none
theorem qIf {c : Expr} {a b : List Stmt} {pos : Pos} {t : En → Option Bool} {F G : En → Option Out} (hc : PT X c (tT X.K t)) (ha : PSs X a (tS X.K (wxQ X) F)) (hb : PSs X b (tS X.K (wxQ X) G)) : PS X (.If c a b pos) (tS X.K (wxQ X) (sIf t F G)) :=
  ps_imp (ps_if hc ha hb) fun D σ H ⟨I0, H0, I, e, o, S, hf, k⟩ => by
    unfold sIf at hf
    split at hf
    next hw => exact ⟨I0, H0, I, e, true, S, hw, fun I1 H1 x1 => iteT ⟨I0, H0, I1, e, o, S.mono x1, hf, k.later x1.i⟩⟩
    next hw => exact ⟨I0, H0, I, e, false, S, hw, fun I1 H1 x1 => iteF ⟨I0, H0, I1, e, o, S.mono x1, hf, k.later x1.i⟩⟩
    next => cases hf
def sRet (f : En → Option SV) : En → Option Out := fun e => match f e with
  | some sv => some (.rt sv)
  | none => none
theorem qret {a : Expr} {pos : Pos} {f : En → Option SV} (ha : PE X a (tR X.K f)) : PS X (.Return (some a) pos) (tS X.K (wxQ X) (sRet f)) := ps_imp (ps_ret ha) fun D σ H ⟨I0, H0, I, e, o, S, hf, k⟩ => by
  unfold sRet at hf
  split at hf
  next sv hs => cases hf; exact ⟨I0, H0, I, e, sv, S, hs, fun I1 H1 v x1 r => k I1 H1 v (S.x.trans x1) (r.weak S.x.h)⟩
  next => cases hf
/-- return name: as it stands -/
def fSlot (i : Nat) : En → Option SV := fun e => match e[i]? with
  | some (some sv) => some sv
  | _ => none
theorem qretv (i : Nat) {x : Str} {p pos : Pos} (hN : X.N[i]? = some x := by rfl) (hv : Vis X.env.scope x := by first | exact Or.inl rfl | exact Or.inr (Or.inl rfl) | exact Or.inr (Or.inr rfl)) (hd : (x == ("__debug__" : Str)) = false := by decide)
    (hcd : (x == ("__classdict__" : Str)) = false := by decide) : PS X (.Return (some (.Name x p)) pos) (tS X.K (wxQ X) (sRet (fSlot i))) := ps_imp (ps_ret (pe_var hN hv hd hcd)) fun D σ H ⟨I0, H0, I, e, o, S, hf, k⟩ => by
  unfold sRet fSlot at hf
  split at hf
  next sv hs =>
    cases hf
    split at hs
    next sv' hsv =>
      cases hs
      obtain ⟨v, a, r⟩ := S.slot i _ hsv
      exact ⟨v, a, k I H v S.x r⟩
    next => cases hs
  next => cases hf
def sRetN : En → Option Out := fun _ => some (.rt (.imm .non))
theorem qretn {pos : Pos} : PS X (.Return none pos) (tS X.K (wxQ X) sRetN) := ps_imp ps_retN fun D σ H ⟨I0, H0, I, e, o, S, hf, k⟩ => by
  cases hf
  exact k I H _ S.x (by simp [Res, IsW])
def sSet (i : Nat) (f : En → Option SV) : En → Option Out := fun e => match f e with
  | some sv => some (.nx (e.set i (some sv)))
  | none => none
theorem set_use {i : Nat} {f : En → Option SV} {D : Ends} : tS K T (sSet i f) D σ H → tR K f σ H (fun v H1 => D.nx (σ.set i (some v)) H1) := fun ⟨I0, H0, I, e, o, S, hf, k⟩ => by
  unfold sSet at hf
  split at hf
  next sv hs => cases hf; exact ⟨I0, H0, I, e, sv, S, hs, fun I1 H1 v x1 r => k I1 _ H1 (S.set x1 r i) x1.i⟩
  next => cases hf
theorem qset {i : Nat} {x : Str} {a : Expr} {f : En → Option SV} {p pos : Pos} (hN : X.N.Nodup) (hi : X.N[i]? = some x) (hx : Loc X.env.scope x) (ha : PE X a (tR X.K f)) (hs : swapsWith a (some (.Name x p)) pos.line X.env = pure false := by rfl)
    (hf : X.fn x = true ∨ X.env.scope.names.lookup x = some .local := by first | exact .inl rfl | exact .inr rfl | assumption) : PS X (.Assign [.Name x p] a pos) (tS X.K (wxQ X) (sSet i f)) :=
  ps_imp (ps_set hN hi hx ha hs hf) fun _ _ _ => set_use
/-! ### name op= int -/
def sAug (i : Nat) (o : Int → Int → Int) (f : En → Option W) : En → Option Out := fun e => match e[i]? with
  | some (some (.imm (.int a))) => (match f e with
    | some (.int b) => some (.nx (e.set i (some (.imm (.int (o a b))))))
    | _ => none)
  | _ => none
theorem qaug {i : Nat} {x : Str} {a : Expr} {op : Operator} {o : Int → Int → Int} {f : En → Option W} {p pos : Pos} (hN : X.N.Nodup) (hi : X.N[i]? = some x) (hx : Loc X.env.scope x) (ha : PE X a (tW X.K f)) (ho : PIp X op (ipI o))
    (hf : X.fn x = true ∨ X.env.scope.names.lookup x = some .local := by first | exact .inl rfl | exact .inr rfl | assumption) : PS X (.AugAssign (.Name x p) op a pos) (tS X.K (wxQ X) (sAug i o f)) :=
  ps_imp (ps_aug hN hi hx ha ho hf) fun D σ H ⟨I0, H0, I, e, out, S, hf, k⟩ => by
    unfold sAug at hf
    split at hf
    next u hu =>
      split at hf
      next b hb =>
        cases hf
        obtain ⟨v, hv, r⟩ := S.slot i _ hu
        have r' : v = .int u := by simpa [Res, IsW] using r
        subst r'
        refine ⟨_, hv, I0, H0, I, e, _, S, hb, fun I1 H1 y x1 r1 => ?_⟩
        rw [isInt] at r1
        exact ⟨u, b, rfl, r1, k I1 _ H1 (S.set x1 (by simp [Res, IsW]) i) x1.i⟩
      next => cases hf
    next => cases hf
/-! ### our own lists -/
theorem own_at {i : Nat} {w : W} (S : Sat K I0 H0 I e σ H) (h : e[i]? = some (some (.own w))) : ∃ p, σ[i]? = some (some (.ref p)) ∧ I p = none ∧ H0 p = none ∧ OwnAt K I H p w := by
  obtain ⟨v, a, p, rfl, b, c, d⟩ := S.slot i _ h
  exact ⟨p, a, b, c, d⟩
def sApp (i : Nat) (f : En → Option W) : En → Option Out := fun e => match e[i]? with
  | some (some (.own (.lst ws))) => (match f e with
    | some w => if ws.length < sizeLine then some (.nx (e.set i (some (.own (.lst (ws ++ [w])))))) else none
    | none => none)
  | _ => none
theorem app_use {i : Nat} {f : En → Option W} {D : Ends} : tS K T (sApp i f) D σ H → tDrop (tBM K "list" rAppend (tVar i) (tCons (tW K f) tNil)) D σ H := fun ⟨I0, H0, I, e, o, S, hf, k⟩ => by
  unfold sApp at hf
  split at hf
  next ws hs =>
    split at hf
    next w hw =>
      split at hf
      next hz =>
        cases hf
        obtain ⟨p, hp, hi, h0, vs, hv, r⟩ := own_at S hs
        refine ⟨_, hp, .inl ⟨rfl, _, .inl (.inl hv)⟩, I0, H0, I, e, w, S, hw, fun I1 H1 y x1 r1 => ?_⟩
        have S1 := S.mono x1
        have hv1 : H1 p = some (.lst vs) := x1.h _ _ hv
        refine ⟨p, vs, y, rfl, rfl, hv1, by rw [← r.len]; exact hz, k I1 _ _ (S1.chg hs hp ⟨vs ++ [y], upd_same, (r.mono x1.i).append (IsWs.cons r1 IsWs.nil)⟩) x1.i⟩
      next => cases hf
    next => cases hf
  next => cases hf
def sExt (i : Nat) (f : En → Option W) : En → Option Out := fun e => match e[i]? with
  | some (some (.own (.lst ws))) => (match f e with
    | some (.lst us) => if ws.length + us.length ≤ sizeLine then some (.nx (e.set i (some (.own (.lst (ws ++ us)))))) else none
    | _ => none)
  | _ => none
theorem ext_use {i : Nat} {f : En → Option W} {D : Ends} : tS K T (sExt i f) D σ H → tDrop (tBM K "list" rExtend (tVar i) (tCons (tW K f) tNil)) D σ H := fun ⟨I0, H0, I, e, o, S, hf, k⟩ => by
  unfold sExt at hf
  split at hf
  next ws hs =>
    split at hf
    next us hw =>
      split at hf
      next hz =>
        cases hf
        obtain ⟨p, hp, hi, h0, vs, hv, r⟩ := own_at S hs
        refine ⟨_, hp, .inl ⟨rfl, _, .inl (.inl hv)⟩, I0, H0, I, e, _, S, hw, fun I1 H1 y x1 r1 => ?_⟩
        have S1 := S.mono x1
        have hv1 : H1 p = some (.lst vs) := x1.h _ _ hv
        simp only [IsW] at r1
        obtain ⟨q, zs, rfl, hq, rz⟩ := r1
        refine ⟨p, q, vs, zs, rfl, rfl, hv1, x1.ih _ _ hq, by rw [← r.len, ← rz.len]; exact hz, k I1 _ _ (S1.chg hs hp ⟨vs ++ zs, upd_same, (r.mono x1.i).append rz⟩) x1.i⟩
      next => cases hf
    next => cases hf
  next => cases hf
def sPop (i : Nat) : En → Option Out := fun e => match e[i]? with
  | some (some (.own (.lst ws))) => if ws = [] then none else some (.nx (e.set i (some (.own (.lst ws.dropLast)))))
  | _ => none
theorem isWs_dropLast : ∀ {ws : List W} {vs : List V}, IsWs K I ws vs → IsWs K I ws.dropLast vs.dropLast := fun {ws vs} h => by
  rw [List.dropLast_eq_take, List.dropLast_eq_take, h.len]
  exact h.take _
/-- an expression, its value dropped -/
def sDrop (f : En → Option W) : En → Option Out := fun e => match f e with
  | some _ => some (.nx e)
  | none => none
theorem qdrop {a : Expr} {pos : Pos} {f : En → Option W} (ha : PE X a (tW X.K f)) (hs : swapsWith a none pos.line X.env = pure false := by rfl) : PS X (.Expr a pos) (tS X.K (wxQ X) (sDrop f)) := ps_imp (ps_expr ha hs) fun D σ H ⟨I0, H0, I, e, o, S, hf, k⟩ => by
  unfold sDrop at hf
  split at hf
  next w hw => cases hf; exact ⟨I0, H0, I, e, w, S, hw, fun I1 H1 v x1 r => k I1 σ H1 (S.mono x1) x1.i⟩
  next => cases hf
/-- xs[j] = v -/
def sSetIx (i : Nat) (g f : En → Option W) : En → Option Out := fun e => match f e with
  | some w => (match e[i]? with
    | some (some (.own (.lst ws))) => (match g e with
      | some (.int j) => (match ixN ws.length j with
        | some n => some (.nx (e.set i (some (.own (.lst (ws.set n w))))))
        | none => none)
      | _ => none)
    | _ => none)
  | none => none
theorem setIx_use {i : Nat} {g f : En → Option W} {D : Ends} : tS K T (sSetIx i g f) D σ H → tAsg (tW K f) (gSub (tVar i) (tW K g) rSetL) D σ H := fun ⟨I0, H0, I, e, o, S, hf, k⟩ => by
  unfold sSetIx at hf
  split at hf
  next w hw =>
    split at hf
    next ws hs =>
      split at hf
      next j hj =>
        split at hf
        next n hn =>
          cases hf
          refine ⟨I0, H0, I, e, w, S, hw, fun I1 H1 y x1 r1 => ?_⟩
          have S1 := S.mono x1
          obtain ⟨p, hp, hi, h0, vs, hv, r⟩ := own_at S1 hs
          refine ⟨_, hp, I0, H0, I1, e, _, S1, hj, fun I2 H2 z x2 r2 => ?_⟩
          have S2 := S1.mono x2
          rw [isInt] at r2
          have hv2 : H2 p = some (.lst vs) := x2.h _ _ hv
          refine ⟨p, vs, j, n, rfl, r2, hv2, by rw [← r.len]; exact hn, k I2 _ _ (S2.chg hs hp ⟨vs.set n y, upd_same, (r.mono x2.i).set n (IsW.mono x2.i r1)⟩) (x1.i.trans x2.i)⟩
        next => cases hf
      next => cases hf
    next => cases hf
  next => cases hf
/-- our own list, read at an index -/
def fIxOwn (i : Nat) (g : En → Option W) : En → Option W := fun e => match e[i]? with
  | some (some (.own (.lst ws))) => (match g e with
    | some (.int j) => atI ws j
    | _ => none)
  | some (some (.imm w)) => (match g e with
    | some u => ixW w u
    | none => none)
  | _ => none
theorem qixo (i : Nat) {x : Str} {b : Expr} {g : En → Option W} {p pos : Pos} (hb : PE X b (tW X.K g)) (hN : X.N[i]? = some x := by rfl) (hv : Vis X.env.scope x := by first | exact Or.inl rfl | exact Or.inr (Or.inl rfl) | exact Or.inr (Or.inr rfl))
    (hd : (x == ("__debug__" : Str)) = false := by decide) (hcd : (x == ("__classdict__" : Str)) = false := by decide) (hs : PlainIx b := by intro _ _; rfl) : PE X (.Subscript (.Name x p) b pos) (tW X.K (fIxOwn i g)) :=
  pe_imp (pe_ix ix_any (pe_var hN hv hd hcd) hb hs) fun σ H Q ⟨I0, H0, I, e, w, S, hf, k⟩ => by
    unfold fIxOwn at hf
    split at hf
    next ws hs =>
      split at hf
      next j hj =>
        obtain ⟨p, hp, hi, h0, vs, hv, r⟩ := own_at S hs
        refine ⟨_, hp, I0, H0, I, e, _, S, hj, fun I1 H1 z x1 r1 => ?_⟩
        rw [isInt] at r1
        obtain ⟨v, h1, h2⟩ := atI_ws (r.mono x1.i) hf
        exact .inl ⟨p, vs, j, v, rfl, r1, sqL_of (x1.h _ _ hv), h1, k _ _ _ x1 h2⟩
      next => cases hf
    next u hs =>
      split at hf
      next j hj =>
        obtain ⟨v, a, r⟩ := S.slot i _ hs
        exact ⟨v, a, I0, H0, I, e, _, S, hj, fun I1 H1 z x1 r1 => bv_ix I1 H1 u j v z w Q x1.ih (IsW.mono x1.i r) r1 hf fun I2 H2 y x2 r2 => k _ _ _ (x1.trans x2) r2⟩
      next => cases hf
    next => cases hf
end Qw
namespace Qw
open PySem PySem.Spec PyProof.Rows L2 Nz
open Evl (Ex)
variable {T : TQ} {X : Cx} {K : PySem.W.Frag} {I I' I1 I2 H H' H1 H2 I0 H0 : Hp} {e : En} {σ : L2.St}
/-! ### targets -/
def tG (K : PySem.W.Frag) (A : W → En → Option En) (ts : List Nat) : TG := fun v σ H Q => ∃ I0 H0 I e w e', Sat K I0 H0 I e σ H ∧ IsW K I w v ∧ A w e = some e' ∧
  ∀ σ', Sat K I0 H0 I e' σ' H → (∀ us, (∀ i ∈ ts, i ∈ us) → wipe σ' us = wipe σ us) → Q σ' H
def tGs (K : PySem.W.Frag) (A : List W → En → Option En) (ts : List Nat) : TGs := fun vs σ H Q => ∃ I0 H0 I e ws e', Sat K I0 H0 I e σ H ∧ IsWs K I ws vs ∧ A ws e = some e' ∧
  ∀ σ', Sat K I0 H0 I e' σ' H → (∀ us, (∀ i ∈ ts, i ∈ us) → wipe σ' us = wipe σ us) → Q σ' H
theorem pg_imp {ex : Expr} {t t' : TG} (h : PG X ex t) (k : ∀ v σ H Q, t' v σ H Q → t v σ H Q) : PG X ex t' := ⟨fun pins s σ H v u Q I r q => h.run pins s σ H v u Q I r (k v σ H Q q)⟩
theorem pgs_imp {ex : List Expr} {t t' : TGs} (h : PGs X ex t) (k : ∀ v σ H Q, t' v σ H Q → t v σ H Q) : PGs X ex t' := ⟨fun pins s σ H v u Q I r q => h.run pins s σ H v u Q I r (k v σ H Q q)⟩
theorem wipe_set_in {σ : L2.St} {i : Nat} {o : Option V} : ∀ {us : List Nat}, i ∈ us → wipe (σ.set i o) us = wipe σ us
  | [], h => absurd h (by simp)
  | u :: us, h => by
    show (wipe (σ.set i o) us).set u none = (wipe σ us).set u none
    by_cases hu : i ∈ us
    · rw [wipe_set_in hu]
    · have e : i = u := by
        rcases List.mem_cons.mp h with z | z
        · exact z
        · exact absurd z hu
      subst e
      have q : ∀ (vs : List Nat), i ∉ vs → wipe (σ.set i o) vs = (wipe σ vs).set i o := fun vs => by
        induction vs with
        | nil => intro _; rfl
        | cons w ws ih =>
          intro hw
          have h1 : i ≠ w := fun z => hw (by simp [z])
          show (wipe (σ.set i o) ws).set w none = ((wipe σ ws).set w none).set i o
          rw [ih (fun z => hw (by simp [z])), List.set_comm _ _ h1]
      rw [q us hu, List.set_set]
def aName (i : Nat) : W → En → Option En := fun w e => some (e.set i (some (.imm w)))
theorem qgn {i : Nat} {x : Str} {pos : Pos} (hN : X.N.Nodup) (hi : X.N[i]? = some x) (hx : Loc X.env.scope x) (hf : X.fn x = true ∨ X.env.scope.names.lookup x = some .local := by first | exact .inl rfl | exact .inr rfl | assumption) :
    PG X (.Name x pos) (tG X.K (aName i) [i]) := pg_imp (pg_name hN hi hx hf) fun v σ H Q ⟨I0, H0, I, e, w, e', S, r, hA, k⟩ => by
  cases hA
  exact k _ (S.set S.ref (sv := .imm w) r i) fun us hu => wipe_set_in (hu i (by simp))
def aNil : List W → En → Option En
  | [], e => some e
  | _, _ => none
def aCons (A : W → En → Option En) (B : List W → En → Option En) : List W → En → Option En
  | w :: ws, e => (match A w e with
    | some e' => B ws e'
    | none => none)
  | _, _ => none
def aTup (B : List W → En → Option En) : W → En → Option En
  | .tup ws, e => B ws e
  | _, _ => none
theorem qgnil : PGs X [] (tGs X.K aNil []) := pgs_imp pgs_nil fun v σ H Q ⟨I0, H0, I, e, ws, e', S, r, hA, k⟩ => by
  cases ws with
  | nil => cases hA; exact ⟨isNil r, k σ S fun _ _ => rfl⟩
  | cons _ _ => cases hA
theorem qgcons {a : Expr} {es : List Expr} {A : W → En → Option En} {B : List W → En → Option En} {ts us : List Nat} (h1 : PG X a (tG X.K A ts)) (h2 : PGs X es (tGs X.K B us))
    (hs : (assignEach (a :: es) X.env).map (·.2) = assign a X.env :: (assignEach es X.env).map (·.2) := by rfl) : PGs X (a :: es) (tGs X.K (aCons A B) (ts ++ us)) := pgs_imp (pgs_cons h1 h2 hs) fun v σ H Q ⟨I0, H0, I, e, ws, e', S, r, hA, k⟩ => by
  cases ws with
  | nil => cases hA
  | cons w ws =>
    simp only [aCons] at hA
    split at hA
    next e1 h1 =>
      obtain ⟨x, vr, rfl, r1, r2⟩ := one r
      refine ⟨x, vr, rfl, I0, H0, I, e, w, e1, S, r1, h1, fun σ1 S1 w1 => ⟨I0, H0, I, e1, ws, e', S1, r2, hA, fun σ2 S2 w2 => k σ2 S2 fun us' hu => ?_⟩⟩
      rw [w2 us' fun i hi => hu i (List.mem_append_right _ hi), w1 us' fun i hi => hu i (List.mem_append_left _ hi)]
    next => cases hA
theorem qgtup {es : List Expr} {kk : Nat} {n : Nat} {B : List W → En → Option En} {ts : List Nat} {pos : Pos} (hc : X.calm = true) (h : PGs X es (tGs X.K B ts)) (hB : ∀ ws e e', B ws e = some e' → ws.length = n)
    (hn : (assignEach es X.env).length = n := by rfl) (hst : (assignEach es X.env).findIdx? (·.1) = none := by rfl) : PG X (.Tuple es kk pos) (tG X.K (aTup B) ts) := pg_imp (pg_tup hc h hn hst) fun v σ H Q ⟨I0, H0, I, e, w, e', S, r, hA, k⟩ => by
  cases w <;> try (cases hA; done)
  simp only [aTup] at hA
  simp only [IsW] at r
  obtain ⟨p, vs, rfl, hp, r⟩ := r
  exact ⟨p, vs, rfl, sqT_of (S.ext _ _ hp), by rw [← r.len]; exact hB _ _ _ hA, I0, H0, I, e, _, e', S, r, hA, k⟩
theorem aNil_len (ws : List W) (e e' : En) (h : aNil ws e = some e') : ws.length = 0 := by
  cases ws with
  | nil => rfl
  | cons _ _ => cases h
theorem aCons_len {A : W → En → Option En} {B : List W → En → Option En} {n : Nat} (h : ∀ ws e e', B ws e = some e' → ws.length = n) (ws : List W) (e e' : En) (q : aCons A B ws e = some e') : ws.length = n + 1 := by
  cases ws with
  | nil => cases q
  | cons w ws =>
    simp only [aCons] at q
    split at q
    next => rw [List.length_cons, h _ _ _ q]
    next => cases q
/-- target = value, the target a tuple -/
def sAsg (A : W → En → Option En) (f : En → Option W) : En → Option Out := fun e => match f e with
  | some w => (match A w e with
    | some e' => some (.nx e')
    | none => none)
  | none => none
theorem asg_use {A : W → En → Option En} {ts : List Nat} {f : En → Option W} {D : Ends} : tS K T (sAsg A f) D σ H → tAsg (tW K f) (tG K A ts) D σ H := fun ⟨I0, H0, I, e, o, S, hf, k⟩ => by
  unfold sAsg at hf
  split at hf
  next w hw =>
    split at hf
    next e' he =>
      cases hf
      exact ⟨I0, H0, I, e, w, S, hw, fun I1 H1 v x1 r => ⟨I0, H0, I1, e, w, e', S.mono x1, r, he, fun σ' S' _ => k I1 σ' H1 S' x1.i⟩⟩
    next => cases hf
  next => cases hf
theorem qasg {tg a : Expr} {A : W → En → Option En} {ts : List Nat} {f : En → Option W} {pos : Pos} (ha : PE X a (tW X.K f)) (hg : PG X tg (tG X.K A ts)) (hs : swapsWithSole [tg] a pos.line X.env = pure false := by rfl) (hw : swappedStores [tg] a X.env = pure none := by rfl)
    (h1 : (assignEach [tg] X.env).map (·.2) = [assign tg X.env] := by rfl) : PS X (.Assign [tg] a pos) (tS X.K (wxQ X) (sAsg A f)) := ps_imp (ps_asg ha hg hs hw h1) fun _ _ _ => asg_use
/-! ### what is walked -/
structure ItW (K : PySem.W.Frag) (I : Hp) (J : It) (ws : List W) : Prop where
  go : ∀ (i : Nat) (w : W), ws[i]? = some w → ∀ I1 H1, Ex I I1 → Ex I1 H1 → J.go i H1 ∧ ∀ x H2, J.yld i H1 x H2 → ∃ I2, Ext I1 H1 I2 H2 ∧ IsW K I2 w x
  stop : ∀ I1 H1, Ex I I1 → Ex I1 H1 → J.stop ws.length H1
def tI (K : PySem.W.Frag) (f : En → Option (List W)) : TI := fun σ H R => ∃ I0 H0 I e ws, Sat K I0 H0 I e σ H ∧ f e = some ws ∧ ∀ I' H' J, Ext I H I' H' → ItW K I' J ws → R J H'
theorem pi_imp {tg it : Expr} {t t' : TI} (h : PI X tg it t) (k : ∀ σ H R, t' σ H R → t σ H R) : PI X tg it t' := ⟨fun pins s σ H R I q => h.run pins s σ H R I (k σ H R q)⟩
def fSeq (f : En → Option W) : En → Option (List W) := fun e => match f e with
  | some (.lst ws) => some ws
  | some (.tup ws) => some ws
  | some (.klst ws) => some ws
  | some (.ktup ws) => some ws
  | some (.str s) => some (s.cps.toList.map fun c => .str ⟨#[c]⟩)
  | _ => none
theorem sqL_inj {a : Addr} {xs ys : List V} (h : I a = some (.lst xs)) (h2 : SqL K I a ys) (nk : True) : True := trivial
theorem it_list {a : Addr} {vs : List V} {ws : List W} (h : SqL K I a vs) (r : IsWs K I ws vs) : ItW K I (Itl K a) ws where
  go := fun i w hw I1 H1 x1 x2 => by
    obtain ⟨v, hv, rv⟩ := r.get hw
    have hq : SqL K H1 a vs := Evl.ex_l (x1.trans x2) h
    refine ⟨⟨vs, v, hq, hv⟩, fun x H2 y => ?_⟩
    obtain ⟨e, y⟩ := y
    subst e
    have := y vs hq
    rw [hv] at this
    cases this
    exact ⟨I1, Ext.refl x2, IsW.mono x1 rv⟩
  stop := fun I1 H1 x1 x2 => ⟨vs, Evl.ex_l (x1.trans x2) h, by rw [r.len]; exact Nat.le_refl _⟩
theorem it_tup {a : Addr} {vs : List V} {ws : List W} (h : SqT K I a vs) (r : IsWs K I ws vs) : ItW K I (Itt K a) ws where
  go := fun i w hw I1 H1 x1 x2 => by
    obtain ⟨v, hv, rv⟩ := r.get hw
    have hq : SqT K H1 a vs := Evl.ex_t (x1.trans x2) h
    refine ⟨⟨vs, v, hq, hv⟩, fun x H2 y => ?_⟩
    obtain ⟨e, y⟩ := y
    subst e
    have := y vs hq
    rw [hv] at this
    cases this
    exact ⟨I1, Ext.refl x2, IsW.mono x1 rv⟩
  stop := fun I1 H1 x1 x2 => ⟨vs, Evl.ex_t (x1.trans x2) h, by rw [r.len]; exact Nat.le_refl _⟩
theorem it_str (s : Str) : ItW K I (Its s) (s.cps.toList.map fun c => W.str ⟨#[c]⟩) where
  go := fun i w hw I1 H1 x1 x2 => by
    rw [List.getElem?_map] at hw
    cases q : s.cps.toList[i]? with
    | none => rw [q] at hw; cases hw
    | some c =>
      rw [q] at hw
      cases hw
      have q' : s.cps[i]? = some c := by simpa using q
      refine ⟨(Array.getElem?_eq_some_iff.mp q').1, fun x H2 y => ?_⟩
      obtain ⟨e, d, h1, h2⟩ := y
      subst e h2
      rw [q'] at h1
      cases h1
      exact ⟨I1, Ext.refl x2, isStr.mpr rfl⟩
  stop := fun I1 H1 x1 x2 => by
    show s.cps.size ≤ _
    simp
theorem qsq {tg l : Expr} {f : En → Option W} (hl : PE X l (tW X.K f)) : PI X tg l (tI X.K (fSeq f)) := pi_imp (or_iter (pi_seq hl) (pi_str hl)) fun σ H R ⟨I0, H0, I, e, ws, S, hf, k⟩ => by
  unfold fSeq at hf
  split at hf
  next us hw =>
    cases hf
    refine .inl (.inl ⟨I0, H0, I, e, _, S, hw, fun I1 H1 v x1 r => ?_⟩)
    simp only [IsW] at r
    obtain ⟨p, vs, rfl, hp, r⟩ := r
    exact ⟨p, rfl, ⟨vs, sqL_of (x1.ih _ _ hp)⟩, k I1 H1 _ x1 (it_list (sqL_of hp) r)⟩
  next us hw =>
    cases hf
    refine .inl (.inr ⟨I0, H0, I, e, _, S, hw, fun I1 H1 v x1 r => ?_⟩)
    simp only [IsW] at r
    obtain ⟨p, vs, rfl, hp, r⟩ := r
    exact ⟨p, rfl, ⟨vs, sqT_of (x1.ih _ _ hp)⟩, k I1 H1 _ x1 (it_tup (sqT_of hp) r)⟩
  next us hw =>
    cases hf
    refine .inl (.inl ⟨I0, H0, I, e, _, S, hw, fun I1 H1 v x1 r => ?_⟩)
    simp only [IsW] at r
    obtain ⟨p, vs, rfl, hp, r⟩ := r
    exact ⟨p, rfl, ⟨vs, Evl.ex_l x1.ih hp⟩, k I1 H1 _ x1 (it_list hp r)⟩
  next us hw =>
    cases hf
    refine .inl (.inr ⟨I0, H0, I, e, _, S, hw, fun I1 H1 v x1 r => ?_⟩)
    simp only [IsW] at r
    obtain ⟨p, vs, rfl, hp, r⟩ := r
    exact ⟨p, rfl, ⟨vs, Evl.ex_t x1.ih hp⟩, k I1 H1 _ x1 (it_tup hp r)⟩
  next s hw =>
    cases hf
    refine .inr ⟨I0, H0, I, e, _, S, hw, fun I1 H1 v x1 r => ?_⟩
    rw [isStr] at r
    subst r
    exact ⟨s, rfl, k I1 H1 _ x1 (it_str s)⟩
  next => cases hf
/-- lo, lo + 1, .. -/
def rngW (lo : Int) (n : Nat) : List W := (List.range n).map fun i => W.int (lo + (i : Nat))
theorem it_rng (lo : Int) (n : Nat) : ItW K I (Itr lo n) (rngW lo n) where
  go := fun i w hw I1 H1 x1 x2 => by
    unfold rngW at hw
    rw [List.getElem?_map] at hw
    have hi : i < n := by
      cases q : (List.range n)[i]? with
      | none => rw [q] at hw; cases hw
      | some j => simpa using (List.getElem?_eq_some_iff.mp q).1
    rw [List.getElem?_range hi] at hw
    cases hw
    refine ⟨hi, fun x H2 y => ?_⟩
    obtain ⟨e, y⟩ := y
    subst e y
    exact ⟨I1, Ext.refl x2, isInt.mpr rfl⟩
  stop := fun I1 H1 x1 x2 => by
    show n ≤ (rngW lo n).length
    simp [rngW]
def inR (i : Int) : Bool := decide (-(2 ^ 62) ≤ i ∧ i < 2 ^ 62)
def fRng1 (f : En → Option W) : En → Option (List W) := fun e => match f e with
  | some (.int n) => if inR n = true then some (rngW 0 n.toNat) else none
  | _ => none
def fRng2 (f g : En → Option W) : En → Option (List W) := fun e => match f e with
  | some (.int m) => (match g e with
    | some (.int n) => if inR m = true ∧ inR n = true then some (rngW m (n - m).toNat) else none
    | _ => none)
  | _ => none
theorem qr1 {tg a : Expr} {f : En → Option W} {p pos : Pos} (hg : Gl X "range") (hm : X.mg "range" = none) (ha : PE X a (tW X.K f)) (hs0 : starEach [a] X.env = [(false, eval a X.env)] := by rfl) : PI X tg (.Call (.Name "range" p) [a] [] pos) (tI X.K (fRng1 f)) :=
  pi_imp (pi_range1 hg hm (pa_cons ha pa_nil hs0) hs0) fun σ H R ⟨I0, H0, I, e, ws, S, hf, k⟩ => by
    unfold fRng1 at hf
    split at hf
    next n hw =>
      split at hf
      next hr =>
        cases hf
        have hr' := of_decide_eq_true hr
        refine ⟨I0, H0, I, e, _, S, hw, fun I1 H1 v x1 r => ?_⟩
        rw [isInt] at r
        subst r
        exact ⟨n, rfl, hr'.1, hr'.2, k I1 H1 _ x1 (it_rng 0 _)⟩
      next => cases hf
    next => cases hf
theorem qr2 {tg a b : Expr} {f g : En → Option W} {p pos : Pos} (hg : Gl X "range") (hm : X.mg "range" = none) (ha : PE X a (tW X.K f)) (hb : PE X b (tW X.K g)) (hs : starEach [a, b] X.env = [(false, eval a X.env), (false, eval b X.env)] := by rfl) (hs2 : starEach [b] X.env = [(false, eval b X.env)] := by rfl) :
    PI X tg (.Call (.Name "range" p) [a, b] [] pos) (tI X.K (fRng2 f g)) :=
  pi_imp (pi_range2 hg hm (pa_cons ha (pa_cons hb pa_nil hs2) (by rw [hs, hs2])) hs hs2) fun σ H R ⟨I0, H0, I, e, ws, S, hf, k⟩ => by
    unfold fRng2 at hf
    split at hf
    next m hm' =>
      split at hf
      next n hn =>
        split at hf
        next hr =>
          cases hf
          have h1 := of_decide_eq_true hr.1
          have h2 := of_decide_eq_true hr.2
          refine ⟨I0, H0, I, e, _, S, hm', fun I1 H1 v x1 r => ⟨I0, H0, I1, e, _, S.mono x1, hn, fun I2 H2 u x2 r2 => ?_⟩⟩
          rw [isInt] at r r2
          subst r r2
          exact ⟨m, n, rfl, ⟨h1.1, h1.2, h2.1, h2.2⟩, k I2 H2 _ (x1.trans x2) (it_rng m _)⟩
        next => cases hf
      next => cases hf
    next => cases hf
/-! ### for, while -/
def loopW (A : W → En → Option En) (F : En → Option Out) : List W → En → Option Out
  | [], e => some (.nx e)
  | w :: ws, e => match A w e with
    | none => none
    | some e1 => match F e1 with
      | some (.nx e2) => loopW A F ws e2
      | some (.ct e2) => loopW A F ws e2
      | some (.bk e2) => some (.nx e2)
      | r => r
def sFor (f : En → Option (List W)) (A : W → En → Option En) (F : En → Option Out) : En → Option Out := fun e => match f e with
  | some ws => loopW A F ws e
  | none => none
theorem for_use {f : En → Option (List W)} {A : W → En → Option En} {ts : List Nat} {F : En → Option Out} {D : Ends} : tS K T (sFor f A F) D σ H → tFor (tI K f) (tG K A ts) (tS K T F) D σ H := fun ⟨I0, H0, I, e, o, S, hf, k⟩ => by
  unfold sFor at hf
  split at hf
  next ws hw =>
    refine ⟨I0, H0, I, e, ws, S, hw, fun Ia Ha J xa it => ?_⟩
    refine ⟨fun i m σ' H' => m = ws.length - i ∧ i ≤ ws.length ∧ ∃ I1 e', Sat K I0 H0 I1 e' σ' H' ∧ Ex Ia I1 ∧ loopW A F (ws.drop i) e' = some o, ⟨_, rfl, Nat.zero_le _, Ia, e, S.mono xa, Ex.refl _, by simpa using hf⟩, ?_⟩
    rintro i m σ1 H1 ⟨rfl, hi, I1, e1, S1, x1, hl⟩
    by_cases hlt : i < ws.length
    · have hd : ws.drop i = ws[i] :: ws.drop (i + 1) := List.drop_eq_getElem_cons hlt
      rw [hd] at hl
      simp only [loopW] at hl
      have hwi : ws[i]? = some ws[i] := List.getElem?_eq_getElem hlt
      obtain ⟨g1, g2⟩ := it.go i _ hwi I1 H1 x1 S1.ext
      cases hA : A ws[i] e1 with
      | none => rw [hA] at hl; cases hl
      | some e2 =>
        rw [hA] at hl
        simp only at hl
        refine .inr ⟨g1, fun σ' H' => ∃ I2 e', Sat K I0 H0 I2 e' σ' H' ∧ Ex Ia I2 ∧ loopW A F (ws.drop (i + 1)) e' = some o, fun σ' H' ⟨I2, e', S2, x2, h2⟩ => ⟨ws.length - (i + 1), by omega, rfl, hlt, I2, e', S2, x2, h2⟩, fun x H2 y => ?_⟩
        obtain ⟨I2, x2, r2⟩ := g2 x H2 y
        refine ⟨I0, H0, I2, e1, _, e2, S1.mono x2, r2, hA, fun σ2 S2 _ => ?_⟩
        have xa2 : Ex Ia I2 := x1.trans x2.i
        cases hF : F e2 with
        | none => rw [hF] at hl; cases hl
        | some o2 =>
          rw [hF] at hl
          refine ⟨I0, H0, I2, e2, o2, S2, hF, ?_⟩
          cases o2 with
          | nx e3 => exact fun I3 σ3 H3 S3 x3 => ⟨I3, e3, S3, xa2.trans x3, hl⟩
          | ct e3 => exact fun I3 σ3 H3 S3 x3 => ⟨I3, e3, S3, xa2.trans x3, hl⟩
          | bk e3 =>
            cases hl
            exact fun I3 σ3 H3 S3 x3 => k I3 σ3 H3 S3 ((xa.i.trans xa2).trans x3)
          | rt sv =>
            cases hl
            exact k
          | ex x fn w e3 =>
            cases hl
            exact fun I3 σ3 H3 d u S3 x3 h3 h4 => k I3 σ3 H3 d u S3 ((xa.i.trans xa2).trans x3) h3 h4
    · have hi' : i = ws.length := by omega
      subst hi'
      refine .inl ⟨it.stop I1 H1 x1 S1.ext, ?_⟩
      rw [List.drop_length] at hl
      cases hl
      exact k I1 σ1 H1 S1 (xa.i.trans x1)
  next => cases hf
theorem qfor {tg it : Expr} {body : List Stmt} {f : En → Option (List W)} {A : W → En → Option En} {ts : List Nat} {F : En → Option Out} {pos : Pos} (hc : X.calm = true) (hi : PI X tg it (tI X.K f)) (hg : PG X tg (tG X.K A ts)) (hb : PSs X body (tS X.K (wxQ X) F))
    (hp : PassesOwn (model X.prog X.w) X.A X.env X.xe := by exact PassesOwn.never) (hs : ∀ x, foldedSetIterable it X.env x = pure x := by intro _; rfl) : PS X (.For tg it body [] pos) (tS X.K (wxQ X) (sFor f A F)) :=
  ps_imp (ps_for hp hc hi hg hb hs) fun _ _ _ => for_use
def whileN (t : En → Option Bool) (F : En → Option Out) : Nat → En → Option Out
  | 0, _ => none
  | n + 1, e => match t e with
    | some false => some (.nx e)
    | some true => (match F e with
      | some (.nx e2) => whileN t F n e2
      | some (.ct e2) => whileN t F n e2
      | some (.bk e2) => some (.nx e2)
      | r => r)
    | none => none
open Classical in
noncomputable def sWhile (t : En → Option Bool) (F : En → Option Out) : En → Option Out := fun e => if h : ∃ n o, whileN t F n e = some o then some (Classical.choose (Classical.choose_spec h)) else none
theorem sWhile_n {t : En → Option Bool} {F : En → Option Out} {e : En} {o : Out} (h : sWhile t F e = some o) : ∃ n, whileN t F n e = some o := by
  unfold sWhile at h
  split at h
  next q => cases h; exact ⟨_, Classical.choose_spec (Classical.choose_spec q)⟩
  next => cases h
theorem whileN_more {t : En → Option Bool} {F : En → Option Out} : ∀ {n m : Nat} {e : En} {o : Out}, n ≤ m → whileN t F n e = some o → whileN t F m e = some o
  | 0, _, _, _, _, h => by cases h
  | n + 1, 0, _, _, hm, _ => absurd hm (by omega)
  | n + 1, m + 1, e, o, hm, h => by
    simp only [whileN] at h ⊢
    split at h
    next ht => exact h
    next ht =>
      split at h
      next e2 hF => exact whileN_more (by omega) h
      next e2 hF => exact whileN_more (by omega) h
      next e2 hF => exact h
      next r h1 h2 h3 =>
        cases q : F e with
        | none => rw [q] at h; cases h
        | some o2 =>
          rw [q] at h
          cases o2 with
          | nx _ => exact absurd q (h1 _)
          | ct _ => exact absurd q (h2 _)
          | bk _ => exact absurd q (h3 _)
          | rt _ => exact h
          | ex _ _ _ _ => exact h
    next => cases h
theorem sWhile_of {t : En → Option Bool} {F : En → Option Out} {e : En} {o : Out} (n : Nat) (h : whileN t F n e = some o) : sWhile t F e = some o := by
  unfold sWhile
  have q : ∃ n o, whileN t F n e = some o := ⟨n, o, h⟩
  rw [dif_pos q]
  have h2 := Classical.choose_spec (Classical.choose_spec q)
  have h3 := whileN_more (Nat.le_max_left n (Classical.choose q)) h
  have h4 := whileN_more (Nat.le_max_right n (Classical.choose q)) h2
  rw [h3] at h4
  cases h4
  rfl
theorem while_use {t : En → Option Bool} {F : En → Option Out} {D : Ends} : tS K T (sWhile t F) D σ H → tWhile (tT K t) (tS K T F) D σ H := fun ⟨I0, H0, I, e, o, S, hf, k⟩ => by
  obtain ⟨n, hn⟩ := sWhile_n hf
  refine ⟨fun m σ' H' => ∃ I1 e', Sat K I0 H0 I1 e' σ' H' ∧ Ex I I1 ∧ whileN t F m e' = some o, ⟨n, I, e, S, Ex.refl _, hn⟩, ?_⟩
  rintro m σ1 H1 ⟨I1, e1, S1, x1, hl⟩
  cases m with
  | zero => cases hl
  | succ m =>
    simp only [whileN] at hl
    cases ht : t e1 with
    | none => rw [ht] at hl; cases hl
    | some b =>
      refine ⟨I0, H0, I1, e1, b, S1, ht, fun I2 H2 x2 => ?_⟩
      cases b with
      | false =>
        rw [ht] at hl
        cases hl
        exact iteF (k I2 σ1 H2 (S1.mono x2) (x1.trans x2.i))
      | true =>
        rw [ht] at hl
        simp only at hl
        refine iteT ⟨fun σ' H' => ∃ I1 e', Sat K I0 H0 I1 e' σ' H' ∧ Ex I I1 ∧ whileN t F m e' = some o, fun σ' H' h => ⟨m, Nat.lt_succ_self _, h⟩, ?_⟩
        cases hF : F e1 with
        | none => rw [hF] at hl; cases hl
        | some o2 =>
          rw [hF] at hl
          refine ⟨I0, H0, I2, e1, o2, S1.mono x2, hF, ?_⟩
          have xa2 : Ex I I2 := x1.trans x2.i
          cases o2 with
          | nx e3 => exact fun I3 σ3 H3 S3 x3 => ⟨I3, e3, S3, xa2.trans x3, hl⟩
          | ct e3 => exact fun I3 σ3 H3 S3 x3 => ⟨I3, e3, S3, xa2.trans x3, hl⟩
          | bk e3 =>
            cases hl
            exact fun I3 σ3 H3 S3 x3 => k I3 σ3 H3 S3 (xa2.trans x3)
          | rt sv =>
            cases hl
            exact k
          | ex x fn w e3 =>
            cases hl
            exact fun I3 σ3 H3 d u S3 x3 h3 h4 => k I3 σ3 H3 d u S3 (xa2.trans x3) h3 h4
theorem qwhile {c : Expr} {body : List Stmt} {t : En → Option Bool} {F : En → Option Out} {pos : Pos} (hc : PT X c (tT X.K t)) (hb : PSs X body (tS X.K (wxQ X) F)) (hp : PassesOwn (model X.prog X.w) X.A X.env X.xe := by exact PassesOwn.never) :
    PS X (.While c body [] pos) (tS X.K (wxQ X) (sWhile t F)) := ps_imp (ps_while hp hc hb) fun _ _ _ => while_use
end Qw
namespace Qw
open PySem PySem.Spec PyProof.Rows L2 Nz
open Evl (Ex)
variable {T : TQ} {X : Cx} {K : PySem.W.Frag} {I I' I1 I2 H H' H1 H2 I0 H0 : Hp} {e : En} {σ : L2.St}
/-! ### list comprehensions -/
def wipeE (e : En) : List Nat → En
  | [] => e
  | v :: vs => (wipeE e vs).set v none
theorem Sat.wipe (S : Sat K I0 H0 I e σ H) : ∀ vs, Sat K I0 H0 I (wipeE e vs) (L2.wipe σ vs) H
  | [] => S
  | v :: vs => (S.wipe vs).del v none
theorem wipe_wipe (σ : L2.St) (vs : List Nat) : L2.wipe (L2.wipe σ vs) vs = L2.wipe σ vs := by
  refine List.ext_getElem? fun j => ?_
  have g : ∀ (τ : L2.St) (us : List Nat) (j : Nat), (L2.wipe τ us)[j]? = if j ∈ us then (if j < τ.length then some none else none) else τ[j]? := fun τ us j => by
    induction us with
    | nil => rw [if_neg (by simp)]; rfl
    | cons u us ih =>
      show ((L2.wipe τ us).set u none)[j]? = _
      by_cases h : j = u
      · subst h
        rw [if_pos (List.mem_cons_self)]
        by_cases hl : j < τ.length
        · rw [if_pos hl, List.getElem?_set_self (by rw [wipe_length]; exact hl)]
        · rw [if_neg hl, List.getElem?_eq_none (by rw [List.length_set, wipe_length]; omega)]
      · rw [List.getElem?_set_ne (Ne.symm h), ih]
        by_cases hm : j ∈ us
        · rw [if_pos hm, if_pos (show j ∈ u :: us from List.mem_cons_of_mem _ hm)]
        · rw [if_neg hm, if_neg (show ¬ j ∈ u :: us from fun z => (List.mem_cons.mp z).elim h hm)]
  rw [g, g]
  by_cases hm : j ∈ vs
  · rw [if_pos hm, if_pos hm, wipe_length]
  · rw [if_neg hm, if_neg hm]
def lcW (A : W → En → Option En) (t : En → Option Bool) (g : En → Option W) (e : En) : List W → Option (List W)
  | [] => some []
  | w :: ws => match A w e with
    | none => none
    | some e1 => match t e1 with
      | some true => (match g e1 with
        | some u => (match lcW A t g e ws with
          | some us => some (u :: us)
          | none => none)
        | none => none)
      | some false => lcW A t g e ws
      | none => none
def fLc (f : En → Option (List W)) (A : W → En → Option En) (t : En → Option Bool) (g : En → Option W) (vs : List Nat) : En → Option SV := fun e => match f e with
  | some ws => (match lcW A t g (wipeE e vs) ws with
    | some us => if us.length ≤ sizeLine then some (.own (.lst us)) else none
    | none => none)
  | none => none
def fYes : En → Option Bool := fun _ => some true
theorem lc_use {f : En → Option (List W)} {A : W → En → Option En} {t : En → Option Bool} {g : En → Option W} {vs ts : List Nat} (hts : ∀ i ∈ ts, i ∈ vs) {Q : VK} :
    tR K (fLc f A t g vs) σ H Q → tLc (tI K f) (tG K A ts) (tT K t) (tW K g) vs σ H Q := fun ⟨I0, H0, I, e, sv, S, hf, k⟩ => by
  unfold fLc at hf
  split at hf
  next ws hw =>
    split at hf
    next us hus =>
      split at hf
      next hz =>
        cases hf
        refine ⟨I0, H0, I, e, ws, S, hw, fun Ia Ha J xa it => fun D hD => ?_⟩
        have SA := S.mono xa
        have hDa : Ia D = none := Evl.fresh_back xa.ih hD
        refine ⟨fun i m Hi => m = ws.length - i ∧ i ≤ ws.length ∧ ∃ Ii accV accW rest, Ext Ia Ha Ii Hi ∧ Ii D = none ∧ Hi D = some (.lst accV) ∧ IsWs K Ii accW accV ∧ lcW A t g (wipeE e vs) (ws.drop i) = some rest ∧ accW ++ rest = us,
          ⟨_, rfl, Nat.zero_le _, Ia, [], [], us, (Ext.refl xa.ih).newOwn hD, hDa, upd_same, IsWs.nil, by simpa using hus, rfl⟩, ?_⟩
        rintro i m Hi ⟨rfl, hi, Ii, accV, accW, rest, xi, hDi, hDv, racc, hl, hus'⟩
        by_cases hlt : i < ws.length
        · have hd : ws.drop i = ws[i] :: ws.drop (i + 1) := List.drop_eq_getElem_cons hlt
          rw [hd] at hl
          simp only [lcW] at hl
          obtain ⟨g1, g2⟩ := it.go i _ (List.getElem?_eq_getElem hlt) Ii Hi xi.i xi.ih
          cases hA : A ws[i] (wipeE e vs) with
          | none => rw [hA] at hl; cases hl
          | some e1 =>
            rw [hA] at hl
            simp only at hl
            refine .inr ⟨g1, fun Hn => ∃ Ii accV accW rest, Ext Ia Ha Ii Hn ∧ Ii D = none ∧ Hn D = some (.lst accV) ∧ IsWs K Ii accW accV ∧ lcW A t g (wipeE e vs) (ws.drop (i + 1)) = some rest ∧ accW ++ rest = us,
              fun Hn hn => ⟨ws.length - (i + 1), by omega, rfl, hlt, hn⟩, fun x H2 y => ?_⟩
            obtain ⟨I2, x2, r2⟩ := g2 x H2 y
            have keepD : ∀ {Ij Hj : Hp}, Ext Ii Hi Ij Hj → Ij D = none ∧ Hj D = some (.lst accV) := fun x => ⟨(x.k D (some_ne hDv)).trans hDi, x.h _ _ hDv⟩
            refine ⟨I0, H0, I2, _, _, e1, ((SA.mono xi).mono x2).wipe vs, r2, hA, fun σ2 S2 hwp => ⟨(hwp vs hts).trans (wipe_wipe σ vs), ?_⟩⟩
            cases ht : t e1 with
            | none => rw [ht] at hl; cases hl
            | some b =>
              refine ⟨I0, H0, I2, e1, b, S2, ht, fun I3 H3 x3 => ?_⟩
              have x23 := x2.trans x3
              cases b with
              | false =>
                rw [ht] at hl
                obtain ⟨d1, d2⟩ := keepD x23
                exact iteF ⟨I3, accV, accW, rest, xi.trans x23, d1, d2, racc.mono x23.i, hl, hus'⟩
              | true =>
                rw [ht] at hl
                simp only at hl
                split at hl
                next u hu =>
                  split at hl
                  next us2 hus2 =>
                    cases hl
                    refine iteT ⟨I0, H0, I3, e1, u, S2.mono x3, hu, fun I4 H4 yv x4 r4 => ?_⟩
                    have x24 := x23.trans x4
                    obtain ⟨d1, d2⟩ := keepD x24
                    refine ⟨accV, d2, ?_, I4, accV ++ [yv], accW ++ [u], us2, (xi.trans x24).chg hD d1, d1, upd_same, (racc.mono x24.i).append (IsWs.cons r4 IsWs.nil), hus2, by rw [List.append_assoc]; exact hus'⟩
                    have e1 := racc.len
                    have e2 : us.length = accW.length + (us2.length + 1) := by rw [← hus']; simp
                    omega
                  next => cases hl
                next => cases hl
        · have hi' : i = ws.length := by omega
          subst hi'
          rw [List.drop_length] at hl
          cases hl
          refine .inl ⟨it.stop Ii Hi xi.i xi.ih, ?_⟩
          have e0 : accW = us := by simpa using hus'
          subst e0
          exact k Ii Hi _ (xa.trans xi) ⟨D, rfl, hDi, Evl.fresh_back xa.h hD, accV, hDv, racc⟩
      next => cases hf
    next => cases hf
  next => cases hf
theorem pts_imp {ex : List Expr} {t t' : TT} (h : PTs X ex t) (k : ∀ σ H Q, t' σ H Q → t σ H Q) : PTs X ex t' := ⟨fun pins s σ H Q I q => h.run pins s σ H Q I (k σ H Q q)⟩
theorem qtsn : PTs X [] (tT X.K fYes) := pts_imp pts_nil fun σ H Q ⟨I0, H0, I, e, b, S, hf, k⟩ => by
  cases hf
  exact k _ _ S.ref
theorem qts1 {c : Expr} {t : En → Option Bool} (h : PT X c (tT X.K t)) : PTs X [c] (tT X.K t) := pts_one h
theorem qlc {elt tg iter : Expr} {ifs : List Expr} {scope : Scope} {own : List (Str × Nat)} {pos : Pos} {f : En → Option (List W)} {A : W → En → Option En} {t : En → Option Bool} {g : En → Option W} {ts : List Nat} (hc : X.calm = true) (hN : X.N.Nodup) (hi : PI X tg iter (tI X.K f)) (ok : BlkOk X.N X.env.scope scope own)
    (hg : ∀ (s : Shared) (H : Hp) (C : Addr) (cl : List (Str × Addr)) (fp : List Addr), PG (X.blk s H scope (compEnvC scope cl C X.env) fp) tg (tG X.K A ts)) (ht : ∀ (s : Shared) (H : Hp) (C : Addr) (cl : List (Str × Addr)) (fp : List Addr), PTs (X.blk s H scope (compEnvC scope cl C X.env) fp) ifs (tT X.K t))
    (he : ∀ (s : Shared) (H : Hp) (C : Addr) (cl : List (Str × Addr)) (fp : List Addr), PE (X.blk s H scope (compEnvC scope cl C X.env) fp) elt (tW X.K g)) (hts : ∀ i ∈ ts, i ∈ own.map (·.2) := by decide) (hs : ∀ x, foldedSetIterable iter X.env x = pure x := by intro _; rfl) :
    PE X (.ListComp elt [⟨tg, iter, ifs, 0⟩] scope pos) (tR X.K (fLc f A t g (own.map (·.2)))) := pe_imp (pe_lc hc hN hi ok hg ht he hs) fun _ _ _ => lc_use hts
theorem qsetLc {i : Nat} {y : Str} {py : Pos} {elt tg iter : Expr} {ifs : List Expr} {scope : Scope} {own : List (Str × Nat)} {pos spos : Pos} {f : En → Option (List W)} {A : W → En → Option En} {t : En → Option Bool} {g : En → Option W} {ts : List Nat} (hc : X.calm = true) (hN : X.N.Nodup) (hy : X.N[i]? = some y) (hyl : X.env.scope.names.lookup y = some .local)
    (hsw : swapsWith (.ListComp elt [⟨tg, iter, ifs, 0⟩] scope pos) (some (.Name y py)) spos.line X.env = pure true) (hi : PI X tg iter (tI X.K f)) (ok : BlkOk X.N X.env.scope scope own)
    (hg : ∀ (s : Shared) (H : Hp) (C : Addr) (cl : List (Str × Addr)) (fp : List Addr), PG (X.blk s H scope (compEnvC scope cl C X.env) fp) tg (tG X.K A ts)) (ht : ∀ (s : Shared) (H : Hp) (C : Addr) (cl : List (Str × Addr)) (fp : List Addr), PTs (X.blk s H scope (compEnvC scope cl C X.env) fp) ifs (tT X.K t))
    (he : ∀ (s : Shared) (H : Hp) (C : Addr) (cl : List (Str × Addr)) (fp : List Addr), PE (X.blk s H scope (compEnvC scope cl C X.env) fp) elt (tW X.K g)) (hts : ∀ i ∈ ts, i ∈ own.map (·.2) := by decide) (hs : ∀ x, foldedSetIterable iter X.env x = pure x := by intro _; rfl) :
    PS X (.Assign [.Name y py] (.ListComp elt [⟨tg, iter, ifs, 0⟩] scope pos) spos) (tS X.K (wxQ X) (sSet i (fLc f A t g (own.map (·.2))))) :=
  ps_imp (ps_setLc hc hN hy hyl hsw hi ok hg ht he hs) fun _ _ _ q => lc_use hts (set_use q)
theorem qsetLcF {i : Nat} {y : Str} {py : Pos} {elt tg iter : Expr} {ifs : List Expr} {scope : Scope} {own : List (Str × Nat)} {pos spos : Pos} {f : En → Option (List W)} {A : W → En → Option En} {t : En → Option Bool} {g : En → Option W} {ts : List Nat} (hc : X.calm = true) (hN : X.N.Nodup) (hy : X.N[i]? = some y) (hyl : X.env.scope.names.lookup y = some .local)
    (hsw : swapsWith (.ListComp elt [⟨tg, iter, ifs, 0⟩] scope pos) (some (.Name y py)) spos.line X.env = pure true) (hi : PI X tg iter (tI X.K f)) (ok : BlkOk X.N X.env.scope scope own)
    (hg : ∀ (s : Shared) (H : Hp) (C : Addr) (cl : List (Str × Addr)) (fp : List Addr), PG (X.blk s H scope (compEnvC scope cl C X.env) fp) tg (tG X.K A ts)) (ht : ∀ (s : Shared) (H : Hp) (C : Addr) (cl : List (Str × Addr)) (fp : List Addr), PTs (X.blk s H scope (compEnvC scope cl C X.env) fp) ifs (tT X.K t))
    (he : ∀ (s : Shared) (H : Hp) (C : Addr) (cl : List (Str × Addr)) (fp : List Addr), PE (X.blk s H scope (compEnvC scope cl C X.env) fp) elt (tW X.K g)) (hts : ∀ i ∈ ts, i ∈ own.map (·.2) := by decide) (hs : ∀ x, foldedSetIterable iter X.env x = pure x := by intro _; rfl) :
    PS X (.Assign [.Name y py] (.ListComp elt [⟨tg, iter, ifs, 0⟩] scope pos) spos) (tS X.K (wxQ X) (sSet i (fImm (fFrz (fLc f A t g (own.map (·.2))))))) :=
  ps_imp (ps_setLc hc hN hy hyl hsw hi ok hg ht he hs) fun _ _ _ q => lc_use hts (frz_use (imm_use (set_use q)))
/-! ### calls of defs -/
def spQ (K : PySem.W.Frag) (n : Nat) (F : List W → Option SV) : Sp := fun vs H Q _ => ∃ I ws sv, Ex I H ∧ IsWs K I ws vs ∧ ws.length = n ∧ F ws = some sv ∧ ∀ I' H' v, Ext I H I' H' → Res K I' H' H sv v → Q v H'
theorem calF_use {F : List W → Option SV} {f : En → Option (List W)} {n : Nat} (hn : ∀ ws sv, F ws = some sv → ws.length = n) {Q : VK} : tR K (fCall F f) σ H Q → tCall (spQ K n F) [] E0 (tA K f) σ H Q := fun ⟨I0, H0, I, e, sv, S, hf, k⟩ => by
  unfold fCall at hf
  split at hf
  next ws hws =>
    refine ⟨I0, H0, I, e, ws, S, hws, fun I1 H1 vs x1 r1 => ⟨I1, ws, sv, x1.ih, by rw [List.append_nil]; exact r1, hn _ _ hf, hf, fun I2 H2 v x2 r2 => k _ _ _ (x1.trans x2) (r2.weak x1.h)⟩⟩
  next => cases hf
theorem qcall {k : Nat} {f : Addr} {fd : FuncData} {ps : List Str} {F : List W → Option SV} {g : En → Option (List W)} {x : Str} {p pos : Pos} {a : Expr} {es : List Expr} {n : Nat} (G : FnOk X.prog X.w X.K X.mg X.base CX0 k f fd ps (spQ X.K n F)) (hr : Room k X.A) (hg : Gl X x) (hm : X.mg x = some (.ref f)) (hk : PySem.W.keepIn X.K (.ref f) = true) (hb : Binds X.K fd ps [])
    (hn : ∀ ws sv, F ws = some sv → ws.length = n) (ha : PA X (a :: es) (tA X.K g)) (hdb : (x == ("__debug__" : Str)) = false := by decide) (he : starEach (a :: es) X.env = (false, eval a X.env) :: starEach es X.env := by rfl) (hpl : (backTo pos (starEach es X.env)).any (·.1) = false := by rfl) :
    PE X (.Call (.Name x p) (a :: es) [] pos) (tR X.K (fCall F g)) := pe_imp (pe_call G hr hg hm hk hb .nil pass0 ha hdb he hpl) fun _ _ _ => calF_use hn
/-- a def from its body -/
def runF (n m : Nat) (B : En → Option Out) (ws : List W) : Option SV := if ws.length = n then (match B (ws.map (fun w => some (.imm w)) ++ List.replicate m none) with
  | some (.rt sv) => some sv
  | some (.nx _) => some (.imm .non)
  | _ => none) else none
theorem runF_len {n m : Nat} {B : En → Option Out} {ws : List W} {sv : SV} (h : runF n m B ws = some sv) : ws.length = n := by
  unfold runF at h
  split at h
  next q => exact q
  next => cases h
theorem sat_start {ws : List W} {vs : List V} {m : Nat} (ex : Ex I H) (r : IsWs K I ws vs) : Sat K I H I (ws.map (fun w => some (.imm w)) ++ List.replicate m none) (vs.map some ++ List.replicate m none) H := by
  refine ⟨Ext.refl ex, by simp [r.len], fun i sv h => ?_, fun i j w w' h => ?_⟩
  · by_cases hi : i < ws.length
    · rw [List.getElem?_append_left (by simpa using hi), List.getElem?_map] at h
      obtain ⟨v, hv, q⟩ := r.get (List.getElem?_eq_getElem hi)
      rw [List.getElem?_eq_getElem hi] at h
      cases h
      refine ⟨v, ?_, q⟩
      rw [List.getElem?_append_left (by rw [List.length_map, ← r.len]; exact hi), List.getElem?_map, hv]
      rfl
    · rw [List.getElem?_append_right (by simpa using hi)] at h
      have := List.mem_of_getElem? h
      simp at this
  · by_cases hi : i < ws.length
    · rw [List.getElem?_append_left (by simpa using hi), List.getElem?_map, List.getElem?_eq_getElem hi] at h
      cases h
    · rw [List.getElem?_append_right (by simpa using hi)] at h
      have := List.mem_of_getElem? h
      simp at this
theorem ok_of {P : Program} {w : World} {mg : Str → Option Value} {base : Heap} {x qual : Str} {st : Stmt} {f : Addr} {fd : FuncData} {N ps : List Str} {k n m : Nat} {B : En → Option Out} (Fn : Fun K x qual st f fd) (S : FnScope N ps (defScope st)) (hn : ps.length = n) (hm : N.length = n + m)
    (hbody : ∀ (cdv : Value) (A : Around) (outer : List Env) (s : Shared) (H : Hp) (E : XK), Room k (A.deeper (envOfC qual (defScope st) s.heap.objs.size f cdv)) → PQ (cxOf CX0 P w K mg base N qual (defScope st) f cdv A outer s H E).nox (defBody st) B) :
    FnOk P w K mg base CX0 (k + 1) f fd ps (spQ K n (runF n m B)) := by
  refine Fn.ok S (fun vs H Q E h => ?_) (fun cdv A outer s H vs Q E hr h => ?_)
  · obtain ⟨I, ws, sv, ex, r, hl, _⟩ := h
    rw [← r.len, hl, hn]
  · obtain ⟨I, ws, sv, ex, r, hl, hF, q⟩ := h
    refine ⟨_, hbody cdv A outer s H E hr, ?_⟩
    have hF' := hF
    unfold runF at hF
    rw [if_pos hl] at hF
    have hst : L2.start N vs = vs.map some ++ List.replicate m none := by
      unfold L2.start
      rw [← r.len, hl, hm]
      congr 2
      omega
    rw [hst]
    split at hF
    next sv' hB =>
      cases hF
      exact ⟨I, H, I, _, _, sat_start ex r, hB, fun I' H' v x rr => q I' H' v x rr⟩
    next e' hB =>
      cases hF
      exact ⟨I, H, I, _, _, sat_start ex r, hB, fun I' σ' H' S' _ => q I' H' _ S'.x (by simp [Res, IsW])⟩
    next => cases hF
end Qw
namespace Qw
open PySem PySem.Spec PyProof.Rows L2 Nz
open Evl (Ex)
variable {T : TQ} {X : Cx} {K : PySem.W.Frag} {I I' I1 I2 H H' H1 H2 I0 H0 : Hp} {e : En} {σ : L2.St}
/-! ### more forms -/
def negW : W → Option W
  | .int i => some (.int (-i))
  | _ => none
theorem qneg {a : Expr} {f : En → Option W} {pos : Pos} (ha : PE X a (tW X.K f)) : PE X (.UnaryOp .USub a pos) (tW X.K (fUn negW f)) := pe_imp (pe_un un_neg ha) fun σ H Q ⟨I0, H0, I, e, w, S, hf, k⟩ => by
  unfold fUn at hf
  split at hf
  next u hu =>
    cases u <;> try (cases hf; done)
    cases hf
    refine ⟨I0, H0, I, e, _, S, hu, fun I1 H1 v x1 r => ?_⟩
    rw [isInt] at r
    exact ⟨_, r, k _ _ _ x1 (isInt.mpr rfl)⟩
  next => cases hf
/-- a text n times -/
def repStr (s : Str) (n : Nat) : Str := ⟨(List.replicate n s.cps).foldl (· ++ ·) #[]⟩
theorem fold_nil : ∀ (n : Nat), (List.replicate n (#[] : Array Nat)).foldl (· ++ ·) #[] = #[]
  | 0 => rfl
  | n + 1 => by
    rw [List.replicate_succ, List.foldl_cons]
    exact fold_nil n
theorem fold_size (s : Array Nat) : ∀ (n : Nat) (acc : Array Nat), ((List.replicate n s).foldl (· ++ ·) acc).size = acc.size + s.size * n
  | 0, acc => by simp
  | n + 1, acc => by
    rw [List.replicate_succ, List.foldl_cons, fold_size s n, Array.size_append, Nat.mul_succ]
    omega
theorem repStr_len (s : Str) (n : Nat) : (repStr s n).length = s.length * n := by
  show ((List.replicate n s.cps).foldl (· ++ ·) #[]).size = s.cps.size * n
  rw [fold_size]
  simp
def rRepSt : R2 := fun x y H Q => ∃ s k, x = .str s ∧ y = .int k ∧ -(2 ^ 62) ≤ k ∧ k < 2 ^ 20 ∧ s.length ≤ 2 ^ 20 ∧ s.length * k.toNat ≤ sizeLine ∧ Q (.str (repStr s k.toNat)) H
theorem op_repSt : OpR X (binaryOp .Mult) rRepSt := by
  intro pins s σ H x y v u Q I rx ry h
  obtain ⟨z, k, rfl, rfl, h1, h2, h3, h4, q⟩ := h
  obtain ⟨t, rfl⟩ := rx
  obtain ⟨t', rfl⟩ := ry
  have fin : ∀ (z' : Str) (t : Tok) (n : Nat), z' = repStr z k.toNat → EP X pins σ Q (.str z' t) { s with toks := n } := fun z' t n e => by
    subst e
    exact ⟨.str _, H, I.tok _, ⟨_, rfl⟩, q⟩
  have e0 : (decide (k < -(2 ^ 63 : Int)) || decide (k ≥ 2 ^ 63)) = false := by
    rw [decide_eq_false (by omega), decide_eq_false (by omega)]
    rfl
  refine PySem.P.mul_str e0 (fun hk _ => ?_) (fun _ _ => ?_) ?_
  · have : (2 : Int) ^ 42 ≤ (2 ^ 63 - 1) / k := Int.le_ediv_of_mul_le (by omega) (by omega)
    have h5 : ((z.length : Nat) : Int) ≤ 2 ^ 20 := by omega
    omega
  · show decide (_ > sizeLine) = false
    exact decide_eq_false (by omega)
  · split
    next hk =>
      have e : k.toNat = 0 := by omega
      exact ⟨Nat.zero_le _, fin _ _ _ (by rw [e]; rfl)⟩
    next hk =>
      split
      next hz =>
        refine ⟨.str z, H, I, ⟨_, rfl⟩, ?_⟩
        have e : repStr z k.toNat = z := by
          rw [Bool.or_eq_true] at hz
          rcases hz with hz | hz
          · have : k.toNat = 1 := by have := eq_of_beq hz; omega
            rw [this]
            unfold repStr
            simp
          · have hl : z.cps.size = 0 := eq_of_beq hz
            have : z = ⟨#[]⟩ := by
              obtain ⟨cps⟩ := z
              have : cps = #[] := Array.eq_empty_of_size_eq_zero hl
              rw [this]
            rw [this]
            unfold repStr
            exact congrArg Str.mk (fold_nil _)
        rw [← e]
        exact q
      next hz => exact ⟨by rw [show (⟨(List.replicate k.toNat z.cps).foldl (· ++ ·) #[]⟩ : Str).length = _ from repStr_len z k.toNat]; omega, fin _ _ _ rfl⟩
def mulS : W → W → Option W
  | .str s, .int k => if -(2 ^ 62) ≤ k ∧ k < 2 ^ 20 ∧ s.length ≤ 2 ^ 20 ∧ s.length * k.toNat ≤ sizeLine then some (.str (repStr s k.toNat)) else none
  | _, _ => none
theorem bv_mulS : BinV K rRepSt mulS := by
  intro I H a b x y w Q ex ra rb ho k
  cases a <;> cases b <;> try (cases ho; done)
  simp only [mulS] at ho
  split at ho
  next h =>
    cases ho
    rw [isStr] at ra
    rw [isInt] at rb
    exact ⟨_, _, ra, rb, h.1, h.2.1, h.2.2.1, h.2.2.2, k _ _ _ (Ext.refl ex) (isStr.mpr rfl)⟩
  next => cases ho
/-! ### methods of texts and lists -/
def fMet (o : W → List W → Option W) (f : En → Option W) (g : En → Option (List W)) : En → Option W := fun e => match f e with
  | some a => (match g e with
    | some ws => o a ws
    | none => none)
  | none => none
def MetV (K : PySem.W.Frag) (T : String) (r : V → List V → Hp → VK → Prop) (o : W → List W → Option W) : Prop := ∀ (I H : Hp) (a : W) (ws : List W) (x : V) (vs : List V) (w : W) (Q : VK), Ex I H → IsW K I a x → IsWs K I ws vs → o a ws = some w → (∀ I' H' v, Ext I H I' H' → IsW K I' w v → Q v H') → r x vs H Q
def isT : String → W → Bool
  | "str", .str _ => true
  | "list", .lst _ => true
  | "list", .klst _ => true
  | _, _ => false
theorem isT_ty {T : String} {a : W} {x : V} (h : isT T a = true) (r : IsW K H a x) : tyV K T x H := by
  unfold isT at h
  split at h
  · rw [isStr] at r; subst r; rfl
  · simp only [IsW] at r
    obtain ⟨p, vs, rfl, hp, _⟩ := r
    exact .inl ⟨rfl, vs, sqL_of hp⟩
  · simp only [IsW] at r
    obtain ⟨p, vs, rfl, hp, _⟩ := r
    exact .inl ⟨rfl, vs, hp⟩
  · cases h
theorem met_use {T : String} {r : V → List V → Hp → VK → Prop} {o : W → List W → Option W} {f : En → Option W} {g : En → Option (List W)} (hT : ∀ a ws w, o a ws = some w → isT T a = true) (hw : MetV K T r o) {Q : VK} :
    tW K (fMet o f g) σ H Q → tBM K T r (tW K f) (tA K g) σ H Q := fun ⟨I0, H0, I, e, w, S, hf, k⟩ => by
  unfold fMet at hf
  split at hf
  next a ha =>
    split at hf
    next ws hws =>
      exact ⟨I0, H0, I, e, a, S, ha, fun I1 H1 x x1 r1 => ⟨isT_ty (hT _ _ _ hf) (IsW.mono x1.ih r1), I0, H0, I1, e, ws, S.mono x1, hws, fun I2 H2 vs x2 r2 => hw I2 H2 a ws x vs w Q x2.ih (IsW.mono x2.i r1) r2 hf fun I3 H3 v x3 r3 => k _ _ _ ((x1.trans x2).trans x3) r3⟩⟩
    next => cases hf
  next => cases hf
/-- sep.join(texts) -/
def txts : List W → Option (List Str)
  | [] => some []
  | .str b :: ws => (match txts ws with
    | some bs => some (b :: bs)
    | none => none)
  | _ => none
theorem txts_vs : ∀ {ws : List W} {vs : List V} {bs : List Str}, IsWs K I ws vs → txts ws = some bs → vs = bs.map V.str
  | [], _, _, h, e => by cases e; rw [isNil h]; rfl
  | w :: ws, _, bs, h, e => by
    cases w <;> try (cases e; done)
    simp only [txts] at e
    split at e
    next b bs hb =>
      cases e
      obtain ⟨v, r, rfl, h1, h2⟩ := one h
      rw [isStr] at h1
      rw [h1, txts_vs h2 hb]
      rfl
    next => cases e
def joinW : W → W → Option W
  | .str a, .lst ws => (match txts ws with
    | some ys => if (ys.map (·.length)).sum + ys.length * a.length ≤ 16777216 then some (.str (Txt.join a ys)) else none
    | none => none)
  | _, _ => none
theorem qjoin {o a : Expr} {f g : En → Option W} {apos pos : Pos} (ho : PE X o (tW X.K f)) (he : PE X a (tW X.K g)) (hs : starEach [a] X.env = [(false, eval a X.env)] := by rfl) (hbase : attributeBase o "join" X.env (eval o X.env) = eval o X.env := by rfl) (hline : (apos.endLine == pos.line) = true := by rfl) :
    PE X (.Call (.Attribute o "join" apos) [a] [] pos) (tW X.K (fBin joinW f g)) := pe_imp (pe_join ho he hs hbase hline) fun σ H Q ⟨I0, H0, I, e, w, S, hf, k⟩ => by
  unfold fBin at hf
  split at hf
  next u hu =>
    split at hf
    next z hz =>
      unfold joinW at hf
      split at hf
      next s ws =>
        split at hf
        next ys hys =>
          split at hf
          next hl =>
            cases hf
            refine ⟨I0, H0, I, e, _, S, hu, fun I1 H1 x x1 r1 => ?_⟩
            rw [isStr] at r1
            subst r1
            refine ⟨⟨_, rfl⟩, I0, H0, I1, e, _, S.mono x1, hz, fun I2 H2 y x2 r2 => ?_⟩
            simp only [IsW] at r2
            obtain ⟨p, vs, rfl, hp, r2⟩ := r2
            have e2 := txts_vs r2 hys
            subst e2
            exact ⟨_, p, ys, rfl, rfl, .inl (sqL_of (x2.ih _ _ hp)), hl, k _ _ _ (x1.trans x2) (isStr.mpr rfl)⟩
          next => cases hf
        next => cases hf
      next => cases hf
    next => cases hf
  next => cases hf
/-- text.startswith(t, i) -/
def stw3 : W → List W → Option W
  | .str a, [.str b, .int i] => some (.bl (Txt.startswith3 a b i))
  | _, _ => none
theorem mv_stw3 : MetV K "str" (fun x xs H Q => ∃ (a b : Str) (i : Int), x = .str a ∧ xs = [.str b, .int i] ∧ Q (.bl (Txt.startswith3 a b i)) H) stw3 := by
  intro I H a ws x vs w Q ex ra rs ho k
  unfold stw3 at ho
  split at ho
  · cases ho
    rw [isStr] at ra
    obtain ⟨v, r', rfl, h1, h2⟩ := one rs
    obtain ⟨v', r'', rfl, h3, h4⟩ := one h2
    rw [isNil h4]
    rw [isStr] at h1
    rw [isInt] at h3
    subst ra h1 h3
    exact ⟨_, _, _, rfl, rfl, k _ _ _ (Ext.refl ex) (isBl.mpr rfl)⟩
  · cases ho
theorem stw3_T (a : W) (ws : List W) (w : W) (h : stw3 a ws = some w) : isT "str" a = true := by
  unfold stw3 at h
  split at h
  · rfl
  · cases h
theorem pop_use {i : Nat} {D : Ends} : tS K T (sPop i) D σ H → tDrop (tBM0 K "list" rPop (tVar i)) D σ H := fun ⟨I0, H0, I, e, o, S, hf, k⟩ => by
  unfold sPop at hf
  split at hf
  next ws hs =>
    split at hf
    next => cases hf
    next hz =>
      cases hf
      obtain ⟨p, hp, hi, h0, vs, hv, r⟩ := own_at S hs
      have hl := r.len
      have hpos : vs.length - 1 < vs.length := by
        have : ws.length ≠ 0 := fun z => hz (List.length_eq_zero_iff.mp z)
        omega
      exact ⟨_, hp, .inl ⟨rfl, _, .inl (.inl hv)⟩, p, vs, vs[vs.length - 1], rfl, rfl, hv, List.getElem?_eq_getElem hpos, k I _ _ (S.chg hs hp ⟨_, upd_same, isWs_dropLast r⟩) (Ex.refl _)⟩
  next => cases hf
theorem okNone {P : Program} {w : World} {mg : Str → Option Value} {base : Heap} {k n : Nat} {f : Addr} {fd : FuncData} {ps : List Str} : FnOk P w K mg base CX0 k f fd ps (spQ K n fun _ => none) := by
  have no : ∀ vs H Q E, ¬ spQ K n (fun _ => none) vs H Q E := fun vs H Q E ⟨_, _, _, _, _, _, h, _⟩ => by cases h
  exact ⟨fun vs H Q E h => absurd h (no vs H Q E), fun A outer s H args us vs Q E _ _ _ _ h => absurd h (no vs H Q E)⟩
/-- a statement that is never come to -/
def sNo : En → Option Out := fun _ => none
theorem qno_st {st : Stmt} : PS X st (tS X.K (wxQ X) sNo) := ps_imp ps_never fun D σ H ⟨I0, H0, I, e, o, S, hf, k⟩ => by cases hf
/-! ### tuples of the module -/
def tupOk (o : Obj) (xs : List W) : Bool := match o.data with
  | .seq its _ => (match o.cls with
    | .type n => decide (n = "tuple")
    | _ => false) && decide (its.size ≤ sizeLine) && decide (its.toList.map absV = xs.map fun w => some (toV w)) && xs.all flatW
  | _ => false
theorem rel_abs {u : Value} {x : V} (h : absV u = some x) : RelV x u := by
  cases u <;> simp only [absV, Option.some.injEq] at h <;> first | (subst h; first | rfl | exact ⟨_, rfl⟩) | cases h
theorem vals_abs : ∀ {its : List Value} {xs : List V}, its.map absV = xs.map some → Vals xs its
  | [], [], _ => .nil
  | [], _ :: _, h => by cases h
  | _ :: _, [], h => by cases h
  | u :: us, x :: xs, h => by
    simp only [List.map_cons, List.cons.injEq] at h
    exact .cons (rel_abs h.1) (vals_abs h.2)
theorem isW_toV {w : W} (f : flatW w = true) : IsW K I w (toV w) := by
  cases w <;> first | exact absurd f Bool.false_ne_true | simp [IsW, toV]
theorem isWs_toV : ∀ {ws : List W}, ws.all flatW = true → IsWs K I ws (ws.map toV)
  | [], _ => IsWs.nil
  | w :: ws, f => by
    rw [List.all_cons, Bool.and_eq_true] at f
    exact IsWs.cons (isW_toV f.1) (isWs_toV f.2)
theorem tupOk_is {c : Addr} {o : Obj} {xs : List W} (l : K.lookup c = some o) (h : tupOk o xs = true) : IsW K H (.ktup xs) (.ref c) := by
  unfold tupOk at h
  split at h
  next its n hd =>
    simp only [Bool.and_eq_true, decide_eq_true_eq] at h
    obtain ⟨⟨⟨h1, h2⟩, h3⟩, h4⟩ := h
    simp only [IsW]
    refine ⟨c, xs.map toV, rfl, .inr ⟨o, its, n, l, ?_, hd, h2, vals_abs (by rw [h3, List.map_map]; rfl)⟩, isWs_toV h4⟩
    split at h1
    next m hm => rw [hm, of_decide_eq_true h1]
    next => cases h1
  next => cases h
end Qw
namespace Qw
open PySem PySem.Spec PyProof.Rows L2 Nz
open Evl (Ex)
abbrev c_WORDS : W := .ktup [.str "all", .str "true", .str "false", .str "not", .str "and", .str "or", .str "relation", .str "values", .str "symmetric"]
abbrev c_SIGNS : W := .ktup [.str "<->", .str "->", .str "(", .str ")", .str ",", .str ":", .str "="]
abbrev c_DIGITS : W := .str "0123456789"
abbrev c_SMALL_LETTERS : W := .str "abcdefghijklmnopqrstuvwxyz"
abbrev c_NAME_CHARACTERS : W := .str "abcdefghijklmnopqrstuvwxyzABCDEFGHIJKLMNOPQRSTUVWXYZ0123456789_"
abbrev c_MOST_DIGITS : W := .int 9
def topS (i : Nat) : Stmt := PySem.Challenge.pw_oneofeach_k01_tokens_of_a_text.main.body.getD i (.Pass ⟨0, 0, 0, 0⟩)
section
variable {P : Program} {w : World} {K : PySem.W.Frag} {mg : Str → Option Value} {base : Heap}
/-! ### is_number -/
abbrev s_is_number : Stmt := topS 14
theorem sc_is_number : FnScope ["run", "character"] ["run"] (defScope s_is_number) :=
  ⟨rfl, rfl, rfl, by decide +kernel, rfl, by decide +kernel, by decide +kernel⟩

noncomputable def B_is_number : En → Option Out :=
    (sRet (fImm (fAndV (fBin (cmpI fun i j => decide (i ≤ j)) (fCallW lenW (fCons (fVar 0) fNil)) (fC c_MOST_DIGITS)) (fCallW allW (fCons (fFrz (fLc (fSeq (fVar 0)) (aName 1) fYes (fBin inW (fVar 1) (fC c_DIGITS)) [1])) fNil)))))
noncomputable def F_is_number : List W → Option SV := runF 1 1 B_is_number
theorem len_is_number (ws : List W) (sv : SV) (h : F_is_number ws = some sv) : ws.length = 1 := runF_len h
theorem ok_is_number {f : Addr} {fd : FuncData} (F : Fun K "is_number" "is_number" s_is_number f fd) {t_DIGITS : Tok} (g_DIGITS : mg "DIGITS" = some (Value.str "0123456789" t_DIGITS)) {t_MOST_DIGITS : Tok} (g_MOST_DIGITS : mg "MOST_DIGITS" = some (Value.int 9 t_MOST_DIGITS)) (m_all : mg "all" = none) (m_len : mg "len" = none) :
    FnOk P w K mg base CX0 1 f fd ["run"] (spQ K 1 F_is_number) := by
  refine ok_of F sc_is_number rfl rfl (fun cdv A outer s H E hr => ?_)
  exact ((qone (qret (qimm (qandV (qcmp op_le bv_cmpI (qcB (r := rLn K) c_len cv_len rfl m_len (by decide +kernel) (qcons (qv 0) qnil)) (q_c (v := .int 9) (pe_glob rfl g_MOST_DIGITS ⟨_, rfl⟩) fun _ => by simp [IsW, c_MOST_DIGITS]) (nomark _)) (qoneV (qcB (r := rAll K) (cr_all rfl) cv_all rfl m_all (by decide +kernel) (qcons (qfrz (qlc (own := [("character", 1)]) rfl sc_is_number.nd (qsq (qv 0)) (blkOk_by (own := [("character", 1)]) (N := ["run", "character"]) (sc := defScope s_is_number) (by decide +kernel)) (fun _ _ _ _ _ => (qgn (i := 1) sc_is_number.nd rfl (.inl rfl))) (fun _ _ _ _ _ => qtsn) (fun _ _ _ _ _ => (qcmp op_inA bv_in (qv 1) (q_c (v := .str "0123456789") (pe_glob rfl g_DIGITS ⟨_, rfl⟩) fun _ => by simp [IsW, c_DIGITS]) rfl)))) qnil))))))))
/-! ### end_of_run -/
abbrev s_end_of_run : Stmt := topS 13
theorem sc_end_of_run : FnScope ["text", "place", "end"] ["text", "place"] (defScope s_end_of_run) :=
  ⟨rfl, rfl, rfl, by decide +kernel, rfl, by decide +kernel, by decide +kernel⟩

noncomputable def B_end_of_run : En → Option Out :=
    (sSeq (sSet 2 (fImm (fVar 1)))
    (sSeq (sWhile (fAnd (fTst (fBin (cmpI fun i j => decide (i < j)) (fVar 2) (fCallW lenW (fCons (fVar 0) fNil)))) (fTst (fBin inW (fBin ixW (fVar 0) (fVar 2)) (fC c_NAME_CHARACTERS))))
    (sAug 2 (fun i j => i + j) (fC (.int 1))))
    (sRet (fImm (fIf (fOr (fTst (fBin inW (fBin ixW (fVar 0) (fVar 1)) (fC c_SMALL_LETTERS))) (fTru (fFrz (fCall F_is_number (fCons (fFrz (fSl slW (fVar 0) (fSome (fVar 1)) (fSome (fVar 2)))) fNil))))) (fVar 2) (fVar 1))))))
noncomputable def F_end_of_run : List W → Option SV := runF 2 1 B_end_of_run
theorem len_end_of_run (ws : List W) (sv : SV) (h : F_end_of_run ws = some sv) : ws.length = 2 := runF_len h
theorem ok_end_of_run {f : Addr} {fd : FuncData} (F : Fun K "end_of_run" "end_of_run" s_end_of_run f fd) {f_is_number : Addr} {fd_is_number : FuncData} (G_is_number : FnOk P w K mg base CX0 1 f_is_number fd_is_number ["run"] (spQ K 1 (F_is_number))) (b_is_number : Binds K fd_is_number ["run"] []) (k_is_number : PySem.W.keepIn K (.ref f_is_number) = true) (g_is_number : mg "is_number" = some (.ref f_is_number)) {t_NAME_CHARACTERS : Tok} (g_NAME_CHARACTERS : mg "NAME_CHARACTERS" = some (Value.str "abcdefghijklmnopqrstuvwxyzABCDEFGHIJKLMNOPQRSTUVWXYZ0123456789_" t_NAME_CHARACTERS)) {t_SMALL_LETTERS : Tok} (g_SMALL_LETTERS : mg "SMALL_LETTERS" = some (Value.str "abcdefghijklmnopqrstuvwxyz" t_SMALL_LETTERS)) (m_len : mg "len" = none) :
    FnOk P w K mg base CX0 2 f fd ["text", "place"] (spQ K 2 F_end_of_run) := by
  refine ok_of F sc_end_of_run rfl rfl (fun cdv A outer s H E hr => ?_)
  exact ((qseq (qset (i := 2) sc_end_of_run.nd rfl (.inl rfl) (qimm (qv 1)))
    (qseq (qwhile (PW.pt (qand (qtc op_lt bv_cmpI (qv 2) (qcB (r := rLn K) c_len cv_len rfl m_len (by decide +kernel) (qcons (qv 0) qnil)) (nomark _)) (qand1 (qtc op_inA bv_in (qix (qv 0) (qv 2)) (q_c (v := .str "abcdefghijklmnopqrstuvwxyzABCDEFGHIJKLMNOPQRSTUVWXYZ0123456789_") (pe_glob rfl g_NAME_CHARACTERS ⟨_, rfl⟩) fun _ => by simp [IsW, c_NAME_CHARACTERS]) rfl))))
    (qone (qaug (i := 2) sc_end_of_run.nd rfl (.inl rfl) qint ip_add)))
    (qone (qret (qimm (qif (PW.pt (qor (qtc op_inA bv_in (qix (qv 0) (qv 1)) (q_c (v := .str "abcdefghijklmnopqrstuvwxyz") (pe_glob rfl g_SMALL_LETTERS ⟨_, rfl⟩) fun _ => by simp [IsW, c_SMALL_LETTERS]) rfl) (qor1 (qt (qfrz (qcall G_is_number (hr.mono (by decide)) rfl g_is_number k_is_number b_is_number len_is_number (qcons (qfrz (qsl (qv 0) (qso (qv 1)) (qso (qv 2)))) qnil))))))) (qv 2) (qv 1))))))))
/-! ### end_of_token -/
abbrev s_end_of_token : Stmt := topS 12
theorem sc_end_of_token : FnScope ["text", "place", "sign"] ["text", "place"] (defScope s_end_of_token) :=
  ⟨rfl, rfl, rfl, by decide +kernel, rfl, by decide +kernel, by decide +kernel⟩

noncomputable def B_end_of_token : En → Option Out :=
    (sSeq (sIf (fTst (fBin inW (fBin ixW (fVar 0) (fVar 1)) (fC c_NAME_CHARACTERS)))
    (sRet (fCall F_end_of_run (fCons (fVar 0) (fCons (fVar 1) fNil))))
    sNext)
    (sSeq (sIf (fTst (fBin eqW (fBin ixW (fVar 0) (fVar 1)) (fC (.str "\n"))))
    (sRet (fImm (fBin addI (fVar 1) (fC (.int 1)))))
    sNext)
    (sSeq (sFor (fSeq (fC c_SIGNS)) (aName 2)
    (sIf (fTru (fMet stw3 (fVar 0) (fCons (fVar 2) (fCons (fVar 1) fNil))))
    (sRet (fImm (fBin addI (fVar 1) (fCallW lenW (fCons (fVar 2) fNil)))))
    sNext))
    (sRet (fImm (fVar 1))))))
noncomputable def F_end_of_token : List W → Option SV := runF 2 1 B_end_of_token
theorem len_end_of_token (ws : List W) (sv : SV) (h : F_end_of_token ws = some sv) : ws.length = 2 := runF_len h
theorem ok_end_of_token {f : Addr} {fd : FuncData} (F : Fun K "end_of_token" "end_of_token" s_end_of_token f fd) {f_end_of_run : Addr} {fd_end_of_run : FuncData} (G_end_of_run : FnOk P w K mg base CX0 2 f_end_of_run fd_end_of_run ["text", "place"] (spQ K 2 (F_end_of_run))) (b_end_of_run : Binds K fd_end_of_run ["text", "place"] []) (k_end_of_run : PySem.W.keepIn K (.ref f_end_of_run) = true) (g_end_of_run : mg "end_of_run" = some (.ref f_end_of_run)) {t_NAME_CHARACTERS : Tok} (g_NAME_CHARACTERS : mg "NAME_CHARACTERS" = some (Value.str "abcdefghijklmnopqrstuvwxyzABCDEFGHIJKLMNOPQRSTUVWXYZ0123456789_" t_NAME_CHARACTERS)) {c_SIGNS : Addr} (g_SIGNS : mg "SIGNS" = some (.ref c_SIGNS)) (t_SIGNS : ∀ H, IsW K H Qw.c_SIGNS (.ref c_SIGNS)) (m_len : mg "len" = none) :
    FnOk P w K mg base CX0 3 f fd ["text", "place"] (spQ K 2 F_end_of_token) := by
  refine ok_of F sc_end_of_token rfl rfl (fun cdv A outer s H E hr => ?_)
  exact ((qseq (qIf (qtc op_inA bv_in (qix (qv 0) (qv 1)) (q_c (v := .str "abcdefghijklmnopqrstuvwxyzABCDEFGHIJKLMNOPQRSTUVWXYZ0123456789_") (pe_glob rfl g_NAME_CHARACTERS ⟨_, rfl⟩) fun _ => by simp [IsW, c_NAME_CHARACTERS]) rfl)
    (qone (qret (qcall G_end_of_run (hr.mono (by decide)) rfl g_end_of_run k_end_of_run b_end_of_run len_end_of_run (qcons (qv 0) (qcons (qv 1) qnil)))))
    qpass)
    (qseq (qIf (qtc (eq_any hr.units) bv_eq (qix (qv 0) (qv 1)) qstr (nomark _))
    (qone (qret (qimm (qop op_add bv_add (qv 1) qint))))
    qpass)
    (qseq (qfor rfl (qsq (q_c (v := .ref c_SIGNS) (pe_glob rfl g_SIGNS rfl) t_SIGNS)) (qgn (i := 2) sc_end_of_token.nd rfl (.inl rfl))
    (qone (qIf (qt (pe_imp (pe_bm PySem.F.plainAttrs_str PySem.F.slot_str_startswith PySem.F.type_str_startswith mt_startswith3 (qv 0) (qcons (qv 2) (qcons (qv 1) qnil))) fun _ _ _ => met_use stw3_T mv_stw3))
    (qone (qret (qimm (qop op_add bv_add (qv 1) (qcB (r := rLn K) c_len cv_len rfl m_len (by decide +kernel) (qcons (qv 2) qnil))))))
    qpass)))
    (qone (qret (qimm (qv 1))))))))
/-! ### token_of -/
abbrev s_token_of : Stmt := topS 15
theorem sc_token_of : FnScope ["run", "place"] ["run", "place"] (defScope s_token_of) :=
  ⟨rfl, rfl, rfl, by decide +kernel, rfl, by decide +kernel, by decide +kernel⟩

noncomputable def B_token_of : En → Option Out :=
    (sSeq (sIf (fTst (fBin eqW (fVar 0) (fC (.str "\n"))))
    (sRet (fImm (fCallW tupL (fCons (fC (.str "line")) (fCons (fC (.str "")) (fCons (fVar 1) fNil))))))
    sNext)
    (sSeq (sIf (fTst (fBin inW (fBin ixW (fVar 0) (fC (.int 0))) (fC c_DIGITS)))
    (sRet (fImm (fCallW tupL (fCons (fC (.str "number")) (fCons (fCallW intW (fCons (fVar 0) fNil)) (fCons (fVar 1) fNil))))))
    sNext)
    (sSeq (sIf (fTst (fBin notInW (fBin ixW (fVar 0) (fC (.int 0))) (fC c_SMALL_LETTERS)))
    (sRet (fImm (fCallW tupL (fCons (fC (.str "sign")) (fCons (fVar 0) (fCons (fVar 1) fNil))))))
    sNext)
    (sRet (fImm (fCallW tupL (fCons (fIf (fTst (fBin inW (fVar 0) (fC c_WORDS))) (fC (.str "word")) (fC (.str "name"))) (fCons (fVar 0) (fCons (fVar 1) fNil)))))))))
noncomputable def F_token_of : List W → Option SV := runF 2 0 B_token_of
theorem len_token_of (ws : List W) (sv : SV) (h : F_token_of ws = some sv) : ws.length = 2 := runF_len h
theorem ok_token_of {f : Addr} {fd : FuncData} (F : Fun K "token_of" "token_of" s_token_of f fd) {t_DIGITS : Tok} (g_DIGITS : mg "DIGITS" = some (Value.str "0123456789" t_DIGITS)) {t_SMALL_LETTERS : Tok} (g_SMALL_LETTERS : mg "SMALL_LETTERS" = some (Value.str "abcdefghijklmnopqrstuvwxyz" t_SMALL_LETTERS)) {c_WORDS : Addr} (g_WORDS : mg "WORDS" = some (.ref c_WORDS)) (t_WORDS : ∀ H, IsW K H Qw.c_WORDS (.ref c_WORDS)) (m_int : mg "int" = none) :
    FnOk P w K mg base CX0 1 f fd ["run", "place"] (spQ K 2 F_token_of) := by
  refine ok_of F sc_token_of rfl rfl (fun cdv A outer s H E hr => ?_)
  exact ((qseq (qIf (qtc (eq_any hr.units) bv_eq (qv 0) qstr (nomark _))
    (qone (qret (qimm (qtup (qcons qstr (qcons qstr (qcons (qv 1) qnil)))))))
    qpass)
    (qseq (qIf (qtc op_inA bv_in (qix (qv 0) qint) (q_c (v := .str "0123456789") (pe_glob rfl g_DIGITS ⟨_, rfl⟩) fun _ => by simp [IsW, c_DIGITS]) rfl)
    (qone (qret (qimm (qtup (qcons qstr (qcons (qcT c_int2 cv_int rfl m_int (by decide +kernel) (qcons (qv 0) qnil)) (qcons (qv 1) qnil)))))))
    qpass)
    (qseq (qIf (qtc op_notInA bv_notIn (qix (qv 0) qint) (q_c (v := .str "abcdefghijklmnopqrstuvwxyz") (pe_glob rfl g_SMALL_LETTERS ⟨_, rfl⟩) fun _ => by simp [IsW, c_SMALL_LETTERS]) rfl)
    (qone (qret (qimm (qtup (qcons qstr (qcons (qv 0) (qcons (qv 1) qnil)))))))
    qpass)
    (qone (qret (qimm (qtup (qcons (qif (qtc op_inA bv_in (qv 0) (q_c (v := .ref c_WORDS) (pe_glob rfl g_WORDS rfl) t_WORDS) rfl) qstr qstr) (qcons (qv 0) (qcons (qv 1) qnil)))))))))))
/-! ### tokens_to_fault -/
abbrev s_tokens_to_fault : Stmt := topS 11
theorem sc_tokens_to_fault : FnScope ["text", "tokens", "place", "end"] ["text"] (defScope s_tokens_to_fault) :=
  ⟨rfl, rfl, rfl, by decide +kernel, rfl, by decide +kernel, by decide +kernel⟩

noncomputable def B_tokens_to_fault : En → Option Out :=
    (sSeq (sSet 1 (fCall lstL fNil))
    (sSeq (sSet 2 (fImm (fC (.int 0))))
    (sSeq (sWhile (fTst (fBin (cmpI fun i j => decide (i < j)) (fVar 2) (fCallW lenW (fCons (fVar 0) fNil))))
    (sIf (fTst (fBin eqW (fBin ixW (fVar 0) (fVar 2)) (fC (.str " "))))
    (sAug 2 (fun i j => i + j) (fC (.int 1)))
    (sSeq (sSet 3 (fImm (fFrz (fCall F_end_of_token (fCons (fVar 0) (fCons (fVar 2) fNil))))))
    (sSeq (sIf (fTst (fBin eqW (fVar 3) (fVar 2)))
    sNo
    sNext)
    (sSeq (sApp 1 (fFrz (fCall F_token_of (fCons (fFrz (fSl slW (fVar 0) (fSome (fVar 2)) (fSome (fVar 3)))) (fCons (fVar 2) fNil)))))
    (sSet 2 (fImm (fVar 3))))))))
    (sSeq (sApp 1 (fCallW tupL (fCons (fC (.str "end")) (fCons (fC (.str "")) (fCons (fVar 2) fNil)))))
    (sRet (fSlot 1))))))
noncomputable def F_tokens_to_fault : List W → Option SV := runF 1 3 B_tokens_to_fault
theorem len_tokens_to_fault (ws : List W) (sv : SV) (h : F_tokens_to_fault ws = some sv) : ws.length = 1 := runF_len h
theorem ok_tokens_to_fault {f : Addr} {fd : FuncData} (F : Fun K "tokens_to_fault" "tokens_to_fault" s_tokens_to_fault f fd) {f_end_of_token : Addr} {fd_end_of_token : FuncData} (G_end_of_token : FnOk P w K mg base CX0 3 f_end_of_token fd_end_of_token ["text", "place"] (spQ K 2 (F_end_of_token))) (b_end_of_token : Binds K fd_end_of_token ["text", "place"] []) (k_end_of_token : PySem.W.keepIn K (.ref f_end_of_token) = true) (g_end_of_token : mg "end_of_token" = some (.ref f_end_of_token)) {f_token_of : Addr} {fd_token_of : FuncData} (G_token_of : FnOk P w K mg base CX0 1 f_token_of fd_token_of ["run", "place"] (spQ K 2 (F_token_of))) (b_token_of : Binds K fd_token_of ["run", "place"] []) (k_token_of : PySem.W.keepIn K (.ref f_token_of) = true) (g_token_of : mg "token_of" = some (.ref f_token_of)) (m_len : mg "len" = none) :
    FnOk P w K mg base CX0 4 f fd ["text"] (spQ K 1 F_tokens_to_fault) := by
  refine ok_of F sc_tokens_to_fault rfl rfl (fun cdv A outer s H E hr => ?_)
  exact ((qseq (qset (i := 1) sc_tokens_to_fault.nd rfl (.inl rfl) (qlst qnil))
    (qseq (qset (i := 2) sc_tokens_to_fault.nd rfl (.inl rfl) (qimm qint))
    (qseq (qwhile (qtc op_lt bv_cmpI (qv 2) (qcB (r := rLn K) c_len cv_len rfl m_len (by decide +kernel) (qcons (qv 0) qnil)) (nomark _))
    (qone (qIf (qtc (eq_any hr.units) bv_eq (qix (qv 0) (qv 2)) qstr (nomark _))
    (qone (qaug (i := 2) sc_tokens_to_fault.nd rfl (.inl rfl) qint ip_add))
    (qseq (qset (i := 3) sc_tokens_to_fault.nd rfl (.inl rfl) (qimm (qfrz (qcall G_end_of_token (hr.mono (by decide)) rfl g_end_of_token k_end_of_token b_end_of_token len_end_of_token (qcons (qv 0) (qcons (qv 2) qnil))))))
    (qseq (qIf (qtc (eq_any hr.units) bv_eq (qv 3) (qv 2) (nomark _))
    (qone qno_st)
    qpass)
    (qseq (ps_imp (ps_expr (pe_bm PySem.F.plainAttrs_list PySem.F.slot_list_append PySem.F.type_list_append mt_append (pv 1) (pa_cons (qfrz (qcall G_token_of (hr.mono (by decide)) rfl g_token_of k_token_of b_token_of len_token_of (qcons (qfrz (qsl (qv 0) (qso (qv 2)) (qso (qv 3)))) (qcons (qv 2) qnil)))) pa_nil))) fun _ _ _ => app_use)
    (qone (qset (i := 2) sc_tokens_to_fault.nd rfl (.inl rfl) (qimm (qv 3))))))))))
    (qseq (ps_imp (ps_expr (pe_bm PySem.F.plainAttrs_list PySem.F.slot_list_append PySem.F.type_list_append mt_append (pv 1) (pa_cons (qtup (qcons qstr (qcons qstr (qcons (qv 2) qnil)))) pa_nil))) fun _ _ _ => app_use)
    (qone (qretv 1)))))))
/-! ### tokenize -/
abbrev s_tokenize : Stmt := topS 10
theorem sc_tokenize : FnScope ["text", "tokens"] ["text"] (defScope s_tokenize) :=
  ⟨rfl, rfl, rfl, by decide +kernel, rfl, by decide +kernel, by decide +kernel⟩

noncomputable def B_tokenize : En → Option Out :=
    (sSeq (sSet 1 (fCall F_tokens_to_fault (fCons (fVar 0) fNil)))
    (sSeq (sIf (fTst (fBin eqW (fBin ixW (fBin ixW (fVar 1) (fUn negW (fC (.int 1)))) (fC (.int 0))) (fC (.str "fault"))))
    sNo
    sNext)
    (sRet (fSlot 1))))
noncomputable def F_tokenize : List W → Option SV := runF 1 1 B_tokenize
theorem len_tokenize (ws : List W) (sv : SV) (h : F_tokenize ws = some sv) : ws.length = 1 := runF_len h
theorem ok_tokenize {f : Addr} {fd : FuncData} (F : Fun K "tokenize" "tokenize" s_tokenize f fd) {f_tokens_to_fault : Addr} {fd_tokens_to_fault : FuncData} (G_tokens_to_fault : FnOk P w K mg base CX0 4 f_tokens_to_fault fd_tokens_to_fault ["text"] (spQ K 1 (F_tokens_to_fault))) (b_tokens_to_fault : Binds K fd_tokens_to_fault ["text"] []) (k_tokens_to_fault : PySem.W.keepIn K (.ref f_tokens_to_fault) = true) (g_tokens_to_fault : mg "tokens_to_fault" = some (.ref f_tokens_to_fault)) :
    FnOk P w K mg base CX0 5 f fd ["text"] (spQ K 1 F_tokenize) := by
  refine ok_of F sc_tokenize rfl rfl (fun cdv A outer s H E hr => ?_)
  exact ((qseq (qset (i := 1) sc_tokenize.nd rfl (.inl rfl) (qcall G_tokens_to_fault (hr.mono (by decide)) rfl g_tokens_to_fault k_tokens_to_fault b_tokens_to_fault len_tokens_to_fault (qcons (qv 0) qnil)))
    (qseq (qIf (qtc (eq_any hr.units) bv_eq (qix (qix (qv 1) (qneg qint)) qint) qstr (nomark _))
    (qone qno_st)
    qpass)
    (qone (qretv 1)))))
/-! ### _law_cell -/
abbrev s_cell : Stmt := topS 17
theorem sc_cell : FnScope ["script", "k"] ["script", "k"] (defScope s_cell) :=
  ⟨rfl, rfl, rfl, by decide +kernel, rfl, by decide +kernel, by decide +kernel⟩

noncomputable def B_cell : En → Option Out :=
    (sSeq (sIf (fTst (fBin (cmpI fun i j => decide (i < j)) (fVar 1) (fCallW lenW (fCons (fVar 0) fNil))))
    (sRet (fImm (fBin ixW (fVar 0) (fVar 1))))
    sNext)
    (sSeq (sIf (fTst (fBin eqW (fCallW lenW (fCons (fVar 0) fNil)) (fC (.int 0))))
    (sRet (fImm (fBin mulW (fVar 1) (fC (.int 1009)))))
    sNext)
    (sRet (fImm (fBin addI (fBin mulW (fBin ixW (fVar 0) (fBin modW (fCallW intW (fCons (fVar 1) fNil)) (fCallW lenW (fCons (fVar 0) fNil)))) (fC (.int 31))) (fBin mulW (fVar 1) (fC (.int 1009))))))))
noncomputable def F_cell : List W → Option SV := runF 2 0 B_cell
theorem len_cell (ws : List W) (sv : SV) (h : F_cell ws = some sv) : ws.length = 2 := runF_len h
theorem ok_cell {f : Addr} {fd : FuncData} (F : Fun K "_law_cell" "_law_cell" s_cell f fd) (m_int : mg "int" = none) (m_len : mg "len" = none) :
    FnOk P w K mg base CX0 1 f fd ["script", "k"] (spQ K 2 F_cell) := by
  refine ok_of F sc_cell rfl rfl (fun cdv A outer s H E hr => ?_)
  exact ((qseq (qIf (qtc op_lt bv_cmpI (qv 1) (qcB (r := rLn K) c_len cv_len rfl m_len (by decide +kernel) (qcons (qv 0) qnil)) (nomark _))
    (qone (qret (qimm (qix (qv 0) (qv 1)))))
    qpass)
    (qseq (qIf (qtc (eq_any hr.units) bv_eq (qcB (r := rLn K) c_len cv_len rfl m_len (by decide +kernel) (qcons (qv 0) qnil)) qint (nomark _))
    (qone (qret (qimm (qop op_mul2 bv_mul (qv 1) qint))))
    qpass)
    (qone (qret (qimm (qop op_add bv_add (qop op_mul2 bv_mul (qix (qv 0) (qop op_mod bv_mod (qcT c_int2 cv_int rfl m_int (by decide +kernel) (qcons (qv 1) qnil)) (qcB (r := rLn K) c_len cv_len rfl m_len (by decide +kernel) (qcons (qv 0) qnil)))) qint) (qop op_mul2 bv_mul (qv 1) qint))))))))
/-! ### _law_digits -/
abbrev s_digits : Stmt := topS 18
theorem sc_digits : FnScope ["cell", "many", "count", "digits", "rest", "k", "mixed"] ["cell", "many", "count"] (defScope s_digits) :=
  ⟨rfl, rfl, rfl, by decide +kernel, rfl, by decide +kernel, by decide +kernel⟩

noncomputable def B_digits : En → Option Out :=
    (sSeq (sSet 3 (fCall lstL fNil))
    (sSeq (sSet 4 (fImm (fVar 0)))
    (sSeq (sFor (fRng1 (fVar 2)) (aName 5)
    (sIf (fTst (fBin (cmpI fun i j => decide (j ≤ i)) (fVar 0) (fBin powW (fC (.int 10)) (fC (.int 18)))))
    (sSeq (sApp 3 (fBin modW (fCallW intW (fCons (fVar 4) fNil)) (fVar 1)))
    (sSet 4 (fImm (fBin divW (fVar 4) (fVar 1)))))
    (sSeq (sSet 6 (fImm (fBin modW (fCallW intW (fCons (fBin addI (fBin addI (fBin mulW (fVar 0) (fC (.int 40503))) (fBin mulW (fVar 5) (fC (.int 90121)))) (fC (.int 77))) fNil)) (fC (.int 2147483647)))))
    (sSeq (sSet 6 (fImm (fBin modW (fCallW intW (fCons (fBin addI (fBin addI (fBin mulW (fVar 6) (fVar 6)) (fBin mulW (fC (.int 11)) (fVar 6))) (fBin mulW (fC (.int 3)) (fVar 5))) fNil)) (fC (.int 2147483629)))))
    (sApp 3 (fBin modW (fCallW intW (fCons (fBin divW (fVar 6) (fC (.int 37))) fNil)) (fVar 1)))))))
    (sRet (fSlot 3)))))
noncomputable def F_digits : List W → Option SV := runF 3 4 B_digits
theorem len_digits (ws : List W) (sv : SV) (h : F_digits ws = some sv) : ws.length = 3 := runF_len h
theorem ok_digits {f : Addr} {fd : FuncData} (F : Fun K "_law_digits" "_law_digits" s_digits f fd) (m_int : mg "int" = none) (m_range : mg "range" = none) :
    FnOk P w K mg base CX0 1 f fd ["cell", "many", "count"] (spQ K 3 F_digits) := by
  refine ok_of F sc_digits rfl rfl (fun cdv A outer s H E hr => ?_)
  exact ((qseq (qset (i := 3) sc_digits.nd rfl (.inl rfl) (qlst qnil))
    (qseq (qset (i := 4) sc_digits.nd rfl (.inl rfl) (qimm (qv 0)))
    (qseq (qfor rfl (qr1 rfl m_range (qv 2)) (qgn (i := 5) sc_digits.nd rfl (.inl rfl))
    (qone (qIf (qtc op_ge bv_cmpI (qv 0) (qop op_pow bv_pow qint qint) (nomark _))
    (qseq (ps_imp (ps_expr (pe_bm PySem.F.plainAttrs_list PySem.F.slot_list_append PySem.F.type_list_append mt_append (pv 3) (pa_cons (qop op_mod bv_mod (qcT c_int2 cv_int rfl m_int (by decide +kernel) (qcons (qv 4) qnil)) (qv 1)) pa_nil))) fun _ _ _ => app_use)
    (qone (qset (i := 4) sc_digits.nd rfl (.inl rfl) (qimm (qop op_fdivW bv_div (qv 4) (qv 1))))))
    (qseq (qset (i := 6) sc_digits.nd rfl (.inl rfl) (qimm (qop op_mod bv_mod (qcT c_int2 cv_int rfl m_int (by decide +kernel) (qcons (qop op_add bv_add (qop op_add bv_add (qop op_mul2 bv_mul (qv 0) qint) (qop op_mul2 bv_mul (qv 5) qint)) qint) qnil)) qint)))
    (qseq (qset (i := 6) sc_digits.nd rfl (.inl rfl) (qimm (qop op_mod bv_mod (qcT c_int2 cv_int rfl m_int (by decide +kernel) (qcons (qop op_add bv_add (qop op_add bv_add (qop op_mul2 bv_mul (qv 6) (qv 6)) (qop op_mul2 bv_mul qint (qv 6))) (qop op_mul2 bv_mul qint (qv 5))) qnil)) qint)))
    (qone (ps_imp (ps_expr (pe_bm PySem.F.plainAttrs_list PySem.F.slot_list_append PySem.F.type_list_append mt_append (pv 3) (pa_cons (qop op_mod bv_mod (qcT c_int2 cv_int rfl m_int (by decide +kernel) (qcons (qop op_fdivW bv_div (qv 6) qint) qnil)) (qv 1)) pa_nil))) fun _ _ _ => app_use)))))))
    (qone (qretv 3))))))
/-! ### _law_equal -/
abbrev s_equal : Stmt := topS 19
theorem sc_equal : FnScope ["actual", "expected", "k"] ["actual", "expected"] (defScope s_equal) :=
  ⟨rfl, rfl, rfl, by decide +kernel, rfl, by decide +kernel, by decide +kernel⟩

noncomputable def B_equal (F_equal : List W → Option SV) : En → Option Out :=
    (sSeq (sIf (fOr (fTru (fCallW isiW (fCons (fVar 1) (fCons (fC (.opq (.ty "list"))) fNil)))) (fTru (fCallW isiW (fCons (fVar 1) (fCons (fC (.opq (.ty "tuple"))) fNil)))))
    (sSeq (sIf (fAnd (fTru (fCallW isiW (fCons (fVar 1) (fCons (fC (.opq (.ty "list"))) fNil)))) (fNot (fTru (fCallW isiW (fCons (fVar 0) (fCons (fC (.opq (.ty "list"))) fNil))))))
    (sRet (fImm (fC (.bl false))))
    sNext)
    (sSeq (sIf (fAnd (fTru (fCallW isiW (fCons (fVar 1) (fCons (fC (.opq (.ty "tuple"))) fNil)))) (fNot (fTru (fCallW isiW (fCons (fVar 0) (fCons (fC (.opq (.ty "tuple"))) fNil))))))
    (sRet (fImm (fC (.bl false))))
    sNext)
    (sSeq (sIf (fTst (fBin neW (fCallW lenW (fCons (fVar 0) fNil)) (fCallW lenW (fCons (fVar 1) fNil))))
    (sRet (fImm (fC (.bl false))))
    sNext)
    (sRet (fImm (fCallW allW (fCons (fFrz (fLc (fRng1 (fCallW lenW (fCons (fVar 1) fNil))) (aName 2) fYes (fFrz (fCall F_equal (fCons (fBin ixW (fVar 0) (fVar 2)) (fCons (fBin ixW (fVar 1) (fVar 2)) fNil)))) [2])) fNil)))))))
    sNext)
    (sSeq (sIf (fTru (fCallW isiW (fCons (fVar 1) (fCons (fC (.opq (.ty "bool"))) fNil))))
    (sRet (fImm (fAndV (fCallW isiW (fCons (fVar 0) (fCons (fC (.opq (.ty "bool"))) fNil))) (fBin eqW (fVar 0) (fVar 1)))))
    sNext)
    (sSeq (sIf (fTru (fCallW isiW (fCons (fVar 1) (fCons (fC (.opq (.ty "int"))) fNil))))
    (sRet (fImm (fAndV (fCallW isiW (fCons (fVar 0) (fCons (fC (.opq (.ty "int"))) fNil))) (fAndV (fNotV (fCallW isiW (fCons (fVar 0) (fCons (fC (.opq (.ty "bool"))) fNil)))) (fBin eqW (fVar 0) (fVar 1))))))
    sNext)
    (sRet (fImm (fAndV (fCallW isiW (fCons (fVar 0) (fCons (fC (.opq (.ty "str"))) fNil))) (fBin eqW (fVar 0) (fVar 1))))))))
noncomputable def F_equal : Nat → List W → Option SV
  | 0 => fun _ => none
  | n + 1 => runF 2 1 (B_equal (F_equal n))
theorem len_equal {n : Nat} (ws : List W) (sv : SV) (h : F_equal n ws = some sv) : ws.length = 2 := by
  cases n with
  | zero => cases h
  | succ n => exact runF_len h
theorem ok_equal {f : Addr} {fd : FuncData} (F : Fun K "_law_equal" "_law_equal" s_equal f fd) (b_equal : Binds K fd ["actual", "expected"] []) (k_equal : PySem.W.keepIn K (.ref f) = true) (g_equal : mg "_law_equal" = some (.ref f)) (m_all : mg "all" = none) (m_bool : mg "bool" = none) (m_int : mg "int" = none) (m_isinstance : mg "isinstance" = none) (m_len : mg "len" = none) (m_list : mg "list" = none) (m_range : mg "range" = none) (m_str : mg "str" = none) (m_tuple : mg "tuple" = none) :
    ∀ n, FnOk P w K mg base CX0 (n + 0) f fd ["actual", "expected"] (spQ K 2 (F_equal n))
  | 0 => okNone
  | n + 1 => by
    have G_equal := ok_equal F b_equal k_equal g_equal m_all m_bool m_int m_isinstance m_len m_list m_range m_str m_tuple n
    rw [show n + 1 + 0 = n + 0 + 1 by omega]
    refine ok_of F sc_equal rfl rfl (fun cdv A outer s H E hr => ?_)
    exact ((qseq (qIf (PW.pt (qor (qt (qcB (r := rIsi K) call_isi cv_isi rfl m_isinstance (by decide +kernel) (qcons (qv 1) (qcons (qty (T := "list") rfl m_list (by decide +kernel)) qnil)))) (qor1 (qt (qcB (r := rIsi K) call_isi cv_isi rfl m_isinstance (by decide +kernel) (qcons (qv 1) (qcons (qty (T := "tuple") rfl m_tuple (by decide +kernel)) qnil)))))))
    (qseq (qIf (PW.pt (qand (qt (qcB (r := rIsi K) call_isi cv_isi rfl m_isinstance (by decide +kernel) (qcons (qv 1) (qcons (qty (T := "list") rfl m_list (by decide +kernel)) qnil)))) (qand1 (qnot (qt (qcB (r := rIsi K) call_isi cv_isi rfl m_isinstance (by decide +kernel) (qcons (qv 0) (qcons (qty (T := "list") rfl m_list (by decide +kernel)) qnil))))))))
    (qone (qret (qimm qbl)))
    qpass)
    (qseq (qIf (PW.pt (qand (qt (qcB (r := rIsi K) call_isi cv_isi rfl m_isinstance (by decide +kernel) (qcons (qv 1) (qcons (qty (T := "tuple") rfl m_tuple (by decide +kernel)) qnil)))) (qand1 (qnot (qt (qcB (r := rIsi K) call_isi cv_isi rfl m_isinstance (by decide +kernel) (qcons (qv 0) (qcons (qty (T := "tuple") rfl m_tuple (by decide +kernel)) qnil))))))))
    (qone (qret (qimm qbl)))
    qpass)
    (qseq (qIf (qtc (ne_any hr.units) bv_ne (qcB (r := rLn K) c_len cv_len rfl m_len (by decide +kernel) (qcons (qv 0) qnil)) (qcB (r := rLn K) c_len cv_len rfl m_len (by decide +kernel) (qcons (qv 1) qnil)) (nomark _))
    (qone (qret (qimm qbl)))
    qpass)
    (qone (qret (qimm (qcB (r := rAll K) (cr_all rfl) cv_all rfl m_all (by decide +kernel) (qcons (qfrz (qlc (own := [("k", 2)]) rfl sc_equal.nd (qr1 rfl m_range (qcB (r := rLn K) c_len cv_len rfl m_len (by decide +kernel) (qcons (qv 1) qnil))) (blkOk_by (own := [("k", 2)]) (N := ["actual", "expected", "k"]) (sc := defScope s_equal) (by decide +kernel)) (fun _ _ _ _ _ => (qgn (i := 2) sc_equal.nd rfl (.inl rfl))) (fun _ _ _ _ _ => qtsn) (fun _ _ _ _ _ => (qfrz (qcall G_equal hr rfl g_equal k_equal b_equal len_equal (qcons (qix (qv 0) (qv 2)) (qcons (qix (qv 1) (qv 2)) qnil))))))) qnil))))))))
    qpass)
    (qseq (qIf (qt (qcB (r := rIsi K) call_isi cv_isi rfl m_isinstance (by decide +kernel) (qcons (qv 1) (qcons (qty (T := "bool") rfl m_bool (by decide +kernel)) qnil))))
    (qone (qret (qimm (qandV (qcB (r := rIsi K) call_isi cv_isi rfl m_isinstance (by decide +kernel) (qcons (qv 0) (qcons (qty (T := "bool") rfl m_bool (by decide +kernel)) qnil))) (qoneV (qcmp (eq_any hr.units) bv_eq (qv 0) (qv 1) (nomark _)))))))
    qpass)
    (qseq (qIf (qt (qcB (r := rIsi K) call_isi cv_isi rfl m_isinstance (by decide +kernel) (qcons (qv 1) (qcons (qty (T := "int") rfl m_int (by decide +kernel)) qnil))))
    (qone (qret (qimm (qandV (qcB (r := rIsi K) call_isi cv_isi rfl m_isinstance (by decide +kernel) (qcons (qv 0) (qcons (qty (T := "int") rfl m_int (by decide +kernel)) qnil))) (qandV (qnotV (qcB (r := rIsi K) call_isi cv_isi rfl m_isinstance (by decide +kernel) (qcons (qv 0) (qcons (qty (T := "bool") rfl m_bool (by decide +kernel)) qnil)))) (qoneV (qcmp (eq_any hr.units) bv_eq (qv 0) (qv 1) (nomark _))))))))
    qpass)
    (qone (qret (qimm (qandV (qcB (r := rIsi K) call_isi cv_isi rfl m_isinstance (by decide +kernel) (qcons (qv 0) (qcons (qty (T := "str") rfl m_str (by decide +kernel)) qnil))) (qoneV (qcmp (eq_any hr.units) bv_eq (qv 0) (qv 1) (nomark _)))))))))))
/-! ### _law_names -/
abbrev s_names : Stmt := topS 20
theorem sc_names : FnScope ["cell", "count", "words", "small", "inner", "digits", "names", "k", "row", "way", "name", "at", "middle", "j"] ["cell", "count"] (defScope s_names) :=
  ⟨rfl, rfl, rfl, by decide +kernel, rfl, by decide +kernel, by decide +kernel⟩

noncomputable def B_names : En → Option Out :=
    (sSeq (sSet 2 (fImm (fFrz (fCall lstL (fCons (fC (.str "all")) (fCons (fC (.str "true")) (fCons (fC (.str "false")) (fCons (fC (.str "not")) (fCons (fC (.str "and")) (fCons (fC (.str "or")) (fCons (fC (.str "relation")) (fCons (fC (.str "values")) (fCons (fC (.str "symmetric")) fNil)))))))))))))
    (sSeq (sSet 3 (fImm (fC (.str "abcdefghijklmnopqrstuvwxyz"))))
    (sSeq (sSet 4 (fImm (fFrz (fBinR addW (fFrz (fBinR addW (fVar 3) (fC (.str "ABCDEFGHIJKLMNOPQRSTUVWXYZ")))) (fC (.str "0123456789_"))))))
    (sSeq (sSet 5 (fImm (fFrz (fCall F_digits (fCons (fVar 0) (fCons (fC (.int 3276)) (fCons (fBin mulW (fC (.int 8)) (fVar 1)) fNil)))))))
    (sSeq (sSet 6 (fCall lstL fNil))
    (sSeq (sFor (fRng1 (fVar 1)) (aName 7)
    (sSeq (sSet 8 (fImm (fFrz (fSl slW (fVar 5) (fSome (fBin mulW (fC (.int 8)) (fVar 7))) (fSome (fBin addI (fBin mulW (fC (.int 8)) (fVar 7)) (fC (.int 8))))))))
    (sSeq (sSet 9 (fImm (fBin modW (fCallW intW (fCons (fBin divW (fBin ixW (fVar 8) (fC (.int 0))) (fC (.int 182))) fNil)) (fC (.int 3)))))
    (sSeq (sSet 10 (fImm (fFrz (fBinR addW (fBin ixW (fVar 3) (fBin modW (fCallW intW (fCons (fBin ixW (fVar 8) (fC (.int 0))) fNil)) (fC (.int 26)))) (fBin joinW (fC (.str "")) (fFrz (fLc (fRng1 (fBin modW (fCallW intW (fCons (fBin divW (fBin ixW (fVar 8) (fC (.int 0))) (fC (.int 26))) fNil)) (fC (.int 7)))) (aName 13) fYes (fBin ixW (fVar 4) (fBin modW (fCallW intW (fCons (fBin ixW (fVar 8) (fBin addI (fC (.int 1)) (fVar 13))) fNil)) (fC (.int 63)))) [13])))))))
    (sSeq (sIf (fAnd (fTst (fBin eqW (fVar 9) (fC (.int 1)))) (fTst (fBin (cmpI fun i j => decide (j < i)) (fVar 7) (fC (.int 0)))))
    (sSeq (sSet 11 (fImm (fBin modW (fCallW intW (fCons (fBin ixW (fVar 8) (fC (.int 1))) fNil)) (fBor (fCallW lenW (fCons (fBin ixW (fVar 6) (fBin subW (fVar 7) (fC (.int 1)))) fNil))))))
    (sSeq (sSet 12 (fImm (fBin ixW (fVar 4) (fBin modW (fCallW intW (fCons (fBin ixW (fVar 8) (fC (.int 2))) fNil)) (fC (.int 63))))))
    (sSeq (sIf (fTst (fBin eqW (fVar 11) (fC (.int 0))))
    (sSet 12 (fImm (fBin ixW (fVar 3) (fBin modW (fCallW intW (fCons (fBin ixW (fVar 8) (fC (.int 2))) fNil)) (fC (.int 26))))))
    sNext)
    (sSet 10 (fImm (fFrz (fBinR addW (fFrz (fBinR addW (fFrz (fSl slW (fIxOwn 6 (fBin subW (fVar 7) (fC (.int 1)))) fNone (fSome (fVar 11)))) (fVar 12))) (fFrz (fSl slW (fIxOwn 6 (fBin subW (fVar 7) (fC (.int 1)))) (fSome (fBin addI (fVar 11) (fC (.int 1)))) fNone)))))))))
    sNext)
    (sSeq (sIf (fAnd (fTst (fBin eqW (fVar 9) (fC (.int 2)))) (fTst (fBin (cmpI fun i j => decide (j < i)) (fVar 7) (fC (.int 0)))))
    (sSet 10 (fImm (fFrz (fBinR addW (fIxOwn 6 (fBin subW (fVar 7) (fC (.int 1)))) (fBin ixW (fVar 4) (fBin modW (fCallW intW (fCons (fBin ixW (fVar 8) (fC (.int 1))) fNil)) (fC (.int 63))))))))
    sNext)
    (sSeq (sIf (fAnd (fTst (fBin eqW (fVar 9) (fC (.int 2)))) (fTst (fBin eqW (fVar 7) (fC (.int 0)))))
    (sSet 10 (fImm (fFrz (fBinR addW (fBin ixW (fVar 2) (fBin modW (fCallW intW (fCons (fBin ixW (fVar 8) (fC (.int 1))) fNil)) (fC (.int 9)))) (fBin ixW (fVar 4) (fBin modW (fCallW intW (fCons (fBin ixW (fVar 8) (fC (.int 2))) fNil)) (fC (.int 63))))))))
    sNext)
    (sSeq (sFor (fRng1 (fBin addI (fVar 1) (fC (.int 1)))) (aName 13)
    (sIf (fOr (fTst (fBin inW (fVar 10) (fVar 6))) (fTst (fBin inW (fVar 10) (fVar 2))))
    (sSet 10 (fImm (fFrz (fBinR addW (fVar 10) (fC (.str "_"))))))
    sNext))
    (sApp 6 (fVar 10))))))))))
    (sRet (fSlot 6))))))))
noncomputable def F_names : List W → Option SV := runF 2 12 B_names
theorem len_names (ws : List W) (sv : SV) (h : F_names ws = some sv) : ws.length = 2 := runF_len h
theorem ok_names {f : Addr} {fd : FuncData} (F : Fun K "_law_names" "_law_names" s_names f fd) {f_digits : Addr} {fd_digits : FuncData} (G_digits : FnOk P w K mg base CX0 1 f_digits fd_digits ["cell", "many", "count"] (spQ K 3 (F_digits))) (b_digits : Binds K fd_digits ["cell", "many", "count"] []) (k_digits : PySem.W.keepIn K (.ref f_digits) = true) (g_digits : mg "_law_digits" = some (.ref f_digits)) (m_int : mg "int" = none) (m_len : mg "len" = none) (m_range : mg "range" = none) :
    FnOk P w K mg base CX0 2 f fd ["cell", "count"] (spQ K 2 F_names) := by
  refine ok_of F sc_names rfl rfl (fun cdv A outer s H E hr => ?_)
  exact ((qseq (qset (i := 2) sc_names.nd rfl (.inl rfl) (qimm (qfrz (qlst (qcons qstr (qcons qstr (qcons qstr (qcons qstr (qcons qstr (qcons qstr (qcons qstr (qcons qstr (qcons qstr qnil)))))))))))))
    (qseq (qset (i := 3) sc_names.nd rfl (.inl rfl) (qimm qstr))
    (qseq (qset (i := 4) sc_names.nd rfl (.inr rfl) (qimm (qfrz (qopR (r := rAd K) ad_any br_add (qfrz (qopR (r := rAd K) ad_any br_add (qv 3) qstr)) qstr))))
    (qseq (qset (i := 5) sc_names.nd rfl (.inl rfl) (qimm (qfrz (qcall G_digits (hr.mono (by decide)) rfl g_digits k_digits b_digits len_digits (qcons (qv 0) (qcons qint (qcons (qop op_mul2 bv_mul qint (qv 1)) qnil)))))))
    (qseq (qset (i := 6) sc_names.nd rfl (.inl rfl) (qlst qnil))
    (qseq (qfor rfl (qr1 rfl m_range (qv 1)) (qgn (i := 7) sc_names.nd rfl (.inl rfl))
    (qseq (qset (i := 8) sc_names.nd rfl (.inr rfl) (qimm (qfrz (qsl (qv 5) (qso (qop op_mul2 bv_mul qint (qv 7))) (qso (qop op_add bv_add (qop op_mul2 bv_mul qint (qv 7)) qint))))))
    (qseq (qset (i := 9) sc_names.nd rfl (.inl rfl) (qimm (qop op_mod bv_mod (qcT c_int2 cv_int rfl m_int (by decide +kernel) (qcons (qop op_fdivW bv_div (qix (qv 8) qint) qint) qnil)) qint)))
    (qseq (qset (i := 10) sc_names.nd rfl (.inl rfl) (qimm (qfrz (qopR (r := rAd K) ad_any br_add (qix (qv 3) (qop op_mod bv_mod (qcT c_int2 cv_int rfl m_int (by decide +kernel) (qcons (qix (qv 8) qint) qnil)) qint)) (qjoin qstr (qfrz (qlc (own := [("j", 13)]) rfl sc_names.nd (qr1 rfl m_range (qop op_mod bv_mod (qcT c_int2 cv_int rfl m_int (by decide +kernel) (qcons (qop op_fdivW bv_div (qix (qv 8) qint) qint) qnil)) qint)) (blkOk_by (own := [("j", 13)]) (N := ["cell", "count", "words", "small", "inner", "digits", "names", "k", "row", "way", "name", "at", "middle", "j"]) (sc := defScope s_names) (by decide +kernel)) (fun _ _ _ _ _ => (qgn (i := 13) sc_names.nd rfl (.inl rfl))) (fun _ _ _ _ _ => qtsn) (fun _ _ _ _ _ => (qix (qv 4) (qop op_mod bv_mod (qcT c_int2 cv_int rfl m_int (by decide +kernel) (qcons (qix (qv 8) (qop op_add bv_add qint (qv 13))) qnil)) qint))))))))))
    (qseq (qIf (PW.pt (qand (qtc (eq_any hr.units) bv_eq (qv 9) qint (nomark _)) (qand1 (qtc op_gt bv_cmpI (qv 7) qint (nomark _)))))
    (qseq (qset (i := 11) sc_names.nd rfl (.inl rfl) (qimm (qop op_mod bv_mod (qcT c_int2 cv_int rfl m_int (by decide +kernel) (qcons (qix (qv 8) qint) qnil)) (qbor (qcB (r := rLn K) c_len cv_len rfl m_len (by decide +kernel) (qcons (qix (qv 6) (qop op_sub bv_sub (qv 7) qint)) qnil))))))
    (qseq (qset (i := 12) sc_names.nd rfl (.inl rfl) (qimm (qix (qv 4) (qop op_mod bv_mod (qcT c_int2 cv_int rfl m_int (by decide +kernel) (qcons (qix (qv 8) qint) qnil)) qint))))
    (qseq (qIf (qtc (eq_any hr.units) bv_eq (qv 11) qint (nomark _))
    (qone (qset (i := 12) sc_names.nd rfl (.inl rfl) (qimm (qix (qv 3) (qop op_mod bv_mod (qcT c_int2 cv_int rfl m_int (by decide +kernel) (qcons (qix (qv 8) qint) qnil)) qint)))))
    qpass)
    (qone (qset (i := 10) sc_names.nd rfl (.inl rfl) (qimm (qfrz (qopR (r := rAd K) ad_any br_add (qfrz (qopR (r := rAd K) ad_any br_add (qfrz (qsl (qixo 6 (qop op_sub bv_sub (qv 7) qint)) qno (qso (qv 11)))) (qv 12))) (qfrz (qsl (qixo 6 (qop op_sub bv_sub (qv 7) qint)) (qso (qop op_add bv_add (qv 11) qint)) qno))))))))))
    qpass)
    (qseq (qIf (PW.pt (qand (qtc (eq_any hr.units) bv_eq (qv 9) qint (nomark _)) (qand1 (qtc op_gt bv_cmpI (qv 7) qint (nomark _)))))
    (qone (qset (i := 10) sc_names.nd rfl (.inl rfl) (qimm (qfrz (qopR (r := rAd K) ad_any br_add (qixo 6 (qop op_sub bv_sub (qv 7) qint)) (qix (qv 4) (qop op_mod bv_mod (qcT c_int2 cv_int rfl m_int (by decide +kernel) (qcons (qix (qv 8) qint) qnil)) qint)))))))
    qpass)
    (qseq (qIf (PW.pt (qand (qtc (eq_any hr.units) bv_eq (qv 9) qint (nomark _)) (qand1 (qtc (eq_any hr.units) bv_eq (qv 7) qint (nomark _)))))
    (qone (qset (i := 10) sc_names.nd rfl (.inl rfl) (qimm (qfrz (qopR (r := rAd K) ad_any br_add (qix (qv 2) (qop op_mod bv_mod (qcT c_int2 cv_int rfl m_int (by decide +kernel) (qcons (qix (qv 8) qint) qnil)) qint)) (qix (qv 4) (qop op_mod bv_mod (qcT c_int2 cv_int rfl m_int (by decide +kernel) (qcons (qix (qv 8) qint) qnil)) qint)))))))
    qpass)
    (qseq (qfor rfl (qr1 rfl m_range (qop op_add bv_add (qv 1) qint)) (qgn (i := 13) sc_names.nd rfl (.inl rfl))
    (qone (qIf (PW.pt (qor (qtc op_inA bv_in (qv 10) (qv 6) rfl) (qor1 (qtc op_inA bv_in (qv 10) (qv 2) rfl))))
    (qone (qset (i := 10) sc_names.nd rfl (.inl rfl) (qimm (qfrz (qopR (r := rAd K) ad_any br_add (qv 10) qstr)))))
    qpass)))
    (qone (ps_imp (ps_expr (pe_bm PySem.F.plainAttrs_list PySem.F.slot_list_append PySem.F.type_list_append mt_append (pv 6) (pa_cons (qv 10) pa_nil))) fun _ _ _ => app_use))))))))))
    (qone (qretv 6)))))))))
/-! ### _law_token -/
abbrev s_token : Stmt := topS 21
theorem sc_token : FnScope ["cell", "words", "signs", "digits", "choice", "j"] ["cell"] (defScope s_token) :=
  ⟨rfl, rfl, rfl, by decide +kernel, rfl, by decide +kernel, by decide +kernel⟩

noncomputable def B_token : En → Option Out :=
    (sSeq (sSet 1 (fImm (fFrz (fCall lstL (fCons (fC (.str "all")) (fCons (fC (.str "true")) (fCons (fC (.str "false")) (fCons (fC (.str "not")) (fCons (fC (.str "and")) (fCons (fC (.str "or")) (fCons (fC (.str "relation")) (fCons (fC (.str "values")) (fCons (fC (.str "symmetric")) fNil)))))))))))))
    (sSeq (sSet 2 (fImm (fFrz (fCall lstL (fCons (fC (.str "(")) (fCons (fC (.str ")")) (fCons (fC (.str ",")) (fCons (fC (.str ":")) (fCons (fC (.str "=")) (fCons (fC (.str "->")) (fCons (fC (.str "<->")) (fCons (fC (.str "\n")) fNil))))))))))))
    (sSeq (sSet 3 (fImm (fFrz (fCall F_digits (fCons (fVar 0) (fCons (fC (.int 2520)) (fCons (fC (.int 11)) fNil)))))))
    (sSeq (sSet 4 (fImm (fBin modW (fCallW intW (fCons (fBin ixW (fVar 3) (fC (.int 0))) fNil)) (fC (.int 7)))))
    (sSeq (sIf (fTst (fBin (cmpI fun i j => decide (i < j)) (fVar 4) (fC (.int 2))))
    (sRet (fImm (fBin joinW (fC (.str "")) (fFrz (fLc (fRng1 (fBin addI (fC (.int 1)) (fBin modW (fCallW intW (fCons (fBin ixW (fVar 3) (fC (.int 1))) fNil)) (fC (.int 9))))) (aName 5) fYes (fCallW strW (fCons (fBin modW (fCallW intW (fCons (fBin ixW (fVar 3) (fBin addI (fC (.int 2)) (fVar 5))) fNil)) (fC (.int 10))) fNil)) [5])))))
    sNext)
    (sSeq (sIf (fTst (fBin eqW (fVar 4) (fC (.int 2))))
    (sRet (fImm (fBin ixW (fVar 1) (fBin modW (fCallW intW (fCons (fBin ixW (fVar 3) (fC (.int 1))) fNil)) (fC (.int 9))))))
    sNext)
    (sSeq (sIf (fTst (fBin (cmpI fun i j => decide (i < j)) (fVar 4) (fC (.int 5))))
    (sRet (fImm (fBin ixW (fVar 2) (fBin modW (fCallW intW (fCons (fBin ixW (fVar 3) (fC (.int 1))) fNil)) (fC (.int 8))))))
    sNext)
    (sRet (fImm (fBin ixW (fFrz (fCall F_names (fCons (fBin divW (fVar 0) (fC (.int 7))) (fCons (fC (.int 1)) fNil)))) (fC (.int 0))))))))))))
noncomputable def F_token : List W → Option SV := runF 1 5 B_token
theorem len_token (ws : List W) (sv : SV) (h : F_token ws = some sv) : ws.length = 1 := runF_len h
theorem ok_token {f : Addr} {fd : FuncData} (F : Fun K "_law_token" "_law_token" s_token f fd) {f_digits : Addr} {fd_digits : FuncData} (G_digits : FnOk P w K mg base CX0 1 f_digits fd_digits ["cell", "many", "count"] (spQ K 3 (F_digits))) (b_digits : Binds K fd_digits ["cell", "many", "count"] []) (k_digits : PySem.W.keepIn K (.ref f_digits) = true) (g_digits : mg "_law_digits" = some (.ref f_digits)) {f_names : Addr} {fd_names : FuncData} (G_names : FnOk P w K mg base CX0 2 f_names fd_names ["cell", "count"] (spQ K 2 (F_names))) (b_names : Binds K fd_names ["cell", "count"] []) (k_names : PySem.W.keepIn K (.ref f_names) = true) (g_names : mg "_law_names" = some (.ref f_names)) (m_int : mg "int" = none) (m_range : mg "range" = none) (m_str : mg "str" = none) :
    FnOk P w K mg base CX0 3 f fd ["cell"] (spQ K 1 F_token) := by
  refine ok_of F sc_token rfl rfl (fun cdv A outer s H E hr => ?_)
  exact ((qseq (qset (i := 1) sc_token.nd rfl (.inl rfl) (qimm (qfrz (qlst (qcons qstr (qcons qstr (qcons qstr (qcons qstr (qcons qstr (qcons qstr (qcons qstr (qcons qstr (qcons qstr qnil)))))))))))))
    (qseq (qset (i := 2) sc_token.nd rfl (.inl rfl) (qimm (qfrz (qlst (qcons qstr (qcons qstr (qcons qstr (qcons qstr (qcons qstr (qcons qstr (qcons qstr (qcons qstr qnil))))))))))))
    (qseq (qset (i := 3) sc_token.nd rfl (.inr rfl) (qimm (qfrz (qcall G_digits (hr.mono (by decide)) rfl g_digits k_digits b_digits len_digits (qcons (qv 0) (qcons qint (qcons qint qnil)))))))
    (qseq (qset (i := 4) sc_token.nd rfl (.inl rfl) (qimm (qop op_mod bv_mod (qcT c_int2 cv_int rfl m_int (by decide +kernel) (qcons (qix (qv 3) qint) qnil)) qint)))
    (qseq (qIf (qtc op_lt bv_cmpI (qv 4) qint (nomark _))
    (qone (qret (qimm (qjoin qstr (qfrz (qlc (own := [("j", 5)]) rfl sc_token.nd (qr1 rfl m_range (qop op_add bv_add qint (qop op_mod bv_mod (qcT c_int2 cv_int rfl m_int (by decide +kernel) (qcons (qix (qv 3) qint) qnil)) qint))) (blkOk_by (own := [("j", 5)]) (N := ["cell", "words", "signs", "digits", "choice", "j"]) (sc := defScope s_token) (by decide +kernel)) (fun _ _ _ _ _ => (qgn (i := 5) sc_token.nd rfl (.inl rfl))) (fun _ _ _ _ _ => qtsn) (fun _ _ _ _ _ => (qcT call_str_int cv_str rfl m_str (by decide +kernel) (qcons (qop op_mod bv_mod (qcT c_int2 cv_int rfl m_int (by decide +kernel) (qcons (qix (qv 3) (qop op_add bv_add qint (qv 5))) qnil)) qint) qnil)))))))))
    qpass)
    (qseq (qIf (qtc (eq_any hr.units) bv_eq (qv 4) qint (nomark _))
    (qone (qret (qimm (qix (qv 1) (qop op_mod bv_mod (qcT c_int2 cv_int rfl m_int (by decide +kernel) (qcons (qix (qv 3) qint) qnil)) qint)))))
    qpass)
    (qseq (qIf (qtc op_lt bv_cmpI (qv 4) qint (nomark _))
    (qone (qret (qimm (qix (qv 2) (qop op_mod bv_mod (qcT c_int2 cv_int rfl m_int (by decide +kernel) (qcons (qix (qv 3) qint) qnil)) qint)))))
    qpass)
    (qone (qret (qimm (qix (qfrz (qcall G_names (hr.mono (by decide)) rfl g_names k_names b_names len_names (qcons (qop op_fdivW bv_div (qv 0) qint) (qcons qint qnil)))) qint))))))))))))
/-! ### _law_kind -/
abbrev s_kind : Stmt := topS 22
theorem sc_kind : FnScope ["word", "words", "figures", "small", "inner", "char"] ["word"] (defScope s_kind) :=
  ⟨rfl, rfl, rfl, by decide +kernel, rfl, by decide +kernel, by decide +kernel⟩

noncomputable def B_kind : En → Option Out :=
    (sSeq (sSet 1 (fImm (fFrz (fCall lstL (fCons (fC (.str "all")) (fCons (fC (.str "true")) (fCons (fC (.str "false")) (fCons (fC (.str "not")) (fCons (fC (.str "and")) (fCons (fC (.str "or")) (fCons (fC (.str "relation")) (fCons (fC (.str "values")) (fCons (fC (.str "symmetric")) fNil)))))))))))))
    (sSeq (sSet 2 (fImm (fC (.str "0123456789"))))
    (sSeq (sSet 3 (fImm (fC (.str "abcdefghijklmnopqrstuvwxyz"))))
    (sSeq (sSet 4 (fImm (fFrz (fBinR addW (fFrz (fBinR addW (fFrz (fBinR addW (fVar 3) (fC (.str "ABCDEFGHIJKLMNOPQRSTUVWXYZ")))) (fVar 2))) (fC (.str "_"))))))
    (sSeq (sIf (fTst (fBin inW (fVar 0) (fVar 1)))
    (sRet (fImm (fC (.str "word"))))
    sNext)
    (sSeq (sIf (fTst (fBin inW (fVar 0) (fFrz (fCall lstL (fCons (fC (.str "(")) (fCons (fC (.str ")")) (fCons (fC (.str ",")) (fCons (fC (.str ":")) (fCons (fC (.str "=")) (fCons (fC (.str "->")) (fCons (fC (.str "<->")) fNil)))))))))))
    (sRet (fImm (fC (.str "sign"))))
    sNext)
    (sSeq (sIf (fTst (fBin eqW (fVar 0) (fC (.str "\n"))))
    (sRet (fImm (fC (.str "line"))))
    sNext)
    (sSeq (sIf (fTst (fBin eqW (fVar 0) (fC (.str ""))))
    (sRet (fImm (fC (.str "end"))))
    sNext)
    (sSeq (sIf (fAnd (fTru (fCallW allW (fCons (fFrz (fLc (fSeq (fVar 0)) (aName 5) fYes (fBin inW (fVar 5) (fVar 2)) [5])) fNil))) (fTst (fBin (cmpI fun i j => decide (i ≤ j)) (fCallW lenW (fCons (fVar 0) fNil)) (fC (.int 9)))))
    (sRet (fImm (fC (.str "number"))))
    sNext)
    (sSeq (sIf (fAnd (fTst (fBin inW (fBin ixW (fVar 0) (fC (.int 0))) (fVar 3))) (fTru (fCallW allW (fCons (fFrz (fLc (fSeq (fVar 0)) (aName 5) fYes (fBin inW (fVar 5) (fVar 4)) [5])) fNil))))
    (sRet (fImm (fC (.str "name"))))
    sNext)
    (sRet (fImm (fC (.str "odd"))))))))))))))
noncomputable def F_kind : List W → Option SV := runF 1 5 B_kind
theorem len_kind (ws : List W) (sv : SV) (h : F_kind ws = some sv) : ws.length = 1 := runF_len h
theorem ok_kind {f : Addr} {fd : FuncData} (F : Fun K "_law_kind" "_law_kind" s_kind f fd) (m_all : mg "all" = none) (m_len : mg "len" = none) :
    FnOk P w K mg base CX0 1 f fd ["word"] (spQ K 1 F_kind) := by
  refine ok_of F sc_kind rfl rfl (fun cdv A outer s H E hr => ?_)
  exact ((qseq (qset (i := 1) sc_kind.nd rfl (.inl rfl) (qimm (qfrz (qlst (qcons qstr (qcons qstr (qcons qstr (qcons qstr (qcons qstr (qcons qstr (qcons qstr (qcons qstr (qcons qstr qnil)))))))))))))
    (qseq (qset (i := 2) sc_kind.nd rfl (.inr rfl) (qimm qstr))
    (qseq (qset (i := 3) sc_kind.nd rfl (.inl rfl) (qimm qstr))
    (qseq (qset (i := 4) sc_kind.nd rfl (.inr rfl) (qimm (qfrz (qopR (r := rAd K) ad_any br_add (qfrz (qopR (r := rAd K) ad_any br_add (qfrz (qopR (r := rAd K) ad_any br_add (qv 3) qstr)) (qv 2))) qstr))))
    (qseq (qIf (qtc op_inA bv_in (qv 0) (qv 1) rfl)
    (qone (qret (qimm qstr)))
    qpass)
    (qseq (qIf (qtc op_inA bv_in (qv 0) (qfrz (qlst (qcons qstr (qcons qstr (qcons qstr (qcons qstr (qcons qstr (qcons qstr (qcons qstr qnil))))))))) rfl)
    (qone (qret (qimm qstr)))
    qpass)
    (qseq (qIf (qtc (eq_any hr.units) bv_eq (qv 0) qstr (nomark _))
    (qone (qret (qimm qstr)))
    qpass)
    (qseq (qIf (qtc (eq_any hr.units) bv_eq (qv 0) qstr (nomark _))
    (qone (qret (qimm qstr)))
    qpass)
    (qseq (qIf (PW.pt (qand (qt (qcB (r := rAll K) (cr_all rfl) cv_all rfl m_all (by decide +kernel) (qcons (qfrz (qlc (own := [("char", 5)]) rfl sc_kind.nd (qsq (qv 0)) (blkOk_by (own := [("char", 5)]) (N := ["word", "words", "figures", "small", "inner", "char"]) (sc := defScope s_kind) (by decide +kernel)) (fun _ _ _ _ _ => (qgn (i := 5) sc_kind.nd rfl (.inl rfl))) (fun _ _ _ _ _ => qtsn) (fun _ _ _ _ _ => (qcmp op_inA bv_in (qv 5) (qv 2) rfl)))) qnil))) (qand1 (qtc op_le bv_cmpI (qcB (r := rLn K) c_len cv_len rfl m_len (by decide +kernel) (qcons (qv 0) qnil)) qint (nomark _)))))
    (qone (qret (qimm qstr)))
    qpass)
    (qseq (qIf (PW.pt (qand (qtc op_inA bv_in (qix (qv 0) qint) (qv 3) rfl) (qand1 (qt (qcB (r := rAll K) (cr_all rfl) cv_all rfl m_all (by decide +kernel) (qcons (qfrz (qlc (own := [("char", 5)]) rfl sc_kind.nd (qsq (qv 0)) (blkOk_by (own := [("char", 5)]) (N := ["word", "words", "figures", "small", "inner", "char"]) (sc := defScope s_kind) (by decide +kernel)) (fun _ _ _ _ _ => (qgn (i := 5) sc_kind.nd rfl (.inl rfl))) (fun _ _ _ _ _ => qtsn) (fun _ _ _ _ _ => (qcmp op_inA bv_in (qv 5) (qv 4) rfl)))) qnil))))))
    (qone (qret (qimm qstr)))
    qpass)
    (qone (qret (qimm qstr))))))))))))))
/-! ### _law_laid -/
abbrev s_laid : Stmt := topS 23
theorem sc_laid : FnScope ["words", "cell", "inner", "digits", "text", "places", "k", "gap", "odd"] ["words", "cell"] (defScope s_laid) :=
  ⟨rfl, rfl, rfl, by decide +kernel, rfl, by decide +kernel, by decide +kernel⟩

noncomputable def B_laid : En → Option Out :=
    (sSeq (sSet 2 (fImm (fC (.str "abcdefghijklmnopqrstuvwxyzABCDEFGHIJKLMNOPQRSTUVWXYZ0123456789_"))))
    (sSeq (sSet 3 (fImm (fFrz (fCall F_digits (fCons (fVar 1) (fCons (fC (.int 4)) (fCons (fBin addI (fCallW lenW (fCons (fVar 0) fNil)) (fC (.int 1))) fNil)))))))
    (sSeq (sSet 4 (fImm (fBin mulS (fC (.str " ")) (fBin divW (fCallW intW (fCons (fBin ixW (fVar 3) (fCallW lenW (fCons (fVar 0) fNil))) fNil)) (fC (.int 2))))))
    (sSeq (sSet 5 (fCall lstL fNil))
    (sSeq (sFor (fRng1 (fCallW lenW (fCons (fVar 0) fNil))) (aName 6)
    (sSeq (sIf (fTst (fBin (cmpI fun i j => decide (j < i)) (fVar 6) (fC (.int 0))))
    (sSeq (sSet 7 (fImm (fBin ixW (fFrz (fCall lstL (fCons (fC (.int 0)) (fCons (fC (.int 1)) (fCons (fC (.int 1)) (fCons (fC (.int 2)) fNil)))))) (fBin modW (fCallW intW (fCons (fBin ixW (fVar 3) (fVar 6)) fNil)) (fC (.int 4))))))
    (sSeq (sSet 8 (fImm (fOrV (fBin eqW (fFrz (fCall F_kind (fCons (fBin ixW (fVar 0) (fBin subW (fVar 6) (fC (.int 1)))) fNil))) (fC (.str "odd"))) (fBin eqW (fFrz (fCall F_kind (fCons (fBin ixW (fVar 0) (fVar 6)) fNil))) (fC (.str "odd"))))))
    (sSeq (sIf (fOr (fTru (fVar 8)) (fAnd (fTst (fBin inW (fFrz (fSl slW (fBin ixW (fVar 0) (fBin subW (fVar 6) (fC (.int 1)))) (fSome (fUn negW (fC (.int 1)))) fNone)) (fVar 2))) (fTst (fBin inW (fFrz (fSl slW (fBin ixW (fVar 0) (fVar 6)) fNone (fSome (fC (.int 1))))) (fVar 2)))))
    (sSet 7 (fImm (fCallW max2W (fCons (fVar 7) (fCons (fC (.int 1)) fNil)))))
    sNext)
    (sSet 4 (fImm (fFrz (fBinR addW (fVar 4) (fBin mulS (fC (.str " ")) (fVar 7)))))))))
    sNext)
    (sSeq (sApp 5 (fCallW lenW (fCons (fVar 4) fNil)))
    (sSet 4 (fImm (fFrz (fBinR addW (fVar 4) (fBin ixW (fVar 0) (fVar 6)))))))))
    (sSeq (sSet 4 (fImm (fFrz (fBinR addW (fVar 4) (fBin mulS (fC (.str " ")) (fBin divW (fCallW intW (fCons (fBin ixW (fVar 3) (fC (.int 0))) fNil)) (fC (.int 2))))))))
    (sFix 5 (sRet (fImm (fCallW tupL (fCons (fVar 4) (fCons (fFrz (fBinR addW (fVar 5) (fFrz (fCall lstL (fCons (fCallW lenW (fCons (fVar 4) fNil)) fNil))))) fNil))))))))))))
noncomputable def F_laid : List W → Option SV := runF 2 7 B_laid
theorem len_laid (ws : List W) (sv : SV) (h : F_laid ws = some sv) : ws.length = 2 := runF_len h
theorem ok_laid {f : Addr} {fd : FuncData} (F : Fun K "_law_laid" "_law_laid" s_laid f fd) {f_digits : Addr} {fd_digits : FuncData} (G_digits : FnOk P w K mg base CX0 1 f_digits fd_digits ["cell", "many", "count"] (spQ K 3 (F_digits))) (b_digits : Binds K fd_digits ["cell", "many", "count"] []) (k_digits : PySem.W.keepIn K (.ref f_digits) = true) (g_digits : mg "_law_digits" = some (.ref f_digits)) {f_kind : Addr} {fd_kind : FuncData} (G_kind : FnOk P w K mg base CX0 1 f_kind fd_kind ["word"] (spQ K 1 (F_kind))) (b_kind : Binds K fd_kind ["word"] []) (k_kind : PySem.W.keepIn K (.ref f_kind) = true) (g_kind : mg "_law_kind" = some (.ref f_kind)) (m_int : mg "int" = none) (m_len : mg "len" = none) (m_max : mg "max" = none) (m_range : mg "range" = none) :
    FnOk P w K mg base CX0 2 f fd ["words", "cell"] (spQ K 2 F_laid) := by
  refine ok_of F sc_laid rfl rfl (fun cdv A outer s H E hr => ?_)
  exact ((qseq (qset (i := 2) sc_laid.nd rfl (.inl rfl) (qimm qstr))
    (qseq (qset (i := 3) sc_laid.nd rfl (.inl rfl) (qimm (qfrz (qcall G_digits (hr.mono (by decide)) rfl g_digits k_digits b_digits len_digits (qcons (qv 1) (qcons qint (qcons (qop op_add bv_add (qcB (r := rLn K) c_len cv_len rfl m_len (by decide +kernel) (qcons (qv 0) qnil)) qint) qnil)))))))
    (qseq (qset (i := 4) sc_laid.nd rfl (.inl rfl) (qimm (qop op_repSt bv_mulS qstr (qop op_fdivW bv_div (qcT c_int2 cv_int rfl m_int (by decide +kernel) (qcons (qix (qv 3) (qcB (r := rLn K) c_len cv_len rfl m_len (by decide +kernel) (qcons (qv 0) qnil))) qnil)) qint))))
    (qseq (qset (i := 5) sc_laid.nd rfl (.inl rfl) (qlst qnil))
    (qseq (qfor rfl (qr1 rfl m_range (qcB (r := rLn K) c_len cv_len rfl m_len (by decide +kernel) (qcons (qv 0) qnil))) (qgn (i := 6) sc_laid.nd rfl (.inl rfl))
    (qseq (qIf (qtc op_gt bv_cmpI (qv 6) qint (nomark _))
    (qseq (qset (i := 7) sc_laid.nd rfl (.inl rfl) (qimm (qix (qfrz (qlst (qcons qint (qcons qint (qcons qint (qcons qint qnil)))))) (qop op_mod bv_mod (qcT c_int2 cv_int rfl m_int (by decide +kernel) (qcons (qix (qv 3) (qv 6)) qnil)) qint))))
    (qseq (qset (i := 8) sc_laid.nd rfl (.inl rfl) (qimm (qorV (qcmp (eq_any hr.units) bv_eq (qfrz (qcall G_kind (hr.mono (by decide)) rfl g_kind k_kind b_kind len_kind (qcons (qix (qv 0) (qop op_sub bv_sub (qv 6) qint)) qnil))) qstr (nomark _)) (qoneV (qcmp (eq_any hr.units) bv_eq (qfrz (qcall G_kind (hr.mono (by decide)) rfl g_kind k_kind b_kind len_kind (qcons (qix (qv 0) (qv 6)) qnil))) qstr (nomark _))))))
    (qseq (qIf (PW.pt (qor (qt (qv 8)) (qor1 (PW.pt (qand (qtc op_inA bv_in (qfrz (qsl (qix (qv 0) (qop op_sub bv_sub (qv 6) qint)) (qso (qneg qint)) qno)) (qv 2) rfl) (qand1 (qtc op_inA bv_in (qfrz (qsl (qix (qv 0) (qv 6)) qno (qso qint))) (qv 2) rfl)))))))
    (qone (qset (i := 7) sc_laid.nd rfl (.inl rfl) (qimm (qcB (call_max2 rfl) cv_max2 rfl m_max (by decide +kernel) (qcons (qv 7) (qcons qint qnil))))))
    qpass)
    (qone (qset (i := 4) sc_laid.nd rfl (.inl rfl) (qimm (qfrz (qopR (r := rAd K) ad_any br_add (qv 4) (qop op_repSt bv_mulS qstr (qv 7))))))))))
    qpass)
    (qseq (ps_imp (ps_expr (pe_bm PySem.F.plainAttrs_list PySem.F.slot_list_append PySem.F.type_list_append mt_append (pv 5) (pa_cons (qcB (r := rLn K) c_len cv_len rfl m_len (by decide +kernel) (qcons (qv 4) qnil)) pa_nil))) fun _ _ _ => app_use)
    (qone (qset (i := 4) sc_laid.nd rfl (.inl rfl) (qimm (qfrz (qopR (r := rAd K) ad_any br_add (qv 4) (qix (qv 0) (qv 6))))))))))
    (qseq (qset (i := 4) sc_laid.nd rfl (.inl rfl) (qimm (qfrz (qopR (r := rAd K) ad_any br_add (qv 4) (qop op_repSt bv_mulS qstr (qop op_fdivW bv_div (qcT c_int2 cv_int rfl m_int (by decide +kernel) (qcons (qix (qv 3) qint) qnil)) qint))))))
    (qfix 5 (qone (qret (qimm (qtup (qcons (qv 4) (qcons (qfrz (qopR (r := rAd K) ad_any br_add (qv 5) (qfrz (qlst (qcons (qcB (r := rLn K) c_len cv_len rfl m_len (by decide +kernel) (qcons (qv 4) qnil)) qnil))))) qnil))))))))))))))
/-! ### _law_value -/
abbrev s_value : Stmt := topS 24
theorem sc_value : FnScope ["word", "kind"] ["word"] (defScope s_value) :=
  ⟨rfl, rfl, rfl, by decide +kernel, rfl, by decide +kernel, by decide +kernel⟩

noncomputable def B_value : En → Option Out :=
    (sSeq (sSet 1 (fImm (fFrz (fCall F_kind (fCons (fVar 0) fNil)))))
    (sSeq (sIf (fTst (fBin eqW (fVar 1) (fC (.str "number"))))
    (sRet (fImm (fCallW intW (fCons (fVar 0) fNil))))
    sNext)
    (sSeq (sIf (fTst (fBin eqW (fVar 1) (fC (.str "line"))))
    (sRet (fImm (fC (.str ""))))
    sNext)
    (sRet (fImm (fVar 0))))))
noncomputable def F_value : List W → Option SV := runF 1 1 B_value
theorem len_value (ws : List W) (sv : SV) (h : F_value ws = some sv) : ws.length = 1 := runF_len h
theorem ok_value {f : Addr} {fd : FuncData} (F : Fun K "_law_value" "_law_value" s_value f fd) {f_kind : Addr} {fd_kind : FuncData} (G_kind : FnOk P w K mg base CX0 1 f_kind fd_kind ["word"] (spQ K 1 (F_kind))) (b_kind : Binds K fd_kind ["word"] []) (k_kind : PySem.W.keepIn K (.ref f_kind) = true) (g_kind : mg "_law_kind" = some (.ref f_kind)) (m_int : mg "int" = none) :
    FnOk P w K mg base CX0 2 f fd ["word"] (spQ K 1 F_value) := by
  refine ok_of F sc_value rfl rfl (fun cdv A outer s H E hr => ?_)
  exact ((qseq (qset (i := 1) sc_value.nd rfl (.inl rfl) (qimm (qfrz (qcall G_kind (hr.mono (by decide)) rfl g_kind k_kind b_kind len_kind (qcons (qv 0) qnil)))))
    (qseq (qIf (qtc (eq_any hr.units) bv_eq (qv 1) qstr (nomark _))
    (qone (qret (qimm (qcT c_int2 cv_int rfl m_int (by decide +kernel) (qcons (qv 0) qnil)))))
    qpass)
    (qseq (qIf (qtc (eq_any hr.units) bv_eq (qv 1) qstr (nomark _))
    (qone (qret (qimm qstr)))
    qpass)
    (qone (qret (qimm (qv 0))))))))
/-! ### law -/
abbrev s_law : Stmt := topS 25
theorem sc_law : FnScope ["script", "words", "text", "places", "expected", "actual", "k"] ["script"] (defScope s_law) :=
  ⟨rfl, rfl, rfl, by decide +kernel, rfl, by decide +kernel, by decide +kernel⟩

noncomputable def B_law : En → Option Out :=
    (sSeq (sSet 1 (fImm (fFrz (fLc (fRng1 (fBin modW (fCallW intW (fCons (fFrz (fCall F_cell (fCons (fVar 0) (fCons (fC (.int 0)) fNil)))) fNil)) (fC (.int 41)))) (aName 6) fYes (fFrz (fCall F_token (fCons (fFrz (fCall F_cell (fCons (fVar 0) (fCons (fBin addI (fC (.int 2)) (fVar 6)) fNil)))) fNil))) [6]))))
    (sSeq (sAsg (aTup (aCons (aName 2) (aCons (aName 3) aNil))) (fFrz (fCall F_laid (fCons (fVar 1) (fCons (fFrz (fCall F_cell (fCons (fVar 0) (fCons (fC (.int 1)) fNil)))) fNil)))))
    (sSeq (sSet 4 (fLc (fRng1 (fCallW lenW (fCons (fVar 1) fNil))) (aName 6) fYes (fCallW tupL (fCons (fFrz (fCall F_kind (fCons (fBin ixW (fVar 1) (fVar 6)) fNil))) (fCons (fFrz (fCall F_value (fCons (fBin ixW (fVar 1) (fVar 6)) fNil))) (fCons (fBin ixW (fVar 3) (fVar 6)) fNil)))) [6]))
    (sSeq (sApp 4 (fCallW tupL (fCons (fC (.str "end")) (fCons (fC (.str "")) (fCons (fCallW lenW (fCons (fVar 2) fNil)) fNil)))))
    (sSeq (sSet 5 (fCall F_tokenize (fCons (fVar 2) fNil)))
    (sSeq (sIf (fNot (fTru (fFrz (fCall (F_equal 8) (fCons (fVar 5) (fCons (fVar 4) fNil))))))
    (sRet (fImm (fC (.bl false))))
    sNext)
    (sSeq (sPop 5)
    (sSeq (sApp 5 (fCallW tupL (fCons (fC (.str "fault")) (fCons (fC (.str "")) (fCons (fC (.int 0)) fNil)))))
    (sFix 4 (sRet (fCall (F_equal 8) (fCons (fFrz (fCall F_tokenize (fCons (fVar 2) fNil))) (fCons (fVar 4) fNil)))))))))))))
noncomputable def F_law : List W → Option SV := runF 1 6 B_law
theorem len_law (ws : List W) (sv : SV) (h : F_law ws = some sv) : ws.length = 1 := runF_len h
theorem ok_law {f : Addr} {fd : FuncData} (F : Fun K "law" "law" s_law f fd) {f_tokenize : Addr} {fd_tokenize : FuncData} (G_tokenize : FnOk P w K mg base CX0 5 f_tokenize fd_tokenize ["text"] (spQ K 1 (F_tokenize))) (b_tokenize : Binds K fd_tokenize ["text"] []) (k_tokenize : PySem.W.keepIn K (.ref f_tokenize) = true) (g_tokenize : mg "tokenize" = some (.ref f_tokenize)) {f_cell : Addr} {fd_cell : FuncData} (G_cell : FnOk P w K mg base CX0 1 f_cell fd_cell ["script", "k"] (spQ K 2 (F_cell))) (b_cell : Binds K fd_cell ["script", "k"] []) (k_cell : PySem.W.keepIn K (.ref f_cell) = true) (g_cell : mg "_law_cell" = some (.ref f_cell)) {f_equal : Addr} {fd_equal : FuncData} (G_equal : FnOk P w K mg base CX0 8 f_equal fd_equal ["actual", "expected"] (spQ K 2 (F_equal 8))) (b_equal : Binds K fd_equal ["actual", "expected"] []) (k_equal : PySem.W.keepIn K (.ref f_equal) = true) (g_equal : mg "_law_equal" = some (.ref f_equal)) {f_token : Addr} {fd_token : FuncData} (G_token : FnOk P w K mg base CX0 3 f_token fd_token ["cell"] (spQ K 1 (F_token))) (b_token : Binds K fd_token ["cell"] []) (k_token : PySem.W.keepIn K (.ref f_token) = true) (g_token : mg "_law_token" = some (.ref f_token)) {f_kind : Addr} {fd_kind : FuncData} (G_kind : FnOk P w K mg base CX0 1 f_kind fd_kind ["word"] (spQ K 1 (F_kind))) (b_kind : Binds K fd_kind ["word"] []) (k_kind : PySem.W.keepIn K (.ref f_kind) = true) (g_kind : mg "_law_kind" = some (.ref f_kind)) {f_laid : Addr} {fd_laid : FuncData} (G_laid : FnOk P w K mg base CX0 2 f_laid fd_laid ["words", "cell"] (spQ K 2 (F_laid))) (b_laid : Binds K fd_laid ["words", "cell"] []) (k_laid : PySem.W.keepIn K (.ref f_laid) = true) (g_laid : mg "_law_laid" = some (.ref f_laid)) {f_value : Addr} {fd_value : FuncData} (G_value : FnOk P w K mg base CX0 2 f_value fd_value ["word"] (spQ K 1 (F_value))) (b_value : Binds K fd_value ["word"] []) (k_value : PySem.W.keepIn K (.ref f_value) = true) (g_value : mg "_law_value" = some (.ref f_value)) (m_int : mg "int" = none) (m_len : mg "len" = none) (m_range : mg "range" = none) :
    FnOk P w K mg base CX0 9 f fd ["script"] (spQ K 1 F_law) := by
  refine ok_of F sc_law rfl rfl (fun cdv A outer s H E hr => ?_)
  exact ((qseq (qset (i := 1) sc_law.nd rfl (.inr rfl) (qimm (qfrz (qlc (own := [("k", 6)]) rfl sc_law.nd (qr1 rfl m_range (qop op_mod bv_mod (qcT c_int2 cv_int rfl m_int (by decide +kernel) (qcons (qfrz (qcall G_cell (hr.mono (by decide)) rfl g_cell k_cell b_cell len_cell (qcons (qv 0) (qcons qint qnil)))) qnil)) qint)) (blkOk_by (own := [("k", 6)]) (N := ["script", "words", "text", "places", "expected", "actual", "k"]) (sc := defScope s_law) (by decide +kernel)) (fun _ _ _ _ _ => (qgn (i := 6) sc_law.nd rfl (.inl rfl))) (fun _ _ _ _ _ => qtsn) (fun _ _ _ _ _ => (qfrz (qcall G_token (hr.mono (by decide)) rfl g_token k_token b_token len_token (qcons (qfrz (qcall G_cell (hr.mono (by decide)) rfl g_cell k_cell b_cell len_cell (qcons (qv 0) (qcons (qop op_add bv_add qint (qv 6)) qnil)))) qnil))))))))
    (qseq (qasg (qfrz (qcall G_laid (hr.mono (by decide)) rfl g_laid k_laid b_laid len_laid (qcons (qv 1) (qcons (qfrz (qcall G_cell (hr.mono (by decide)) rfl g_cell k_cell b_cell len_cell (qcons (qv 0) (qcons qint qnil)))) qnil)))) (qgtup rfl (qgcons (qgn (i := 2) sc_law.nd rfl (.inl rfl)) (qgcons (qgn (i := 3) sc_law.nd rfl (.inr rfl)) qgnil)) (aCons_len (aCons_len aNil_len))))
    (qseq (qsetLc (i := 4) (own := [("k", 6)]) rfl sc_law.nd rfl rfl (sw_true rfl rfl rfl (by decide +kernel)) (qr1 rfl m_range (qcB (r := rLn K) c_len cv_len rfl m_len (by decide +kernel) (qcons (qv 1) qnil))) (blkOk_by (own := [("k", 6)]) (N := ["script", "words", "text", "places", "expected", "actual", "k"]) (sc := defScope s_law) (by decide +kernel)) (fun _ _ _ _ _ => (qgn (i := 6) sc_law.nd rfl (.inl rfl))) (fun _ _ _ _ _ => qtsn) (fun _ _ _ _ _ => (qtup (qcons (qfrz (qcall G_kind (hr.mono (by decide)) rfl g_kind k_kind b_kind len_kind (qcons (qix (qv 1) (qv 6)) qnil))) (qcons (qfrz (qcall G_value (hr.mono (by decide)) rfl g_value k_value b_value len_value (qcons (qix (qv 1) (qv 6)) qnil))) (qcons (qix (qv 3) (qv 6)) qnil))))))
    (qseq (ps_imp (ps_expr (pe_bm PySem.F.plainAttrs_list PySem.F.slot_list_append PySem.F.type_list_append mt_append (pv 4) (pa_cons (qtup (qcons qstr (qcons qstr (qcons (qcB (r := rLn K) c_len cv_len rfl m_len (by decide +kernel) (qcons (qv 2) qnil)) qnil)))) pa_nil))) fun _ _ _ => app_use)
    (qseq (qset (i := 5) sc_law.nd rfl (.inl rfl) (qcall G_tokenize (hr.mono (by decide)) rfl g_tokenize k_tokenize b_tokenize len_tokenize (qcons (qv 2) qnil)))
    (qseq (qIf (qnot (qt (qfrz (qcall G_equal (hr.mono (by decide)) rfl g_equal k_equal b_equal len_equal (qcons (qv 5) (qcons (qv 4) qnil))))))
    (qone (qret (qimm qbl)))
    qpass)
    (qseq (ps_imp (ps_expr (pe_bm0 PySem.F.plainAttrs_list PySem.F.slot_list_pop PySem.F.type_list_pop mt_pop (pv 5))) fun _ _ _ => pop_use)
    (qseq (ps_imp (ps_expr (pe_bm PySem.F.plainAttrs_list PySem.F.slot_list_append PySem.F.type_list_append mt_append (pv 5) (pa_cons (qtup (qcons qstr (qcons qstr (qcons qint qnil)))) pa_nil))) fun _ _ _ => app_use)
    (qfix 4 (qone (qret (qcall G_equal (hr.mono (by decide)) rfl g_equal k_equal b_equal len_equal (qcons (qfrz (qcall G_tokenize (hr.mono (by decide)) rfl g_tokenize k_tokenize b_tokenize len_tokenize (qcons (qv 2) qnil))) (qcons (qv 4) qnil)))))))))))))))
end
end Qw
namespace Qw
open PySem PySem.Spec PyProof.Rows L2 Nz
/-! ### the functions, step by step: a row waits until what stands ahead of it is known -/
def bO (o : Option Out) (G : En → Option Out) : Option Out := match o with
  | some (.nx e') => G e'
  | r => r
def bT (b : Option Bool) (F G : En → Option Out) (e : En) : Option Out := match b with
  | some true => F e
  | some false => G e
  | none => none
def bI (b : Option Bool) (F G : En → Option W) (e : En) : Option W := match b with
  | some true => F e
  | some false => G e
  | none => none
def bTa (b : Option Bool) (G : En → Option Bool) (e : En) : Option Bool := match b with
  | some true => G e
  | r => r
def bTo (b : Option Bool) (G : En → Option Bool) (e : En) : Option Bool := match b with
  | some false => G e
  | r => r
def bVa (b : Option W) (G : En → Option W) (e : En) : Option W := match b with
  | some (.bl true) => G e
  | some (.bl false) => some (.bl false)
  | _ => none
def bVo (b : Option W) (G : En → Option W) (e : En) : Option W := match b with
  | some (.bl false) => G e
  | some (.bl true) => some (.bl true)
  | _ => none
def b2 {α : Type} (o : W → W → Option α) (a b : Option W) : Option α := match a, b with
  | some a, some b => o a b
  | _, _ => none
def b1 {α β : Type} (o : α → Option β) (a : Option α) : Option β := match a with
  | some a => o a
  | none => none
def bc {α : Type} (a : Option α) (b : Option (List α)) : Option (List α) := match a, b with
  | some a, some b => some (a :: b)
  | _, _ => none
def bL (a : Option (List W)) (A : W → En → Option En) (F : En → Option Out) (e : En) : Option Out := match a with
  | some ws => loopW A F ws e
  | none => none
def bC (a : Option (List W)) (A : W → En → Option En) (t : En → Option Bool) (g : En → Option W) (e : En) : Option SV := match a with
  | some ws => (match lcW A t g e ws with
    | some us => if us.length ≤ sizeLine then some (.own (.lst us)) else none
    | none => none)
  | none => none
def bF (o : Option Out) : Option SV := match o with
  | some (.rt sv) => some sv
  | some (.nx _) => some (.imm .non)
  | _ => none
def bSet (e : En) (i : Nat) (a : Option SV) : Option Out := match a with
  | some sv => some (.nx (e.set i (some sv)))
  | none => none
def bSlot (s : Option (Option SV)) : Option W := match s with
  | some (some (.imm w)) => some w
  | _ => none
def bAug (e : En) (i : Nat) (o : Int → Int → Int) (s : Option (Option SV)) (b : Option W) : Option Out := match s, b with
  | some (some (.imm (.int a))), some (.int b) => some (.nx (e.set i (some (.imm (.int (o a b))))))
  | _, _ => none
def bApp (e : En) (i : Nat) (s : Option (Option SV)) (b : Option W) : Option Out := match s, b with
  | some (some (.own (.lst ws))), some w => if ws.length < sizeLine then some (.nx (e.set i (some (.own (.lst (ws ++ [w])))))) else none
  | _, _ => none
def bExt (e : En) (i : Nat) (s : Option (Option SV)) (b : Option W) : Option Out := match s, b with
  | some (some (.own (.lst ws))), some (.lst us) => if ws.length + us.length ≤ sizeLine then some (.nx (e.set i (some (.own (.lst (ws ++ us)))))) else none
  | _, _ => none
def bPop (e : En) (i : Nat) (s : Option (Option SV)) : Option Out := match s with
  | some (some (.own (.lst ws))) => if ws = [] then none else some (.nx (e.set i (some (.own (.lst ws.dropLast)))))
  | _ => none
def bSetIx (e : En) (i : Nat) (b : Option W) (s : Option (Option SV)) (j : Option W) : Option Out := match b, s, j with
  | some w, some (some (.own (.lst ws))), some (.int j) => (match ixN ws.length j with
    | some n => some (.nx (e.set i (some (.own (.lst (ws.set n w))))))
    | none => none)
  | _, _, _ => none
def bIxO (s : Option (Option SV)) (j : Option W) : Option W := match s, j with
  | some (some (.own (.lst ws))), some (.int j) => atI ws j
  | some (some (.imm w)), some u => ixW w u
  | _, _ => none
def bFlat (a : Option W) : Option W := match a with
  | some w => if flatW w = true then some w else none
  | none => none
def bBl (a : Option W) : Option Bool := match a with
  | some (.bl b) => some b
  | _ => none
def bSome (a : Option W) : Option (Option Int) := match a with
  | some (.int i) => some (some i)
  | _ => none
def bSl (o : W → Option Int → Option Int → Option SV) (a : Option W) (l u : Option (Option Int)) : Option SV := match a, l, u with
  | some a, some l, some u => o a l u
  | _, _, _ => none
def bNotV (a : Option W) : Option W := match a with
  | some (.bl b) => some (.bl (!b))
  | _ => none
def bSeq (a : Option W) : Option (List W) := match a with
  | some (.lst ws) => some ws
  | some (.tup ws) => some ws
  | some (.klst ws) => some ws
  | some (.ktup ws) => some ws
  | some (.str s) => some (s.cps.toList.map fun c => .str ⟨#[c]⟩)
  | _ => none
def bR1 (a : Option W) : Option (List W) := match a with
  | some (.int n) => if inR n = true then some (rngW 0 n.toNat) else none
  | _ => none
def bR2 (a b : Option W) : Option (List W) := match a, b with
  | some (.int m), some (.int n) => if inR m = true ∧ inR n = true then some (rngW m (n - m).toNat) else none
  | _, _ => none
def bAsg (A : W → En → Option En) (a : Option W) (e : En) : Option Out := match a with
  | some w => (match A w e with
    | some e' => some (.nx e')
    | none => none)
  | none => none
def bLoop (A : W → En → Option En) (F : En → Option Out) (ws : List W) (o : Option Out) : Option Out := match o with
  | some (.nx e2) => loopW A F ws e2
  | some (.ct e2) => loopW A F ws e2
  | some (.bk e2) => some (.nx e2)
  | r => r
theorem nr {α : Type} {a b : α} (h : a = b) : a = b := h
section
variable {e : En} {f g : En → Option W} {F G : En → Option Out} {t u : En → Option Bool} {A : W → En → Option En} {fs : En → Option (List W)} {fr : En → Option SV} {i n m : Nat}
theorem q_seq : sSeq F G e = bO (F e) G := nr rfl
theorem q_if : sIf t F G e = bT (t e) F G e := nr rfl
theorem q_fif : fIf t f g e = bI (t e) f g e := nr rfl
theorem q_and : fAnd t u e = bTa (t e) u e := nr rfl
theorem q_or : fOr t u e = bTo (t e) u e := nr rfl
theorem q_andV : fAndV f g e = bVa (f e) g e := nr rfl
theorem q_orV : fOrV f g e = bVo (f e) g e := nr rfl
theorem q_bin {o : W → W → Option W} : fBin o f g e = b2 o (f e) (g e) := by
  unfold fBin b2
  cases f e <;> cases g e <;> rfl
theorem q_binR {o : W → W → Option SV} : fBinR o f g e = b2 o (f e) (g e) := by
  unfold fBinR b2
  cases f e <;> cases g e <;> rfl
theorem q_un {o : W → Option W} : fUn o f e = b1 o (f e) := by
  unfold fUn b1
  cases f e <;> rfl
theorem q_frz : fFrz fr e = b1 (fun sv => some sv.w) (fr e) := by
  unfold fFrz b1
  cases fr e <;> rfl
theorem q_imm : fImm f e = b1 (fun w => some (SV.imm w)) (f e) := by
  unfold fImm b1
  cases f e <;> rfl
theorem q_nil : fNil e = some [] := nr rfl
theorem q_cons : fCons f fs e = bc (f e) (fs e) := by
  unfold fCons bc
  cases f e <;> cases fs e <;> rfl
theorem q_call {o : List W → Option SV} : fCall o fs e = b1 o (fs e) := by
  unfold fCall b1
  cases fs e <;> rfl
theorem q_callW {o : List W → Option W} : fCallW o fs e = b1 o (fs e) := by
  unfold fCallW b1
  cases fs e <;> rfl
theorem q_c0 {w : W} : fC w e = some w := nr rfl
theorem q_var : fVar i e = bSlot e[i]? := nr rfl
theorem q_ret : sRet fr e = b1 (fun sv => some (Out.rt sv)) (fr e) := by
  unfold sRet b1
  cases fr e <;> rfl
theorem q_set : sSet i fr e = bSet e i (fr e) := nr rfl
theorem q_aug {o : Int → Int → Int} : sAug i o f e = bAug e i o e[i]? (f e) := by
  unfold sAug bAug
  split
  next a h =>
    rw [h]
    split
    next b h => rw [h]
    next h => split <;> simp_all
  next h => split <;> simp_all
theorem q_app : sApp i f e = bApp e i e[i]? (f e) := by
  unfold sApp bApp
  split
  next a h =>
    rw [h]
    split
    next b h => rw [h]
    next h => rw [h]
  next h => split <;> simp_all
theorem q_ext : sExt i f e = bExt e i e[i]? (f e) := by
  unfold sExt bExt
  split
  next a h =>
    rw [h]
    split
    next b h => rw [h]
    next h => split <;> simp_all
  next h => split <;> simp_all
theorem q_pop : sPop i e = bPop e i e[i]? := nr rfl
theorem q_setIx : sSetIx i g f e = bSetIx e i (f e) e[i]? (g e) := by
  unfold sSetIx bSetIx
  split
  next w h =>
    rw [h]
    split
    next ws h =>
      rw [h]
      split
      next j h => first | (rw [h]; done) | (rw [h]; rfl)
      next h => split <;> simp_all
    next h => split <;> simp_all
  next h => rw [h]
theorem q_ixo : fIxOwn i g e = bIxO e[i]? (g e) := by
  unfold fIxOwn bIxO
  split
  next ws h =>
    rw [h]
    split
    next j h => rw [h]
    next h => split <;> simp_all
  next w h =>
    rw [h]
    split
    next j h => rw [h]
    next h => rw [h]
  next h h2 => split <;> simp_all
theorem q_bor : fBor f e = bFlat (f (view e)) := nr rfl
theorem q_tru : fTru f e = b1 truW (f (view e)) := by
  unfold fTru b1
  cases f (view e) <;> rfl
theorem q_tst : fTst f e = bBl (f (view e)) := nr rfl
theorem q_not : fNot t e = b1 (fun b => some (!b)) (t e) := by
  unfold fNot b1
  cases t e <;> rfl
theorem q_notV : fNotV f e = bNotV (f e) := nr rfl
theorem q_no : fNone e = some none := nr rfl
theorem q_so : fSome f e = bSome (f e) := nr rfl
theorem q_sl {o : W → Option Int → Option Int → Option SV} {l h : En → Option (Option Int)} : fSl o f l h e = bSl o (f e) (l e) (h e) := by
  unfold fSl bSl
  cases f e <;> cases l e <;> cases h e <;> rfl
theorem q_sq : fSeq f e = bSeq (f e) := nr rfl
theorem q_r1 : fRng1 f e = bR1 (f e) := nr rfl
theorem q_r2 : fRng2 f g e = bR2 (f e) (g e) := by
  unfold fRng2 bR2
  split
  next a h =>
    rw [h]
    split
    next b h => rw [h]
    next h => split <;> simp_all
  next h => split <;> simp_all
theorem q_for : sFor fs A F e = bL (fs e) A F e := nr rfl
theorem q_lc {vs : List Nat} : fLc fs A t g vs e = bC (fs e) A t g (wipeE e vs) := nr rfl
theorem q_asg : sAsg A f e = bAsg A (f e) e := nr rfl
theorem q_yes : fYes e = some true := nr rfl
theorem q_next : sNext e = some (.nx e) := nr rfl
theorem q_fix : sFix i G e = G (fixSlot e i) := nr rfl
theorem q_slot : fSlot i e = b1 id e[i]? := by
  unfold fSlot b1
  cases e[i]? with
  | none => rfl
  | some o => cases o <;> rfl
theorem q_drop : sDrop f e = b1 (fun _ => some (.nx e)) (f e) := by
  unfold sDrop b1
  cases f e <;> rfl
theorem q_met {o : W → List W → Option W} : fMet o f fs e = (match f e, fs e with | some a, some ws => o a ws | _, _ => none) := by
  unfold fMet
  cases f e <;> cases fs e <;> rfl
theorem q_run {B : En → Option Out} {ws : List W} : runF n m B ws = if ws.length = n then bF (B (ws.map (fun w => some (.imm w)) ++ List.replicate m none)) else none := by
  unfold runF bF
  rfl
theorem q_loop {w : W} {ws : List W} : loopW A F (w :: ws) e = (match A w e with
    | some e1 => bLoop A F ws (F e1)
    | none => none) := by
  simp only [loopW]
  cases A w e with
  | none => rfl
  | some e1 => rfl
/-! the answers -/
variable {e' : En} {sv : SV} {w w' : W} {α β : Type}
theorem q1 : bO (some (.nx e')) G = G e' := nr rfl
theorem q2 : bO (some (.rt sv)) G = some (.rt sv) := nr rfl
theorem q2b : bO (some (.bk e')) G = some (.bk e') := nr rfl
theorem q2c : bO (some (.ct e')) G = some (.ct e') := nr rfl
theorem q3 : bT (some true) F G e = F e := nr rfl
theorem q4 : bT (some false) F G e = G e := nr rfl
theorem q5 : bI (some true) f g e = f e := nr rfl
theorem q6 : bI (some false) f g e = g e := nr rfl
theorem q7 : bTa (some true) t e = t e := nr rfl
theorem q8 : bTa (some false) t e = some false := nr rfl
theorem q9 : bTo (some true) t e = some true := nr rfl
theorem q10 : bTo (some false) t e = t e := nr rfl
theorem q11 : bVa (some (.bl true)) f e = f e := nr rfl
theorem q12 : bVa (some (.bl false)) f e = some (.bl false) := nr rfl
theorem q13 : bVo (some (.bl true)) f e = some (.bl true) := nr rfl
theorem q14 : bVo (some (.bl false)) f e = f e := nr rfl
theorem q15 {o : W → W → Option α} : b2 o (some w) (some w') = o w w' := nr rfl
theorem q16 {o : α → Option β} {a : α} : b1 o (some a) = o a := nr rfl
theorem q17 {a : α} {as : List α} : bc (some a) (some as) = some (a :: as) := nr rfl
theorem q18 {ws : List W} : bL (some ws) A F e = loopW A F ws e := nr rfl
theorem q19 : bF (some (.rt sv)) = some sv := nr rfl
theorem q20 : bF (some (.nx e)) = some (.imm .non) := nr rfl
theorem q21 : bSet e i (some sv) = some (.nx (e.set i (some sv))) := nr rfl
theorem q22 : bSlot (some (some (.imm w))) = some w := nr rfl
theorem q23 {o : Int → Int → Int} {a b : Int} : bAug e i o (some (some (.imm (.int a)))) (some (.int b)) = some (.nx (e.set i (some (.imm (.int (o a b)))))) := nr rfl
theorem q24 {ws : List W} (h : ws.length < 16777216) : bApp e i (some (some (.own (.lst ws)))) (some w) = some (.nx (e.set i (some (.own (.lst (ws ++ [w])))))) := if_pos h
theorem q25 {ws us : List W} (h : ws.length + us.length ≤ 16777216) : bExt e i (some (some (.own (.lst ws)))) (some (.lst us)) = some (.nx (e.set i (some (.own (.lst (ws ++ us)))))) := if_pos h
theorem q26 {ws : List W} : bPop e i (some (some (.own (.lst ws)))) = if ws = [] then none else some (.nx (e.set i (some (.own (.lst ws.dropLast))))) := nr rfl
theorem q27 {ws : List W} {j : Int} : bSetIx e i (some w) (some (some (.own (.lst ws)))) (some (.int j)) = (match ixN ws.length j with
    | some n => some (.nx (e.set i (some (.own (.lst (ws.set n w))))))
    | none => none) := nr rfl
theorem q28 {ws : List W} {j : Int} : bIxO (some (some (.own (.lst ws)))) (some (.int j)) = atI ws j := nr rfl
theorem q29 : bIxO (some (some (.imm w))) (some w') = ixW w w' := nr rfl
theorem q30 {i : Int} : bFlat (some (.int i)) = some (.int i) := nr rfl
theorem q31 {i : Bool} : bFlat (some (.bl i)) = some (.bl i) := nr rfl
theorem q32 {i : Str} : bFlat (some (.str i)) = some (.str i) := nr rfl
theorem q33 {b : Bool} : bBl (some (.bl b)) = some b := nr rfl
theorem q34 {i : Int} : bSome (some (.int i)) = some (some i) := nr rfl
theorem q35 {o : W → Option Int → Option Int → Option SV} {l h : Option Int} : bSl o (some w) (some l) (some h) = o w l h := nr rfl
theorem q36 {b : Bool} : bNotV (some (.bl b)) = some (.bl (!b)) := nr rfl
theorem q37 {ws : List W} : bSeq (some (.lst ws)) = some ws := nr rfl
theorem q38 {ws : List W} : bSeq (some (.tup ws)) = some ws := nr rfl
theorem q39 {ws : List W} : bSeq (some (.klst ws)) = some ws := nr rfl
theorem q39b {ws : List W} : bSeq (some (.ktup ws)) = some ws := nr rfl
theorem q40 {s : Str} : bSeq (some (.str s)) = some (s.cps.toList.map fun c => .str ⟨#[c]⟩) := nr rfl
theorem q41 {n : Int} (h : -4611686018427387904 ≤ n ∧ n < 4611686018427387904) : bR1 (some (.int n)) = some (rngW 0 n.toNat) := if_pos (decide_eq_true h)
theorem q42 {m n : Int} (h : -4611686018427387904 ≤ m ∧ m < 4611686018427387904) (h2 : -4611686018427387904 ≤ n ∧ n < 4611686018427387904) : bR2 (some (.int m)) (some (.int n)) = some (rngW m (n - m).toNat) := if_pos ⟨decide_eq_true h, decide_eq_true h2⟩
theorem q43 {ws us : List W} (h : lcW A t g e ws = some us) (h2 : us.length ≤ 16777216) : bC (some ws) A t g e = some (.own (.lst us)) := by
  unfold bC
  simp only [h]
  exact if_pos h2
theorem q44 {ws : List W} : bLoop A F ws (some (.nx e)) = loopW A F ws e := nr rfl
theorem q45 {ws : List W} : bLoop A F ws (some (.ct e)) = loopW A F ws e := nr rfl
theorem q46 {ws : List W} : bLoop A F ws (some (.bk e)) = some (.nx e) := nr rfl
theorem q47 {ws : List W} : bLoop A F ws (some (.rt sv)) = some (.rt sv) := nr rfl
theorem q48 : bAsg A (some w) e = (match A w e with
    | some e' => some (.nx e')
    | none => none) := nr rfl
theorem q_loop0 : loopW A F [] e = some (.nx e) := nr rfl
theorem q_sv1 : SV.w (.imm w) = w := nr rfl
theorem q_sv2 : SV.w (.own w) = w := nr rfl
/-! operations -/
theorem o_add {i j : Int} : addI (.int i) (.int j) = some (.int (i + j)) := nr rfl
theorem o_sub {i j : Int} : subW (.int i) (.int j) = some (.int (i - j)) := nr rfl
theorem o_mulR {i j : Int} (h : -18446744073709551616 < j ∧ j < 18446744073709551616) : mulW (.int i) (.int j) = some (.int (i * j)) := by
  unfold mulW
  exact if_pos (.inr (decide_eq_true h))
theorem o_mulL {i j : Int} (h : -18446744073709551616 < i ∧ i < 18446744073709551616) : mulW (.int i) (.int j) = some (.int (i * j)) := by
  unfold mulW
  exact if_pos (.inl (decide_eq_true h))
theorem o_mod {i j : Int} (h : 0 < j) : modW (.int i) (.int j) = some (.int (i % j)) := by
  unfold modW
  exact if_pos h
theorem o_div {i j : Int} (h : 0 < j) (h2 : j < 1606938044258990275541962092341162602522202993782792835301376) : divW (.int i) (.int j) = some (.int (i / j)) := by
  unfold divW
  exact if_pos ⟨h, Int.lt_trans h2 (by decide)⟩
theorem o_addS {a b : Str} (h : a.length + b.length ≤ 16777216) : addW (.str a) (.str b) = some (.imm (.str (a ++ b))) := by
  unfold addW
  exact if_pos h
theorem o_addI {i j : Int} : addW (.int i) (.int j) = some (.imm (.int (i + j))) := nr rfl
theorem o_addL {a b : List W} (h : a.length + b.length ≤ 16777216) : addW (.lst a) (.lst b) = some (.own (.lst (a ++ b))) := by
  unfold addW
  exact if_pos h
theorem o_addT {a b : List W} (h : a.length + b.length ≤ 16777216) : addW (.tup a) (.tup b) = some (.imm (.tup (a ++ b))) := by
  unfold addW
  exact if_pos h
theorem o_pow {i j : Int} (h : 0 ≤ j ∧ j ≤ 1000) (h2 : i.natAbs < 18446744073709551616) : powW (.int i) (.int j) = some (.int (i ^ j.toNat)) := by
  unfold powW
  exact if_pos ⟨h.1, h.2, h2⟩
theorem o_p18 : powW (.int 10) (.int 18) = some (.int 1000000000000000000) := by
  unfold powW
  exact if_pos (by decide)
theorem o_neg {i : Int} : negW (.int i) = some (.int (-i)) := nr rfl
theorem o_cmp {p : Int → Int → Bool} {i j : Int} : cmpI p (.int i) (.int j) = some (.bl (p i j)) := nr rfl
theorem o_eqI {i j : Int} : eqW (.int i) (.int j) = some (.bl (decide (i = j))) := nr rfl
theorem o_eqS {i j : Str} : eqW (.str i) (.str j) = some (.bl (decide (i = j))) := nr rfl
theorem o_eqB {i j : Bool} : eqW (.bl i) (.bl j) = some (.bl (decide (i = j))) := nr rfl
theorem o_neI {i j : Int} : neW (.int i) (.int j) = some (.bl (!decide (i = j))) := nr rfl
theorem o_neS {i j : Str} : neW (.str i) (.str j) = some (.bl (!decide (i = j))) := nr rfl
theorem o_len1 {ws : List W} : lenW [.lst ws] = some (.int ws.length) := nr rfl
theorem o_len2 {ws : List W} : lenW [.tup ws] = some (.int ws.length) := nr rfl
theorem o_len3 {ws : List W} : lenW [.klst ws] = some (.int ws.length) := nr rfl
theorem o_lenS {s : Str} (h : s.length ≤ 16777216) : lenW [.str s] = some (.int s.length) := by
  unfold lenW
  exact if_pos h
theorem o_int {i : Int} : intW [.int i] = some (.int i) := nr rfl
theorem o_ix1 {ws : List W} {i : Int} : ixW (.lst ws) (.int i) = atI ws i := nr rfl
theorem o_ix2 {ws : List W} {i : Int} : ixW (.tup ws) (.int i) = atI ws i := nr rfl
theorem o_ix3 {ws : List W} {i : Int} : ixW (.klst ws) (.int i) = atI ws i := nr rfl
theorem o_tup {ws : List W} (h : ws.length ≤ 16777216) : tupL ws = some (.tup ws) := if_pos h
theorem o_lst {ws : List W} (h : ws.length ≤ 16777216) : lstL ws = some (.own (.lst ws)) := if_pos h
theorem o_list1 {ws : List W} : listW [.lst ws] = some (.own (.lst ws)) := nr rfl
theorem o_list2 {ws : List W} : listW [.tup ws] = some (.own (.lst ws)) := nr rfl
theorem o_tuple1 {ws : List W} : tupleW [.lst ws] = some (.tup ws) := nr rfl
theorem o_tuple2 {ws : List W} : tupleW [.tup ws] = some (.tup ws) := nr rfl
theorem o_max {i j : Int} : max2W [.int i, .int j] = some (.int (if j > i then j else i)) := nr rfl
theorem o_min {i j : Int} : min2W [.int i, .int j] = some (.int (if j < i then j else i)) := nr rfl
theorem o_slL {ws : List W} {l h : Option Int} : slW (.lst ws) l h = some (.own (.lst (cutW ws l h))) := nr rfl
theorem o_slT {ws : List W} {l h : Option Int} : slW (.tup ws) l h = some (.imm (.tup (cutW ws l h))) := nr rfl
theorem o_slS {z : Str} {l h : Option Int} (q : z.length ≤ 16777216) : slW (.str z) l h = some (.imm (.str (cutS z l h))) := by
  unfold slW
  exact if_pos q
theorem o_mulSt {s : Str} {k : Int} (h : -4611686018427387904 ≤ k ∧ k < 1048576 ∧ s.length ≤ 1048576 ∧ s.length * k.toNat ≤ 16777216) : mulS (.str s) (.int k) = some (.str (repStr s k.toNat)) := by
  unfold mulS
  exact if_pos h
theorem o_isIint {i : Int} : isiW [(.int i), .opq (.ty "int")] = some (.bl true) := by simp [isiW, tyName, isTy]
theorem o_isIbool {i : Int} : isiW [(.int i), .opq (.ty "bool")] = some (.bl false) := by simp [isiW, tyName, isTy]
theorem o_isIstr {i : Int} : isiW [(.int i), .opq (.ty "str")] = some (.bl false) := by simp [isiW, tyName, isTy]
theorem o_isIlist {i : Int} : isiW [(.int i), .opq (.ty "list")] = some (.bl false) := by simp [isiW, tyName, isTy]
theorem o_isItuple {i : Int} : isiW [(.int i), .opq (.ty "tuple")] = some (.bl false) := by simp [isiW, tyName, isTy]
theorem o_isBint {b : Bool} : isiW [(.bl b), .opq (.ty "int")] = some (.bl true) := by simp [isiW, tyName, isTy]
theorem o_isBbool {b : Bool} : isiW [(.bl b), .opq (.ty "bool")] = some (.bl true) := by simp [isiW, tyName, isTy]
theorem o_isBstr {b : Bool} : isiW [(.bl b), .opq (.ty "str")] = some (.bl false) := by simp [isiW, tyName, isTy]
theorem o_isBlist {b : Bool} : isiW [(.bl b), .opq (.ty "list")] = some (.bl false) := by simp [isiW, tyName, isTy]
theorem o_isBtuple {b : Bool} : isiW [(.bl b), .opq (.ty "tuple")] = some (.bl false) := by simp [isiW, tyName, isTy]
theorem o_isSint {s : Str} : isiW [(.str s), .opq (.ty "int")] = some (.bl false) := by simp [isiW, tyName, isTy]
theorem o_isSbool {s : Str} : isiW [(.str s), .opq (.ty "bool")] = some (.bl false) := by simp [isiW, tyName, isTy]
theorem o_isSstr {s : Str} : isiW [(.str s), .opq (.ty "str")] = some (.bl true) := by simp [isiW, tyName, isTy]
theorem o_isSlist {s : Str} : isiW [(.str s), .opq (.ty "list")] = some (.bl false) := by simp [isiW, tyName, isTy]
theorem o_isStuple {s : Str} : isiW [(.str s), .opq (.ty "tuple")] = some (.bl false) := by simp [isiW, tyName, isTy]
theorem o_isLint {ws : List W} : isiW [(.lst ws), .opq (.ty "int")] = some (.bl false) := by simp [isiW, tyName, isTy]
theorem o_isLbool {ws : List W} : isiW [(.lst ws), .opq (.ty "bool")] = some (.bl false) := by simp [isiW, tyName, isTy]
theorem o_isLstr {ws : List W} : isiW [(.lst ws), .opq (.ty "str")] = some (.bl false) := by simp [isiW, tyName, isTy]
theorem o_isLlist {ws : List W} : isiW [(.lst ws), .opq (.ty "list")] = some (.bl true) := by simp [isiW, tyName, isTy]
theorem o_isLtuple {ws : List W} : isiW [(.lst ws), .opq (.ty "tuple")] = some (.bl false) := by simp [isiW, tyName, isTy]
theorem o_isTint {ws : List W} : isiW [(.tup ws), .opq (.ty "int")] = some (.bl false) := by simp [isiW, tyName, isTy]
theorem o_isTbool {ws : List W} : isiW [(.tup ws), .opq (.ty "bool")] = some (.bl false) := by simp [isiW, tyName, isTy]
theorem o_isTstr {ws : List W} : isiW [(.tup ws), .opq (.ty "str")] = some (.bl false) := by simp [isiW, tyName, isTy]
theorem o_isTlist {ws : List W} : isiW [(.tup ws), .opq (.ty "list")] = some (.bl false) := by simp [isiW, tyName, isTy]
theorem o_isTtuple {ws : List W} : isiW [(.tup ws), .opq (.ty "tuple")] = some (.bl true) := by simp [isiW, tyName, isTy]
theorem o_isNint  : isiW [.non, .opq (.ty "int")] = some (.bl false) := by simp [isiW, tyName, isTy]
theorem o_isNbool  : isiW [.non, .opq (.ty "bool")] = some (.bl false) := by simp [isiW, tyName, isTy]
theorem o_isNstr  : isiW [.non, .opq (.ty "str")] = some (.bl false) := by simp [isiW, tyName, isTy]
theorem o_isNlist  : isiW [.non, .opq (.ty "list")] = some (.bl false) := by simp [isiW, tyName, isTy]
theorem o_isNtuple  : isiW [.non, .opq (.ty "tuple")] = some (.bl false) := by simp [isiW, tyName, isTy]
theorem bools_rep : ∀ n : Nat, bools (List.replicate n (W.bl true)) = some (List.replicate n true)
  | 0 => rfl
  | n + 1 => by simp only [List.replicate_succ, bools, bools_rep n]
theorem o_allT {n : Nat} : allW [.lst (List.replicate n (W.bl true))] = some (.bl true) := by
  simp only [allW, bools_rep, List.all_replicate]
  cases n <;> rfl
theorem o_truB {b : Bool} : truW (.bl b) = some b := nr rfl
theorem o_truN : truW .non = some false := nr rfl
theorem o_truI {i : Int} : truW (.int i) = some (i != 0) := nr rfl
theorem o_truL {ws : List W} : truW (.lst ws) = some (!ws.isEmpty) := nr rfl
theorem o_truT {ws : List W} : truW (.tup ws) = some (!ws.isEmpty) := nr rfl
/-! walks -/
theorem lcW_map {A : W → En → Option En} {t : En → Option Bool} {g : En → Option W} {e : En} {h : W → W} : ∀ {ws : List W}, (∀ w ∈ ws, ∃ e1, A w e = some e1 ∧ t e1 = some true ∧ g e1 = some (h w)) → lcW A t g e ws = some (ws.map h)
  | [], _ => rfl
  | w :: ws, q => by
    obtain ⟨e1, h1, h2, h3⟩ := q w List.mem_cons_self
    simp only [lcW, h1, h2, h3, lcW_map fun w' hw => q w' (List.mem_cons_of_mem _ hw), List.map_cons]
theorem lcW_some {A : W → En → Option En} {t : En → Option Bool} {g : En → Option W} {e : En} {R : W → W → Prop} : ∀ {ws : List W}, (∀ w ∈ ws, ∃ e1 u, A w e = some e1 ∧ t e1 = some true ∧ g e1 = some u ∧ R w u) → ∃ us, lcW A t g e ws = some us ∧ us.length = ws.length ∧ ∀ (i : Nat) w u, ws[i]? = some w → us[i]? = some u → R w u
  | [], _ => ⟨[], rfl, rfl, fun i w u h => by simp at h⟩
  | w :: ws, q => by
    obtain ⟨e1, u, h1, h2, h3, h4⟩ := q w List.mem_cons_self
    obtain ⟨us, r1, r2, r3⟩ := lcW_some (ws := ws) fun w' hw => q w' (List.mem_cons_of_mem _ hw)
    refine ⟨u :: us, by simp only [lcW, h1, h2, h3, r1], by simp [r2], fun i w' u' a b => ?_⟩
    cases i with
    | zero =>
      simp at a b
      subst a b
      exact h4
    | succ i => exact r3 i w' u' (by simpa using a) (by simpa using b)
/-- a loop by its word: every turn goes on -/
theorem loop_inv {A : W → En → Option En} {F : En → Option Out} {ws : List W} (P : Nat → En → Prop) {e0 : En} (h0 : P 0 e0)
    (hs : ∀ (i : Nat) (w : W) (e : En), ws[i]? = some w → P i e → ∃ e1 e2, A w e = some e1 ∧ F e1 = some (.nx e2) ∧ P (i + 1) e2) : ∃ e', loopW A F ws e0 = some (.nx e') ∧ P ws.length e' := by
  have go : ∀ (us : List W) (k : Nat) (e : En), ws.drop k = us → P k e → ∃ e', loopW A F us e = some (.nx e') ∧ P (k + us.length) e' := fun us => by
    induction us with
    | nil => intro k e _ p; exact ⟨e, rfl, p⟩
    | cons u us ih =>
      intro k e hd p
      have hk : ws[k]? = some u := by
        have := congrArg (·[0]?) hd
        simpa using this
      obtain ⟨e1, e2, a, b, c⟩ := hs k u e hk p
      obtain ⟨e', r1, r2⟩ := ih (k + 1) e2 (by rw [← List.drop_drop, hd]; rfl) c
      refine ⟨e', ?_, by rw [List.length_cons, show k + (us.length + 1) = k + 1 + us.length by omega]; exact r2⟩
      simp only [loopW, a, b]
      exact r1
  obtain ⟨e', a, b⟩ := go ws 0 e0 rfl h0
  exact ⟨e', a, by simpa using b⟩
theorem loop_is {A : W → En → Option En} {F : En → Option Out} {ws : List W} {e0 : En} {L : Option Out} (hL : loopW A F ws e0 = L) (P : Nat → En → Prop) (h0 : P 0 e0)
    (hs : ∀ (i : Nat) (w : W) (e : En), ws[i]? = some w → P i e → ∃ e1, A w e = some e1 ∧ ∃ e2, F e1 = some (.nx e2) ∧ P (i + 1) e2) : ∃ e', L = some (.nx e') ∧ P ws.length e' := by
  subst hL
  exact loop_inv P h0 fun i w e hw p => by
    obtain ⟨e1, a, e2, b, c⟩ := hs i w e hw p
    exact ⟨e1, e2, a, b, c⟩
theorem rngW_get {lo : Int} {n i : Nat} {w : W} (h : (rngW lo n)[i]? = some w) : i < n ∧ w = .int (lo + (i : Nat)) := by
  unfold rngW at h
  rw [List.getElem?_map] at h
  by_cases hi : i < n
  · rw [List.getElem?_range hi] at h
    cases h
    exact ⟨hi, rfl⟩
  · rw [List.getElem?_eq_none (by simpa using hi)] at h
    cases h
theorem rngW_mem {lo : Int} {n : Nat} {w : W} (h : w ∈ rngW lo n) : ∃ i : Nat, i < n ∧ w = .int (lo + (i : Nat)) := by
  obtain ⟨i, hi⟩ := List.mem_iff_getElem?.mp h
  exact ⟨i, rngW_get hi⟩
theorem rngW_len {lo : Int} {n : Nat} : (rngW lo n).length = n := by simp [rngW]
theorem atI_at {ws : List W} {j : Nat} {w : W} (h : ws[j]? = some w) : atI ws (j : Int) = some w := atI_nat h
end
end Qw
namespace Qw
open PySem PySem.Spec PyProof.Rows L2 Nz
/-! ### texts as rows of code points -/
abbrev T (l : List Nat) : Str := ⟨l.toArray⟩
theorem t_eta (z : Str) : T z.cps.toList = z := by
  obtain ⟨⟨l⟩⟩ := z
  rfl
theorem t_len (l : List Nat) : (T l).length = l.length := by simp [T, Str.length]
theorem t_inj {a b : List Nat} : T a = T b ↔ a = b := ⟨fun h => congrArg (fun x : Str => x.cps.toList) h, fun h => by rw [h]⟩
theorem t_dec {a b : List Nat} : decide (T a = T b) = decide (a = b) := decide_eq_decide.mpr t_inj
theorem t_add (a b : List Nat) : T a ++ T b = T (a ++ b) := SX.S_cat a b
theorem t_toL (l : List Nat) : (T l).cps.toList = l := rfl
theorem t_ix {l : List Nat} {i : Nat} {c : Nat} (h : l.length ≤ 16777216) (hc : l[i]? = some c) : ixW (.str (T l)) (.int (i : Int)) = some (.str (T [c])) := by
  unfold ixW
  simp only
  rw [if_pos (by rw [t_len]; exact h)]
  show (atI l (i : Int)).map _ = _
  rw [atI_nat hc]
  rfl
theorem t_in1 {l : List Nat} {c : Nat} : inW (.str (T [c])) (.str (T l)) = some (.bl (decide (c ∈ l))) := by
  unfold inW inB inStr
  simp [t_toL]
theorem t_notIn1 {l : List Nat} {c : Nat} : notInW (.str (T [c])) (.str (T l)) = some (.bl (!decide (c ∈ l))) := by
  unfold notInW inB inStr
  simp [t_toL]
theorem inV_T {a : List Nat} : ∀ ls : List (List Nat), inV (.str (T a)) ((ls.map fun l => W.str (T l)).map toV) = decide (a ∈ ls)
  | [] => rfl
  | l :: ls => by
    have ih := inV_T (a := a) ls
    unfold inV at ih ⊢
    rw [List.map_cons, List.map_cons, List.any_cons, ih]
    show ((T l == T a) || decide (a ∈ ls)) = decide (a ∈ l :: ls)
    by_cases h : a = l
    · subst h
      simp
    · have h1 : (T l == T a) = false := by
        rw [beq_eq_false_iff_ne]
        exact fun z => h (t_inj.mp z).symm
      rw [h1, Bool.false_or]
      exact decide_eq_decide.mpr (by simp [h])
theorem flat_T (ls : List (List Nat)) : (ls.map fun l => W.str (T l)).all flatW = true := by
  rw [List.all_eq_true]
  intro w hw
  obtain ⟨l, _, rfl⟩ := List.mem_map.mp hw
  rfl
theorem t_inL {a : List Nat} {ls : List (List Nat)} : inW (.str (T a)) (.lst (ls.map fun l => W.str (T l))) = some (.bl (decide (a ∈ ls))) := by
  unfold inW inB inSeq
  simp only
  rw [if_pos ⟨rfl, flat_T ls⟩]
  show some (W.bl (inV (.str (T a)) _)) = _
  rw [inV_T]
theorem t_inT {a : List Nat} {ls : List (List Nat)} : inW (.str (T a)) (.tup (ls.map fun l => W.str (T l))) = some (.bl (decide (a ∈ ls))) := by
  unfold inW inB inSeq
  simp only
  rw [if_pos ⟨rfl, flat_T ls⟩]
  show some (W.bl (inV (.str (T a)) _)) = _
  rw [inV_T]
theorem t_inK {a : List Nat} {ls : List (List Nat)} : inW (.str (T a)) (.ktup (ls.map fun l => W.str (T l))) = some (.bl (decide (a ∈ ls))) := t_inT (a := a) (ls := ls)
theorem t_cut (l : List Nat) (i j : Nat) : cutS (T l) (some (i : Int)) (some (j : Int)) = T ((l.drop (min i l.length)).take (min j l.length - min i l.length)) := by
  unfold cutS
  rw [t_len, HT.sIx_nat, HT.sIx_nat]
theorem t_cutTo (l : List Nat) (j : Nat) : cutS (T l) none (some (j : Int)) = T (l.take j) := by
  unfold cutS
  rw [t_len, HT.sIx_nat, HT.sIx_none, List.drop_zero, Nat.sub_zero]
  show T _ = T _
  rw [t_inj]
  show l.take _ = l.take _
  exact (List.take_eq_take_iff.mpr (by omega))
theorem t_cutFrom (l : List Nat) (i : Nat) (h : i ≤ l.length) : cutS (T l) (some (i : Int)) none = T (l.drop i) := by
  unfold cutS
  rw [t_len, HT.sIx_nat, HT.sIx_none, Nat.min_eq_left h]
  show T _ = T _
  rw [t_inj, List.take_of_length_le (by rw [List.length_drop]; exact Nat.le_refl _)]
theorem fold_T (a : List Nat) : ∀ (n : Nat) (acc : Array Nat), ((List.replicate n a.toArray).foldl (· ++ ·) acc).toList = acc.toList ++ (List.replicate n a).flatten
  | 0, acc => by simp
  | n + 1, acc => by
    rw [List.replicate_succ, List.foldl_cons, fold_T a n, List.replicate_succ, List.flatten_cons, Array.toList_append, List.append_assoc]
theorem t_rep (l : List Nat) (n : Nat) : repStr (T l) n = T (List.replicate n l).flatten := by
  rw [← t_eta (repStr (T l) n)]
  rw [t_inj]
  exact (fold_T l n #[]).trans (by simp)
theorem joinL_nil : ∀ ls : List (List Nat), TL.joinL [] ls = ls.flatten
  | [] => rfl
  | [a] => by simp [TL.joinL]
  | a :: b :: ls => by
    have := joinL_nil (b :: ls)
    simp only [TL.joinL] at this ⊢
    rw [this]
    simp
theorem t_join (ls : List (List Nat)) : Txt.join (T []) (ls.map T) = T ls.flatten := by
  rw [SX.join_S [] ls, joinL_nil]
theorem t_sw {a b : List Nat} {i : Nat} (h : i ≤ a.length) : Txt.startswith3 (T a) (T b) (i : Int) = decide ((a.drop i).take b.length = b) := by
  have e0 : fromIndex (T a).length (i : Int) = i := by
    unfold fromIndex
    rw [if_neg (by omega)]
    omega
  unfold Txt.startswith3
  rw [e0, t_len, t_len]
  have e1 : Builtin.Str.subAt (T a) (T b) i = decide ((a.drop i).take b.length = b) := by
    unfold Builtin.Str.subAt
    rw [t_len]
    rw [Bool.eq_iff_iff, beq_iff_eq, decide_eq_true_iff]
    constructor
    · intro q
      have := congrArg Array.toList q
      simpa [List.extract_eq_drop_take] using this
    · intro q
      apply Array.ext'
      simp [List.extract_eq_drop_take, q]
  rw [e1]
  by_cases q : (a.drop i).take b.length = b
  · have : i + b.length ≤ a.length := by
      have := congrArg List.length q
      rw [List.length_take, List.length_drop] at this
      omega
    rw [decide_eq_true q, decide_eq_true this]
    rfl
  · rw [decide_eq_false q, Bool.and_false]
theorem txts_T : ∀ ls : List (List Nat), txts (ls.map fun l => W.str (T l)) = some (ls.map T)
  | [] => rfl
  | l :: ls => by simp only [List.map_cons, txts, txts_T ls]
theorem t_joinW {ls : List (List Nat)} (h : (ls.map List.length).sum ≤ 16777216) : joinW (.str (T [])) (.lst (ls.map fun l => W.str (T l))) = some (.str (T ls.flatten)) := by
  unfold joinW
  simp only [txts_T]
  rw [if_pos, t_join]
  rw [List.map_map]
  have : ((fun x : Str => x.length) ∘ T) = List.length := by
    funext l
    exact t_len l
  rw [this, t_len]
  simpa using h
end Qw
namespace Qw
open PySem PySem.Spec PyProof.Rows L2 Nz
/-! ### code points -/
def digL : List Nat := [48, 49, 50, 51, 52, 53, 54, 55, 56, 57]
def smallL : List Nat := [97, 98, 99, 100, 101, 102, 103, 104, 105, 106, 107, 108, 109, 110, 111, 112, 113, 114, 115, 116, 117, 118, 119, 120, 121, 122]
def capL : List Nat := [65, 66, 67, 68, 69, 70, 71, 72, 73, 74, 75, 76, 77, 78, 79, 80, 81, 82, 83, 84, 85, 86, 87, 88, 89, 90]
def innL : List Nat := smallL ++ capL ++ digL ++ [95]
def wordL : List (List Nat) := [[97, 108, 108], [116, 114, 117, 101], [102, 97, 108, 115, 101], [110, 111, 116], [97, 110, 100], [111, 114], [114, 101, 108, 97, 116, 105, 111, 110], [118, 97, 108, 117, 101, 115], [115, 121, 109, 109, 101, 116, 114, 105, 99]]
def signL : List (List Nat) := [[40], [41], [44], [58], [61], [45, 62], [60, 45, 62]]
theorem s_dig : ("0123456789" : Str) = T digL := by decide +kernel
theorem s_small : ("abcdefghijklmnopqrstuvwxyz" : Str) = T smallL := by decide +kernel
theorem s_cap : ("ABCDEFGHIJKLMNOPQRSTUVWXYZ" : Str) = T capL := by decide +kernel
theorem s_inn : ("abcdefghijklmnopqrstuvwxyzABCDEFGHIJKLMNOPQRSTUVWXYZ0123456789_" : Str) = T innL := by decide +kernel
theorem s_us : ("_" : Str) = T [95] := by decide +kernel
theorem s_nl : ("\n" : Str) = T [10] := by decide +kernel
theorem s_e : ("" : Str) = T [] := by decide +kernel
theorem s_sp : (" " : Str) = T [32] := by decide +kernel
theorem s_words : [W.str "all", W.str "true", W.str "false", W.str "not", W.str "and", W.str "or", W.str "relation", W.str "values", W.str "symmetric"] = wordL.map fun l => W.str (T l) := by
  have h : (["all", "true", "false", "not", "and", "or", "relation", "values", "symmetric"] : List Str) = wordL.map T := by decide +kernel
  have := congrArg (List.map W.str) h
  rw [List.map_map] at this
  exact this
theorem s_signs : [W.str "(", W.str ")", W.str ",", W.str ":", W.str "=", W.str "->", W.str "<->"] = signL.map fun l => W.str (T l) := by
  have h : (["(", ")", ",", ":", "=", "->", "<->"] : List Str) = signL.map T := by decide +kernel
  have := congrArg (List.map W.str) h
  rw [List.map_map] at this
  exact this
theorem a1 : addW (.str (T smallL)) (.str (T capL)) = some (.imm (.str (T (smallL ++ capL)))) := by rw [o_addS (by decide), t_add]
theorem a2 : addW (.str (T (smallL ++ capL))) (.str (T digL)) = some (.imm (.str (T (smallL ++ capL ++ digL)))) := by rw [o_addS (by decide), t_add]
theorem a3 : addW (.str (T (smallL ++ capL ++ digL))) (.str (T [95])) = some (.imm (.str (T innL))) := by rw [o_addS (by decide), t_add]; rfl
theorem lc_chars {A : W → En → Option En} {t : En → Option Bool} {g : En → Option W} {e : En} {p : Nat → Bool} : ∀ {l : List Nat}, (∀ c ∈ l, ∃ e1, A (.str (T [c])) e = some e1 ∧ t e1 = some true ∧ g e1 = some (.bl (p c))) →
    lcW A t g e (l.map fun c => W.str ⟨#[c]⟩) = some (l.map fun c => W.bl (p c))
  | [], _ => rfl
  | c :: l, h => by
    obtain ⟨e1, a, b, d⟩ := h c List.mem_cons_self
    have a' : A (.str ⟨#[c]⟩) e = some e1 := a
    simp only [List.map_cons, lcW, a', b, d, lc_chars fun c' hc => h c' (List.mem_cons_of_mem _ hc)]
theorem bools_map {p : Nat → Bool} : ∀ l : List Nat, bools (l.map fun c => W.bl (p c)) = some (l.map p)
  | [] => rfl
  | c :: l => by simp only [List.map_cons, bools, bools_map l]
theorem all_chars {p : Nat → Bool} {l : List Nat} : allW [.lst (l.map fun c => W.bl (p c))] = some (.bl (l.all p)) := by
  simp only [allW, bools_map, List.all_map]
  rfl
theorem lw {f : List Nat → W} : lstL (wordL.map f) = some (.own (.lst (wordL.map f))) := o_lst (by rw [List.length_map]; decide)
theorem lsg {f : List Nat → W} : lstL (signL.map f) = some (.own (.lst (signL.map f))) := o_lst (by rw [List.length_map]; decide)
def kindL (l : List Nat) : Str :=
  if l ∈ wordL then "word" else if l ∈ signL then "sign" else if l = [10] then "line" else if l = [] then "end" else
  if (l.all (fun c => decide (c ∈ digL)) && decide (l.length ≤ 9)) = true then "number" else
  if (decide (l.headD 0 ∈ smallL) && l.all (fun c => decide (c ∈ innL))) = true then "name" else "odd"
theorem kind_ok (l : List Nat) (hl : l.length ≤ 1000000) : F_kind [.str (T l)] = some (.imm (.str (kindL l))) := by
  unfold F_kind B_kind kindL
  have e10 : decide (T l = T [10]) = decide (l = [10]) := t_dec
  have e0 : decide (T l = T []) = decide (l = []) := t_dec
  have hl2 : l.length ≤ 16777216 := by omega
  by_cases h1 : l ∈ wordL
  · simp only [q_seq, q_if, q_fif, q_and, q_or, q_andV, q_orV, q_bin, q_binR, q_un, q_frz, q_imm, q_nil, q_cons, q_call, q_callW, q_c0, q_var, q_ret, q_set, q_aug, q_app, q_ext, q_pop, q_setIx, q_ixo, q_bor, q_tru, q_tst, q_not, q_notV, q_no, q_so, q_sl, q_sq, q_r1, q_r2, q_for, q_lc, q_asg, q_next, q_yes, q_fix, q_slot, q_drop, q_met, q_run, q1, q2, q2b, q2c, q3, q4, q5, q6, q7, q8, q9, q10, q11, q12, q13, q14, q15, q16, q17, q18, q19, q20, q21, q22, q23, q24, q25, q26, q27, q28, q29, q30, q31, q32, q33, q34, q35, q36, q37, q38, q39, q39b, q40, q41, q42, q44, q45, q46, q47, q48, o_add, o_sub, o_mulR, o_mulL, o_mod, o_div, o_addS, o_addI, o_addL, o_addT, o_p18, o_neg, o_cmp, o_eqI, o_eqS, o_eqB, o_neI, o_neS, o_len1, o_len2, o_len3, o_lenS, o_int, o_ix1, o_ix2, o_ix3, o_tup, o_lst, o_list1, o_list2, o_tuple1, o_tuple2, o_max, o_min, o_slL, o_slT, o_slS, o_mulSt, o_isIint, o_isIbool, o_isIstr, o_isIlist, o_isItuple, o_isBint, o_isBbool, o_isBstr, o_isBlist, o_isBtuple, o_isSint, o_isSbool, o_isSstr, o_isSlist, o_isStuple, o_isLint, o_isLbool, o_isLstr, o_isLlist, o_isLtuple, o_isTint, o_isTbool, o_isTstr, o_isTlist, o_isTtuple, o_isNint, o_isNbool, o_isNstr, o_isNlist, o_isNtuple, o_allT, o_truB, o_truN, o_truI, o_truL, o_truT, q_sv1, q_sv2, view, fixSlot, wipeE, aName, aTup, aCons, aNil, List.map_cons, List.map_nil, List.length_cons, List.length_nil, List.cons_append, List.nil_append, List.replicate_succ, List.replicate_zero, List.getElem?_cons_zero, List.getElem?_cons_succ, List.set_cons_zero, List.set_cons_succ, Option.map_some, Option.map_none, reduceIte, Nat.reduceAdd, Nat.reduceEqDiff, Option.some.injEq, List.length_map, List.length_append, and_true, true_and, and_self, decide_true, decide_false, Int.reduceLT, Int.reduceNeg, Int.reduceLE, Int.reduceEq, Int.reduceMul, Int.reduceAdd, Int.reduceSub, Int.reduceMod, Int.reduceDiv, Nat.reduceLT, Nat.reduceLeDiff, Int.reducePow, Nat.reducePow, Int.reduceToNat, SV.imm.injEq, SV.own.injEq, W.int.injEq, W.str.injEq, W.bl.injEq, W.lst.injEq, W.tup.injEq, id_eq, exists_eq', exists_eq_left', Out.nx.injEq, Out.rt.injEq, Nat.zero_le, Int.toNat_natCast, not_true_eq_false, not_false_eq_true, Bool.not_true, Bool.not_false, Bool.false_and, Bool.true_and, Bool.and_true, Bool.and_false, Bool.true_or, Bool.false_or, Bool.or_true, Bool.or_false, Bool.false_eq_true, s_dig, s_small, s_cap, s_us, s_nl, s_e, s_words, s_signs, a1, a2, a3, t_inL, lw, lsg, h1]
  by_cases h2 : l ∈ signL
  · simp only [q_seq, q_if, q_fif, q_and, q_or, q_andV, q_orV, q_bin, q_binR, q_un, q_frz, q_imm, q_nil, q_cons, q_call, q_callW, q_c0, q_var, q_ret, q_set, q_aug, q_app, q_ext, q_pop, q_setIx, q_ixo, q_bor, q_tru, q_tst, q_not, q_notV, q_no, q_so, q_sl, q_sq, q_r1, q_r2, q_for, q_lc, q_asg, q_next, q_yes, q_fix, q_slot, q_drop, q_met, q_run, q1, q2, q2b, q2c, q3, q4, q5, q6, q7, q8, q9, q10, q11, q12, q13, q14, q15, q16, q17, q18, q19, q20, q21, q22, q23, q24, q25, q26, q27, q28, q29, q30, q31, q32, q33, q34, q35, q36, q37, q38, q39, q39b, q40, q41, q42, q44, q45, q46, q47, q48, o_add, o_sub, o_mulR, o_mulL, o_mod, o_div, o_addS, o_addI, o_addL, o_addT, o_p18, o_neg, o_cmp, o_eqI, o_eqS, o_eqB, o_neI, o_neS, o_len1, o_len2, o_len3, o_lenS, o_int, o_ix1, o_ix2, o_ix3, o_tup, o_lst, o_list1, o_list2, o_tuple1, o_tuple2, o_max, o_min, o_slL, o_slT, o_slS, o_mulSt, o_isIint, o_isIbool, o_isIstr, o_isIlist, o_isItuple, o_isBint, o_isBbool, o_isBstr, o_isBlist, o_isBtuple, o_isSint, o_isSbool, o_isSstr, o_isSlist, o_isStuple, o_isLint, o_isLbool, o_isLstr, o_isLlist, o_isLtuple, o_isTint, o_isTbool, o_isTstr, o_isTlist, o_isTtuple, o_isNint, o_isNbool, o_isNstr, o_isNlist, o_isNtuple, o_allT, o_truB, o_truN, o_truI, o_truL, o_truT, q_sv1, q_sv2, view, fixSlot, wipeE, aName, aTup, aCons, aNil, List.map_cons, List.map_nil, List.length_cons, List.length_nil, List.cons_append, List.nil_append, List.replicate_succ, List.replicate_zero, List.getElem?_cons_zero, List.getElem?_cons_succ, List.set_cons_zero, List.set_cons_succ, Option.map_some, Option.map_none, reduceIte, Nat.reduceAdd, Nat.reduceEqDiff, Option.some.injEq, List.length_map, List.length_append, and_true, true_and, and_self, decide_true, decide_false, Int.reduceLT, Int.reduceNeg, Int.reduceLE, Int.reduceEq, Int.reduceMul, Int.reduceAdd, Int.reduceSub, Int.reduceMod, Int.reduceDiv, Nat.reduceLT, Nat.reduceLeDiff, Int.reducePow, Nat.reducePow, Int.reduceToNat, SV.imm.injEq, SV.own.injEq, W.int.injEq, W.str.injEq, W.bl.injEq, W.lst.injEq, W.tup.injEq, id_eq, exists_eq', exists_eq_left', Out.nx.injEq, Out.rt.injEq, Nat.zero_le, Int.toNat_natCast, not_true_eq_false, not_false_eq_true, Bool.not_true, Bool.not_false, Bool.false_and, Bool.true_and, Bool.and_true, Bool.and_false, Bool.true_or, Bool.false_or, Bool.or_true, Bool.or_false, Bool.false_eq_true, s_dig, s_small, s_cap, s_us, s_nl, s_e, s_words, s_signs, a1, a2, a3, t_inL, lw, lsg, h1, h2]
  by_cases h3 : l = [10]
  · subst h3
    simp only [q_seq, q_if, q_fif, q_and, q_or, q_andV, q_orV, q_bin, q_binR, q_un, q_frz, q_imm, q_nil, q_cons, q_call, q_callW, q_c0, q_var, q_ret, q_set, q_aug, q_app, q_ext, q_pop, q_setIx, q_ixo, q_bor, q_tru, q_tst, q_not, q_notV, q_no, q_so, q_sl, q_sq, q_r1, q_r2, q_for, q_lc, q_asg, q_next, q_yes, q_fix, q_slot, q_drop, q_met, q_run, q1, q2, q2b, q2c, q3, q4, q5, q6, q7, q8, q9, q10, q11, q12, q13, q14, q15, q16, q17, q18, q19, q20, q21, q22, q23, q24, q25, q26, q27, q28, q29, q30, q31, q32, q33, q34, q35, q36, q37, q38, q39, q39b, q40, q41, q42, q44, q45, q46, q47, q48, o_add, o_sub, o_mulR, o_mulL, o_mod, o_div, o_addS, o_addI, o_addL, o_addT, o_p18, o_neg, o_cmp, o_eqI, o_eqS, o_eqB, o_neI, o_neS, o_len1, o_len2, o_len3, o_lenS, o_int, o_ix1, o_ix2, o_ix3, o_tup, o_lst, o_list1, o_list2, o_tuple1, o_tuple2, o_max, o_min, o_slL, o_slT, o_slS, o_mulSt, o_isIint, o_isIbool, o_isIstr, o_isIlist, o_isItuple, o_isBint, o_isBbool, o_isBstr, o_isBlist, o_isBtuple, o_isSint, o_isSbool, o_isSstr, o_isSlist, o_isStuple, o_isLint, o_isLbool, o_isLstr, o_isLlist, o_isLtuple, o_isTint, o_isTbool, o_isTstr, o_isTlist, o_isTtuple, o_isNint, o_isNbool, o_isNstr, o_isNlist, o_isNtuple, o_allT, o_truB, o_truN, o_truI, o_truL, o_truT, q_sv1, q_sv2, view, fixSlot, wipeE, aName, aTup, aCons, aNil, List.map_cons, List.map_nil, List.length_cons, List.length_nil, List.cons_append, List.nil_append, List.replicate_succ, List.replicate_zero, List.getElem?_cons_zero, List.getElem?_cons_succ, List.set_cons_zero, List.set_cons_succ, Option.map_some, Option.map_none, reduceIte, Nat.reduceAdd, Nat.reduceEqDiff, Option.some.injEq, List.length_map, List.length_append, and_true, true_and, and_self, decide_true, decide_false, Int.reduceLT, Int.reduceNeg, Int.reduceLE, Int.reduceEq, Int.reduceMul, Int.reduceAdd, Int.reduceSub, Int.reduceMod, Int.reduceDiv, Nat.reduceLT, Nat.reduceLeDiff, Int.reducePow, Nat.reducePow, Int.reduceToNat, SV.imm.injEq, SV.own.injEq, W.int.injEq, W.str.injEq, W.bl.injEq, W.lst.injEq, W.tup.injEq, id_eq, exists_eq', exists_eq_left', Out.nx.injEq, Out.rt.injEq, Nat.zero_le, Int.toNat_natCast, not_true_eq_false, not_false_eq_true, Bool.not_true, Bool.not_false, Bool.false_and, Bool.true_and, Bool.and_true, Bool.and_false, Bool.true_or, Bool.false_or, Bool.or_true, Bool.or_false, Bool.false_eq_true, s_dig, s_small, s_cap, s_us, s_nl, s_e, s_words, s_signs, a1, a2, a3, t_inL, lw, lsg, h1, h2]
  by_cases h4 : l = []
  · subst h4
    simp only [q_seq, q_if, q_fif, q_and, q_or, q_andV, q_orV, q_bin, q_binR, q_un, q_frz, q_imm, q_nil, q_cons, q_call, q_callW, q_c0, q_var, q_ret, q_set, q_aug, q_app, q_ext, q_pop, q_setIx, q_ixo, q_bor, q_tru, q_tst, q_not, q_notV, q_no, q_so, q_sl, q_sq, q_r1, q_r2, q_for, q_lc, q_asg, q_next, q_yes, q_fix, q_slot, q_drop, q_met, q_run, q1, q2, q2b, q2c, q3, q4, q5, q6, q7, q8, q9, q10, q11, q12, q13, q14, q15, q16, q17, q18, q19, q20, q21, q22, q23, q24, q25, q26, q27, q28, q29, q30, q31, q32, q33, q34, q35, q36, q37, q38, q39, q39b, q40, q41, q42, q44, q45, q46, q47, q48, o_add, o_sub, o_mulR, o_mulL, o_mod, o_div, o_addS, o_addI, o_addL, o_addT, o_p18, o_neg, o_cmp, o_eqI, o_eqS, o_eqB, o_neI, o_neS, o_len1, o_len2, o_len3, o_lenS, o_int, o_ix1, o_ix2, o_ix3, o_tup, o_lst, o_list1, o_list2, o_tuple1, o_tuple2, o_max, o_min, o_slL, o_slT, o_slS, o_mulSt, o_isIint, o_isIbool, o_isIstr, o_isIlist, o_isItuple, o_isBint, o_isBbool, o_isBstr, o_isBlist, o_isBtuple, o_isSint, o_isSbool, o_isSstr, o_isSlist, o_isStuple, o_isLint, o_isLbool, o_isLstr, o_isLlist, o_isLtuple, o_isTint, o_isTbool, o_isTstr, o_isTlist, o_isTtuple, o_isNint, o_isNbool, o_isNstr, o_isNlist, o_isNtuple, o_allT, o_truB, o_truN, o_truI, o_truL, o_truT, q_sv1, q_sv2, view, fixSlot, wipeE, aName, aTup, aCons, aNil, List.map_cons, List.map_nil, List.length_cons, List.length_nil, List.cons_append, List.nil_append, List.replicate_succ, List.replicate_zero, List.getElem?_cons_zero, List.getElem?_cons_succ, List.set_cons_zero, List.set_cons_succ, Option.map_some, Option.map_none, reduceIte, Nat.reduceAdd, Nat.reduceEqDiff, Option.some.injEq, List.length_map, List.length_append, and_true, true_and, and_self, decide_true, decide_false, Int.reduceLT, Int.reduceNeg, Int.reduceLE, Int.reduceEq, Int.reduceMul, Int.reduceAdd, Int.reduceSub, Int.reduceMod, Int.reduceDiv, Nat.reduceLT, Nat.reduceLeDiff, Int.reducePow, Nat.reducePow, Int.reduceToNat, SV.imm.injEq, SV.own.injEq, W.int.injEq, W.str.injEq, W.bl.injEq, W.lst.injEq, W.tup.injEq, id_eq, exists_eq', exists_eq_left', Out.nx.injEq, Out.rt.injEq, Nat.zero_le, Int.toNat_natCast, not_true_eq_false, not_false_eq_true, Bool.not_true, Bool.not_false, Bool.false_and, Bool.true_and, Bool.and_true, Bool.and_false, Bool.true_or, Bool.false_or, Bool.or_true, Bool.or_false, Bool.false_eq_true, s_dig, s_small, s_cap, s_us, s_nl, s_e, s_words, s_signs, a1, a2, a3, t_inL, lw, lsg, h1, h2, e10, h3]
  simp only [q_seq, q_if, q_fif, q_and, q_or, q_andV, q_orV, q_bin, q_binR, q_un, q_frz, q_imm, q_nil, q_cons, q_call, q_callW, q_c0, q_var, q_ret, q_set, q_aug, q_app, q_ext, q_pop, q_setIx, q_ixo, q_bor, q_tru, q_tst, q_not, q_notV, q_no, q_so, q_sl, q_sq, q_r1, q_r2, q_for, q_lc, q_asg, q_next, q_yes, q_fix, q_slot, q_drop, q_met, q_run, q1, q2, q2b, q2c, q3, q4, q5, q6, q7, q8, q9, q10, q11, q12, q13, q14, q15, q16, q17, q18, q19, q20, q21, q22, q23, q24, q25, q26, q27, q28, q29, q30, q31, q32, q33, q34, q35, q36, q37, q38, q39, q39b, q40, q41, q42, q44, q45, q46, q47, q48, o_add, o_sub, o_mulR, o_mulL, o_mod, o_div, o_addS, o_addI, o_addL, o_addT, o_p18, o_neg, o_cmp, o_eqI, o_eqS, o_eqB, o_neI, o_neS, o_len1, o_len2, o_len3, o_lenS, o_int, o_ix1, o_ix2, o_ix3, o_tup, o_lst, o_list1, o_list2, o_tuple1, o_tuple2, o_max, o_min, o_slL, o_slT, o_slS, o_mulSt, o_isIint, o_isIbool, o_isIstr, o_isIlist, o_isItuple, o_isBint, o_isBbool, o_isBstr, o_isBlist, o_isBtuple, o_isSint, o_isSbool, o_isSstr, o_isSlist, o_isStuple, o_isLint, o_isLbool, o_isLstr, o_isLlist, o_isLtuple, o_isTint, o_isTbool, o_isTstr, o_isTlist, o_isTtuple, o_isNint, o_isNbool, o_isNstr, o_isNlist, o_isNtuple, o_allT, o_truB, o_truN, o_truI, o_truL, o_truT, q_sv1, q_sv2, view, fixSlot, wipeE, aName, aTup, aCons, aNil, List.map_cons, List.map_nil, List.length_cons, List.length_nil, List.cons_append, List.nil_append, List.replicate_succ, List.replicate_zero, List.getElem?_cons_zero, List.getElem?_cons_succ, List.set_cons_zero, List.set_cons_succ, Option.map_some, Option.map_none, reduceIte, Nat.reduceAdd, Nat.reduceEqDiff, Option.some.injEq, List.length_map, List.length_append, and_true, true_and, and_self, decide_true, decide_false, Int.reduceLT, Int.reduceNeg, Int.reduceLE, Int.reduceEq, Int.reduceMul, Int.reduceAdd, Int.reduceSub, Int.reduceMod, Int.reduceDiv, Nat.reduceLT, Nat.reduceLeDiff, Int.reducePow, Nat.reducePow, Int.reduceToNat, SV.imm.injEq, SV.own.injEq, W.int.injEq, W.str.injEq, W.bl.injEq, W.lst.injEq, W.tup.injEq, id_eq, exists_eq', exists_eq_left', Out.nx.injEq, Out.rt.injEq, Nat.zero_le, Int.toNat_natCast, not_true_eq_false, not_false_eq_true, Bool.not_true, Bool.not_false, Bool.false_and, Bool.true_and, Bool.and_true, Bool.and_false, Bool.true_or, Bool.false_or, Bool.or_true, Bool.or_false, Bool.false_eq_true, s_dig, s_small, s_cap, s_us, s_nl, s_e, s_words, s_signs, a1, a2, a3, t_inL, lw, lsg, h1, h2, e10, e0, h3, h4]
  have lm : (l.map fun c => W.bl (decide (c ∈ digL))).length ≤ 16777216 := by rw [List.length_map]; exact hl2
  have lm2 : (l.map fun c => W.bl (decide (c ∈ innL))).length ≤ 16777216 := by rw [List.length_map]; exact hl2
  rw [q43 (lc_chars (p := fun c => decide (c ∈ digL)) (fun c hc => by simp only [q_seq, q_if, q_fif, q_and, q_or, q_andV, q_orV, q_bin, q_binR, q_un, q_frz, q_imm, q_nil, q_cons, q_call, q_callW, q_c0, q_var, q_ret, q_set, q_aug, q_app, q_ext, q_pop, q_setIx, q_ixo, q_bor, q_tru, q_tst, q_not, q_notV, q_no, q_so, q_sl, q_sq, q_r1, q_r2, q_for, q_lc, q_asg, q_next, q_yes, q_fix, q_slot, q_drop, q_met, q_run, q1, q2, q2b, q2c, q3, q4, q5, q6, q7, q8, q9, q10, q11, q12, q13, q14, q15, q16, q17, q18, q19, q20, q21, q22, q23, q24, q25, q26, q27, q28, q29, q30, q31, q32, q33, q34, q35, q36, q37, q38, q39, q39b, q40, q41, q42, q44, q45, q46, q47, q48, o_add, o_sub, o_mulR, o_mulL, o_mod, o_div, o_addS, o_addI, o_addL, o_addT, o_p18, o_neg, o_cmp, o_eqI, o_eqS, o_eqB, o_neI, o_neS, o_len1, o_len2, o_len3, o_lenS, o_int, o_ix1, o_ix2, o_ix3, o_tup, o_lst, o_list1, o_list2, o_tuple1, o_tuple2, o_max, o_min, o_slL, o_slT, o_slS, o_mulSt, o_isIint, o_isIbool, o_isIstr, o_isIlist, o_isItuple, o_isBint, o_isBbool, o_isBstr, o_isBlist, o_isBtuple, o_isSint, o_isSbool, o_isSstr, o_isSlist, o_isStuple, o_isLint, o_isLbool, o_isLstr, o_isLlist, o_isLtuple, o_isTint, o_isTbool, o_isTstr, o_isTlist, o_isTtuple, o_isNint, o_isNbool, o_isNstr, o_isNlist, o_isNtuple, o_allT, o_truB, o_truN, o_truI, o_truL, o_truT, q_sv1, q_sv2, view, fixSlot, wipeE, aName, aTup, aCons, aNil, List.map_cons, List.map_nil, List.length_cons, List.length_nil, List.cons_append, List.nil_append, List.replicate_succ, List.replicate_zero, List.getElem?_cons_zero, List.getElem?_cons_succ, List.set_cons_zero, List.set_cons_succ, Option.map_some, Option.map_none, reduceIte, Nat.reduceAdd, Nat.reduceEqDiff, Option.some.injEq, List.length_map, List.length_append, and_true, true_and, and_self, decide_true, decide_false, Int.reduceLT, Int.reduceNeg, Int.reduceLE, Int.reduceEq, Int.reduceMul, Int.reduceAdd, Int.reduceSub, Int.reduceMod, Int.reduceDiv, Nat.reduceLT, Nat.reduceLeDiff, Int.reducePow, Nat.reducePow, Int.reduceToNat, SV.imm.injEq, SV.own.injEq, W.int.injEq, W.str.injEq, W.bl.injEq, W.lst.injEq, W.tup.injEq, id_eq, exists_eq', exists_eq_left', Out.nx.injEq, Out.rt.injEq, Nat.zero_le, Int.toNat_natCast, not_true_eq_false, not_false_eq_true, Bool.not_true, Bool.not_false, Bool.false_and, Bool.true_and, Bool.and_true, Bool.and_false, Bool.true_or, Bool.false_or, Bool.or_true, Bool.or_false, Bool.false_eq_true, t_in1])) lm]
  have l9 : decide ((l.length : Int) ≤ 9) = decide (l.length ≤ 9) := decide_eq_decide.mpr (by omega)
  obtain ⟨c, ix0, hc⟩ : ∃ c, ixW (.str (T l)) (.int 0) = some (.str (T [c])) ∧ l.headD 0 = c := by
    cases l with
    | nil => exact absurd rfl h4
    | cons c r => exact ⟨c, t_ix (i := 0) hl2 rfl, rfl⟩
  rw [hc]
  generalize hd : (l.all fun c => decide (c ∈ digL)) = d
  generalize hi : (l.all fun c => decide (c ∈ innL)) = i
  generalize hn : decide (l.length ≤ 9) = n at l9
  generalize hs : decide (c ∈ smallL) = s
  have len : lenW [.str (T l)] = some (.int l.length) := by rw [o_lenS (by rw [t_len]; exact hl2), t_len]
  cases d <;> cases n <;> cases s <;> simp only [q_seq, q_if, q_fif, q_and, q_or, q_andV, q_orV, q_bin, q_binR, q_un, q_frz, q_imm, q_nil, q_cons, q_call, q_callW, q_c0, q_var, q_ret, q_set, q_aug, q_app, q_ext, q_pop, q_setIx, q_ixo, q_bor, q_tru, q_tst, q_not, q_notV, q_no, q_so, q_sl, q_sq, q_r1, q_r2, q_for, q_lc, q_asg, q_next, q_yes, q_fix, q_slot, q_drop, q_met, q_run, q1, q2, q2b, q2c, q3, q4, q5, q6, q7, q8, q9, q10, q11, q12, q13, q14, q15, q16, q17, q18, q19, q20, q21, q22, q23, q24, q25, q26, q27, q28, q29, q30, q31, q32, q33, q34, q35, q36, q37, q38, q39, q39b, q40, q41, q42, q44, q45, q46, q47, q48, o_add, o_sub, o_mulR, o_mulL, o_mod, o_div, o_addS, o_addI, o_addL, o_addT, o_p18, o_neg, o_cmp, o_eqI, o_eqS, o_eqB, o_neI, o_neS, o_len1, o_len2, o_len3, o_lenS, o_int, o_ix1, o_ix2, o_ix3, o_tup, o_lst, o_list1, o_list2, o_tuple1, o_tuple2, o_max, o_min, o_slL, o_slT, o_slS, o_mulSt, o_isIint, o_isIbool, o_isIstr, o_isIlist, o_isItuple, o_isBint, o_isBbool, o_isBstr, o_isBlist, o_isBtuple, o_isSint, o_isSbool, o_isSstr, o_isSlist, o_isStuple, o_isLint, o_isLbool, o_isLstr, o_isLlist, o_isLtuple, o_isTint, o_isTbool, o_isTstr, o_isTlist, o_isTtuple, o_isNint, o_isNbool, o_isNstr, o_isNlist, o_isNtuple, o_allT, o_truB, o_truN, o_truI, o_truL, o_truT, q_sv1, q_sv2, view, fixSlot, wipeE, aName, aTup, aCons, aNil, List.map_cons, List.map_nil, List.length_cons, List.length_nil, List.cons_append, List.nil_append, List.replicate_succ, List.replicate_zero, List.getElem?_cons_zero, List.getElem?_cons_succ, List.set_cons_zero, List.set_cons_succ, Option.map_some, Option.map_none, reduceIte, Nat.reduceAdd, Nat.reduceEqDiff, Option.some.injEq, List.length_map, List.length_append, and_true, true_and, and_self, decide_true, decide_false, Int.reduceLT, Int.reduceNeg, Int.reduceLE, Int.reduceEq, Int.reduceMul, Int.reduceAdd, Int.reduceSub, Int.reduceMod, Int.reduceDiv, Nat.reduceLT, Nat.reduceLeDiff, Int.reducePow, Nat.reducePow, Int.reduceToNat, SV.imm.injEq, SV.own.injEq, W.int.injEq, W.str.injEq, W.bl.injEq, W.lst.injEq, W.tup.injEq, id_eq, exists_eq', exists_eq_left', Out.nx.injEq, Out.rt.injEq, Nat.zero_le, Int.toNat_natCast, not_true_eq_false, not_false_eq_true, Bool.not_true, Bool.not_false, Bool.false_and, Bool.true_and, Bool.and_true, Bool.and_false, Bool.true_or, Bool.false_or, Bool.or_true, Bool.or_false, Bool.false_eq_true, all_chars, hd, len, l9, ix0, t_in1, hs, Bool.and_true, Bool.and_false, Bool.false_eq_true]
  all_goals
    rw [q43 (lc_chars (p := fun c => decide (c ∈ innL)) (fun c hc => by simp only [q_seq, q_if, q_fif, q_and, q_or, q_andV, q_orV, q_bin, q_binR, q_un, q_frz, q_imm, q_nil, q_cons, q_call, q_callW, q_c0, q_var, q_ret, q_set, q_aug, q_app, q_ext, q_pop, q_setIx, q_ixo, q_bor, q_tru, q_tst, q_not, q_notV, q_no, q_so, q_sl, q_sq, q_r1, q_r2, q_for, q_lc, q_asg, q_next, q_yes, q_fix, q_slot, q_drop, q_met, q_run, q1, q2, q2b, q2c, q3, q4, q5, q6, q7, q8, q9, q10, q11, q12, q13, q14, q15, q16, q17, q18, q19, q20, q21, q22, q23, q24, q25, q26, q27, q28, q29, q30, q31, q32, q33, q34, q35, q36, q37, q38, q39, q39b, q40, q41, q42, q44, q45, q46, q47, q48, o_add, o_sub, o_mulR, o_mulL, o_mod, o_div, o_addS, o_addI, o_addL, o_addT, o_p18, o_neg, o_cmp, o_eqI, o_eqS, o_eqB, o_neI, o_neS, o_len1, o_len2, o_len3, o_lenS, o_int, o_ix1, o_ix2, o_ix3, o_tup, o_lst, o_list1, o_list2, o_tuple1, o_tuple2, o_max, o_min, o_slL, o_slT, o_slS, o_mulSt, o_isIint, o_isIbool, o_isIstr, o_isIlist, o_isItuple, o_isBint, o_isBbool, o_isBstr, o_isBlist, o_isBtuple, o_isSint, o_isSbool, o_isSstr, o_isSlist, o_isStuple, o_isLint, o_isLbool, o_isLstr, o_isLlist, o_isLtuple, o_isTint, o_isTbool, o_isTstr, o_isTlist, o_isTtuple, o_isNint, o_isNbool, o_isNstr, o_isNlist, o_isNtuple, o_allT, o_truB, o_truN, o_truI, o_truL, o_truT, q_sv1, q_sv2, view, fixSlot, wipeE, aName, aTup, aCons, aNil, List.map_cons, List.map_nil, List.length_cons, List.length_nil, List.cons_append, List.nil_append, List.replicate_succ, List.replicate_zero, List.getElem?_cons_zero, List.getElem?_cons_succ, List.set_cons_zero, List.set_cons_succ, Option.map_some, Option.map_none, reduceIte, Nat.reduceAdd, Nat.reduceEqDiff, Option.some.injEq, List.length_map, List.length_append, and_true, true_and, and_self, decide_true, decide_false, Int.reduceLT, Int.reduceNeg, Int.reduceLE, Int.reduceEq, Int.reduceMul, Int.reduceAdd, Int.reduceSub, Int.reduceMod, Int.reduceDiv, Nat.reduceLT, Nat.reduceLeDiff, Int.reducePow, Nat.reducePow, Int.reduceToNat, SV.imm.injEq, SV.own.injEq, W.int.injEq, W.str.injEq, W.bl.injEq, W.lst.injEq, W.tup.injEq, id_eq, exists_eq', exists_eq_left', Out.nx.injEq, Out.rt.injEq, Nat.zero_le, Int.toNat_natCast, not_true_eq_false, not_false_eq_true, Bool.not_true, Bool.not_false, Bool.false_and, Bool.true_and, Bool.and_true, Bool.and_false, Bool.true_or, Bool.false_or, Bool.or_true, Bool.or_false, Bool.false_eq_true, t_in1])) lm2]
    cases i <;> simp only [q_seq, q_if, q_fif, q_and, q_or, q_andV, q_orV, q_bin, q_binR, q_un, q_frz, q_imm, q_nil, q_cons, q_call, q_callW, q_c0, q_var, q_ret, q_set, q_aug, q_app, q_ext, q_pop, q_setIx, q_ixo, q_bor, q_tru, q_tst, q_not, q_notV, q_no, q_so, q_sl, q_sq, q_r1, q_r2, q_for, q_lc, q_asg, q_next, q_yes, q_fix, q_slot, q_drop, q_met, q_run, q1, q2, q2b, q2c, q3, q4, q5, q6, q7, q8, q9, q10, q11, q12, q13, q14, q15, q16, q17, q18, q19, q20, q21, q22, q23, q24, q25, q26, q27, q28, q29, q30, q31, q32, q33, q34, q35, q36, q37, q38, q39, q39b, q40, q41, q42, q44, q45, q46, q47, q48, o_add, o_sub, o_mulR, o_mulL, o_mod, o_div, o_addS, o_addI, o_addL, o_addT, o_p18, o_neg, o_cmp, o_eqI, o_eqS, o_eqB, o_neI, o_neS, o_len1, o_len2, o_len3, o_lenS, o_int, o_ix1, o_ix2, o_ix3, o_tup, o_lst, o_list1, o_list2, o_tuple1, o_tuple2, o_max, o_min, o_slL, o_slT, o_slS, o_mulSt, o_isIint, o_isIbool, o_isIstr, o_isIlist, o_isItuple, o_isBint, o_isBbool, o_isBstr, o_isBlist, o_isBtuple, o_isSint, o_isSbool, o_isSstr, o_isSlist, o_isStuple, o_isLint, o_isLbool, o_isLstr, o_isLlist, o_isLtuple, o_isTint, o_isTbool, o_isTstr, o_isTlist, o_isTtuple, o_isNint, o_isNbool, o_isNstr, o_isNlist, o_isNtuple, o_allT, o_truB, o_truN, o_truI, o_truL, o_truT, q_sv1, q_sv2, view, fixSlot, wipeE, aName, aTup, aCons, aNil, List.map_cons, List.map_nil, List.length_cons, List.length_nil, List.cons_append, List.nil_append, List.replicate_succ, List.replicate_zero, List.getElem?_cons_zero, List.getElem?_cons_succ, List.set_cons_zero, List.set_cons_succ, Option.map_some, Option.map_none, reduceIte, Nat.reduceAdd, Nat.reduceEqDiff, Option.some.injEq, List.length_map, List.length_append, and_true, true_and, and_self, decide_true, decide_false, Int.reduceLT, Int.reduceNeg, Int.reduceLE, Int.reduceEq, Int.reduceMul, Int.reduceAdd, Int.reduceSub, Int.reduceMod, Int.reduceDiv, Nat.reduceLT, Nat.reduceLeDiff, Int.reducePow, Nat.reducePow, Int.reduceToNat, SV.imm.injEq, SV.own.injEq, W.int.injEq, W.str.injEq, W.bl.injEq, W.lst.injEq, W.tup.injEq, id_eq, exists_eq', exists_eq_left', Out.nx.injEq, Out.rt.injEq, Nat.zero_le, Int.toNat_natCast, not_true_eq_false, not_false_eq_true, Bool.not_true, Bool.not_false, Bool.false_and, Bool.true_and, Bool.and_true, Bool.and_false, Bool.true_or, Bool.false_or, Bool.or_true, Bool.or_false, Bool.false_eq_true, all_chars, hi, Bool.false_eq_true]
end Qw
namespace Qw
open PySem PySem.Spec PyProof.Rows L2 Nz
theorem k_dig : c_DIGITS = .str (T digL) := congrArg W.str s_dig
theorem k_small : c_SMALL_LETTERS = .str (T smallL) := congrArg W.str s_small
theorem k_name : c_NAME_CHARACTERS = .str (T innL) := congrArg W.str s_inn
theorem k_most : c_MOST_DIGITS = .int 9 := rfl
theorem k_words : c_WORDS = .ktup (wordL.map fun l => W.str (T l)) := congrArg W.ktup s_words
def sign2L : List (List Nat) := [[60, 45, 62], [45, 62], [40], [41], [44], [58], [61]]
theorem k_signs : c_SIGNS = .ktup (sign2L.map fun l => W.str (T l)) := by
  have h : (["<->", "->", "(", ")", ",", ":", "="] : List Str) = sign2L.map T := by decide +kernel
  have := congrArg (List.map W.str) h
  rw [List.map_map] at this
  exact congrArg W.ktup this
theorem lenT {l : List Nat} (h : l.length ≤ 16777216) : lenW [.str (T l)] = some (.int l.length) := by rw [o_lenS (by rw [t_len]; exact h), t_len]
/-! ### the runs -/
theorem run_while {t : List Nat} (ht : t.length ≤ 1000000) (w1 : Option SV) : ∀ (l : List Nat) (p : Nat), t.drop p = l → ∃ n, whileN (fAnd (fTst (fBin (cmpI fun i j => decide (i < j)) (fVar 2) (fCallW lenW (fCons (fVar 0) fNil)))) (fTst (fBin inW (fBin ixW (fVar 0) (fVar 2)) (fC (.str (T innL))))))
    (sAug 2 (fun i j => i + j) (fC (.int 1))) n [some (.imm (.str (T t))), w1, some (.imm (.int (p : Int)))] = some (.nx [some (.imm (.str (T t))), w1, some (.imm (.int ((p + (l.takeWhile (fun c => decide (c ∈ innL))).length : Nat) : Int)))])
  | [], p, h => by
    have hp : ¬ ((p : Int) < (t.length : Int)) := by
      have := congrArg List.length h
      rw [List.length_drop] at this
      simp at this
      omega
    refine ⟨1, ?_⟩
    have hz : t.length ≤ 16777216 := by omega
    unfold whileN
    simp only [q_seq, q_if, q_fif, q_and, q_or, q_andV, q_orV, q_bin, q_binR, q_un, q_frz, q_imm, q_nil, q_cons, q_call, q_callW, q_c0, q_var, q_ret, q_set, q_aug, q_app, q_ext, q_pop, q_setIx, q_ixo, q_bor, q_tru, q_tst, q_not, q_notV, q_no, q_so, q_sl, q_sq, q_r1, q_r2, q_for, q_lc, q_asg, q_next, q_yes, q_fix, q_slot, q_drop, q_met, q_run, q1, q2, q2b, q2c, q3, q4, q5, q6, q7, q8, q9, q10, q11, q12, q13, q14, q15, q16, q17, q18, q19, q20, q21, q22, q23, q24, q25, q26, q27, q28, q29, q30, q31, q32, q33, q34, q35, q36, q37, q38, q39, q39b, q40, q41, q42, q44, q45, q46, q47, q48, o_add, o_sub, o_mulR, o_mulL, o_mod, o_div, o_addS, o_addI, o_addL, o_addT, o_p18, o_neg, o_cmp, o_eqI, o_eqS, o_eqB, o_neI, o_neS, o_len1, o_len2, o_len3, o_lenS, o_int, o_ix1, o_ix2, o_ix3, o_tup, o_lst, o_list1, o_list2, o_tuple1, o_tuple2, o_max, o_min, o_slL, o_slT, o_slS, o_mulSt, o_isIint, o_isIbool, o_isIstr, o_isIlist, o_isItuple, o_isBint, o_isBbool, o_isBstr, o_isBlist, o_isBtuple, o_isSint, o_isSbool, o_isSstr, o_isSlist, o_isStuple, o_isLint, o_isLbool, o_isLstr, o_isLlist, o_isLtuple, o_isTint, o_isTbool, o_isTstr, o_isTlist, o_isTtuple, o_isNint, o_isNbool, o_isNstr, o_isNlist, o_isNtuple, o_allT, o_truB, o_truN, o_truI, o_truL, o_truT, q_sv1, q_sv2, view, fixSlot, wipeE, aName, aTup, aCons, aNil, List.map_cons, List.map_nil, List.length_cons, List.length_nil, List.cons_append, List.nil_append, List.replicate_succ, List.replicate_zero, List.getElem?_cons_zero, List.getElem?_cons_succ, List.set_cons_zero, List.set_cons_succ, Option.map_some, Option.map_none, reduceIte, Nat.reduceAdd, Nat.reduceEqDiff, Option.some.injEq, List.length_map, List.length_append, and_true, true_and, and_self, decide_true, decide_false, Int.reduceLT, Int.reduceNeg, Int.reduceLE, Int.reduceEq, Int.reduceMul, Int.reduceAdd, Int.reduceSub, Int.reduceMod, Int.reduceDiv, Nat.reduceLT, Nat.reduceLeDiff, Int.reducePow, Nat.reducePow, Int.reduceToNat, SV.imm.injEq, SV.own.injEq, W.int.injEq, W.str.injEq, W.bl.injEq, W.lst.injEq, W.tup.injEq, id_eq, exists_eq', exists_eq_left', Out.nx.injEq, Out.rt.injEq, Nat.zero_le, Int.toNat_natCast, not_true_eq_false, not_false_eq_true, Bool.not_true, Bool.not_false, Bool.false_and, Bool.true_and, Bool.and_true, Bool.and_false, Bool.true_or, Bool.false_or, Bool.or_true, Bool.or_false, Bool.false_eq_true, hp, lenT, hz]
    simp
  | c :: l, p, h => by
    have hp : ((p : Int) < (t.length : Int)) := by
      have := congrArg List.length h
      rw [List.length_drop] at this
      simp at this
      omega
    have hz : t.length ≤ 16777216 := by omega
    have hc : t[p]? = some c := by
      have := congrArg (·[0]?) h
      simpa using this
    have ix := t_ix hz hc
    have h2 : t.drop (p + 1) = l := by rw [← List.drop_drop, h]; rfl
    by_cases hin : c ∈ innL
    · obtain ⟨n, hn⟩ := run_while ht w1 l (p + 1) h2
      refine ⟨n + 1, ?_⟩
      unfold whileN
      simp only [q_seq, q_if, q_fif, q_and, q_or, q_andV, q_orV, q_bin, q_binR, q_un, q_frz, q_imm, q_nil, q_cons, q_call, q_callW, q_c0, q_var, q_ret, q_set, q_aug, q_app, q_ext, q_pop, q_setIx, q_ixo, q_bor, q_tru, q_tst, q_not, q_notV, q_no, q_so, q_sl, q_sq, q_r1, q_r2, q_for, q_lc, q_asg, q_next, q_yes, q_fix, q_slot, q_drop, q_met, q_run, q1, q2, q2b, q2c, q3, q4, q5, q6, q7, q8, q9, q10, q11, q12, q13, q14, q15, q16, q17, q18, q19, q20, q21, q22, q23, q24, q25, q26, q27, q28, q29, q30, q31, q32, q33, q34, q35, q36, q37, q38, q39, q39b, q40, q41, q42, q44, q45, q46, q47, q48, o_add, o_sub, o_mulR, o_mulL, o_mod, o_div, o_addS, o_addI, o_addL, o_addT, o_p18, o_neg, o_cmp, o_eqI, o_eqS, o_eqB, o_neI, o_neS, o_len1, o_len2, o_len3, o_lenS, o_int, o_ix1, o_ix2, o_ix3, o_tup, o_lst, o_list1, o_list2, o_tuple1, o_tuple2, o_max, o_min, o_slL, o_slT, o_slS, o_mulSt, o_isIint, o_isIbool, o_isIstr, o_isIlist, o_isItuple, o_isBint, o_isBbool, o_isBstr, o_isBlist, o_isBtuple, o_isSint, o_isSbool, o_isSstr, o_isSlist, o_isStuple, o_isLint, o_isLbool, o_isLstr, o_isLlist, o_isLtuple, o_isTint, o_isTbool, o_isTstr, o_isTlist, o_isTtuple, o_isNint, o_isNbool, o_isNstr, o_isNlist, o_isNtuple, o_allT, o_truB, o_truN, o_truI, o_truL, o_truT, q_sv1, q_sv2, view, fixSlot, wipeE, aName, aTup, aCons, aNil, List.map_cons, List.map_nil, List.length_cons, List.length_nil, List.cons_append, List.nil_append, List.replicate_succ, List.replicate_zero, List.getElem?_cons_zero, List.getElem?_cons_succ, List.set_cons_zero, List.set_cons_succ, Option.map_some, Option.map_none, reduceIte, Nat.reduceAdd, Nat.reduceEqDiff, Option.some.injEq, List.length_map, List.length_append, and_true, true_and, and_self, decide_true, decide_false, Int.reduceLT, Int.reduceNeg, Int.reduceLE, Int.reduceEq, Int.reduceMul, Int.reduceAdd, Int.reduceSub, Int.reduceMod, Int.reduceDiv, Nat.reduceLT, Nat.reduceLeDiff, Int.reducePow, Nat.reducePow, Int.reduceToNat, SV.imm.injEq, SV.own.injEq, W.int.injEq, W.str.injEq, W.bl.injEq, W.lst.injEq, W.tup.injEq, id_eq, exists_eq', exists_eq_left', Out.nx.injEq, Out.rt.injEq, Nat.zero_le, Int.toNat_natCast, not_true_eq_false, not_false_eq_true, Bool.not_true, Bool.not_false, Bool.false_and, Bool.true_and, Bool.and_true, Bool.and_false, Bool.true_or, Bool.false_or, Bool.or_true, Bool.or_false, Bool.false_eq_true, hp, lenT, hz, ix, t_in1, hin]
      rw [show ((p : Int) + 1) = ((p + 1 : Nat) : Int) by omega, hn, List.takeWhile_cons_of_pos (by simp [hin])]
      simp
      omega
    · refine ⟨1, ?_⟩
      unfold whileN
      simp only [q_seq, q_if, q_fif, q_and, q_or, q_andV, q_orV, q_bin, q_binR, q_un, q_frz, q_imm, q_nil, q_cons, q_call, q_callW, q_c0, q_var, q_ret, q_set, q_aug, q_app, q_ext, q_pop, q_setIx, q_ixo, q_bor, q_tru, q_tst, q_not, q_notV, q_no, q_so, q_sl, q_sq, q_r1, q_r2, q_for, q_lc, q_asg, q_next, q_yes, q_fix, q_slot, q_drop, q_met, q_run, q1, q2, q2b, q2c, q3, q4, q5, q6, q7, q8, q9, q10, q11, q12, q13, q14, q15, q16, q17, q18, q19, q20, q21, q22, q23, q24, q25, q26, q27, q28, q29, q30, q31, q32, q33, q34, q35, q36, q37, q38, q39, q39b, q40, q41, q42, q44, q45, q46, q47, q48, o_add, o_sub, o_mulR, o_mulL, o_mod, o_div, o_addS, o_addI, o_addL, o_addT, o_p18, o_neg, o_cmp, o_eqI, o_eqS, o_eqB, o_neI, o_neS, o_len1, o_len2, o_len3, o_lenS, o_int, o_ix1, o_ix2, o_ix3, o_tup, o_lst, o_list1, o_list2, o_tuple1, o_tuple2, o_max, o_min, o_slL, o_slT, o_slS, o_mulSt, o_isIint, o_isIbool, o_isIstr, o_isIlist, o_isItuple, o_isBint, o_isBbool, o_isBstr, o_isBlist, o_isBtuple, o_isSint, o_isSbool, o_isSstr, o_isSlist, o_isStuple, o_isLint, o_isLbool, o_isLstr, o_isLlist, o_isLtuple, o_isTint, o_isTbool, o_isTstr, o_isTlist, o_isTtuple, o_isNint, o_isNbool, o_isNstr, o_isNlist, o_isNtuple, o_allT, o_truB, o_truN, o_truI, o_truL, o_truT, q_sv1, q_sv2, view, fixSlot, wipeE, aName, aTup, aCons, aNil, List.map_cons, List.map_nil, List.length_cons, List.length_nil, List.cons_append, List.nil_append, List.replicate_succ, List.replicate_zero, List.getElem?_cons_zero, List.getElem?_cons_succ, List.set_cons_zero, List.set_cons_succ, Option.map_some, Option.map_none, reduceIte, Nat.reduceAdd, Nat.reduceEqDiff, Option.some.injEq, List.length_map, List.length_append, and_true, true_and, and_self, decide_true, decide_false, Int.reduceLT, Int.reduceNeg, Int.reduceLE, Int.reduceEq, Int.reduceMul, Int.reduceAdd, Int.reduceSub, Int.reduceMod, Int.reduceDiv, Nat.reduceLT, Nat.reduceLeDiff, Int.reducePow, Nat.reducePow, Int.reduceToNat, SV.imm.injEq, SV.own.injEq, W.int.injEq, W.str.injEq, W.bl.injEq, W.lst.injEq, W.tup.injEq, id_eq, exists_eq', exists_eq_left', Out.nx.injEq, Out.rt.injEq, Nat.zero_le, Int.toNat_natCast, not_true_eq_false, not_false_eq_true, Bool.not_true, Bool.not_false, Bool.false_and, Bool.true_and, Bool.and_true, Bool.and_false, Bool.true_or, Bool.false_or, Bool.or_true, Bool.or_false, Bool.false_eq_true, hp, lenT, hz, ix, t_in1, hin]
      rw [List.takeWhile_cons_of_neg (by simp [hin])]
      simp
/-! ### tokens -/
def Run (l : List Nat) : Prop := l ≠ [] ∧ (∀ c ∈ l, c ∈ innL) ∧ (l.headD 0 ∈ smallL ∨ (l.all (fun c => decide (c ∈ digL)) = true ∧ l.length ≤ 9))
theorem num_ok (l : List Nat) (hl : l.length ≤ 1000000) : F_is_number [.str (T l)] = some (.imm (.bl (decide (l.length ≤ 9) && l.all fun c => decide (c ∈ digL)))) := by
  unfold F_is_number B_is_number
  have hz : l.length ≤ 16777216 := by omega
  have lm : (l.map fun c => W.bl (decide (c ∈ digL))).length ≤ 16777216 := by rw [List.length_map]; exact hz
  have l9 : decide ((l.length : Int) ≤ 9) = decide (l.length ≤ 9) := decide_eq_decide.mpr (by omega)
  by_cases h9 : l.length ≤ 9
  · simp only [q_seq, q_if, q_fif, q_and, q_or, q_andV, q_orV, q_bin, q_binR, q_un, q_frz, q_imm, q_nil, q_cons, q_call, q_callW, q_c0, q_var, q_ret, q_set, q_aug, q_app, q_ext, q_pop, q_setIx, q_ixo, q_bor, q_tru, q_tst, q_not, q_notV, q_no, q_so, q_sl, q_sq, q_r1, q_r2, q_for, q_lc, q_asg, q_next, q_yes, q_fix, q_slot, q_drop, q_met, q_run, q1, q2, q2b, q2c, q3, q4, q5, q6, q7, q8, q9, q10, q11, q12, q13, q14, q15, q16, q17, q18, q19, q20, q21, q22, q23, q24, q25, q26, q27, q28, q29, q30, q31, q32, q33, q34, q35, q36, q37, q38, q39, q39b, q40, q41, q42, q44, q45, q46, q47, q48, o_add, o_sub, o_mulR, o_mulL, o_mod, o_div, o_addS, o_addI, o_addL, o_addT, o_p18, o_neg, o_cmp, o_eqI, o_eqS, o_eqB, o_neI, o_neS, o_len1, o_len2, o_len3, o_lenS, o_int, o_ix1, o_ix2, o_ix3, o_tup, o_lst, o_list1, o_list2, o_tuple1, o_tuple2, o_max, o_min, o_slL, o_slT, o_slS, o_mulSt, o_isIint, o_isIbool, o_isIstr, o_isIlist, o_isItuple, o_isBint, o_isBbool, o_isBstr, o_isBlist, o_isBtuple, o_isSint, o_isSbool, o_isSstr, o_isSlist, o_isStuple, o_isLint, o_isLbool, o_isLstr, o_isLlist, o_isLtuple, o_isTint, o_isTbool, o_isTstr, o_isTlist, o_isTtuple, o_isNint, o_isNbool, o_isNstr, o_isNlist, o_isNtuple, o_allT, o_truB, o_truN, o_truI, o_truL, o_truT, q_sv1, q_sv2, view, fixSlot, wipeE, aName, aTup, aCons, aNil, List.map_cons, List.map_nil, List.length_cons, List.length_nil, List.cons_append, List.nil_append, List.replicate_succ, List.replicate_zero, List.getElem?_cons_zero, List.getElem?_cons_succ, List.set_cons_zero, List.set_cons_succ, Option.map_some, Option.map_none, reduceIte, Nat.reduceAdd, Nat.reduceEqDiff, Option.some.injEq, List.length_map, List.length_append, and_true, true_and, and_self, decide_true, decide_false, Int.reduceLT, Int.reduceNeg, Int.reduceLE, Int.reduceEq, Int.reduceMul, Int.reduceAdd, Int.reduceSub, Int.reduceMod, Int.reduceDiv, Nat.reduceLT, Nat.reduceLeDiff, Int.reducePow, Nat.reducePow, Int.reduceToNat, SV.imm.injEq, SV.own.injEq, W.int.injEq, W.str.injEq, W.bl.injEq, W.lst.injEq, W.tup.injEq, id_eq, exists_eq', exists_eq_left', Out.nx.injEq, Out.rt.injEq, Nat.zero_le, Int.toNat_natCast, not_true_eq_false, not_false_eq_true, Bool.not_true, Bool.not_false, Bool.false_and, Bool.true_and, Bool.and_true, Bool.and_false, Bool.true_or, Bool.false_or, Bool.or_true, Bool.or_false, Bool.false_eq_true, lenT, hz, k_dig, k_most, l9, h9]
    rw [q43 (lc_chars (p := fun c => decide (c ∈ digL)) (fun c hc => by simp only [q_seq, q_if, q_fif, q_and, q_or, q_andV, q_orV, q_bin, q_binR, q_un, q_frz, q_imm, q_nil, q_cons, q_call, q_callW, q_c0, q_var, q_ret, q_set, q_aug, q_app, q_ext, q_pop, q_setIx, q_ixo, q_bor, q_tru, q_tst, q_not, q_notV, q_no, q_so, q_sl, q_sq, q_r1, q_r2, q_for, q_lc, q_asg, q_next, q_yes, q_fix, q_slot, q_drop, q_met, q_run, q1, q2, q2b, q2c, q3, q4, q5, q6, q7, q8, q9, q10, q11, q12, q13, q14, q15, q16, q17, q18, q19, q20, q21, q22, q23, q24, q25, q26, q27, q28, q29, q30, q31, q32, q33, q34, q35, q36, q37, q38, q39, q39b, q40, q41, q42, q44, q45, q46, q47, q48, o_add, o_sub, o_mulR, o_mulL, o_mod, o_div, o_addS, o_addI, o_addL, o_addT, o_p18, o_neg, o_cmp, o_eqI, o_eqS, o_eqB, o_neI, o_neS, o_len1, o_len2, o_len3, o_lenS, o_int, o_ix1, o_ix2, o_ix3, o_tup, o_lst, o_list1, o_list2, o_tuple1, o_tuple2, o_max, o_min, o_slL, o_slT, o_slS, o_mulSt, o_isIint, o_isIbool, o_isIstr, o_isIlist, o_isItuple, o_isBint, o_isBbool, o_isBstr, o_isBlist, o_isBtuple, o_isSint, o_isSbool, o_isSstr, o_isSlist, o_isStuple, o_isLint, o_isLbool, o_isLstr, o_isLlist, o_isLtuple, o_isTint, o_isTbool, o_isTstr, o_isTlist, o_isTtuple, o_isNint, o_isNbool, o_isNstr, o_isNlist, o_isNtuple, o_allT, o_truB, o_truN, o_truI, o_truL, o_truT, q_sv1, q_sv2, view, fixSlot, wipeE, aName, aTup, aCons, aNil, List.map_cons, List.map_nil, List.length_cons, List.length_nil, List.cons_append, List.nil_append, List.replicate_succ, List.replicate_zero, List.getElem?_cons_zero, List.getElem?_cons_succ, List.set_cons_zero, List.set_cons_succ, Option.map_some, Option.map_none, reduceIte, Nat.reduceAdd, Nat.reduceEqDiff, Option.some.injEq, List.length_map, List.length_append, and_true, true_and, and_self, decide_true, decide_false, Int.reduceLT, Int.reduceNeg, Int.reduceLE, Int.reduceEq, Int.reduceMul, Int.reduceAdd, Int.reduceSub, Int.reduceMod, Int.reduceDiv, Nat.reduceLT, Nat.reduceLeDiff, Int.reducePow, Nat.reducePow, Int.reduceToNat, SV.imm.injEq, SV.own.injEq, W.int.injEq, W.str.injEq, W.bl.injEq, W.lst.injEq, W.tup.injEq, id_eq, exists_eq', exists_eq_left', Out.nx.injEq, Out.rt.injEq, Nat.zero_le, Int.toNat_natCast, not_true_eq_false, not_false_eq_true, Bool.not_true, Bool.not_false, Bool.false_and, Bool.true_and, Bool.and_true, Bool.and_false, Bool.true_or, Bool.false_or, Bool.or_true, Bool.or_false, Bool.false_eq_true, t_in1])) lm]
    simp only [q_seq, q_if, q_fif, q_and, q_or, q_andV, q_orV, q_bin, q_binR, q_un, q_frz, q_imm, q_nil, q_cons, q_call, q_callW, q_c0, q_var, q_ret, q_set, q_aug, q_app, q_ext, q_pop, q_setIx, q_ixo, q_bor, q_tru, q_tst, q_not, q_notV, q_no, q_so, q_sl, q_sq, q_r1, q_r2, q_for, q_lc, q_asg, q_next, q_yes, q_fix, q_slot, q_drop, q_met, q_run, q1, q2, q2b, q2c, q3, q4, q5, q6, q7, q8, q9, q10, q11, q12, q13, q14, q15, q16, q17, q18, q19, q20, q21, q22, q23, q24, q25, q26, q27, q28, q29, q30, q31, q32, q33, q34, q35, q36, q37, q38, q39, q39b, q40, q41, q42, q44, q45, q46, q47, q48, o_add, o_sub, o_mulR, o_mulL, o_mod, o_div, o_addS, o_addI, o_addL, o_addT, o_p18, o_neg, o_cmp, o_eqI, o_eqS, o_eqB, o_neI, o_neS, o_len1, o_len2, o_len3, o_lenS, o_int, o_ix1, o_ix2, o_ix3, o_tup, o_lst, o_list1, o_list2, o_tuple1, o_tuple2, o_max, o_min, o_slL, o_slT, o_slS, o_mulSt, o_isIint, o_isIbool, o_isIstr, o_isIlist, o_isItuple, o_isBint, o_isBbool, o_isBstr, o_isBlist, o_isBtuple, o_isSint, o_isSbool, o_isSstr, o_isSlist, o_isStuple, o_isLint, o_isLbool, o_isLstr, o_isLlist, o_isLtuple, o_isTint, o_isTbool, o_isTstr, o_isTlist, o_isTtuple, o_isNint, o_isNbool, o_isNstr, o_isNlist, o_isNtuple, o_allT, o_truB, o_truN, o_truI, o_truL, o_truT, q_sv1, q_sv2, view, fixSlot, wipeE, aName, aTup, aCons, aNil, List.map_cons, List.map_nil, List.length_cons, List.length_nil, List.cons_append, List.nil_append, List.replicate_succ, List.replicate_zero, List.getElem?_cons_zero, List.getElem?_cons_succ, List.set_cons_zero, List.set_cons_succ, Option.map_some, Option.map_none, reduceIte, Nat.reduceAdd, Nat.reduceEqDiff, Option.some.injEq, List.length_map, List.length_append, and_true, true_and, and_self, decide_true, decide_false, Int.reduceLT, Int.reduceNeg, Int.reduceLE, Int.reduceEq, Int.reduceMul, Int.reduceAdd, Int.reduceSub, Int.reduceMod, Int.reduceDiv, Nat.reduceLT, Nat.reduceLeDiff, Int.reducePow, Nat.reducePow, Int.reduceToNat, SV.imm.injEq, SV.own.injEq, W.int.injEq, W.str.injEq, W.bl.injEq, W.lst.injEq, W.tup.injEq, id_eq, exists_eq', exists_eq_left', Out.nx.injEq, Out.rt.injEq, Nat.zero_le, Int.toNat_natCast, not_true_eq_false, not_false_eq_true, Bool.not_true, Bool.not_false, Bool.false_and, Bool.true_and, Bool.and_true, Bool.and_false, Bool.true_or, Bool.false_or, Bool.or_true, Bool.or_false, Bool.false_eq_true, all_chars]
  · simp only [q_seq, q_if, q_fif, q_and, q_or, q_andV, q_orV, q_bin, q_binR, q_un, q_frz, q_imm, q_nil, q_cons, q_call, q_callW, q_c0, q_var, q_ret, q_set, q_aug, q_app, q_ext, q_pop, q_setIx, q_ixo, q_bor, q_tru, q_tst, q_not, q_notV, q_no, q_so, q_sl, q_sq, q_r1, q_r2, q_for, q_lc, q_asg, q_next, q_yes, q_fix, q_slot, q_drop, q_met, q_run, q1, q2, q2b, q2c, q3, q4, q5, q6, q7, q8, q9, q10, q11, q12, q13, q14, q15, q16, q17, q18, q19, q20, q21, q22, q23, q24, q25, q26, q27, q28, q29, q30, q31, q32, q33, q34, q35, q36, q37, q38, q39, q39b, q40, q41, q42, q44, q45, q46, q47, q48, o_add, o_sub, o_mulR, o_mulL, o_mod, o_div, o_addS, o_addI, o_addL, o_addT, o_p18, o_neg, o_cmp, o_eqI, o_eqS, o_eqB, o_neI, o_neS, o_len1, o_len2, o_len3, o_lenS, o_int, o_ix1, o_ix2, o_ix3, o_tup, o_lst, o_list1, o_list2, o_tuple1, o_tuple2, o_max, o_min, o_slL, o_slT, o_slS, o_mulSt, o_isIint, o_isIbool, o_isIstr, o_isIlist, o_isItuple, o_isBint, o_isBbool, o_isBstr, o_isBlist, o_isBtuple, o_isSint, o_isSbool, o_isSstr, o_isSlist, o_isStuple, o_isLint, o_isLbool, o_isLstr, o_isLlist, o_isLtuple, o_isTint, o_isTbool, o_isTstr, o_isTlist, o_isTtuple, o_isNint, o_isNbool, o_isNstr, o_isNlist, o_isNtuple, o_allT, o_truB, o_truN, o_truI, o_truL, o_truT, q_sv1, q_sv2, view, fixSlot, wipeE, aName, aTup, aCons, aNil, List.map_cons, List.map_nil, List.length_cons, List.length_nil, List.cons_append, List.nil_append, List.replicate_succ, List.replicate_zero, List.getElem?_cons_zero, List.getElem?_cons_succ, List.set_cons_zero, List.set_cons_succ, Option.map_some, Option.map_none, reduceIte, Nat.reduceAdd, Nat.reduceEqDiff, Option.some.injEq, List.length_map, List.length_append, and_true, true_and, and_self, decide_true, decide_false, Int.reduceLT, Int.reduceNeg, Int.reduceLE, Int.reduceEq, Int.reduceMul, Int.reduceAdd, Int.reduceSub, Int.reduceMod, Int.reduceDiv, Nat.reduceLT, Nat.reduceLeDiff, Int.reducePow, Nat.reducePow, Int.reduceToNat, SV.imm.injEq, SV.own.injEq, W.int.injEq, W.str.injEq, W.bl.injEq, W.lst.injEq, W.tup.injEq, id_eq, exists_eq', exists_eq_left', Out.nx.injEq, Out.rt.injEq, Nat.zero_le, Int.toNat_natCast, not_true_eq_false, not_false_eq_true, Bool.not_true, Bool.not_false, Bool.false_and, Bool.true_and, Bool.and_true, Bool.and_false, Bool.true_or, Bool.false_or, Bool.or_true, Bool.or_false, Bool.false_eq_true, lenT, hz, k_dig, k_most, l9, h9]
theorem take_run {l post : List Nat} (h : ∀ c ∈ l, c ∈ innL) (hp : post.headD 32 ∉ innL) : (l ++ post).takeWhile (fun c => decide (c ∈ innL)) = l := by
  induction l with
  | nil =>
    cases post with
    | nil => rfl
    | cons c r => rw [List.nil_append, List.takeWhile_cons_of_neg (by simpa using hp)]
  | cons c r ih =>
    rw [List.cons_append, List.takeWhile_cons_of_pos (by simpa using h c List.mem_cons_self), ih fun d hd => h d (List.mem_cons_of_mem _ hd)]
theorem end_run_ok {t l post : List Nat} {p : Nat} (ht : t.length ≤ 1000000) (h : t.drop p = l ++ post) (r : Run l) (hp : post.headD 32 ∉ innL) : F_end_of_run [.str (T t), .int (p : Int)] = some (.imm (.int ((p + l.length : Nat) : Int))) := by
  have hz : t.length ≤ 16777216 := by omega
  have hlen := congrArg List.length h
  rw [List.length_drop, List.length_append] at hlen
  obtain ⟨hne, hall, hgood⟩ := r
  have hpl : 0 < l.length := List.length_pos_iff.mpr hne
  obtain ⟨n, hn⟩ := run_while ht (some (.imm (.int (p : Int)))) (l ++ post) p h
  rw [take_run hall hp] at hn
  have hw := sWhile_of n hn
  have hc : t[p]? = some (l.headD 0) := by
    have := congrArg (·[0]?) h
    cases l with
    | nil => exact absurd rfl hne
    | cons c r => simpa using this
  have ix := t_ix hz hc
  unfold F_end_of_run B_end_of_run
  by_cases hs : l.headD 0 ∈ smallL
  · simp only [q_seq, q_if, q_fif, q_and, q_or, q_andV, q_orV, q_bin, q_binR, q_un, q_frz, q_imm, q_nil, q_cons, q_call, q_callW, q_c0, q_var, q_ret, q_set, q_aug, q_app, q_ext, q_pop, q_setIx, q_ixo, q_bor, q_tru, q_tst, q_not, q_notV, q_no, q_so, q_sl, q_sq, q_r1, q_r2, q_for, q_lc, q_asg, q_next, q_yes, q_fix, q_slot, q_drop, q_met, q_run, q1, q2, q2b, q2c, q3, q4, q5, q6, q7, q8, q9, q10, q11, q12, q13, q14, q15, q16, q17, q18, q19, q20, q21, q22, q23, q24, q25, q26, q27, q28, q29, q30, q31, q32, q33, q34, q35, q36, q37, q38, q39, q39b, q40, q41, q42, q44, q45, q46, q47, q48, o_add, o_sub, o_mulR, o_mulL, o_mod, o_div, o_addS, o_addI, o_addL, o_addT, o_p18, o_neg, o_cmp, o_eqI, o_eqS, o_eqB, o_neI, o_neS, o_len1, o_len2, o_len3, o_lenS, o_int, o_ix1, o_ix2, o_ix3, o_tup, o_lst, o_list1, o_list2, o_tuple1, o_tuple2, o_max, o_min, o_slL, o_slT, o_slS, o_mulSt, o_isIint, o_isIbool, o_isIstr, o_isIlist, o_isItuple, o_isBint, o_isBbool, o_isBstr, o_isBlist, o_isBtuple, o_isSint, o_isSbool, o_isSstr, o_isSlist, o_isStuple, o_isLint, o_isLbool, o_isLstr, o_isLlist, o_isLtuple, o_isTint, o_isTbool, o_isTstr, o_isTlist, o_isTtuple, o_isNint, o_isNbool, o_isNstr, o_isNlist, o_isNtuple, o_allT, o_truB, o_truN, o_truI, o_truL, o_truT, q_sv1, q_sv2, view, fixSlot, wipeE, aName, aTup, aCons, aNil, List.map_cons, List.map_nil, List.length_cons, List.length_nil, List.cons_append, List.nil_append, List.replicate_succ, List.replicate_zero, List.getElem?_cons_zero, List.getElem?_cons_succ, List.set_cons_zero, List.set_cons_succ, Option.map_some, Option.map_none, reduceIte, Nat.reduceAdd, Nat.reduceEqDiff, Option.some.injEq, List.length_map, List.length_append, and_true, true_and, and_self, decide_true, decide_false, Int.reduceLT, Int.reduceNeg, Int.reduceLE, Int.reduceEq, Int.reduceMul, Int.reduceAdd, Int.reduceSub, Int.reduceMod, Int.reduceDiv, Nat.reduceLT, Nat.reduceLeDiff, Int.reducePow, Nat.reducePow, Int.reduceToNat, SV.imm.injEq, SV.own.injEq, W.int.injEq, W.str.injEq, W.bl.injEq, W.lst.injEq, W.tup.injEq, id_eq, exists_eq', exists_eq_left', Out.nx.injEq, Out.rt.injEq, Nat.zero_le, Int.toNat_natCast, not_true_eq_false, not_false_eq_true, Bool.not_true, Bool.not_false, Bool.false_and, Bool.true_and, Bool.and_true, Bool.and_false, Bool.true_or, Bool.false_or, Bool.or_true, Bool.or_false, Bool.false_eq_true, k_name, hw, k_small, ix, t_in1, hs]
  · have hg := hgood.resolve_left hs
    have hnum := num_ok l (by omega)
    rw [hg.1, decide_eq_true hg.2] at hnum
    have hcut : cutS (T t) (some (p : Int)) (some ((p + l.length : Nat) : Int)) = T l := by
      rw [t_cut, Nat.min_eq_left (by omega), Nat.min_eq_left (by omega), h, Nat.add_sub_cancel_left, List.take_left]
    have hT : (T t).length ≤ 16777216 := by rw [t_len]; exact hz
    simp only [q_seq, q_if, q_fif, q_and, q_or, q_andV, q_orV, q_bin, q_binR, q_un, q_frz, q_imm, q_nil, q_cons, q_call, q_callW, q_c0, q_var, q_ret, q_set, q_aug, q_app, q_ext, q_pop, q_setIx, q_ixo, q_bor, q_tru, q_tst, q_not, q_notV, q_no, q_so, q_sl, q_sq, q_r1, q_r2, q_for, q_lc, q_asg, q_next, q_yes, q_fix, q_slot, q_drop, q_met, q_run, q1, q2, q2b, q2c, q3, q4, q5, q6, q7, q8, q9, q10, q11, q12, q13, q14, q15, q16, q17, q18, q19, q20, q21, q22, q23, q24, q25, q26, q27, q28, q29, q30, q31, q32, q33, q34, q35, q36, q37, q38, q39, q39b, q40, q41, q42, q44, q45, q46, q47, q48, o_add, o_sub, o_mulR, o_mulL, o_mod, o_div, o_addS, o_addI, o_addL, o_addT, o_p18, o_neg, o_cmp, o_eqI, o_eqS, o_eqB, o_neI, o_neS, o_len1, o_len2, o_len3, o_lenS, o_int, o_ix1, o_ix2, o_ix3, o_tup, o_lst, o_list1, o_list2, o_tuple1, o_tuple2, o_max, o_min, o_slL, o_slT, o_slS, o_mulSt, o_isIint, o_isIbool, o_isIstr, o_isIlist, o_isItuple, o_isBint, o_isBbool, o_isBstr, o_isBlist, o_isBtuple, o_isSint, o_isSbool, o_isSstr, o_isSlist, o_isStuple, o_isLint, o_isLbool, o_isLstr, o_isLlist, o_isLtuple, o_isTint, o_isTbool, o_isTstr, o_isTlist, o_isTtuple, o_isNint, o_isNbool, o_isNstr, o_isNlist, o_isNtuple, o_allT, o_truB, o_truN, o_truI, o_truL, o_truT, q_sv1, q_sv2, view, fixSlot, wipeE, aName, aTup, aCons, aNil, List.map_cons, List.map_nil, List.length_cons, List.length_nil, List.cons_append, List.nil_append, List.replicate_succ, List.replicate_zero, List.getElem?_cons_zero, List.getElem?_cons_succ, List.set_cons_zero, List.set_cons_succ, Option.map_some, Option.map_none, reduceIte, Nat.reduceAdd, Nat.reduceEqDiff, Option.some.injEq, List.length_map, List.length_append, and_true, true_and, and_self, decide_true, decide_false, Int.reduceLT, Int.reduceNeg, Int.reduceLE, Int.reduceEq, Int.reduceMul, Int.reduceAdd, Int.reduceSub, Int.reduceMod, Int.reduceDiv, Nat.reduceLT, Nat.reduceLeDiff, Int.reducePow, Nat.reducePow, Int.reduceToNat, SV.imm.injEq, SV.own.injEq, W.int.injEq, W.str.injEq, W.bl.injEq, W.lst.injEq, W.tup.injEq, id_eq, exists_eq', exists_eq_left', Out.nx.injEq, Out.rt.injEq, Nat.zero_le, Int.toNat_natCast, not_true_eq_false, not_false_eq_true, Bool.not_true, Bool.not_false, Bool.false_and, Bool.true_and, Bool.and_true, Bool.and_false, Bool.true_or, Bool.false_or, Bool.or_true, Bool.or_false, Bool.false_eq_true, k_name, hw, k_small, ix, t_in1, hs, hT, hcut, hnum]
theorem sign_facts : ∀ l ∈ signL, l.headD 0 ∉ innL ∧ ([l.headD 0] : List Nat) ≠ [10] := by decide
theorem end_ok {t l post : List Nat} {p : Nat} (ht : t.length ≤ 1000000) (h : t.drop p = l ++ post) (r : (Run l ∧ post.headD 32 ∉ innL) ∨ l ∈ signL ∨ l = [10]) : F_end_of_token [.str (T t), .int (p : Int)] = some (.imm (.int ((p + l.length : Nat) : Int))) := by
  have hz : t.length ≤ 16777216 := by omega
  have hne : l ≠ [] := by
    rcases r with r | r | r
    · exact r.1.1
    · rintro rfl
      revert r
      decide
    · rw [r]
      decide
  have hc : t[p]? = some (l.headD 0) := by
    have := congrArg (·[0]?) h
    cases l with
    | nil => exact absurd rfl hne
    | cons c r => simpa using this
  have ix := t_ix hz hc
  unfold F_end_of_token B_end_of_token
  rcases r with ⟨r, hp⟩ | r | rfl
  · have hin : l.headD 0 ∈ innL := by
      cases l with
      | nil => exact absurd rfl hne
      | cons c r' => exact r.2.1 c List.mem_cons_self
    have hend := end_run_ok ht h r hp
    simp only [q_seq, q_if, q_fif, q_and, q_or, q_andV, q_orV, q_bin, q_binR, q_un, q_frz, q_imm, q_nil, q_cons, q_call, q_callW, q_c0, q_var, q_ret, q_set, q_aug, q_app, q_ext, q_pop, q_setIx, q_ixo, q_bor, q_tru, q_tst, q_not, q_notV, q_no, q_so, q_sl, q_sq, q_r1, q_r2, q_for, q_lc, q_asg, q_next, q_yes, q_fix, q_slot, q_drop, q_met, q_run, q1, q2, q2b, q2c, q3, q4, q5, q6, q7, q8, q9, q10, q11, q12, q13, q14, q15, q16, q17, q18, q19, q20, q21, q22, q23, q24, q25, q26, q27, q28, q29, q30, q31, q32, q33, q34, q35, q36, q37, q38, q39, q39b, q40, q41, q42, q44, q45, q46, q47, q48, o_add, o_sub, o_mulR, o_mulL, o_mod, o_div, o_addS, o_addI, o_addL, o_addT, o_p18, o_neg, o_cmp, o_eqI, o_eqS, o_eqB, o_neI, o_neS, o_len1, o_len2, o_len3, o_lenS, o_int, o_ix1, o_ix2, o_ix3, o_tup, o_lst, o_list1, o_list2, o_tuple1, o_tuple2, o_max, o_min, o_slL, o_slT, o_slS, o_mulSt, o_isIint, o_isIbool, o_isIstr, o_isIlist, o_isItuple, o_isBint, o_isBbool, o_isBstr, o_isBlist, o_isBtuple, o_isSint, o_isSbool, o_isSstr, o_isSlist, o_isStuple, o_isLint, o_isLbool, o_isLstr, o_isLlist, o_isLtuple, o_isTint, o_isTbool, o_isTstr, o_isTlist, o_isTtuple, o_isNint, o_isNbool, o_isNstr, o_isNlist, o_isNtuple, o_allT, o_truB, o_truN, o_truI, o_truL, o_truT, q_sv1, q_sv2, view, fixSlot, wipeE, aName, aTup, aCons, aNil, List.map_cons, List.map_nil, List.length_cons, List.length_nil, List.cons_append, List.nil_append, List.replicate_succ, List.replicate_zero, List.getElem?_cons_zero, List.getElem?_cons_succ, List.set_cons_zero, List.set_cons_succ, Option.map_some, Option.map_none, reduceIte, Nat.reduceAdd, Nat.reduceEqDiff, Option.some.injEq, List.length_map, List.length_append, and_true, true_and, and_self, decide_true, decide_false, Int.reduceLT, Int.reduceNeg, Int.reduceLE, Int.reduceEq, Int.reduceMul, Int.reduceAdd, Int.reduceSub, Int.reduceMod, Int.reduceDiv, Nat.reduceLT, Nat.reduceLeDiff, Int.reducePow, Nat.reducePow, Int.reduceToNat, SV.imm.injEq, SV.own.injEq, W.int.injEq, W.str.injEq, W.bl.injEq, W.lst.injEq, W.tup.injEq, id_eq, exists_eq', exists_eq_left', Out.nx.injEq, Out.rt.injEq, Nat.zero_le, Int.toNat_natCast, not_true_eq_false, not_false_eq_true, Bool.not_true, Bool.not_false, Bool.false_and, Bool.true_and, Bool.and_true, Bool.and_false, Bool.true_or, Bool.false_or, Bool.or_true, Bool.or_false, Bool.false_eq_true, k_name, ix, t_in1, hin, hend]
  · have hlen := congrArg List.length h
    rw [List.length_drop, List.length_append] at hlen
    have hpl : 0 < l.length := List.length_pos_iff.mpr hne
    have sw : ∀ b : List Nat, stw3 (.str (T t)) [.str (T b), .int (p : Int)] = some (.bl (decide ((l ++ post).take b.length = b))) := fun b => by
      show some (W.bl (Txt.startswith3 (T t) (T b) (p : Int))) = _
      rw [t_sw (by omega), h]
    have hni := (sign_facts l r).1
    have hnn : decide (T [l.headD 0] = T [10]) = false := by
      rw [t_dec]
      exact decide_eq_false (sign_facts l r).2
    simp only [q_seq, q_if, q_fif, q_and, q_or, q_andV, q_orV, q_bin, q_binR, q_un, q_frz, q_imm, q_nil, q_cons, q_call, q_callW, q_c0, q_var, q_ret, q_set, q_aug, q_app, q_ext, q_pop, q_setIx, q_ixo, q_bor, q_tru, q_tst, q_not, q_notV, q_no, q_so, q_sl, q_sq, q_r1, q_r2, q_for, q_lc, q_asg, q_next, q_yes, q_fix, q_slot, q_drop, q_met, q_run, q1, q2, q2b, q2c, q3, q4, q5, q6, q7, q8, q9, q10, q11, q12, q13, q14, q15, q16, q17, q18, q19, q20, q21, q22, q23, q24, q25, q26, q27, q28, q29, q30, q31, q32, q33, q34, q35, q36, q37, q38, q39, q39b, q40, q41, q42, q44, q45, q46, q47, q48, o_add, o_sub, o_mulR, o_mulL, o_mod, o_div, o_addS, o_addI, o_addL, o_addT, o_p18, o_neg, o_cmp, o_eqI, o_eqS, o_eqB, o_neI, o_neS, o_len1, o_len2, o_len3, o_lenS, o_int, o_ix1, o_ix2, o_ix3, o_tup, o_lst, o_list1, o_list2, o_tuple1, o_tuple2, o_max, o_min, o_slL, o_slT, o_slS, o_mulSt, o_isIint, o_isIbool, o_isIstr, o_isIlist, o_isItuple, o_isBint, o_isBbool, o_isBstr, o_isBlist, o_isBtuple, o_isSint, o_isSbool, o_isSstr, o_isSlist, o_isStuple, o_isLint, o_isLbool, o_isLstr, o_isLlist, o_isLtuple, o_isTint, o_isTbool, o_isTstr, o_isTlist, o_isTtuple, o_isNint, o_isNbool, o_isNstr, o_isNlist, o_isNtuple, o_allT, o_truB, o_truN, o_truI, o_truL, o_truT, q_sv1, q_sv2, view, fixSlot, wipeE, aName, aTup, aCons, aNil, List.map_cons, List.map_nil, List.length_cons, List.length_nil, List.cons_append, List.nil_append, List.replicate_succ, List.replicate_zero, List.getElem?_cons_zero, List.getElem?_cons_succ, List.set_cons_zero, List.set_cons_succ, Option.map_some, Option.map_none, reduceIte, Nat.reduceAdd, Nat.reduceEqDiff, Option.some.injEq, List.length_map, List.length_append, and_true, true_and, and_self, decide_true, decide_false, Int.reduceLT, Int.reduceNeg, Int.reduceLE, Int.reduceEq, Int.reduceMul, Int.reduceAdd, Int.reduceSub, Int.reduceMod, Int.reduceDiv, Nat.reduceLT, Nat.reduceLeDiff, Int.reducePow, Nat.reducePow, Int.reduceToNat, SV.imm.injEq, SV.own.injEq, W.int.injEq, W.str.injEq, W.bl.injEq, W.lst.injEq, W.tup.injEq, id_eq, exists_eq', exists_eq_left', Out.nx.injEq, Out.rt.injEq, Nat.zero_le, Int.toNat_natCast, not_true_eq_false, not_false_eq_true, Bool.not_true, Bool.not_false, Bool.false_and, Bool.true_and, Bool.and_true, Bool.and_false, Bool.true_or, Bool.false_or, Bool.or_true, Bool.or_false, Bool.false_eq_true, k_name, ix, t_in1, hni, hnn, k_signs, s_nl]
    have lb : ∀ b ∈ sign2L, lenW [.str (T b)] = some (.int b.length) := fun b hb => lenT (by
      have : ∀ b ∈ sign2L, b.length ≤ 16777216 := by decide
      exact this b hb)
    simp only [signL, List.mem_cons, List.not_mem_nil, or_false] at r
    have l1 : lenW [.str (T [60, 45, 62])] = some (.int 3) := lb _ (by decide)
    have l2 : lenW [.str (T [45, 62])] = some (.int 2) := lb _ (by decide)
    have l3 : lenW [.str (T [40])] = some (.int 1) := lb _ (by decide)
    have l4 : lenW [.str (T [41])] = some (.int 1) := lb _ (by decide)
    have l5 : lenW [.str (T [44])] = some (.int 1) := lb _ (by decide)
    have l6 : lenW [.str (T [58])] = some (.int 1) := lb _ (by decide)
    have l7 : lenW [.str (T [61])] = some (.int 1) := lb _ (by decide)
    rcases r with rfl | rfl | rfl | rfl | rfl | rfl | rfl
    all_goals
      unfold sign2L
      simp only [q_seq, q_if, q_fif, q_and, q_or, q_andV, q_orV, q_bin, q_binR, q_un, q_frz, q_imm, q_nil, q_cons, q_call, q_callW, q_c0, q_var, q_ret, q_set, q_aug, q_app, q_ext, q_pop, q_setIx, q_ixo, q_bor, q_tru, q_tst, q_not, q_notV, q_no, q_so, q_sl, q_sq, q_r1, q_r2, q_for, q_lc, q_asg, q_next, q_yes, q_fix, q_slot, q_drop, q_met, q_run, q1, q2, q2b, q2c, q3, q4, q5, q6, q7, q8, q9, q10, q11, q12, q13, q14, q15, q16, q17, q18, q19, q20, q21, q22, q23, q24, q25, q26, q27, q28, q29, q30, q31, q32, q33, q34, q35, q36, q37, q38, q39, q39b, q40, q41, q42, q44, q45, q46, q47, q48, o_add, o_sub, o_mulR, o_mulL, o_mod, o_div, o_addS, o_addI, o_addL, o_addT, o_p18, o_neg, o_cmp, o_eqI, o_eqS, o_eqB, o_neI, o_neS, o_len1, o_len2, o_len3, o_lenS, o_int, o_ix1, o_ix2, o_ix3, o_tup, o_lst, o_list1, o_list2, o_tuple1, o_tuple2, o_max, o_min, o_slL, o_slT, o_slS, o_mulSt, o_isIint, o_isIbool, o_isIstr, o_isIlist, o_isItuple, o_isBint, o_isBbool, o_isBstr, o_isBlist, o_isBtuple, o_isSint, o_isSbool, o_isSstr, o_isSlist, o_isStuple, o_isLint, o_isLbool, o_isLstr, o_isLlist, o_isLtuple, o_isTint, o_isTbool, o_isTstr, o_isTlist, o_isTtuple, o_isNint, o_isNbool, o_isNstr, o_isNlist, o_isNtuple, o_allT, o_truB, o_truN, o_truI, o_truL, o_truT, q_sv1, q_sv2, view, fixSlot, wipeE, aName, aTup, aCons, aNil, List.map_cons, List.map_nil, List.length_cons, List.length_nil, List.cons_append, List.nil_append, List.replicate_succ, List.replicate_zero, List.getElem?_cons_zero, List.getElem?_cons_succ, List.set_cons_zero, List.set_cons_succ, Option.map_some, Option.map_none, reduceIte, Nat.reduceAdd, Nat.reduceEqDiff, Option.some.injEq, List.length_map, List.length_append, and_true, true_and, and_self, decide_true, decide_false, Int.reduceLT, Int.reduceNeg, Int.reduceLE, Int.reduceEq, Int.reduceMul, Int.reduceAdd, Int.reduceSub, Int.reduceMod, Int.reduceDiv, Nat.reduceLT, Nat.reduceLeDiff, Int.reducePow, Nat.reducePow, Int.reduceToNat, SV.imm.injEq, SV.own.injEq, W.int.injEq, W.str.injEq, W.bl.injEq, W.lst.injEq, W.tup.injEq, id_eq, exists_eq', exists_eq_left', Out.nx.injEq, Out.rt.injEq, Nat.zero_le, Int.toNat_natCast, not_true_eq_false, not_false_eq_true, Bool.not_true, Bool.not_false, Bool.false_and, Bool.true_and, Bool.and_true, Bool.and_false, Bool.true_or, Bool.false_or, Bool.or_true, Bool.or_false, Bool.false_eq_true, q_loop, q_loop0, sw, l1, l2, l3, l4, l5, l6, l7, List.take_succ_cons, List.take_zero, List.cons.injEq, Nat.reduceEqDiff, false_and, reduceCtorEq]
      rfl
  · have h1 : (10 : Nat) ∉ innL := by decide
    have ix' : ixW (.str (T t)) (.int (p : Int)) = some (.str (T [10])) := ix
    simp only [q_seq, q_if, q_fif, q_and, q_or, q_andV, q_orV, q_bin, q_binR, q_un, q_frz, q_imm, q_nil, q_cons, q_call, q_callW, q_c0, q_var, q_ret, q_set, q_aug, q_app, q_ext, q_pop, q_setIx, q_ixo, q_bor, q_tru, q_tst, q_not, q_notV, q_no, q_so, q_sl, q_sq, q_r1, q_r2, q_for, q_lc, q_asg, q_next, q_yes, q_fix, q_slot, q_drop, q_met, q_run, q1, q2, q2b, q2c, q3, q4, q5, q6, q7, q8, q9, q10, q11, q12, q13, q14, q15, q16, q17, q18, q19, q20, q21, q22, q23, q24, q25, q26, q27, q28, q29, q30, q31, q32, q33, q34, q35, q36, q37, q38, q39, q39b, q40, q41, q42, q44, q45, q46, q47, q48, o_add, o_sub, o_mulR, o_mulL, o_mod, o_div, o_addS, o_addI, o_addL, o_addT, o_p18, o_neg, o_cmp, o_eqI, o_eqS, o_eqB, o_neI, o_neS, o_len1, o_len2, o_len3, o_lenS, o_int, o_ix1, o_ix2, o_ix3, o_tup, o_lst, o_list1, o_list2, o_tuple1, o_tuple2, o_max, o_min, o_slL, o_slT, o_slS, o_mulSt, o_isIint, o_isIbool, o_isIstr, o_isIlist, o_isItuple, o_isBint, o_isBbool, o_isBstr, o_isBlist, o_isBtuple, o_isSint, o_isSbool, o_isSstr, o_isSlist, o_isStuple, o_isLint, o_isLbool, o_isLstr, o_isLlist, o_isLtuple, o_isTint, o_isTbool, o_isTstr, o_isTlist, o_isTtuple, o_isNint, o_isNbool, o_isNstr, o_isNlist, o_isNtuple, o_allT, o_truB, o_truN, o_truI, o_truL, o_truT, q_sv1, q_sv2, view, fixSlot, wipeE, aName, aTup, aCons, aNil, List.map_cons, List.map_nil, List.length_cons, List.length_nil, List.cons_append, List.nil_append, List.replicate_succ, List.replicate_zero, List.getElem?_cons_zero, List.getElem?_cons_succ, List.set_cons_zero, List.set_cons_succ, Option.map_some, Option.map_none, reduceIte, Nat.reduceAdd, Nat.reduceEqDiff, Option.some.injEq, List.length_map, List.length_append, and_true, true_and, and_self, decide_true, decide_false, Int.reduceLT, Int.reduceNeg, Int.reduceLE, Int.reduceEq, Int.reduceMul, Int.reduceAdd, Int.reduceSub, Int.reduceMod, Int.reduceDiv, Nat.reduceLT, Nat.reduceLeDiff, Int.reducePow, Nat.reducePow, Int.reduceToNat, SV.imm.injEq, SV.own.injEq, W.int.injEq, W.str.injEq, W.bl.injEq, W.lst.injEq, W.tup.injEq, id_eq, exists_eq', exists_eq_left', Out.nx.injEq, Out.rt.injEq, Nat.zero_le, Int.toNat_natCast, not_true_eq_false, not_false_eq_true, Bool.not_true, Bool.not_false, Bool.false_and, Bool.true_and, Bool.and_true, Bool.and_false, Bool.true_or, Bool.false_or, Bool.or_true, Bool.or_false, Bool.false_eq_true, k_name, ix', t_in1, h1, s_nl]
    rfl
end Qw
namespace Qw
open PySem PySem.Spec PyProof.Rows L2 Nz
def valL (l : List Nat) : W := if kindL l = "number" then .int ((NumText.digitsVal l : Nat) : Int) else if kindL l = "line" then .str "" else .str (T l)
/-- a token: a run, a sign, a line -/
def Tk (l : List Nat) : Prop := l.length ≤ 100000 ∧ ((Run l ∧ (kindL l = "word" ∨ kindL l = "number" ∨ kindL l = "name")) ∨ (l ∈ signL ∧ kindL l = "sign") ∨ (l = [10] ∧ kindL l = "line"))
theorem kn1 : ("number" : Str) ≠ "word" := by decide +kernel
theorem word_facts : ∀ l ∈ wordL, l ≠ [] ∧ (∀ c ∈ l, c ∈ innL) ∧ l.headD 0 ∈ smallL ∧ l.length ≤ 9 := by decide
theorem dig_inn : ∀ c ∈ digL, c ∈ innL := by decide
theorem dig_small : ∀ c ∈ digL, c ∉ smallL := by decide
theorem zero_small : (0 : Nat) ∉ smallL := by decide
theorem kinds_ne : ("word" : Str) ≠ "sign" ∧ ("word" : Str) ≠ "line" ∧ ("word" : Str) ≠ "end" ∧ ("word" : Str) ≠ "number" ∧ ("word" : Str) ≠ "name" ∧ ("word" : Str) ≠ "odd" ∧ ("sign" : Str) ≠ "line" ∧ ("sign" : Str) ≠ "end" ∧ ("sign" : Str) ≠ "number" ∧ ("sign" : Str) ≠ "name" ∧ ("sign" : Str) ≠ "odd" ∧
    ("line" : Str) ≠ "end" ∧ ("line" : Str) ≠ "number" ∧ ("line" : Str) ≠ "name" ∧ ("line" : Str) ≠ "odd" ∧ ("end" : Str) ≠ "number" ∧ ("end" : Str) ≠ "name" ∧ ("end" : Str) ≠ "odd" ∧ ("number" : Str) ≠ "name" ∧ ("number" : Str) ≠ "odd" ∧ ("name" : Str) ≠ "odd" := by decide +kernel
/-- what a kind says of the text -/
theorem tk_of {l : List Nat} (hl : l.length ≤ 100000) (h : kindL l ≠ "odd") (h' : kindL l ≠ "end") : Tk l := by
  refine ⟨hl, ?_⟩
  have hk : kindL l = kindL l := rfl
  unfold kindL at hk h h'
  by_cases h1 : l ∈ wordL
  · obtain ⟨a, b, c, _⟩ := word_facts l h1
    exact .inl ⟨⟨a, b, .inl c⟩, .inl (by unfold kindL; rw [if_pos h1])⟩
  rw [if_neg h1] at h h'
  by_cases h2 : l ∈ signL
  · exact .inr (.inl ⟨h2, by unfold kindL; rw [if_neg h1, if_pos h2]⟩)
  rw [if_neg h2] at h h'
  by_cases h3 : l = [10]
  · exact .inr (.inr ⟨h3, by unfold kindL; rw [if_neg h1, if_neg h2, if_pos h3]⟩)
  rw [if_neg h3] at h h'
  by_cases h4 : l = []
  · rw [if_pos h4] at h'
    exact absurd rfl h'
  rw [if_neg h4] at h h'
  by_cases h5 : (l.all (fun c => decide (c ∈ digL)) && decide (l.length ≤ 9)) = true
  · refine .inl ⟨⟨h4, fun c hc => ?_, .inr ?_⟩, .inr (.inl (by unfold kindL; rw [if_neg h1, if_neg h2, if_neg h3, if_neg h4, if_pos h5]))⟩
    · rw [Bool.and_eq_true, List.all_eq_true] at h5
      exact dig_inn c (of_decide_eq_true (h5.1 c hc))
    · rw [Bool.and_eq_true] at h5
      exact ⟨h5.1, of_decide_eq_true h5.2⟩
  rw [if_neg h5] at h h'
  by_cases h6 : (decide (l.headD 0 ∈ smallL) && l.all (fun c => decide (c ∈ innL))) = true
  · refine .inl ⟨⟨h4, fun c hc => ?_, .inl ?_⟩, .inr (.inr (by unfold kindL; rw [if_neg h1, if_neg h2, if_neg h3, if_neg h4, if_neg h5, if_pos h6]))⟩
    · rw [Bool.and_eq_true, List.all_eq_true] at h6
      exact of_decide_eq_true (h6.2 c hc)
    · rw [Bool.and_eq_true] at h6
      exact of_decide_eq_true h6.1
  rw [if_neg h6] at h
  exact absurd rfl h
theorem num_facts {l : List Nat} (h : kindL l = "number") : l ≠ [] ∧ l.all (fun c => decide (c ∈ digL)) = true ∧ l.length ≤ 9 := by
  obtain ⟨n1, n2, n3, n4, n5, n6, n7, n8, n9, n10, n11, n12, n13, n14, n15, n16, n17, n18, n19, n20, n21⟩ := kinds_ne
  unfold kindL at h
  by_cases h1 : l ∈ wordL
  · rw [if_pos h1] at h; exact absurd h n4
  rw [if_neg h1] at h
  by_cases h2 : l ∈ signL
  · rw [if_pos h2] at h; exact absurd h n9
  rw [if_neg h2] at h
  by_cases h3 : l = [10]
  · rw [if_pos h3] at h; exact absurd h n13
  rw [if_neg h3] at h
  by_cases h4 : l = []
  · rw [if_pos h4] at h; exact absurd h n16
  rw [if_neg h4] at h
  by_cases h5 : (l.all (fun c => decide (c ∈ digL)) && decide (l.length ≤ 9)) = true
  · rw [Bool.and_eq_true] at h5
    exact ⟨h4, h5.1, of_decide_eq_true h5.2⟩
  rw [if_neg h5] at h
  by_cases h6 : (decide (l.headD 0 ∈ smallL) && l.all (fun c => decide (c ∈ innL))) = true
  · rw [if_pos h6] at h; exact absurd h.symm n19
  · rw [if_neg h6] at h; exact absurd h.symm n20
theorem wn_facts {l : List Nat} (h : kindL l = "word" ∨ kindL l = "name") : l.headD 0 ∈ smallL ∧ (kindL l = "word" ↔ l ∈ wordL) := by
  obtain ⟨n1, n2, n3, n4, n5, n6, n7, n8, n9, n10, n11, n12, n13, n14, n15, n16, n17, n18, n19, n20, n21⟩ := kinds_ne
  unfold kindL at h ⊢
  by_cases h1 : l ∈ wordL
  · exact ⟨(word_facts l h1).2.2.1, by rw [if_pos h1]; exact ⟨fun _ => h1, fun _ => rfl⟩⟩
  rw [if_neg h1] at h ⊢
  by_cases h2 : l ∈ signL
  · rw [if_pos h2] at h; rcases h with h | h; exact absurd h.symm n1; exact absurd h n10
  rw [if_neg h2] at h ⊢
  by_cases h3 : l = [10]
  · rw [if_pos h3] at h; rcases h with h | h; exact absurd h.symm n2; exact absurd h n14
  rw [if_neg h3] at h ⊢
  by_cases h4 : l = []
  · rw [if_pos h4] at h; rcases h with h | h; exact absurd h.symm n3; exact absurd h n17
  rw [if_neg h4] at h ⊢
  by_cases h5 : (l.all (fun c => decide (c ∈ digL)) && decide (l.length ≤ 9)) = true
  · rw [if_pos h5] at h; rcases h with h | h; exact absurd h.symm n4; exact absurd h n19
  rw [if_neg h5] at h ⊢
  by_cases h6 : (decide (l.headD 0 ∈ smallL) && l.all (fun c => decide (c ∈ innL))) = true
  · rw [if_pos h6]
    rw [Bool.and_eq_true] at h6
    exact ⟨of_decide_eq_true h6.1, ⟨fun z => absurd z.symm n5, fun z => absurd z h1⟩⟩
  · rw [if_neg h6] at h; rcases h with h | h; exact absurd h.symm n6; exact absurd h.symm n21
theorem int_T {l : List Nat} (h : kindL l = "number") : intW [.str (T l)] = some (.int ((NumText.digitsVal l : Nat) : Int)) := by
  obtain ⟨a, b, c⟩ := num_facts h
  have hd : l.all (fun c => decide (48 ≤ c) && decide (c ≤ 57)) = true := by
    rw [List.all_eq_true] at b ⊢
    intro d hd
    have := of_decide_eq_true (b d hd)
    have q : ∀ d ∈ digL, (decide (48 ≤ d) && decide (d ≤ 57)) = true := by decide
    exact q d this
  unfold intW
  simp only
  rw [if_pos (by rw [t_len]; omega), SX.int_S hd a (by omega)]
theorem value_ok {l : List Nat} (hl : l.length ≤ 1000000) : F_value [.str (T l)] = some (.imm (valL l)) := by
  have hk := kind_ok l hl
  unfold F_value B_value valL
  by_cases h1 : kindL l = "number"
  · have hi := int_T h1
    simp only [q_seq, q_if, q_fif, q_and, q_or, q_andV, q_orV, q_bin, q_binR, q_un, q_frz, q_imm, q_nil, q_cons, q_call, q_callW, q_c0, q_var, q_ret, q_set, q_aug, q_app, q_ext, q_pop, q_setIx, q_ixo, q_bor, q_tru, q_tst, q_not, q_notV, q_no, q_so, q_sl, q_sq, q_r1, q_r2, q_for, q_lc, q_asg, q_next, q_yes, q_fix, q_slot, q_drop, q_met, q_run, q1, q2, q2b, q2c, q3, q4, q5, q6, q7, q8, q9, q10, q11, q12, q13, q14, q15, q16, q17, q18, q19, q20, q21, q22, q23, q24, q25, q26, q27, q28, q29, q30, q31, q32, q33, q34, q35, q36, q37, q38, q39, q39b, q40, q41, q42, q44, q45, q46, q47, q48, o_add, o_sub, o_mulR, o_mulL, o_mod, o_div, o_addS, o_addI, o_addL, o_addT, o_p18, o_neg, o_cmp, o_eqI, o_eqS, o_eqB, o_neI, o_neS, o_len1, o_len2, o_len3, o_lenS, o_int, o_ix1, o_ix2, o_ix3, o_tup, o_lst, o_list1, o_list2, o_tuple1, o_tuple2, o_max, o_min, o_slL, o_slT, o_slS, o_mulSt, o_isIint, o_isIbool, o_isIstr, o_isIlist, o_isItuple, o_isBint, o_isBbool, o_isBstr, o_isBlist, o_isBtuple, o_isSint, o_isSbool, o_isSstr, o_isSlist, o_isStuple, o_isLint, o_isLbool, o_isLstr, o_isLlist, o_isLtuple, o_isTint, o_isTbool, o_isTstr, o_isTlist, o_isTtuple, o_isNint, o_isNbool, o_isNstr, o_isNlist, o_isNtuple, o_allT, o_truB, o_truN, o_truI, o_truL, o_truT, q_sv1, q_sv2, view, fixSlot, wipeE, aName, aTup, aCons, aNil, List.map_cons, List.map_nil, List.length_cons, List.length_nil, List.cons_append, List.nil_append, List.replicate_succ, List.replicate_zero, List.getElem?_cons_zero, List.getElem?_cons_succ, List.set_cons_zero, List.set_cons_succ, Option.map_some, Option.map_none, reduceIte, Nat.reduceAdd, Nat.reduceEqDiff, Option.some.injEq, List.length_map, List.length_append, and_true, true_and, and_self, decide_true, decide_false, Int.reduceLT, Int.reduceNeg, Int.reduceLE, Int.reduceEq, Int.reduceMul, Int.reduceAdd, Int.reduceSub, Int.reduceMod, Int.reduceDiv, Nat.reduceLT, Nat.reduceLeDiff, Int.reducePow, Nat.reducePow, Int.reduceToNat, SV.imm.injEq, SV.own.injEq, W.int.injEq, W.str.injEq, W.bl.injEq, W.lst.injEq, W.tup.injEq, id_eq, exists_eq', exists_eq_left', Out.nx.injEq, Out.rt.injEq, Nat.zero_le, Int.toNat_natCast, not_true_eq_false, not_false_eq_true, Bool.not_true, Bool.not_false, Bool.false_and, Bool.true_and, Bool.and_true, Bool.and_false, Bool.true_or, Bool.false_or, Bool.or_true, Bool.or_false, Bool.false_eq_true, hk, h1, hi]
  by_cases h2 : kindL l = "line"
  · have h1' : ¬ Str.ofString "line" = Str.ofString "number" := by decide +kernel
    simp only [q_seq, q_if, q_fif, q_and, q_or, q_andV, q_orV, q_bin, q_binR, q_un, q_frz, q_imm, q_nil, q_cons, q_call, q_callW, q_c0, q_var, q_ret, q_set, q_aug, q_app, q_ext, q_pop, q_setIx, q_ixo, q_bor, q_tru, q_tst, q_not, q_notV, q_no, q_so, q_sl, q_sq, q_r1, q_r2, q_for, q_lc, q_asg, q_next, q_yes, q_fix, q_slot, q_drop, q_met, q_run, q1, q2, q2b, q2c, q3, q4, q5, q6, q7, q8, q9, q10, q11, q12, q13, q14, q15, q16, q17, q18, q19, q20, q21, q22, q23, q24, q25, q26, q27, q28, q29, q30, q31, q32, q33, q34, q35, q36, q37, q38, q39, q39b, q40, q41, q42, q44, q45, q46, q47, q48, o_add, o_sub, o_mulR, o_mulL, o_mod, o_div, o_addS, o_addI, o_addL, o_addT, o_p18, o_neg, o_cmp, o_eqI, o_eqS, o_eqB, o_neI, o_neS, o_len1, o_len2, o_len3, o_lenS, o_int, o_ix1, o_ix2, o_ix3, o_tup, o_lst, o_list1, o_list2, o_tuple1, o_tuple2, o_max, o_min, o_slL, o_slT, o_slS, o_mulSt, o_isIint, o_isIbool, o_isIstr, o_isIlist, o_isItuple, o_isBint, o_isBbool, o_isBstr, o_isBlist, o_isBtuple, o_isSint, o_isSbool, o_isSstr, o_isSlist, o_isStuple, o_isLint, o_isLbool, o_isLstr, o_isLlist, o_isLtuple, o_isTint, o_isTbool, o_isTstr, o_isTlist, o_isTtuple, o_isNint, o_isNbool, o_isNstr, o_isNlist, o_isNtuple, o_allT, o_truB, o_truN, o_truI, o_truL, o_truT, q_sv1, q_sv2, view, fixSlot, wipeE, aName, aTup, aCons, aNil, List.map_cons, List.map_nil, List.length_cons, List.length_nil, List.cons_append, List.nil_append, List.replicate_succ, List.replicate_zero, List.getElem?_cons_zero, List.getElem?_cons_succ, List.set_cons_zero, List.set_cons_succ, Option.map_some, Option.map_none, reduceIte, Nat.reduceAdd, Nat.reduceEqDiff, Option.some.injEq, List.length_map, List.length_append, and_true, true_and, and_self, decide_true, decide_false, Int.reduceLT, Int.reduceNeg, Int.reduceLE, Int.reduceEq, Int.reduceMul, Int.reduceAdd, Int.reduceSub, Int.reduceMod, Int.reduceDiv, Nat.reduceLT, Nat.reduceLeDiff, Int.reducePow, Nat.reducePow, Int.reduceToNat, SV.imm.injEq, SV.own.injEq, W.int.injEq, W.str.injEq, W.bl.injEq, W.lst.injEq, W.tup.injEq, id_eq, exists_eq', exists_eq_left', Out.nx.injEq, Out.rt.injEq, Nat.zero_le, Int.toNat_natCast, not_true_eq_false, not_false_eq_true, Bool.not_true, Bool.not_false, Bool.false_and, Bool.true_and, Bool.and_true, Bool.and_false, Bool.true_or, Bool.false_or, Bool.or_true, Bool.or_false, Bool.false_eq_true, hk, h2, h1']
  · simp only [q_seq, q_if, q_fif, q_and, q_or, q_andV, q_orV, q_bin, q_binR, q_un, q_frz, q_imm, q_nil, q_cons, q_call, q_callW, q_c0, q_var, q_ret, q_set, q_aug, q_app, q_ext, q_pop, q_setIx, q_ixo, q_bor, q_tru, q_tst, q_not, q_notV, q_no, q_so, q_sl, q_sq, q_r1, q_r2, q_for, q_lc, q_asg, q_next, q_yes, q_fix, q_slot, q_drop, q_met, q_run, q1, q2, q2b, q2c, q3, q4, q5, q6, q7, q8, q9, q10, q11, q12, q13, q14, q15, q16, q17, q18, q19, q20, q21, q22, q23, q24, q25, q26, q27, q28, q29, q30, q31, q32, q33, q34, q35, q36, q37, q38, q39, q39b, q40, q41, q42, q44, q45, q46, q47, q48, o_add, o_sub, o_mulR, o_mulL, o_mod, o_div, o_addS, o_addI, o_addL, o_addT, o_p18, o_neg, o_cmp, o_eqI, o_eqS, o_eqB, o_neI, o_neS, o_len1, o_len2, o_len3, o_lenS, o_int, o_ix1, o_ix2, o_ix3, o_tup, o_lst, o_list1, o_list2, o_tuple1, o_tuple2, o_max, o_min, o_slL, o_slT, o_slS, o_mulSt, o_isIint, o_isIbool, o_isIstr, o_isIlist, o_isItuple, o_isBint, o_isBbool, o_isBstr, o_isBlist, o_isBtuple, o_isSint, o_isSbool, o_isSstr, o_isSlist, o_isStuple, o_isLint, o_isLbool, o_isLstr, o_isLlist, o_isLtuple, o_isTint, o_isTbool, o_isTstr, o_isTlist, o_isTtuple, o_isNint, o_isNbool, o_isNstr, o_isNlist, o_isNtuple, o_allT, o_truB, o_truN, o_truI, o_truL, o_truT, q_sv1, q_sv2, view, fixSlot, wipeE, aName, aTup, aCons, aNil, List.map_cons, List.map_nil, List.length_cons, List.length_nil, List.cons_append, List.nil_append, List.replicate_succ, List.replicate_zero, List.getElem?_cons_zero, List.getElem?_cons_succ, List.set_cons_zero, List.set_cons_succ, Option.map_some, Option.map_none, reduceIte, Nat.reduceAdd, Nat.reduceEqDiff, Option.some.injEq, List.length_map, List.length_append, and_true, true_and, and_self, decide_true, decide_false, Int.reduceLT, Int.reduceNeg, Int.reduceLE, Int.reduceEq, Int.reduceMul, Int.reduceAdd, Int.reduceSub, Int.reduceMod, Int.reduceDiv, Nat.reduceLT, Nat.reduceLeDiff, Int.reducePow, Nat.reducePow, Int.reduceToNat, SV.imm.injEq, SV.own.injEq, W.int.injEq, W.str.injEq, W.bl.injEq, W.lst.injEq, W.tup.injEq, id_eq, exists_eq', exists_eq_left', Out.nx.injEq, Out.rt.injEq, Nat.zero_le, Int.toNat_natCast, not_true_eq_false, not_false_eq_true, Bool.not_true, Bool.not_false, Bool.false_and, Bool.true_and, Bool.and_true, Bool.and_false, Bool.true_or, Bool.false_or, Bool.or_true, Bool.or_false, Bool.false_eq_true, hk, h1, h2]
theorem token_ok {l : List Nat} {p : Nat} (h : Tk l) : F_token_of [.str (T l), .int (p : Int)] = some (.imm (.tup [.str (kindL l), valL l, .int (p : Int)])) := by
  obtain ⟨n1, n2, n3, n4, n5, n6, n7, n8, n9, n10, n11, n12, n13, n14, n15, n16, n17, n18, n19, n20, n21⟩ := kinds_ne
  obtain ⟨hl, h⟩ := h
  have hz : l.length ≤ 16777216 := by omega
  unfold F_token_of B_token_of
  have e10 : decide (T l = T [10]) = decide (l = [10]) := t_dec
  have ix : l ≠ [] → ixW (.str (T l)) (.int 0) = some (.str (T [l.headD 0])) := fun hne => by
    cases l with
    | nil => exact absurd rfl hne
    | cons c r => exact t_ix (i := 0) hz rfl
  rcases h with ⟨r, hk⟩ | ⟨hs, hk⟩ | ⟨rfl, hk⟩
  · have h10 : l ≠ [10] := by
      rintro rfl
      have := r.2.1 10 (by simp)
      revert this
      decide
    have ix0 := ix r.1
    rcases hk with hk | hk | hk
    · obtain ⟨hs, hw⟩ := wn_facts (.inl hk)
      have hnd : l.headD 0 ∉ digL := fun z => dig_small _ z hs
      have hw' := hw.mp hk
      unfold valL
      rw [hk]
      simp only [q_seq, q_if, q_fif, q_and, q_or, q_andV, q_orV, q_bin, q_binR, q_un, q_frz, q_imm, q_nil, q_cons, q_call, q_callW, q_c0, q_var, q_ret, q_set, q_aug, q_app, q_ext, q_pop, q_setIx, q_ixo, q_bor, q_tru, q_tst, q_not, q_notV, q_no, q_so, q_sl, q_sq, q_r1, q_r2, q_for, q_lc, q_asg, q_next, q_yes, q_fix, q_slot, q_drop, q_met, q_run, q1, q2, q2b, q2c, q3, q4, q5, q6, q7, q8, q9, q10, q11, q12, q13, q14, q15, q16, q17, q18, q19, q20, q21, q22, q23, q24, q25, q26, q27, q28, q29, q30, q31, q32, q33, q34, q35, q36, q37, q38, q39, q39b, q40, q41, q42, q44, q45, q46, q47, q48, o_add, o_sub, o_mulR, o_mulL, o_mod, o_div, o_addS, o_addI, o_addL, o_addT, o_p18, o_neg, o_cmp, o_eqI, o_eqS, o_eqB, o_neI, o_neS, o_len1, o_len2, o_len3, o_lenS, o_int, o_ix1, o_ix2, o_ix3, o_tup, o_lst, o_list1, o_list2, o_tuple1, o_tuple2, o_max, o_min, o_slL, o_slT, o_slS, o_mulSt, o_isIint, o_isIbool, o_isIstr, o_isIlist, o_isItuple, o_isBint, o_isBbool, o_isBstr, o_isBlist, o_isBtuple, o_isSint, o_isSbool, o_isSstr, o_isSlist, o_isStuple, o_isLint, o_isLbool, o_isLstr, o_isLlist, o_isLtuple, o_isTint, o_isTbool, o_isTstr, o_isTlist, o_isTtuple, o_isNint, o_isNbool, o_isNstr, o_isNlist, o_isNtuple, o_allT, o_truB, o_truN, o_truI, o_truL, o_truT, q_sv1, q_sv2, view, fixSlot, wipeE, aName, aTup, aCons, aNil, List.map_cons, List.map_nil, List.length_cons, List.length_nil, List.cons_append, List.nil_append, List.replicate_succ, List.replicate_zero, List.getElem?_cons_zero, List.getElem?_cons_succ, List.set_cons_zero, List.set_cons_succ, Option.map_some, Option.map_none, reduceIte, Nat.reduceAdd, Nat.reduceEqDiff, Option.some.injEq, List.length_map, List.length_append, and_true, true_and, and_self, decide_true, decide_false, Int.reduceLT, Int.reduceNeg, Int.reduceLE, Int.reduceEq, Int.reduceMul, Int.reduceAdd, Int.reduceSub, Int.reduceMod, Int.reduceDiv, Nat.reduceLT, Nat.reduceLeDiff, Int.reducePow, Nat.reducePow, Int.reduceToNat, SV.imm.injEq, SV.own.injEq, W.int.injEq, W.str.injEq, W.bl.injEq, W.lst.injEq, W.tup.injEq, id_eq, exists_eq', exists_eq_left', Out.nx.injEq, Out.rt.injEq, Nat.zero_le, Int.toNat_natCast, not_true_eq_false, not_false_eq_true, Bool.not_true, Bool.not_false, Bool.false_and, Bool.true_and, Bool.and_true, Bool.and_false, Bool.true_or, Bool.false_or, Bool.or_true, Bool.or_false, Bool.false_eq_true, s_nl, e10, h10, ix0, t_in1, t_notIn1, hs, hnd, k_dig, k_small, k_words, t_inK, hw', n4.symm, n4, n2]
    · obtain ⟨a, b, c⟩ := num_facts hk
      have hd : l.headD 0 ∈ digL := by
        cases l with
        | nil => exact absurd rfl a
        | cons d r =>
          rw [List.all_eq_true] at b
          exact of_decide_eq_true (b d List.mem_cons_self)
      have hi := int_T hk
      unfold valL
      rw [hk]
      simp only [q_seq, q_if, q_fif, q_and, q_or, q_andV, q_orV, q_bin, q_binR, q_un, q_frz, q_imm, q_nil, q_cons, q_call, q_callW, q_c0, q_var, q_ret, q_set, q_aug, q_app, q_ext, q_pop, q_setIx, q_ixo, q_bor, q_tru, q_tst, q_not, q_notV, q_no, q_so, q_sl, q_sq, q_r1, q_r2, q_for, q_lc, q_asg, q_next, q_yes, q_fix, q_slot, q_drop, q_met, q_run, q1, q2, q2b, q2c, q3, q4, q5, q6, q7, q8, q9, q10, q11, q12, q13, q14, q15, q16, q17, q18, q19, q20, q21, q22, q23, q24, q25, q26, q27, q28, q29, q30, q31, q32, q33, q34, q35, q36, q37, q38, q39, q39b, q40, q41, q42, q44, q45, q46, q47, q48, o_add, o_sub, o_mulR, o_mulL, o_mod, o_div, o_addS, o_addI, o_addL, o_addT, o_p18, o_neg, o_cmp, o_eqI, o_eqS, o_eqB, o_neI, o_neS, o_len1, o_len2, o_len3, o_lenS, o_int, o_ix1, o_ix2, o_ix3, o_tup, o_lst, o_list1, o_list2, o_tuple1, o_tuple2, o_max, o_min, o_slL, o_slT, o_slS, o_mulSt, o_isIint, o_isIbool, o_isIstr, o_isIlist, o_isItuple, o_isBint, o_isBbool, o_isBstr, o_isBlist, o_isBtuple, o_isSint, o_isSbool, o_isSstr, o_isSlist, o_isStuple, o_isLint, o_isLbool, o_isLstr, o_isLlist, o_isLtuple, o_isTint, o_isTbool, o_isTstr, o_isTlist, o_isTtuple, o_isNint, o_isNbool, o_isNstr, o_isNlist, o_isNtuple, o_allT, o_truB, o_truN, o_truI, o_truL, o_truT, q_sv1, q_sv2, view, fixSlot, wipeE, aName, aTup, aCons, aNil, List.map_cons, List.map_nil, List.length_cons, List.length_nil, List.cons_append, List.nil_append, List.replicate_succ, List.replicate_zero, List.getElem?_cons_zero, List.getElem?_cons_succ, List.set_cons_zero, List.set_cons_succ, Option.map_some, Option.map_none, reduceIte, Nat.reduceAdd, Nat.reduceEqDiff, Option.some.injEq, List.length_map, List.length_append, and_true, true_and, and_self, decide_true, decide_false, Int.reduceLT, Int.reduceNeg, Int.reduceLE, Int.reduceEq, Int.reduceMul, Int.reduceAdd, Int.reduceSub, Int.reduceMod, Int.reduceDiv, Nat.reduceLT, Nat.reduceLeDiff, Int.reducePow, Nat.reducePow, Int.reduceToNat, SV.imm.injEq, SV.own.injEq, W.int.injEq, W.str.injEq, W.bl.injEq, W.lst.injEq, W.tup.injEq, id_eq, exists_eq', exists_eq_left', Out.nx.injEq, Out.rt.injEq, Nat.zero_le, Int.toNat_natCast, not_true_eq_false, not_false_eq_true, Bool.not_true, Bool.not_false, Bool.false_and, Bool.true_and, Bool.and_true, Bool.and_false, Bool.true_or, Bool.false_or, Bool.or_true, Bool.or_false, Bool.false_eq_true, s_nl, e10, h10, ix0, t_in1, t_notIn1, hd, k_dig, hi]
    · obtain ⟨hs, hw⟩ := wn_facts (.inr hk)
      have hnd : l.headD 0 ∉ digL := fun z => dig_small _ z hs
      have hw' : l ∉ wordL := fun z => n5 ((hw.mpr z).symm.trans hk)
      unfold valL
      rw [hk]
      simp only [q_seq, q_if, q_fif, q_and, q_or, q_andV, q_orV, q_bin, q_binR, q_un, q_frz, q_imm, q_nil, q_cons, q_call, q_callW, q_c0, q_var, q_ret, q_set, q_aug, q_app, q_ext, q_pop, q_setIx, q_ixo, q_bor, q_tru, q_tst, q_not, q_notV, q_no, q_so, q_sl, q_sq, q_r1, q_r2, q_for, q_lc, q_asg, q_next, q_yes, q_fix, q_slot, q_drop, q_met, q_run, q1, q2, q2b, q2c, q3, q4, q5, q6, q7, q8, q9, q10, q11, q12, q13, q14, q15, q16, q17, q18, q19, q20, q21, q22, q23, q24, q25, q26, q27, q28, q29, q30, q31, q32, q33, q34, q35, q36, q37, q38, q39, q39b, q40, q41, q42, q44, q45, q46, q47, q48, o_add, o_sub, o_mulR, o_mulL, o_mod, o_div, o_addS, o_addI, o_addL, o_addT, o_p18, o_neg, o_cmp, o_eqI, o_eqS, o_eqB, o_neI, o_neS, o_len1, o_len2, o_len3, o_lenS, o_int, o_ix1, o_ix2, o_ix3, o_tup, o_lst, o_list1, o_list2, o_tuple1, o_tuple2, o_max, o_min, o_slL, o_slT, o_slS, o_mulSt, o_isIint, o_isIbool, o_isIstr, o_isIlist, o_isItuple, o_isBint, o_isBbool, o_isBstr, o_isBlist, o_isBtuple, o_isSint, o_isSbool, o_isSstr, o_isSlist, o_isStuple, o_isLint, o_isLbool, o_isLstr, o_isLlist, o_isLtuple, o_isTint, o_isTbool, o_isTstr, o_isTlist, o_isTtuple, o_isNint, o_isNbool, o_isNstr, o_isNlist, o_isNtuple, o_allT, o_truB, o_truN, o_truI, o_truL, o_truT, q_sv1, q_sv2, view, fixSlot, wipeE, aName, aTup, aCons, aNil, List.map_cons, List.map_nil, List.length_cons, List.length_nil, List.cons_append, List.nil_append, List.replicate_succ, List.replicate_zero, List.getElem?_cons_zero, List.getElem?_cons_succ, List.set_cons_zero, List.set_cons_succ, Option.map_some, Option.map_none, reduceIte, Nat.reduceAdd, Nat.reduceEqDiff, Option.some.injEq, List.length_map, List.length_append, and_true, true_and, and_self, decide_true, decide_false, Int.reduceLT, Int.reduceNeg, Int.reduceLE, Int.reduceEq, Int.reduceMul, Int.reduceAdd, Int.reduceSub, Int.reduceMod, Int.reduceDiv, Nat.reduceLT, Nat.reduceLeDiff, Int.reducePow, Nat.reducePow, Int.reduceToNat, SV.imm.injEq, SV.own.injEq, W.int.injEq, W.str.injEq, W.bl.injEq, W.lst.injEq, W.tup.injEq, id_eq, exists_eq', exists_eq_left', Out.nx.injEq, Out.rt.injEq, Nat.zero_le, Int.toNat_natCast, not_true_eq_false, not_false_eq_true, Bool.not_true, Bool.not_false, Bool.false_and, Bool.true_and, Bool.and_true, Bool.and_false, Bool.true_or, Bool.false_or, Bool.or_true, Bool.or_false, Bool.false_eq_true, s_nl, e10, h10, ix0, t_in1, t_notIn1, hs, hnd, k_dig, k_small, k_words, t_inK, hw', n19.symm, n14.symm]
  · have hf := sign_facts l hs
    have hne : l ≠ [] := by
      rintro rfl
      revert hs
      decide
    have h10 : l ≠ [10] := by
      rintro rfl
      revert hs
      decide
    have ix0 := ix hne
    have hnd : l.headD 0 ∉ digL := fun z => hf.1 (dig_inn _ z)
    have hns : l.headD 0 ∉ smallL := fun z => hf.1 (by
      have q : ∀ c ∈ smallL, c ∈ innL := by decide
      exact q _ z)
    unfold valL
    rw [hk]
    simp only [q_seq, q_if, q_fif, q_and, q_or, q_andV, q_orV, q_bin, q_binR, q_un, q_frz, q_imm, q_nil, q_cons, q_call, q_callW, q_c0, q_var, q_ret, q_set, q_aug, q_app, q_ext, q_pop, q_setIx, q_ixo, q_bor, q_tru, q_tst, q_not, q_notV, q_no, q_so, q_sl, q_sq, q_r1, q_r2, q_for, q_lc, q_asg, q_next, q_yes, q_fix, q_slot, q_drop, q_met, q_run, q1, q2, q2b, q2c, q3, q4, q5, q6, q7, q8, q9, q10, q11, q12, q13, q14, q15, q16, q17, q18, q19, q20, q21, q22, q23, q24, q25, q26, q27, q28, q29, q30, q31, q32, q33, q34, q35, q36, q37, q38, q39, q39b, q40, q41, q42, q44, q45, q46, q47, q48, o_add, o_sub, o_mulR, o_mulL, o_mod, o_div, o_addS, o_addI, o_addL, o_addT, o_p18, o_neg, o_cmp, o_eqI, o_eqS, o_eqB, o_neI, o_neS, o_len1, o_len2, o_len3, o_lenS, o_int, o_ix1, o_ix2, o_ix3, o_tup, o_lst, o_list1, o_list2, o_tuple1, o_tuple2, o_max, o_min, o_slL, o_slT, o_slS, o_mulSt, o_isIint, o_isIbool, o_isIstr, o_isIlist, o_isItuple, o_isBint, o_isBbool, o_isBstr, o_isBlist, o_isBtuple, o_isSint, o_isSbool, o_isSstr, o_isSlist, o_isStuple, o_isLint, o_isLbool, o_isLstr, o_isLlist, o_isLtuple, o_isTint, o_isTbool, o_isTstr, o_isTlist, o_isTtuple, o_isNint, o_isNbool, o_isNstr, o_isNlist, o_isNtuple, o_allT, o_truB, o_truN, o_truI, o_truL, o_truT, q_sv1, q_sv2, view, fixSlot, wipeE, aName, aTup, aCons, aNil, List.map_cons, List.map_nil, List.length_cons, List.length_nil, List.cons_append, List.nil_append, List.replicate_succ, List.replicate_zero, List.getElem?_cons_zero, List.getElem?_cons_succ, List.set_cons_zero, List.set_cons_succ, Option.map_some, Option.map_none, reduceIte, Nat.reduceAdd, Nat.reduceEqDiff, Option.some.injEq, List.length_map, List.length_append, and_true, true_and, and_self, decide_true, decide_false, Int.reduceLT, Int.reduceNeg, Int.reduceLE, Int.reduceEq, Int.reduceMul, Int.reduceAdd, Int.reduceSub, Int.reduceMod, Int.reduceDiv, Nat.reduceLT, Nat.reduceLeDiff, Int.reducePow, Nat.reducePow, Int.reduceToNat, SV.imm.injEq, SV.own.injEq, W.int.injEq, W.str.injEq, W.bl.injEq, W.lst.injEq, W.tup.injEq, id_eq, exists_eq', exists_eq_left', Out.nx.injEq, Out.rt.injEq, Nat.zero_le, Int.toNat_natCast, not_true_eq_false, not_false_eq_true, Bool.not_true, Bool.not_false, Bool.false_and, Bool.true_and, Bool.and_true, Bool.and_false, Bool.true_or, Bool.false_or, Bool.or_true, Bool.or_false, Bool.false_eq_true, s_nl, e10, h10, ix0, t_in1, t_notIn1, hns, hnd, k_dig, k_small, n9, n7]
  · unfold valL
    rw [hk]
    simp only [q_seq, q_if, q_fif, q_and, q_or, q_andV, q_orV, q_bin, q_binR, q_un, q_frz, q_imm, q_nil, q_cons, q_call, q_callW, q_c0, q_var, q_ret, q_set, q_aug, q_app, q_ext, q_pop, q_setIx, q_ixo, q_bor, q_tru, q_tst, q_not, q_notV, q_no, q_so, q_sl, q_sq, q_r1, q_r2, q_for, q_lc, q_asg, q_next, q_yes, q_fix, q_slot, q_drop, q_met, q_run, q1, q2, q2b, q2c, q3, q4, q5, q6, q7, q8, q9, q10, q11, q12, q13, q14, q15, q16, q17, q18, q19, q20, q21, q22, q23, q24, q25, q26, q27, q28, q29, q30, q31, q32, q33, q34, q35, q36, q37, q38, q39, q39b, q40, q41, q42, q44, q45, q46, q47, q48, o_add, o_sub, o_mulR, o_mulL, o_mod, o_div, o_addS, o_addI, o_addL, o_addT, o_p18, o_neg, o_cmp, o_eqI, o_eqS, o_eqB, o_neI, o_neS, o_len1, o_len2, o_len3, o_lenS, o_int, o_ix1, o_ix2, o_ix3, o_tup, o_lst, o_list1, o_list2, o_tuple1, o_tuple2, o_max, o_min, o_slL, o_slT, o_slS, o_mulSt, o_isIint, o_isIbool, o_isIstr, o_isIlist, o_isItuple, o_isBint, o_isBbool, o_isBstr, o_isBlist, o_isBtuple, o_isSint, o_isSbool, o_isSstr, o_isSlist, o_isStuple, o_isLint, o_isLbool, o_isLstr, o_isLlist, o_isLtuple, o_isTint, o_isTbool, o_isTstr, o_isTlist, o_isTtuple, o_isNint, o_isNbool, o_isNstr, o_isNlist, o_isNtuple, o_allT, o_truB, o_truN, o_truI, o_truL, o_truT, q_sv1, q_sv2, view, fixSlot, wipeE, aName, aTup, aCons, aNil, List.map_cons, List.map_nil, List.length_cons, List.length_nil, List.cons_append, List.nil_append, List.replicate_succ, List.replicate_zero, List.getElem?_cons_zero, List.getElem?_cons_succ, List.set_cons_zero, List.set_cons_succ, Option.map_some, Option.map_none, reduceIte, Nat.reduceAdd, Nat.reduceEqDiff, Option.some.injEq, List.length_map, List.length_append, and_true, true_and, and_self, decide_true, decide_false, Int.reduceLT, Int.reduceNeg, Int.reduceLE, Int.reduceEq, Int.reduceMul, Int.reduceAdd, Int.reduceSub, Int.reduceMod, Int.reduceDiv, Nat.reduceLT, Nat.reduceLeDiff, Int.reducePow, Nat.reducePow, Int.reduceToNat, SV.imm.injEq, SV.own.injEq, W.int.injEq, W.str.injEq, W.bl.injEq, W.lst.injEq, W.tup.injEq, id_eq, exists_eq', exists_eq_left', Out.nx.injEq, Out.rt.injEq, Nat.zero_le, Int.toNat_natCast, not_true_eq_false, not_false_eq_true, Bool.not_true, Bool.not_false, Bool.false_and, Bool.true_and, Bool.and_true, Bool.and_false, Bool.true_or, Bool.false_or, Bool.or_true, Bool.or_false, Bool.false_eq_true, s_nl, n13]
/-! ### the walk over a text of gaps and tokens -/
def txt : List (Nat × List Nat) → Nat → List Nat
  | [], g => List.replicate g 32
  | (k, l) :: r, g => List.replicate k 32 ++ (l ++ txt r g)
def toks : List (Nat × List Nat) → Nat → List W
  | [], _ => []
  | (k, l) :: r, p => .tup [.str (kindL l), valL l, .int ((p + k : Nat) : Int)] :: toks r (p + k + l.length)
def OkP : List (Nat × List Nat) → Nat → Prop
  | [], _ => True
  | (_, l) :: r, g => Tk l ∧ (Run l → (txt r g).headD 32 ∉ innL) ∧ OkP r g
noncomputable abbrev tTok : En → Option Bool := fTst (fBin (cmpI fun i j => decide (i < j)) (fVar 2) (fCallW lenW (fCons (fVar 0) fNil)))
noncomputable abbrev bTok : En → Option Out := sIf (fTst (fBin eqW (fBin ixW (fVar 0) (fVar 2)) (fC (.str " "))))
    (sAug 2 (fun i j => i + j) (fC (.int 1)))
    (sSeq (sSet 3 (fImm (fFrz (fCall F_end_of_token (fCons (fVar 0) (fCons (fVar 2) fNil))))))
    (sSeq (sIf (fTst (fBin eqW (fVar 3) (fVar 2)))
    sNo
    sNext)
    (sSeq (sApp 1 (fFrz (fCall F_token_of (fCons (fFrz (fSl slW (fVar 0) (fSome (fVar 2)) (fSome (fVar 3)))) (fCons (fVar 2) fNil)))))
    (sSet 2 (fImm (fVar 3))))))
abbrev eTok (t : List Nat) (acc : List W) (p : Nat) (s : Option SV) : En := [some (.imm (.str (T t))), some (.own (.lst acc)), some (.imm (.int (p : Int))), s]
theorem skip_ok {t : List Nat} (ht : t.length ≤ 1000000) {acc : List W} {s : Option SV} {o : Out} {n : Nat} : ∀ (k p : Nat) (rest : List Nat), t.drop p = List.replicate k 32 ++ rest → whileN tTok bTok n (eTok t acc (p + k) s) = some o → whileN tTok bTok (n + k) (eTok t acc p s) = some o
  | 0, p, rest, _, h => h
  | k + 1, p, rest, hd, h => by
    have hd' : t.drop (p + 1) = List.replicate k 32 ++ rest := by
      rw [← List.drop_drop, hd]
      rfl
    have ih := skip_ok ht k (p + 1) rest hd' (by rw [show p + 1 + k = p + (k + 1) by omega]; exact h)
    have hz : t.length ≤ 16777216 := by omega
    have hc : t[p]? = some 32 := by
      have := congrArg (·[0]?) hd
      rw [List.replicate_succ] at this
      simpa using this
    have hp : (p : Int) < (t.length : Int) := by
      have := (List.getElem?_eq_some_iff.mp hc).1
      omega
    have ix := t_ix hz hc
    show whileN tTok bTok (n + k + 1) (eTok t acc p s) = some o
    unfold whileN
    simp only [q_seq, q_if, q_fif, q_and, q_or, q_andV, q_orV, q_bin, q_binR, q_un, q_frz, q_imm, q_nil, q_cons, q_call, q_callW, q_c0, q_var, q_ret, q_set, q_aug, q_app, q_ext, q_pop, q_setIx, q_ixo, q_bor, q_tru, q_tst, q_not, q_notV, q_no, q_so, q_sl, q_sq, q_r1, q_r2, q_for, q_lc, q_asg, q_next, q_yes, q_fix, q_slot, q_drop, q_met, q_run, q1, q2, q2b, q2c, q3, q4, q5, q6, q7, q8, q9, q10, q11, q12, q13, q14, q15, q16, q17, q18, q19, q20, q21, q22, q23, q24, q25, q26, q27, q28, q29, q30, q31, q32, q33, q34, q35, q36, q37, q38, q39, q39b, q40, q41, q42, q44, q45, q46, q47, q48, o_add, o_sub, o_mulR, o_mulL, o_mod, o_div, o_addS, o_addI, o_addL, o_addT, o_p18, o_neg, o_cmp, o_eqI, o_eqS, o_eqB, o_neI, o_neS, o_len1, o_len2, o_len3, o_lenS, o_int, o_ix1, o_ix2, o_ix3, o_tup, o_lst, o_list1, o_list2, o_tuple1, o_tuple2, o_max, o_min, o_slL, o_slT, o_slS, o_mulSt, o_isIint, o_isIbool, o_isIstr, o_isIlist, o_isItuple, o_isBint, o_isBbool, o_isBstr, o_isBlist, o_isBtuple, o_isSint, o_isSbool, o_isSstr, o_isSlist, o_isStuple, o_isLint, o_isLbool, o_isLstr, o_isLlist, o_isLtuple, o_isTint, o_isTbool, o_isTstr, o_isTlist, o_isTtuple, o_isNint, o_isNbool, o_isNstr, o_isNlist, o_isNtuple, o_allT, o_truB, o_truN, o_truI, o_truL, o_truT, q_sv1, q_sv2, view, fixSlot, wipeE, aName, aTup, aCons, aNil, List.map_cons, List.map_nil, List.length_cons, List.length_nil, List.cons_append, List.nil_append, List.replicate_succ, List.replicate_zero, List.getElem?_cons_zero, List.getElem?_cons_succ, List.set_cons_zero, List.set_cons_succ, Option.map_some, Option.map_none, reduceIte, Nat.reduceAdd, Nat.reduceEqDiff, Option.some.injEq, List.length_map, List.length_append, and_true, true_and, and_self, decide_true, decide_false, Int.reduceLT, Int.reduceNeg, Int.reduceLE, Int.reduceEq, Int.reduceMul, Int.reduceAdd, Int.reduceSub, Int.reduceMod, Int.reduceDiv, Nat.reduceLT, Nat.reduceLeDiff, Int.reducePow, Nat.reducePow, Int.reduceToNat, SV.imm.injEq, SV.own.injEq, W.int.injEq, W.str.injEq, W.bl.injEq, W.lst.injEq, W.tup.injEq, id_eq, exists_eq', exists_eq_left', Out.nx.injEq, Out.rt.injEq, Nat.zero_le, Int.toNat_natCast, not_true_eq_false, not_false_eq_true, Bool.not_true, Bool.not_false, Bool.false_and, Bool.true_and, Bool.and_true, Bool.and_false, Bool.true_or, Bool.false_or, Bool.or_true, Bool.or_false, Bool.false_eq_true, lenT, hz, hp, s_sp, ix]
    exact ih
theorem walk_ok {t : List Nat} (ht : t.length ≤ 1000000) {g : Nat} : ∀ (ps : List (Nat × List Nat)) (p : Nat) (acc : List W) (s : Option SV), OkP ps g → t.drop p = txt ps g → acc.length ≤ p → p ≤ t.length → ∃ n s', whileN tTok bTok n (eTok t acc p s) = some (.nx (eTok t (acc ++ toks ps p) t.length s'))
  | [], p, acc, s, _, hd, ha, hp => by
    have hl := congrArg List.length hd
    rw [List.length_drop] at hl
    simp only [txt, List.length_replicate] at hl
    have e : p + g = t.length := by omega
    have hz : t.length ≤ 16777216 := by omega
    refine ⟨1 + g, s, skip_ok ht g p [] (by rw [hd]; simp [txt]) ?_⟩
    have h0 : ¬ ((t.length : Int) < (t.length : Int)) := by omega
    rw [e]
    unfold whileN
    simp only [q_seq, q_if, q_fif, q_and, q_or, q_andV, q_orV, q_bin, q_binR, q_un, q_frz, q_imm, q_nil, q_cons, q_call, q_callW, q_c0, q_var, q_ret, q_set, q_aug, q_app, q_ext, q_pop, q_setIx, q_ixo, q_bor, q_tru, q_tst, q_not, q_notV, q_no, q_so, q_sl, q_sq, q_r1, q_r2, q_for, q_lc, q_asg, q_next, q_yes, q_fix, q_slot, q_drop, q_met, q_run, q1, q2, q2b, q2c, q3, q4, q5, q6, q7, q8, q9, q10, q11, q12, q13, q14, q15, q16, q17, q18, q19, q20, q21, q22, q23, q24, q25, q26, q27, q28, q29, q30, q31, q32, q33, q34, q35, q36, q37, q38, q39, q39b, q40, q41, q42, q44, q45, q46, q47, q48, o_add, o_sub, o_mulR, o_mulL, o_mod, o_div, o_addS, o_addI, o_addL, o_addT, o_p18, o_neg, o_cmp, o_eqI, o_eqS, o_eqB, o_neI, o_neS, o_len1, o_len2, o_len3, o_lenS, o_int, o_ix1, o_ix2, o_ix3, o_tup, o_lst, o_list1, o_list2, o_tuple1, o_tuple2, o_max, o_min, o_slL, o_slT, o_slS, o_mulSt, o_isIint, o_isIbool, o_isIstr, o_isIlist, o_isItuple, o_isBint, o_isBbool, o_isBstr, o_isBlist, o_isBtuple, o_isSint, o_isSbool, o_isSstr, o_isSlist, o_isStuple, o_isLint, o_isLbool, o_isLstr, o_isLlist, o_isLtuple, o_isTint, o_isTbool, o_isTstr, o_isTlist, o_isTtuple, o_isNint, o_isNbool, o_isNstr, o_isNlist, o_isNtuple, o_allT, o_truB, o_truN, o_truI, o_truL, o_truT, q_sv1, q_sv2, view, fixSlot, wipeE, aName, aTup, aCons, aNil, List.map_cons, List.map_nil, List.length_cons, List.length_nil, List.cons_append, List.nil_append, List.replicate_succ, List.replicate_zero, List.getElem?_cons_zero, List.getElem?_cons_succ, List.set_cons_zero, List.set_cons_succ, Option.map_some, Option.map_none, reduceIte, Nat.reduceAdd, Nat.reduceEqDiff, Option.some.injEq, List.length_map, List.length_append, and_true, true_and, and_self, decide_true, decide_false, Int.reduceLT, Int.reduceNeg, Int.reduceLE, Int.reduceEq, Int.reduceMul, Int.reduceAdd, Int.reduceSub, Int.reduceMod, Int.reduceDiv, Nat.reduceLT, Nat.reduceLeDiff, Int.reducePow, Nat.reducePow, Int.reduceToNat, SV.imm.injEq, SV.own.injEq, W.int.injEq, W.str.injEq, W.bl.injEq, W.lst.injEq, W.tup.injEq, id_eq, exists_eq', exists_eq_left', Out.nx.injEq, Out.rt.injEq, Nat.zero_le, Int.toNat_natCast, not_true_eq_false, not_false_eq_true, Bool.not_true, Bool.not_false, Bool.false_and, Bool.true_and, Bool.and_true, Bool.and_false, Bool.true_or, Bool.false_or, Bool.or_true, Bool.or_false, Bool.false_eq_true, lenT, hz, h0]
    simp [toks]
  | (k, l) :: r, p, acc, s, ok, hd, ha, hp => by
    obtain ⟨tk, hb, ok'⟩ := ok
    have hd1 : t.drop p = List.replicate k 32 ++ (l ++ txt r g) := hd
    have hd2 : t.drop (p + k) = l ++ txt r g := by
      rw [← List.drop_drop, hd1, List.drop_left' (by simp)]
    have hd3 : t.drop (p + k + l.length) = txt r g := by rw [← List.drop_drop, hd2, List.drop_left' rfl]
    have hl := congrArg List.length hd2
    rw [List.length_drop, List.length_append] at hl
    have hne : l ≠ [] := by
      rcases tk.2 with h | h | h
      · exact h.1.1
      · rintro rfl
        have := h.1
        revert this
        decide
      · rw [h.1]
        decide
    have hpl : 0 < l.length := List.length_pos_iff.mpr hne
    obtain ⟨n, s', hn⟩ := walk_ok ht r (p + k + l.length) (acc ++ [.tup [.str (kindL l), valL l, .int ((p + k : Nat) : Int)]]) (some (.imm (.int ((p + k + l.length : Nat) : Int)))) ok' hd3 (by simp; omega) (by omega)
    refine ⟨n + 1 + k, s', skip_ok ht k p _ hd1 ?_⟩
    have hz : t.length ≤ 16777216 := by omega
    have hc : t[p + k]? = some (l.headD 0) := by
      have := congrArg (·[0]?) hd2
      cases l with
      | nil => exact absurd rfl hne
      | cons c r => simpa using this
    have hlt : ((p + k : Nat) : Int) < (t.length : Int) := by omega
    have ix := t_ix hz hc
    have he := end_ok ht hd2 (by
      rcases tk.2 with h | h | h
      · exact .inl ⟨h.1, hb h.1⟩
      · exact .inr (.inl h.1)
      · exact .inr (.inr h.1))
    have hto := token_ok (p := p + k) tk
    have hns : decide (T [l.headD 0] = T [32]) = false := by
      rw [t_dec]
      refine decide_eq_false fun z => ?_
      have z' : l.headD 0 = 32 := by simpa using z
      rcases tk.2 with h | h | h
      · have := h.1.2.1 (l.headD 0) (by cases l with | nil => exact absurd rfl hne | cons c r => exact List.mem_cons_self)
        rw [z'] at this
        revert this
        decide
      · have q : ∀ l ∈ signL, l.headD 0 ≠ 32 := by decide
        exact q l h.1 z'
      · rw [h.1] at z'
        revert z'
        decide
    have hT : (T t).length ≤ 16777216 := by rw [t_len]; exact hz
    have hcut : cutS (T t) (some ((p + k : Nat) : Int)) (some ((p + k + l.length : Nat) : Int)) = T l := by
      rw [t_cut, Nat.min_eq_left (by omega), Nat.min_eq_left (by omega), hd2, Nat.add_sub_cancel_left, List.take_left]
    have hacc : acc.length < 16777216 := by omega
    have hne2 : ¬ (((p + k + l.length : Nat) : Int) = ((p + k : Nat) : Int)) := by omega
    unfold whileN
    simp only [q_seq, q_if, q_fif, q_and, q_or, q_andV, q_orV, q_bin, q_binR, q_un, q_frz, q_imm, q_nil, q_cons, q_call, q_callW, q_c0, q_var, q_ret, q_set, q_aug, q_app, q_ext, q_pop, q_setIx, q_ixo, q_bor, q_tru, q_tst, q_not, q_notV, q_no, q_so, q_sl, q_sq, q_r1, q_r2, q_for, q_lc, q_asg, q_next, q_yes, q_fix, q_slot, q_drop, q_met, q_run, q1, q2, q2b, q2c, q3, q4, q5, q6, q7, q8, q9, q10, q11, q12, q13, q14, q15, q16, q17, q18, q19, q20, q21, q22, q23, q24, q25, q26, q27, q28, q29, q30, q31, q32, q33, q34, q35, q36, q37, q38, q39, q39b, q40, q41, q42, q44, q45, q46, q47, q48, o_add, o_sub, o_mulR, o_mulL, o_mod, o_div, o_addS, o_addI, o_addL, o_addT, o_p18, o_neg, o_cmp, o_eqI, o_eqS, o_eqB, o_neI, o_neS, o_len1, o_len2, o_len3, o_lenS, o_int, o_ix1, o_ix2, o_ix3, o_tup, o_lst, o_list1, o_list2, o_tuple1, o_tuple2, o_max, o_min, o_slL, o_slT, o_slS, o_mulSt, o_isIint, o_isIbool, o_isIstr, o_isIlist, o_isItuple, o_isBint, o_isBbool, o_isBstr, o_isBlist, o_isBtuple, o_isSint, o_isSbool, o_isSstr, o_isSlist, o_isStuple, o_isLint, o_isLbool, o_isLstr, o_isLlist, o_isLtuple, o_isTint, o_isTbool, o_isTstr, o_isTlist, o_isTtuple, o_isNint, o_isNbool, o_isNstr, o_isNlist, o_isNtuple, o_allT, o_truB, o_truN, o_truI, o_truL, o_truT, q_sv1, q_sv2, view, fixSlot, wipeE, aName, aTup, aCons, aNil, List.map_cons, List.map_nil, List.length_cons, List.length_nil, List.cons_append, List.nil_append, List.replicate_succ, List.replicate_zero, List.getElem?_cons_zero, List.getElem?_cons_succ, List.set_cons_zero, List.set_cons_succ, Option.map_some, Option.map_none, reduceIte, Nat.reduceAdd, Nat.reduceEqDiff, Option.some.injEq, List.length_map, List.length_append, and_true, true_and, and_self, decide_true, decide_false, Int.reduceLT, Int.reduceNeg, Int.reduceLE, Int.reduceEq, Int.reduceMul, Int.reduceAdd, Int.reduceSub, Int.reduceMod, Int.reduceDiv, Nat.reduceLT, Nat.reduceLeDiff, Int.reducePow, Nat.reducePow, Int.reduceToNat, SV.imm.injEq, SV.own.injEq, W.int.injEq, W.str.injEq, W.bl.injEq, W.lst.injEq, W.tup.injEq, id_eq, exists_eq', exists_eq_left', Out.nx.injEq, Out.rt.injEq, Nat.zero_le, Int.toNat_natCast, not_true_eq_false, not_false_eq_true, Bool.not_true, Bool.not_false, Bool.false_and, Bool.true_and, Bool.and_true, Bool.and_false, Bool.true_or, Bool.false_or, Bool.or_true, Bool.or_false, Bool.false_eq_true, lenT, hz, hlt, s_sp, ix, hns, he, hT, t_len, hcut, hto, hacc, hne2]
    rw [hn, List.append_assoc]
    rfl
theorem to_fault_ok {t : List Nat} (ht : t.length ≤ 1000000) {ps : List (Nat × List Nat)} {g : Nat} (h : t = txt ps g) (ok : OkP ps g) : F_tokens_to_fault [.str (T t)] = some (.own (.lst (toks ps 0 ++ [.tup [.str "end", .str "", .int (t.length : Int)]]))) := by
  obtain ⟨n, s', hn⟩ := walk_ok ht ps 0 [] none ok (by rw [← h]; rfl) (Nat.le_refl _) (Nat.zero_le _)
  have hw := sWhile_of n hn
  have hlen : ∀ (ps : List (Nat × List Nat)) (p : Nat), OkP ps g → (toks ps p).length ≤ (txt ps g).length := fun ps => by
    induction ps with
    | nil => intro p _; exact Nat.zero_le _
    | cons a r ih =>
      obtain ⟨k, l⟩ := a
      intro p ok
      have := ih (p + k + l.length) ok.2.2
      have hne : l ≠ [] := by
        rcases ok.1.2 with h | h | h
        · exact h.1.1
        · rintro rfl
          have := h.1
          revert this
          decide
        · rw [h.1]
          decide
      have hpl : 0 < l.length := List.length_pos_iff.mpr hne
      simp only [toks, txt, List.length_cons, List.length_append, List.length_replicate]
      omega
  have hl := hlen ps 0 ok
  rw [← h] at hl
  have hl2 : (toks ps 0).length < 16777216 := by omega
  unfold F_tokens_to_fault B_tokens_to_fault
  have hw' : sWhile tTok bTok [some (.imm (.str (T t))), some (.own (.lst [])), some (.imm (.int 0)), none] = some (.nx (eTok t (toks ps 0) t.length s')) := hw
  simp only [q_seq, q_if, q_fif, q_and, q_or, q_andV, q_orV, q_bin, q_binR, q_un, q_frz, q_imm, q_nil, q_cons, q_call, q_callW, q_c0, q_var, q_ret, q_set, q_aug, q_app, q_ext, q_pop, q_setIx, q_ixo, q_bor, q_tru, q_tst, q_not, q_notV, q_no, q_so, q_sl, q_sq, q_r1, q_r2, q_for, q_lc, q_asg, q_next, q_yes, q_fix, q_slot, q_drop, q_met, q_run, q1, q2, q2b, q2c, q3, q4, q5, q6, q7, q8, q9, q10, q11, q12, q13, q14, q15, q16, q17, q18, q19, q20, q21, q22, q23, q24, q25, q26, q27, q28, q29, q30, q31, q32, q33, q34, q35, q36, q37, q38, q39, q39b, q40, q41, q42, q44, q45, q46, q47, q48, o_add, o_sub, o_mulR, o_mulL, o_mod, o_div, o_addS, o_addI, o_addL, o_addT, o_p18, o_neg, o_cmp, o_eqI, o_eqS, o_eqB, o_neI, o_neS, o_len1, o_len2, o_len3, o_lenS, o_int, o_ix1, o_ix2, o_ix3, o_tup, o_lst, o_list1, o_list2, o_tuple1, o_tuple2, o_max, o_min, o_slL, o_slT, o_slS, o_mulSt, o_isIint, o_isIbool, o_isIstr, o_isIlist, o_isItuple, o_isBint, o_isBbool, o_isBstr, o_isBlist, o_isBtuple, o_isSint, o_isSbool, o_isSstr, o_isSlist, o_isStuple, o_isLint, o_isLbool, o_isLstr, o_isLlist, o_isLtuple, o_isTint, o_isTbool, o_isTstr, o_isTlist, o_isTtuple, o_isNint, o_isNbool, o_isNstr, o_isNlist, o_isNtuple, o_allT, o_truB, o_truN, o_truI, o_truL, o_truT, q_sv1, q_sv2, view, fixSlot, wipeE, aName, aTup, aCons, aNil, List.map_cons, List.map_nil, List.length_cons, List.length_nil, List.cons_append, List.nil_append, List.replicate_succ, List.replicate_zero, List.getElem?_cons_zero, List.getElem?_cons_succ, List.set_cons_zero, List.set_cons_succ, Option.map_some, Option.map_none, reduceIte, Nat.reduceAdd, Nat.reduceEqDiff, Option.some.injEq, List.length_map, List.length_append, and_true, true_and, and_self, decide_true, decide_false, Int.reduceLT, Int.reduceNeg, Int.reduceLE, Int.reduceEq, Int.reduceMul, Int.reduceAdd, Int.reduceSub, Int.reduceMod, Int.reduceDiv, Nat.reduceLT, Nat.reduceLeDiff, Int.reducePow, Nat.reducePow, Int.reduceToNat, SV.imm.injEq, SV.own.injEq, W.int.injEq, W.str.injEq, W.bl.injEq, W.lst.injEq, W.tup.injEq, id_eq, exists_eq', exists_eq_left', Out.nx.injEq, Out.rt.injEq, Nat.zero_le, Int.toNat_natCast, not_true_eq_false, not_false_eq_true, Bool.not_true, Bool.not_false, Bool.false_and, Bool.true_and, Bool.and_true, Bool.and_false, Bool.true_or, Bool.false_or, Bool.or_true, Bool.or_false, Bool.false_eq_true, hw', hl2]
theorem end_fault : ("end" : Str) ≠ "fault" := by decide +kernel
theorem tokenize_ok {t : List Nat} (ht : t.length ≤ 1000000) {ps : List (Nat × List Nat)} {g : Nat} (h : t = txt ps g) (ok : OkP ps g) : F_tokenize [.str (T t)] = some (.own (.lst (toks ps 0 ++ [.tup [.str "end", .str "", .int (t.length : Int)]]))) := by
  have hf := to_fault_ok ht h ok
  have hx : atI (toks ps 0 ++ [W.tup [.str "end", .str "", .int (t.length : Int)]]) (-1) = some (W.tup [.str "end", .str "", .int (t.length : Int)]) := by
    have hi : ixN ((toks ps 0).length + 1) (-1) = some (toks ps 0).length := by
      unfold ixN
      simp
      omega
    unfold atI
    simp [hi]
  have h0 : atI [W.str "end", W.str "", W.int (t.length : Int)] 0 = some (W.str "end") := rfl
  unfold F_tokenize B_tokenize
  simp only [q_seq, q_if, q_fif, q_and, q_or, q_andV, q_orV, q_bin, q_binR, q_un, q_frz, q_imm, q_nil, q_cons, q_call, q_callW, q_c0, q_var, q_ret, q_set, q_aug, q_app, q_ext, q_pop, q_setIx, q_ixo, q_bor, q_tru, q_tst, q_not, q_notV, q_no, q_so, q_sl, q_sq, q_r1, q_r2, q_for, q_lc, q_asg, q_next, q_yes, q_fix, q_slot, q_drop, q_met, q_run, q1, q2, q2b, q2c, q3, q4, q5, q6, q7, q8, q9, q10, q11, q12, q13, q14, q15, q16, q17, q18, q19, q20, q21, q22, q23, q24, q25, q26, q27, q28, q29, q30, q31, q32, q33, q34, q35, q36, q37, q38, q39, q39b, q40, q41, q42, q44, q45, q46, q47, q48, o_add, o_sub, o_mulR, o_mulL, o_mod, o_div, o_addS, o_addI, o_addL, o_addT, o_p18, o_neg, o_cmp, o_eqI, o_eqS, o_eqB, o_neI, o_neS, o_len1, o_len2, o_len3, o_lenS, o_int, o_ix1, o_ix2, o_ix3, o_tup, o_lst, o_list1, o_list2, o_tuple1, o_tuple2, o_max, o_min, o_slL, o_slT, o_slS, o_mulSt, o_isIint, o_isIbool, o_isIstr, o_isIlist, o_isItuple, o_isBint, o_isBbool, o_isBstr, o_isBlist, o_isBtuple, o_isSint, o_isSbool, o_isSstr, o_isSlist, o_isStuple, o_isLint, o_isLbool, o_isLstr, o_isLlist, o_isLtuple, o_isTint, o_isTbool, o_isTstr, o_isTlist, o_isTtuple, o_isNint, o_isNbool, o_isNstr, o_isNlist, o_isNtuple, o_allT, o_truB, o_truN, o_truI, o_truL, o_truT, q_sv1, q_sv2, view, fixSlot, wipeE, aName, aTup, aCons, aNil, List.map_cons, List.map_nil, List.length_cons, List.length_nil, List.cons_append, List.nil_append, List.replicate_succ, List.replicate_zero, List.getElem?_cons_zero, List.getElem?_cons_succ, List.set_cons_zero, List.set_cons_succ, Option.map_some, Option.map_none, reduceIte, Nat.reduceAdd, Nat.reduceEqDiff, Option.some.injEq, List.length_map, List.length_append, and_true, true_and, and_self, decide_true, decide_false, Int.reduceLT, Int.reduceNeg, Int.reduceLE, Int.reduceEq, Int.reduceMul, Int.reduceAdd, Int.reduceSub, Int.reduceMod, Int.reduceDiv, Nat.reduceLT, Nat.reduceLeDiff, Int.reducePow, Nat.reducePow, Int.reduceToNat, SV.imm.injEq, SV.own.injEq, W.int.injEq, W.str.injEq, W.bl.injEq, W.lst.injEq, W.tup.injEq, id_eq, exists_eq', exists_eq_left', Out.nx.injEq, Out.rt.injEq, Nat.zero_le, Int.toNat_natCast, not_true_eq_false, not_false_eq_true, Bool.not_true, Bool.not_false, Bool.false_and, Bool.true_and, Bool.and_true, Bool.and_false, Bool.true_or, Bool.false_or, Bool.or_true, Bool.or_false, Bool.false_eq_true, hf, hx, h0, end_fault]
end Qw
namespace Qw
open PySem PySem.Spec PyProof.Rows L2 Nz
theorem ints_at {ns : List Int} {j : Nat} (h : j < ns.length) : atI (ns.map W.int) (j : Int) = some (.int ns[j]) := atI_at (by rw [List.getElem?_map, List.getElem?_eq_getElem h]; rfl)
theorem cell_ok (ns : List Int) (k : Nat) : ∃ c, F_cell [.klst (ns.map W.int), .int k] = some (.imm (.int c)) := by
  unfold F_cell B_cell
  by_cases h : (k : Int) < ns.length
  · have h' : k < ns.length := by omega
    simp only [q_seq, q_if, q_fif, q_and, q_or, q_andV, q_orV, q_bin, q_binR, q_un, q_frz, q_imm, q_nil, q_cons, q_call, q_callW, q_c0, q_var, q_ret, q_set, q_aug, q_app, q_ext, q_pop, q_setIx, q_ixo, q_bor, q_tru, q_tst, q_not, q_notV, q_no, q_so, q_sl, q_sq, q_r1, q_r2, q_for, q_lc, q_asg, q_next, q_yes, q_fix, q_slot, q_drop, q_met, q_run, q1, q2, q2b, q2c, q3, q4, q5, q6, q7, q8, q9, q10, q11, q12, q13, q14, q15, q16, q17, q18, q19, q20, q21, q22, q23, q24, q25, q26, q27, q28, q29, q30, q31, q32, q33, q34, q35, q36, q37, q38, q39, q39b, q40, q41, q42, q44, q45, q46, q47, q48, o_add, o_sub, o_mulR, o_mulL, o_mod, o_div, o_addS, o_addI, o_addL, o_addT, o_p18, o_neg, o_cmp, o_eqI, o_eqS, o_eqB, o_neI, o_neS, o_len1, o_len2, o_len3, o_lenS, o_int, o_ix1, o_ix2, o_ix3, o_tup, o_lst, o_list1, o_list2, o_tuple1, o_tuple2, o_max, o_min, o_slL, o_slT, o_slS, o_mulSt, o_isIint, o_isIbool, o_isIstr, o_isIlist, o_isItuple, o_isBint, o_isBbool, o_isBstr, o_isBlist, o_isBtuple, o_isSint, o_isSbool, o_isSstr, o_isSlist, o_isStuple, o_isLint, o_isLbool, o_isLstr, o_isLlist, o_isLtuple, o_isTint, o_isTbool, o_isTstr, o_isTlist, o_isTtuple, o_isNint, o_isNbool, o_isNstr, o_isNlist, o_isNtuple, o_allT, o_truB, o_truN, o_truI, o_truL, o_truT, q_sv1, q_sv2, view, fixSlot, wipeE, aName, aTup, aCons, aNil, List.map_cons, List.map_nil, List.length_cons, List.length_nil, List.cons_append, List.nil_append, List.replicate_succ, List.replicate_zero, List.getElem?_cons_zero, List.getElem?_cons_succ, List.set_cons_zero, List.set_cons_succ, Option.map_some, Option.map_none, reduceIte, Nat.reduceAdd, Nat.reduceEqDiff, Option.some.injEq, List.length_map, List.length_append, and_true, true_and, and_self, decide_true, decide_false, Int.reduceLT, Int.reduceNeg, Int.reduceLE, Int.reduceEq, Int.reduceMul, Int.reduceAdd, Int.reduceSub, Int.reduceMod, Int.reduceDiv, Nat.reduceLT, Nat.reduceLeDiff, Int.reducePow, Nat.reducePow, Int.reduceToNat, SV.imm.injEq, SV.own.injEq, W.int.injEq, W.str.injEq, W.bl.injEq, W.lst.injEq, W.tup.injEq, id_eq, exists_eq', exists_eq_left', Out.nx.injEq, Out.rt.injEq, Nat.zero_le, Int.toNat_natCast, not_true_eq_false, not_false_eq_true, Bool.not_true, Bool.not_false, Bool.false_and, Bool.true_and, Bool.and_true, Bool.and_false, Bool.true_or, Bool.false_or, Bool.or_true, Bool.or_false, Bool.false_eq_true, h, ints_at, h']
  by_cases h0 : (ns.length : Int) = 0
  · have hk : ¬ (k : Int) < 0 := by omega
    simp only [q_seq, q_if, q_fif, q_and, q_or, q_andV, q_orV, q_bin, q_binR, q_un, q_frz, q_imm, q_nil, q_cons, q_call, q_callW, q_c0, q_var, q_ret, q_set, q_aug, q_app, q_ext, q_pop, q_setIx, q_ixo, q_bor, q_tru, q_tst, q_not, q_notV, q_no, q_so, q_sl, q_sq, q_r1, q_r2, q_for, q_lc, q_asg, q_next, q_yes, q_fix, q_slot, q_drop, q_met, q_run, q1, q2, q2b, q2c, q3, q4, q5, q6, q7, q8, q9, q10, q11, q12, q13, q14, q15, q16, q17, q18, q19, q20, q21, q22, q23, q24, q25, q26, q27, q28, q29, q30, q31, q32, q33, q34, q35, q36, q37, q38, q39, q39b, q40, q41, q42, q44, q45, q46, q47, q48, o_add, o_sub, o_mulR, o_mulL, o_mod, o_div, o_addS, o_addI, o_addL, o_addT, o_p18, o_neg, o_cmp, o_eqI, o_eqS, o_eqB, o_neI, o_neS, o_len1, o_len2, o_len3, o_lenS, o_int, o_ix1, o_ix2, o_ix3, o_tup, o_lst, o_list1, o_list2, o_tuple1, o_tuple2, o_max, o_min, o_slL, o_slT, o_slS, o_mulSt, o_isIint, o_isIbool, o_isIstr, o_isIlist, o_isItuple, o_isBint, o_isBbool, o_isBstr, o_isBlist, o_isBtuple, o_isSint, o_isSbool, o_isSstr, o_isSlist, o_isStuple, o_isLint, o_isLbool, o_isLstr, o_isLlist, o_isLtuple, o_isTint, o_isTbool, o_isTstr, o_isTlist, o_isTtuple, o_isNint, o_isNbool, o_isNstr, o_isNlist, o_isNtuple, o_allT, o_truB, o_truN, o_truI, o_truL, o_truT, q_sv1, q_sv2, view, fixSlot, wipeE, aName, aTup, aCons, aNil, List.map_cons, List.map_nil, List.length_cons, List.length_nil, List.cons_append, List.nil_append, List.replicate_succ, List.replicate_zero, List.getElem?_cons_zero, List.getElem?_cons_succ, List.set_cons_zero, List.set_cons_succ, Option.map_some, Option.map_none, reduceIte, Nat.reduceAdd, Nat.reduceEqDiff, Option.some.injEq, List.length_map, List.length_append, and_true, true_and, and_self, decide_true, decide_false, Int.reduceLT, Int.reduceNeg, Int.reduceLE, Int.reduceEq, Int.reduceMul, Int.reduceAdd, Int.reduceSub, Int.reduceMod, Int.reduceDiv, Nat.reduceLT, Nat.reduceLeDiff, Int.reducePow, Nat.reducePow, Int.reduceToNat, SV.imm.injEq, SV.own.injEq, W.int.injEq, W.str.injEq, W.bl.injEq, W.lst.injEq, W.tup.injEq, id_eq, exists_eq', exists_eq_left', Out.nx.injEq, Out.rt.injEq, Nat.zero_le, Int.toNat_natCast, not_true_eq_false, not_false_eq_true, Bool.not_true, Bool.not_false, Bool.false_and, Bool.true_and, Bool.and_true, Bool.and_false, Bool.true_or, Bool.false_or, Bool.or_true, Bool.or_false, Bool.false_eq_true, h0, hk]
  · have hp : (0 : Int) < ns.length := by omega
    obtain ⟨j, hj⟩ : ∃ j : Nat, (k : Int) % (ns.length : Int) = (j : Int) := ⟨((k : Int) % (ns.length : Int)).toNat, by have := Int.emod_nonneg (k : Int) (Int.ne_of_gt hp); omega⟩
    have hlt : j < ns.length := by have := Int.emod_lt_of_pos (k : Int) hp; omega
    simp only [q_seq, q_if, q_fif, q_and, q_or, q_andV, q_orV, q_bin, q_binR, q_un, q_frz, q_imm, q_nil, q_cons, q_call, q_callW, q_c0, q_var, q_ret, q_set, q_aug, q_app, q_ext, q_pop, q_setIx, q_ixo, q_bor, q_tru, q_tst, q_not, q_notV, q_no, q_so, q_sl, q_sq, q_r1, q_r2, q_for, q_lc, q_asg, q_next, q_yes, q_fix, q_slot, q_drop, q_met, q_run, q1, q2, q2b, q2c, q3, q4, q5, q6, q7, q8, q9, q10, q11, q12, q13, q14, q15, q16, q17, q18, q19, q20, q21, q22, q23, q24, q25, q26, q27, q28, q29, q30, q31, q32, q33, q34, q35, q36, q37, q38, q39, q39b, q40, q41, q42, q44, q45, q46, q47, q48, o_add, o_sub, o_mulR, o_mulL, o_mod, o_div, o_addS, o_addI, o_addL, o_addT, o_p18, o_neg, o_cmp, o_eqI, o_eqS, o_eqB, o_neI, o_neS, o_len1, o_len2, o_len3, o_lenS, o_int, o_ix1, o_ix2, o_ix3, o_tup, o_lst, o_list1, o_list2, o_tuple1, o_tuple2, o_max, o_min, o_slL, o_slT, o_slS, o_mulSt, o_isIint, o_isIbool, o_isIstr, o_isIlist, o_isItuple, o_isBint, o_isBbool, o_isBstr, o_isBlist, o_isBtuple, o_isSint, o_isSbool, o_isSstr, o_isSlist, o_isStuple, o_isLint, o_isLbool, o_isLstr, o_isLlist, o_isLtuple, o_isTint, o_isTbool, o_isTstr, o_isTlist, o_isTtuple, o_isNint, o_isNbool, o_isNstr, o_isNlist, o_isNtuple, o_allT, o_truB, o_truN, o_truI, o_truL, o_truT, q_sv1, q_sv2, view, fixSlot, wipeE, aName, aTup, aCons, aNil, List.map_cons, List.map_nil, List.length_cons, List.length_nil, List.cons_append, List.nil_append, List.replicate_succ, List.replicate_zero, List.getElem?_cons_zero, List.getElem?_cons_succ, List.set_cons_zero, List.set_cons_succ, Option.map_some, Option.map_none, reduceIte, Nat.reduceAdd, Nat.reduceEqDiff, Option.some.injEq, List.length_map, List.length_append, and_true, true_and, and_self, decide_true, decide_false, Int.reduceLT, Int.reduceNeg, Int.reduceLE, Int.reduceEq, Int.reduceMul, Int.reduceAdd, Int.reduceSub, Int.reduceMod, Int.reduceDiv, Nat.reduceLT, Nat.reduceLeDiff, Int.reducePow, Nat.reducePow, Int.reduceToNat, SV.imm.injEq, SV.own.injEq, W.int.injEq, W.str.injEq, W.bl.injEq, W.lst.injEq, W.tup.injEq, id_eq, exists_eq', exists_eq_left', Out.nx.injEq, Out.rt.injEq, Nat.zero_le, Int.toNat_natCast, not_true_eq_false, not_false_eq_true, Bool.not_true, Bool.not_false, Bool.false_and, Bool.true_and, Bool.and_true, Bool.and_false, Bool.true_or, Bool.false_or, Bool.or_true, Bool.or_false, Bool.false_eq_true, h, h0, hp, hj, ints_at, hlt]
def PDig (c many n : Int) (i : Nat) (e : En) : Prop := ∃ (r : Int) (s5 s6 : Option SV) (ds : List Int), e = [some (.imm (.int c)), some (.imm (.int many)), some (.imm (.int n)), some (.own (.lst (ds.map W.int))), some (.imm (.int r)), s5, s6] ∧
    ds.length = i ∧ ∀ d ∈ ds, 0 ≤ d ∧ d < many
theorem digits_ok (c many : Int) (n : Int) (m0 : 0 < many) (m1 : many < 1606938044258990275541962092341162602522202993782792835301376) (n0 : 0 ≤ n) (hn : n ≤ 10000) :
    ∃ ds : List Int, F_digits [.int c, .int many, .int n] = some (.own (.lst (ds.map W.int))) ∧ ds.length = n.toNat ∧ ∀ d ∈ ds, 0 ≤ d ∧ d < many := by
  unfold F_digits B_digits
  have r1 : -4611686018427387904 ≤ n ∧ n < 4611686018427387904 := by omega
  simp only [q_seq, q_if, q_fif, q_and, q_or, q_andV, q_orV, q_bin, q_binR, q_un, q_frz, q_imm, q_nil, q_cons, q_call, q_callW, q_c0, q_var, q_ret, q_set, q_aug, q_app, q_ext, q_pop, q_setIx, q_ixo, q_bor, q_tru, q_tst, q_not, q_notV, q_no, q_so, q_sl, q_sq, q_r1, q_r2, q_for, q_lc, q_asg, q_next, q_yes, q_fix, q_slot, q_drop, q_met, q_run, q1, q2, q2b, q2c, q3, q4, q5, q6, q7, q8, q9, q10, q11, q12, q13, q14, q15, q16, q17, q18, q19, q20, q21, q22, q23, q24, q25, q26, q27, q28, q29, q30, q31, q32, q33, q34, q35, q36, q37, q38, q39, q39b, q40, q41, q42, q44, q45, q46, q47, q48, o_add, o_sub, o_mulR, o_mulL, o_mod, o_div, o_addS, o_addI, o_addL, o_addT, o_p18, o_neg, o_cmp, o_eqI, o_eqS, o_eqB, o_neI, o_neS, o_len1, o_len2, o_len3, o_lenS, o_int, o_ix1, o_ix2, o_ix3, o_tup, o_lst, o_list1, o_list2, o_tuple1, o_tuple2, o_max, o_min, o_slL, o_slT, o_slS, o_mulSt, o_isIint, o_isIbool, o_isIstr, o_isIlist, o_isItuple, o_isBint, o_isBbool, o_isBstr, o_isBlist, o_isBtuple, o_isSint, o_isSbool, o_isSstr, o_isSlist, o_isStuple, o_isLint, o_isLbool, o_isLstr, o_isLlist, o_isLtuple, o_isTint, o_isTbool, o_isTstr, o_isTlist, o_isTtuple, o_isNint, o_isNbool, o_isNstr, o_isNlist, o_isNtuple, o_allT, o_truB, o_truN, o_truI, o_truL, o_truT, q_sv1, q_sv2, view, fixSlot, wipeE, aName, aTup, aCons, aNil, List.map_cons, List.map_nil, List.length_cons, List.length_nil, List.cons_append, List.nil_append, List.replicate_succ, List.replicate_zero, List.getElem?_cons_zero, List.getElem?_cons_succ, List.set_cons_zero, List.set_cons_succ, Option.map_some, Option.map_none, reduceIte, Nat.reduceAdd, Nat.reduceEqDiff, Option.some.injEq, List.length_map, List.length_append, and_true, true_and, and_self, decide_true, decide_false, Int.reduceLT, Int.reduceNeg, Int.reduceLE, Int.reduceEq, Int.reduceMul, Int.reduceAdd, Int.reduceSub, Int.reduceMod, Int.reduceDiv, Nat.reduceLT, Nat.reduceLeDiff, Int.reducePow, Nat.reducePow, Int.reduceToNat, SV.imm.injEq, SV.own.injEq, W.int.injEq, W.str.injEq, W.bl.injEq, W.lst.injEq, W.tup.injEq, id_eq, exists_eq', exists_eq_left', Out.nx.injEq, Out.rt.injEq, Nat.zero_le, Int.toNat_natCast, not_true_eq_false, not_false_eq_true, Bool.not_true, Bool.not_false, Bool.false_and, Bool.true_and, Bool.and_true, Bool.and_false, Bool.true_or, Bool.false_or, Bool.or_true, Bool.or_false, Bool.false_eq_true, m0, r1]
  generalize hL : loopW _ _ _ _ = L
  obtain ⟨e', rfl, r, s5, s6, ds, rfl, hl, hd⟩ := loop_is hL (PDig c many n) ⟨c, none, none, [], rfl, rfl, by simp⟩ (by
    rintro i w e hw ⟨r, s5, s6, ds, rfl, hl, hd⟩
    obtain ⟨hi, rfl⟩ := rngW_get hw
    have more : ∀ x : Int, ∀ d ∈ ds ++ [x % many], 0 ≤ d ∧ d < many := fun x d hm => by
      rcases List.mem_append.mp hm with h | h
      · exact hd d h
      · rw [List.mem_singleton.mp h]
        exact ⟨Int.emod_nonneg _ (by omega), Int.emod_lt_of_pos _ m0⟩
    have room : ds.length < 16777216 := by omega
    by_cases hc : (1000000000000000000 : Int) ≤ c
    · simp only [q_seq, q_if, q_fif, q_and, q_or, q_andV, q_orV, q_bin, q_binR, q_un, q_frz, q_imm, q_nil, q_cons, q_call, q_callW, q_c0, q_var, q_ret, q_set, q_aug, q_app, q_ext, q_pop, q_setIx, q_ixo, q_bor, q_tru, q_tst, q_not, q_notV, q_no, q_so, q_sl, q_sq, q_r1, q_r2, q_for, q_lc, q_asg, q_next, q_yes, q_fix, q_slot, q_drop, q_met, q_run, q1, q2, q2b, q2c, q3, q4, q5, q6, q7, q8, q9, q10, q11, q12, q13, q14, q15, q16, q17, q18, q19, q20, q21, q22, q23, q24, q25, q26, q27, q28, q29, q30, q31, q32, q33, q34, q35, q36, q37, q38, q39, q39b, q40, q41, q42, q44, q45, q46, q47, q48, o_add, o_sub, o_mulR, o_mulL, o_mod, o_div, o_addS, o_addI, o_addL, o_addT, o_p18, o_neg, o_cmp, o_eqI, o_eqS, o_eqB, o_neI, o_neS, o_len1, o_len2, o_len3, o_lenS, o_int, o_ix1, o_ix2, o_ix3, o_tup, o_lst, o_list1, o_list2, o_tuple1, o_tuple2, o_max, o_min, o_slL, o_slT, o_slS, o_mulSt, o_isIint, o_isIbool, o_isIstr, o_isIlist, o_isItuple, o_isBint, o_isBbool, o_isBstr, o_isBlist, o_isBtuple, o_isSint, o_isSbool, o_isSstr, o_isSlist, o_isStuple, o_isLint, o_isLbool, o_isLstr, o_isLlist, o_isLtuple, o_isTint, o_isTbool, o_isTstr, o_isTlist, o_isTtuple, o_isNint, o_isNbool, o_isNstr, o_isNlist, o_isNtuple, o_allT, o_truB, o_truN, o_truI, o_truL, o_truT, q_sv1, q_sv2, view, fixSlot, wipeE, aName, aTup, aCons, aNil, List.map_cons, List.map_nil, List.length_cons, List.length_nil, List.cons_append, List.nil_append, List.replicate_succ, List.replicate_zero, List.getElem?_cons_zero, List.getElem?_cons_succ, List.set_cons_zero, List.set_cons_succ, Option.map_some, Option.map_none, reduceIte, Nat.reduceAdd, Nat.reduceEqDiff, Option.some.injEq, List.length_map, List.length_append, and_true, true_and, and_self, decide_true, decide_false, Int.reduceLT, Int.reduceNeg, Int.reduceLE, Int.reduceEq, Int.reduceMul, Int.reduceAdd, Int.reduceSub, Int.reduceMod, Int.reduceDiv, Nat.reduceLT, Nat.reduceLeDiff, Int.reducePow, Nat.reducePow, Int.reduceToNat, SV.imm.injEq, SV.own.injEq, W.int.injEq, W.str.injEq, W.bl.injEq, W.lst.injEq, W.tup.injEq, id_eq, exists_eq', exists_eq_left', Out.nx.injEq, Out.rt.injEq, Nat.zero_le, Int.toNat_natCast, not_true_eq_false, not_false_eq_true, Bool.not_true, Bool.not_false, Bool.false_and, Bool.true_and, Bool.and_true, Bool.and_false, Bool.true_or, Bool.false_or, Bool.or_true, Bool.or_false, Bool.false_eq_true, hc, m0, m1, room]
      exact ⟨_, _, _, ds ++ [r % many], by rw [List.map_append]; rfl, by simp [hl], more r⟩
    · have s1 := Int.emod_nonneg (c * 40503 + (0 + (i : Int)) * 90121 + 77) (show (2147483647 : Int) ≠ 0 by decide)
      have s2 := Int.emod_lt_of_pos (c * 40503 + (0 + (i : Int)) * 90121 + 77) (show (0 : Int) < 2147483647 by decide)
      generalize hm : (c * 40503 + (0 + (i : Int)) * 90121 + 77) % 2147483647 = m at s1 s2
      have sm : -18446744073709551616 < m ∧ m < 18446744073709551616 := by omega
      simp only [q_seq, q_if, q_fif, q_and, q_or, q_andV, q_orV, q_bin, q_binR, q_un, q_frz, q_imm, q_nil, q_cons, q_call, q_callW, q_c0, q_var, q_ret, q_set, q_aug, q_app, q_ext, q_pop, q_setIx, q_ixo, q_bor, q_tru, q_tst, q_not, q_notV, q_no, q_so, q_sl, q_sq, q_r1, q_r2, q_for, q_lc, q_asg, q_next, q_yes, q_fix, q_slot, q_drop, q_met, q_run, q1, q2, q2b, q2c, q3, q4, q5, q6, q7, q8, q9, q10, q11, q12, q13, q14, q15, q16, q17, q18, q19, q20, q21, q22, q23, q24, q25, q26, q27, q28, q29, q30, q31, q32, q33, q34, q35, q36, q37, q38, q39, q39b, q40, q41, q42, q44, q45, q46, q47, q48, o_add, o_sub, o_mulR, o_mulL, o_mod, o_div, o_addS, o_addI, o_addL, o_addT, o_p18, o_neg, o_cmp, o_eqI, o_eqS, o_eqB, o_neI, o_neS, o_len1, o_len2, o_len3, o_lenS, o_int, o_ix1, o_ix2, o_ix3, o_tup, o_lst, o_list1, o_list2, o_tuple1, o_tuple2, o_max, o_min, o_slL, o_slT, o_slS, o_mulSt, o_isIint, o_isIbool, o_isIstr, o_isIlist, o_isItuple, o_isBint, o_isBbool, o_isBstr, o_isBlist, o_isBtuple, o_isSint, o_isSbool, o_isSstr, o_isSlist, o_isStuple, o_isLint, o_isLbool, o_isLstr, o_isLlist, o_isLtuple, o_isTint, o_isTbool, o_isTstr, o_isTlist, o_isTtuple, o_isNint, o_isNbool, o_isNstr, o_isNlist, o_isNtuple, o_allT, o_truB, o_truN, o_truI, o_truL, o_truT, q_sv1, q_sv2, view, fixSlot, wipeE, aName, aTup, aCons, aNil, List.map_cons, List.map_nil, List.length_cons, List.length_nil, List.cons_append, List.nil_append, List.replicate_succ, List.replicate_zero, List.getElem?_cons_zero, List.getElem?_cons_succ, List.set_cons_zero, List.set_cons_succ, Option.map_some, Option.map_none, reduceIte, Nat.reduceAdd, Nat.reduceEqDiff, Option.some.injEq, List.length_map, List.length_append, and_true, true_and, and_self, decide_true, decide_false, Int.reduceLT, Int.reduceNeg, Int.reduceLE, Int.reduceEq, Int.reduceMul, Int.reduceAdd, Int.reduceSub, Int.reduceMod, Int.reduceDiv, Nat.reduceLT, Nat.reduceLeDiff, Int.reducePow, Nat.reducePow, Int.reduceToNat, SV.imm.injEq, SV.own.injEq, W.int.injEq, W.str.injEq, W.bl.injEq, W.lst.injEq, W.tup.injEq, id_eq, exists_eq', exists_eq_left', Out.nx.injEq, Out.rt.injEq, Nat.zero_le, Int.toNat_natCast, not_true_eq_false, not_false_eq_true, Bool.not_true, Bool.not_false, Bool.false_and, Bool.true_and, Bool.and_true, Bool.and_false, Bool.true_or, Bool.false_or, Bool.or_true, Bool.or_false, Bool.false_eq_true, hc, m0, m1, room, hm, sm]
      exact ⟨_, _, _, ds ++ [_ % many], by rw [List.map_append]; rfl, by simp [hl], more _⟩)
  simp only [q_seq, q_if, q_fif, q_and, q_or, q_andV, q_orV, q_bin, q_binR, q_un, q_frz, q_imm, q_nil, q_cons, q_call, q_callW, q_c0, q_var, q_ret, q_set, q_aug, q_app, q_ext, q_pop, q_setIx, q_ixo, q_bor, q_tru, q_tst, q_not, q_notV, q_no, q_so, q_sl, q_sq, q_r1, q_r2, q_for, q_lc, q_asg, q_next, q_yes, q_fix, q_slot, q_drop, q_met, q_run, q1, q2, q2b, q2c, q3, q4, q5, q6, q7, q8, q9, q10, q11, q12, q13, q14, q15, q16, q17, q18, q19, q20, q21, q22, q23, q24, q25, q26, q27, q28, q29, q30, q31, q32, q33, q34, q35, q36, q37, q38, q39, q39b, q40, q41, q42, q44, q45, q46, q47, q48, o_add, o_sub, o_mulR, o_mulL, o_mod, o_div, o_addS, o_addI, o_addL, o_addT, o_p18, o_neg, o_cmp, o_eqI, o_eqS, o_eqB, o_neI, o_neS, o_len1, o_len2, o_len3, o_lenS, o_int, o_ix1, o_ix2, o_ix3, o_tup, o_lst, o_list1, o_list2, o_tuple1, o_tuple2, o_max, o_min, o_slL, o_slT, o_slS, o_mulSt, o_isIint, o_isIbool, o_isIstr, o_isIlist, o_isItuple, o_isBint, o_isBbool, o_isBstr, o_isBlist, o_isBtuple, o_isSint, o_isSbool, o_isSstr, o_isSlist, o_isStuple, o_isLint, o_isLbool, o_isLstr, o_isLlist, o_isLtuple, o_isTint, o_isTbool, o_isTstr, o_isTlist, o_isTtuple, o_isNint, o_isNbool, o_isNstr, o_isNlist, o_isNtuple, o_allT, o_truB, o_truN, o_truI, o_truL, o_truT, q_sv1, q_sv2, view, fixSlot, wipeE, aName, aTup, aCons, aNil, List.map_cons, List.map_nil, List.length_cons, List.length_nil, List.cons_append, List.nil_append, List.replicate_succ, List.replicate_zero, List.getElem?_cons_zero, List.getElem?_cons_succ, List.set_cons_zero, List.set_cons_succ, Option.map_some, Option.map_none, reduceIte, Nat.reduceAdd, Nat.reduceEqDiff, Option.some.injEq, List.length_map, List.length_append, and_true, true_and, and_self, decide_true, decide_false, Int.reduceLT, Int.reduceNeg, Int.reduceLE, Int.reduceEq, Int.reduceMul, Int.reduceAdd, Int.reduceSub, Int.reduceMod, Int.reduceDiv, Nat.reduceLT, Nat.reduceLeDiff, Int.reducePow, Nat.reducePow, Int.reduceToNat, SV.imm.injEq, SV.own.injEq, W.int.injEq, W.str.injEq, W.bl.injEq, W.lst.injEq, W.tup.injEq, id_eq, exists_eq', exists_eq_left', Out.nx.injEq, Out.rt.injEq, Nat.zero_le, Int.toNat_natCast, not_true_eq_false, not_false_eq_true, Bool.not_true, Bool.not_false, Bool.false_and, Bool.true_and, Bool.and_true, Bool.and_false, Bool.true_or, Bool.false_or, Bool.or_true, Bool.or_false, Bool.false_eq_true]
  exact ⟨ds, rfl, by rw [hl, rngW_len], hd⟩
end Qw
namespace Qw
open PySem PySem.Spec PyProof.Rows L2 Nz
/-- data of ints, bools, texts, lists and tuples, less than n deep, not too long -/
def Gd : Nat → W → Prop
  | 0, _ => False
  | _ + 1, .int _ => True
  | _ + 1, .bl _ => True
  | _ + 1, .str _ => True
  | n + 1, .lst ws => ws.length ≤ 1000000 ∧ ∀ u ∈ ws, Gd n u
  | n + 1, .tup ws => ws.length ≤ 1000000 ∧ ∀ u ∈ ws, Gd n u
  | _ + 1, _ => False
theorem lc_true {A : W → En → Option En} {t : En → Option Bool} {g : En → Option W} {e : En} {ws : List W} (h : ∀ w ∈ ws, ∃ e1, A w e = some e1 ∧ t e1 = some true ∧ g e1 = some (.bl true)) : lcW A t g e ws = some (List.replicate ws.length (.bl true)) := by
  rw [lcW_map (h := fun _ => .bl true) h, List.map_const']
theorem equal_ok : ∀ (n : Nat) (w : W), Gd n w → F_equal n [w, w] = some (.imm (.bl true))
  | 0, _, h => h.elim
  | n + 1, w, h => by
    have sq : ∀ ws : List W, (∀ u ∈ ws, Gd n u) → ∀ j : Nat, j < ws.length → ∃ u, ws[j]? = some u ∧ atI ws (j : Int) = some u ∧ F_equal n [u, u] = some (.imm (.bl true)) := fun ws q j hj =>
      ⟨ws[j], List.getElem?_eq_getElem hj, atI_at (List.getElem?_eq_getElem hj), equal_ok n _ (q _ (List.getElem_mem hj))⟩
    show runF 2 1 (B_equal (F_equal n)) [w, w] = _
    unfold B_equal
    cases w with
    | int i => simp only [q_seq, q_if, q_fif, q_and, q_or, q_andV, q_orV, q_bin, q_binR, q_un, q_frz, q_imm, q_nil, q_cons, q_call, q_callW, q_c0, q_var, q_ret, q_set, q_aug, q_app, q_ext, q_pop, q_setIx, q_ixo, q_bor, q_tru, q_tst, q_not, q_notV, q_no, q_so, q_sl, q_sq, q_r1, q_r2, q_for, q_lc, q_asg, q_next, q_yes, q_fix, q_slot, q_drop, q_met, q_run, q1, q2, q2b, q2c, q3, q4, q5, q6, q7, q8, q9, q10, q11, q12, q13, q14, q15, q16, q17, q18, q19, q20, q21, q22, q23, q24, q25, q26, q27, q28, q29, q30, q31, q32, q33, q34, q35, q36, q37, q38, q39, q39b, q40, q41, q42, q44, q45, q46, q47, q48, o_add, o_sub, o_mulR, o_mulL, o_mod, o_div, o_addS, o_addI, o_addL, o_addT, o_p18, o_neg, o_cmp, o_eqI, o_eqS, o_eqB, o_neI, o_neS, o_len1, o_len2, o_len3, o_lenS, o_int, o_ix1, o_ix2, o_ix3, o_tup, o_lst, o_list1, o_list2, o_tuple1, o_tuple2, o_max, o_min, o_slL, o_slT, o_slS, o_mulSt, o_isIint, o_isIbool, o_isIstr, o_isIlist, o_isItuple, o_isBint, o_isBbool, o_isBstr, o_isBlist, o_isBtuple, o_isSint, o_isSbool, o_isSstr, o_isSlist, o_isStuple, o_isLint, o_isLbool, o_isLstr, o_isLlist, o_isLtuple, o_isTint, o_isTbool, o_isTstr, o_isTlist, o_isTtuple, o_isNint, o_isNbool, o_isNstr, o_isNlist, o_isNtuple, o_allT, o_truB, o_truN, o_truI, o_truL, o_truT, q_sv1, q_sv2, view, fixSlot, wipeE, aName, aTup, aCons, aNil, List.map_cons, List.map_nil, List.length_cons, List.length_nil, List.cons_append, List.nil_append, List.replicate_succ, List.replicate_zero, List.getElem?_cons_zero, List.getElem?_cons_succ, List.set_cons_zero, List.set_cons_succ, Option.map_some, Option.map_none, reduceIte, Nat.reduceAdd, Nat.reduceEqDiff, Option.some.injEq, List.length_map, List.length_append, and_true, true_and, and_self, decide_true, decide_false, Int.reduceLT, Int.reduceNeg, Int.reduceLE, Int.reduceEq, Int.reduceMul, Int.reduceAdd, Int.reduceSub, Int.reduceMod, Int.reduceDiv, Nat.reduceLT, Nat.reduceLeDiff, Int.reducePow, Nat.reducePow, Int.reduceToNat, SV.imm.injEq, SV.own.injEq, W.int.injEq, W.str.injEq, W.bl.injEq, W.lst.injEq, W.tup.injEq, id_eq, exists_eq', exists_eq_left', Out.nx.injEq, Out.rt.injEq, Nat.zero_le, Int.toNat_natCast, not_true_eq_false, not_false_eq_true, Bool.not_true, Bool.not_false, Bool.false_and, Bool.true_and, Bool.and_true, Bool.and_false, Bool.true_or, Bool.false_or, Bool.or_true, Bool.or_false, Bool.false_eq_true]
    | bl b => simp only [q_seq, q_if, q_fif, q_and, q_or, q_andV, q_orV, q_bin, q_binR, q_un, q_frz, q_imm, q_nil, q_cons, q_call, q_callW, q_c0, q_var, q_ret, q_set, q_aug, q_app, q_ext, q_pop, q_setIx, q_ixo, q_bor, q_tru, q_tst, q_not, q_notV, q_no, q_so, q_sl, q_sq, q_r1, q_r2, q_for, q_lc, q_asg, q_next, q_yes, q_fix, q_slot, q_drop, q_met, q_run, q1, q2, q2b, q2c, q3, q4, q5, q6, q7, q8, q9, q10, q11, q12, q13, q14, q15, q16, q17, q18, q19, q20, q21, q22, q23, q24, q25, q26, q27, q28, q29, q30, q31, q32, q33, q34, q35, q36, q37, q38, q39, q39b, q40, q41, q42, q44, q45, q46, q47, q48, o_add, o_sub, o_mulR, o_mulL, o_mod, o_div, o_addS, o_addI, o_addL, o_addT, o_p18, o_neg, o_cmp, o_eqI, o_eqS, o_eqB, o_neI, o_neS, o_len1, o_len2, o_len3, o_lenS, o_int, o_ix1, o_ix2, o_ix3, o_tup, o_lst, o_list1, o_list2, o_tuple1, o_tuple2, o_max, o_min, o_slL, o_slT, o_slS, o_mulSt, o_isIint, o_isIbool, o_isIstr, o_isIlist, o_isItuple, o_isBint, o_isBbool, o_isBstr, o_isBlist, o_isBtuple, o_isSint, o_isSbool, o_isSstr, o_isSlist, o_isStuple, o_isLint, o_isLbool, o_isLstr, o_isLlist, o_isLtuple, o_isTint, o_isTbool, o_isTstr, o_isTlist, o_isTtuple, o_isNint, o_isNbool, o_isNstr, o_isNlist, o_isNtuple, o_allT, o_truB, o_truN, o_truI, o_truL, o_truT, q_sv1, q_sv2, view, fixSlot, wipeE, aName, aTup, aCons, aNil, List.map_cons, List.map_nil, List.length_cons, List.length_nil, List.cons_append, List.nil_append, List.replicate_succ, List.replicate_zero, List.getElem?_cons_zero, List.getElem?_cons_succ, List.set_cons_zero, List.set_cons_succ, Option.map_some, Option.map_none, reduceIte, Nat.reduceAdd, Nat.reduceEqDiff, Option.some.injEq, List.length_map, List.length_append, and_true, true_and, and_self, decide_true, decide_false, Int.reduceLT, Int.reduceNeg, Int.reduceLE, Int.reduceEq, Int.reduceMul, Int.reduceAdd, Int.reduceSub, Int.reduceMod, Int.reduceDiv, Nat.reduceLT, Nat.reduceLeDiff, Int.reducePow, Nat.reducePow, Int.reduceToNat, SV.imm.injEq, SV.own.injEq, W.int.injEq, W.str.injEq, W.bl.injEq, W.lst.injEq, W.tup.injEq, id_eq, exists_eq', exists_eq_left', Out.nx.injEq, Out.rt.injEq, Nat.zero_le, Int.toNat_natCast, not_true_eq_false, not_false_eq_true, Bool.not_true, Bool.not_false, Bool.false_and, Bool.true_and, Bool.and_true, Bool.and_false, Bool.true_or, Bool.false_or, Bool.or_true, Bool.or_false, Bool.false_eq_true]
    | str s => simp only [q_seq, q_if, q_fif, q_and, q_or, q_andV, q_orV, q_bin, q_binR, q_un, q_frz, q_imm, q_nil, q_cons, q_call, q_callW, q_c0, q_var, q_ret, q_set, q_aug, q_app, q_ext, q_pop, q_setIx, q_ixo, q_bor, q_tru, q_tst, q_not, q_notV, q_no, q_so, q_sl, q_sq, q_r1, q_r2, q_for, q_lc, q_asg, q_next, q_yes, q_fix, q_slot, q_drop, q_met, q_run, q1, q2, q2b, q2c, q3, q4, q5, q6, q7, q8, q9, q10, q11, q12, q13, q14, q15, q16, q17, q18, q19, q20, q21, q22, q23, q24, q25, q26, q27, q28, q29, q30, q31, q32, q33, q34, q35, q36, q37, q38, q39, q39b, q40, q41, q42, q44, q45, q46, q47, q48, o_add, o_sub, o_mulR, o_mulL, o_mod, o_div, o_addS, o_addI, o_addL, o_addT, o_p18, o_neg, o_cmp, o_eqI, o_eqS, o_eqB, o_neI, o_neS, o_len1, o_len2, o_len3, o_lenS, o_int, o_ix1, o_ix2, o_ix3, o_tup, o_lst, o_list1, o_list2, o_tuple1, o_tuple2, o_max, o_min, o_slL, o_slT, o_slS, o_mulSt, o_isIint, o_isIbool, o_isIstr, o_isIlist, o_isItuple, o_isBint, o_isBbool, o_isBstr, o_isBlist, o_isBtuple, o_isSint, o_isSbool, o_isSstr, o_isSlist, o_isStuple, o_isLint, o_isLbool, o_isLstr, o_isLlist, o_isLtuple, o_isTint, o_isTbool, o_isTstr, o_isTlist, o_isTtuple, o_isNint, o_isNbool, o_isNstr, o_isNlist, o_isNtuple, o_allT, o_truB, o_truN, o_truI, o_truL, o_truT, q_sv1, q_sv2, view, fixSlot, wipeE, aName, aTup, aCons, aNil, List.map_cons, List.map_nil, List.length_cons, List.length_nil, List.cons_append, List.nil_append, List.replicate_succ, List.replicate_zero, List.getElem?_cons_zero, List.getElem?_cons_succ, List.set_cons_zero, List.set_cons_succ, Option.map_some, Option.map_none, reduceIte, Nat.reduceAdd, Nat.reduceEqDiff, Option.some.injEq, List.length_map, List.length_append, and_true, true_and, and_self, decide_true, decide_false, Int.reduceLT, Int.reduceNeg, Int.reduceLE, Int.reduceEq, Int.reduceMul, Int.reduceAdd, Int.reduceSub, Int.reduceMod, Int.reduceDiv, Nat.reduceLT, Nat.reduceLeDiff, Int.reducePow, Nat.reducePow, Int.reduceToNat, SV.imm.injEq, SV.own.injEq, W.int.injEq, W.str.injEq, W.bl.injEq, W.lst.injEq, W.tup.injEq, id_eq, exists_eq', exists_eq_left', Out.nx.injEq, Out.rt.injEq, Nat.zero_le, Int.toNat_natCast, not_true_eq_false, not_false_eq_true, Bool.not_true, Bool.not_false, Bool.false_and, Bool.true_and, Bool.and_true, Bool.and_false, Bool.true_or, Bool.false_or, Bool.or_true, Bool.or_false, Bool.false_eq_true]
    | lst ws =>
      have hl := h.1
      have r1 : -4611686018427387904 ≤ (ws.length : Int) ∧ (ws.length : Int) < 4611686018427387904 := by omega
      have r2 : ws.length ≤ 16777216 := by omega
      simp only [q_seq, q_if, q_fif, q_and, q_or, q_andV, q_orV, q_bin, q_binR, q_un, q_frz, q_imm, q_nil, q_cons, q_call, q_callW, q_c0, q_var, q_ret, q_set, q_aug, q_app, q_ext, q_pop, q_setIx, q_ixo, q_bor, q_tru, q_tst, q_not, q_notV, q_no, q_so, q_sl, q_sq, q_r1, q_r2, q_for, q_lc, q_asg, q_next, q_yes, q_fix, q_slot, q_drop, q_met, q_run, q1, q2, q2b, q2c, q3, q4, q5, q6, q7, q8, q9, q10, q11, q12, q13, q14, q15, q16, q17, q18, q19, q20, q21, q22, q23, q24, q25, q26, q27, q28, q29, q30, q31, q32, q33, q34, q35, q36, q37, q38, q39, q39b, q40, q41, q42, q44, q45, q46, q47, q48, o_add, o_sub, o_mulR, o_mulL, o_mod, o_div, o_addS, o_addI, o_addL, o_addT, o_p18, o_neg, o_cmp, o_eqI, o_eqS, o_eqB, o_neI, o_neS, o_len1, o_len2, o_len3, o_lenS, o_int, o_ix1, o_ix2, o_ix3, o_tup, o_lst, o_list1, o_list2, o_tuple1, o_tuple2, o_max, o_min, o_slL, o_slT, o_slS, o_mulSt, o_isIint, o_isIbool, o_isIstr, o_isIlist, o_isItuple, o_isBint, o_isBbool, o_isBstr, o_isBlist, o_isBtuple, o_isSint, o_isSbool, o_isSstr, o_isSlist, o_isStuple, o_isLint, o_isLbool, o_isLstr, o_isLlist, o_isLtuple, o_isTint, o_isTbool, o_isTstr, o_isTlist, o_isTtuple, o_isNint, o_isNbool, o_isNstr, o_isNlist, o_isNtuple, o_allT, o_truB, o_truN, o_truI, o_truL, o_truT, q_sv1, q_sv2, view, fixSlot, wipeE, aName, aTup, aCons, aNil, List.map_cons, List.map_nil, List.length_cons, List.length_nil, List.cons_append, List.nil_append, List.replicate_succ, List.replicate_zero, List.getElem?_cons_zero, List.getElem?_cons_succ, List.set_cons_zero, List.set_cons_succ, Option.map_some, Option.map_none, reduceIte, Nat.reduceAdd, Nat.reduceEqDiff, Option.some.injEq, List.length_map, List.length_append, and_true, true_and, and_self, decide_true, decide_false, Int.reduceLT, Int.reduceNeg, Int.reduceLE, Int.reduceEq, Int.reduceMul, Int.reduceAdd, Int.reduceSub, Int.reduceMod, Int.reduceDiv, Nat.reduceLT, Nat.reduceLeDiff, Int.reducePow, Nat.reducePow, Int.reduceToNat, SV.imm.injEq, SV.own.injEq, W.int.injEq, W.str.injEq, W.bl.injEq, W.lst.injEq, W.tup.injEq, id_eq, exists_eq', exists_eq_left', Out.nx.injEq, Out.rt.injEq, Nat.zero_le, Int.toNat_natCast, not_true_eq_false, not_false_eq_true, Bool.not_true, Bool.not_false, Bool.false_and, Bool.true_and, Bool.and_true, Bool.and_false, Bool.true_or, Bool.false_or, Bool.or_true, Bool.or_false, Bool.false_eq_true, r1]
      rw [q43 (lc_true (fun w hw => ?_)) (by simp [rngW_len]; omega)]
      · simp only [q_seq, q_if, q_fif, q_and, q_or, q_andV, q_orV, q_bin, q_binR, q_un, q_frz, q_imm, q_nil, q_cons, q_call, q_callW, q_c0, q_var, q_ret, q_set, q_aug, q_app, q_ext, q_pop, q_setIx, q_ixo, q_bor, q_tru, q_tst, q_not, q_notV, q_no, q_so, q_sl, q_sq, q_r1, q_r2, q_for, q_lc, q_asg, q_next, q_yes, q_fix, q_slot, q_drop, q_met, q_run, q1, q2, q2b, q2c, q3, q4, q5, q6, q7, q8, q9, q10, q11, q12, q13, q14, q15, q16, q17, q18, q19, q20, q21, q22, q23, q24, q25, q26, q27, q28, q29, q30, q31, q32, q33, q34, q35, q36, q37, q38, q39, q39b, q40, q41, q42, q44, q45, q46, q47, q48, o_add, o_sub, o_mulR, o_mulL, o_mod, o_div, o_addS, o_addI, o_addL, o_addT, o_p18, o_neg, o_cmp, o_eqI, o_eqS, o_eqB, o_neI, o_neS, o_len1, o_len2, o_len3, o_lenS, o_int, o_ix1, o_ix2, o_ix3, o_tup, o_lst, o_list1, o_list2, o_tuple1, o_tuple2, o_max, o_min, o_slL, o_slT, o_slS, o_mulSt, o_isIint, o_isIbool, o_isIstr, o_isIlist, o_isItuple, o_isBint, o_isBbool, o_isBstr, o_isBlist, o_isBtuple, o_isSint, o_isSbool, o_isSstr, o_isSlist, o_isStuple, o_isLint, o_isLbool, o_isLstr, o_isLlist, o_isLtuple, o_isTint, o_isTbool, o_isTstr, o_isTlist, o_isTtuple, o_isNint, o_isNbool, o_isNstr, o_isNlist, o_isNtuple, o_allT, o_truB, o_truN, o_truI, o_truL, o_truT, q_sv1, q_sv2, view, fixSlot, wipeE, aName, aTup, aCons, aNil, List.map_cons, List.map_nil, List.length_cons, List.length_nil, List.cons_append, List.nil_append, List.replicate_succ, List.replicate_zero, List.getElem?_cons_zero, List.getElem?_cons_succ, List.set_cons_zero, List.set_cons_succ, Option.map_some, Option.map_none, reduceIte, Nat.reduceAdd, Nat.reduceEqDiff, Option.some.injEq, List.length_map, List.length_append, and_true, true_and, and_self, decide_true, decide_false, Int.reduceLT, Int.reduceNeg, Int.reduceLE, Int.reduceEq, Int.reduceMul, Int.reduceAdd, Int.reduceSub, Int.reduceMod, Int.reduceDiv, Nat.reduceLT, Nat.reduceLeDiff, Int.reducePow, Nat.reducePow, Int.reduceToNat, SV.imm.injEq, SV.own.injEq, W.int.injEq, W.str.injEq, W.bl.injEq, W.lst.injEq, W.tup.injEq, id_eq, exists_eq', exists_eq_left', Out.nx.injEq, Out.rt.injEq, Nat.zero_le, Int.toNat_natCast, not_true_eq_false, not_false_eq_true, Bool.not_true, Bool.not_false, Bool.false_and, Bool.true_and, Bool.and_true, Bool.and_false, Bool.true_or, Bool.false_or, Bool.or_true, Bool.or_false, Bool.false_eq_true]
      · obtain ⟨j, hj, rfl⟩ := rngW_mem hw
        obtain ⟨u, h1, h2, h3⟩ := sq ws h.2 j hj
        simp only [q_seq, q_if, q_fif, q_and, q_or, q_andV, q_orV, q_bin, q_binR, q_un, q_frz, q_imm, q_nil, q_cons, q_call, q_callW, q_c0, q_var, q_ret, q_set, q_aug, q_app, q_ext, q_pop, q_setIx, q_ixo, q_bor, q_tru, q_tst, q_not, q_notV, q_no, q_so, q_sl, q_sq, q_r1, q_r2, q_for, q_lc, q_asg, q_next, q_yes, q_fix, q_slot, q_drop, q_met, q_run, q1, q2, q2b, q2c, q3, q4, q5, q6, q7, q8, q9, q10, q11, q12, q13, q14, q15, q16, q17, q18, q19, q20, q21, q22, q23, q24, q25, q26, q27, q28, q29, q30, q31, q32, q33, q34, q35, q36, q37, q38, q39, q39b, q40, q41, q42, q44, q45, q46, q47, q48, o_add, o_sub, o_mulR, o_mulL, o_mod, o_div, o_addS, o_addI, o_addL, o_addT, o_p18, o_neg, o_cmp, o_eqI, o_eqS, o_eqB, o_neI, o_neS, o_len1, o_len2, o_len3, o_lenS, o_int, o_ix1, o_ix2, o_ix3, o_tup, o_lst, o_list1, o_list2, o_tuple1, o_tuple2, o_max, o_min, o_slL, o_slT, o_slS, o_mulSt, o_isIint, o_isIbool, o_isIstr, o_isIlist, o_isItuple, o_isBint, o_isBbool, o_isBstr, o_isBlist, o_isBtuple, o_isSint, o_isSbool, o_isSstr, o_isSlist, o_isStuple, o_isLint, o_isLbool, o_isLstr, o_isLlist, o_isLtuple, o_isTint, o_isTbool, o_isTstr, o_isTlist, o_isTtuple, o_isNint, o_isNbool, o_isNstr, o_isNlist, o_isNtuple, o_allT, o_truB, o_truN, o_truI, o_truL, o_truT, q_sv1, q_sv2, view, fixSlot, wipeE, aName, aTup, aCons, aNil, List.map_cons, List.map_nil, List.length_cons, List.length_nil, List.cons_append, List.nil_append, List.replicate_succ, List.replicate_zero, List.getElem?_cons_zero, List.getElem?_cons_succ, List.set_cons_zero, List.set_cons_succ, Option.map_some, Option.map_none, reduceIte, Nat.reduceAdd, Nat.reduceEqDiff, Option.some.injEq, List.length_map, List.length_append, and_true, true_and, and_self, decide_true, decide_false, Int.reduceLT, Int.reduceNeg, Int.reduceLE, Int.reduceEq, Int.reduceMul, Int.reduceAdd, Int.reduceSub, Int.reduceMod, Int.reduceDiv, Nat.reduceLT, Nat.reduceLeDiff, Int.reducePow, Nat.reducePow, Int.reduceToNat, SV.imm.injEq, SV.own.injEq, W.int.injEq, W.str.injEq, W.bl.injEq, W.lst.injEq, W.tup.injEq, id_eq, exists_eq', exists_eq_left', Out.nx.injEq, Out.rt.injEq, Nat.zero_le, Int.toNat_natCast, not_true_eq_false, not_false_eq_true, Bool.not_true, Bool.not_false, Bool.false_and, Bool.true_and, Bool.and_true, Bool.and_false, Bool.true_or, Bool.false_or, Bool.or_true, Bool.or_false, Bool.false_eq_true, Int.zero_add, h2, h3]
    | tup ws =>
      have hl := h.1
      have r1 : -4611686018427387904 ≤ (ws.length : Int) ∧ (ws.length : Int) < 4611686018427387904 := by omega
      simp only [q_seq, q_if, q_fif, q_and, q_or, q_andV, q_orV, q_bin, q_binR, q_un, q_frz, q_imm, q_nil, q_cons, q_call, q_callW, q_c0, q_var, q_ret, q_set, q_aug, q_app, q_ext, q_pop, q_setIx, q_ixo, q_bor, q_tru, q_tst, q_not, q_notV, q_no, q_so, q_sl, q_sq, q_r1, q_r2, q_for, q_lc, q_asg, q_next, q_yes, q_fix, q_slot, q_drop, q_met, q_run, q1, q2, q2b, q2c, q3, q4, q5, q6, q7, q8, q9, q10, q11, q12, q13, q14, q15, q16, q17, q18, q19, q20, q21, q22, q23, q24, q25, q26, q27, q28, q29, q30, q31, q32, q33, q34, q35, q36, q37, q38, q39, q39b, q40, q41, q42, q44, q45, q46, q47, q48, o_add, o_sub, o_mulR, o_mulL, o_mod, o_div, o_addS, o_addI, o_addL, o_addT, o_p18, o_neg, o_cmp, o_eqI, o_eqS, o_eqB, o_neI, o_neS, o_len1, o_len2, o_len3, o_lenS, o_int, o_ix1, o_ix2, o_ix3, o_tup, o_lst, o_list1, o_list2, o_tuple1, o_tuple2, o_max, o_min, o_slL, o_slT, o_slS, o_mulSt, o_isIint, o_isIbool, o_isIstr, o_isIlist, o_isItuple, o_isBint, o_isBbool, o_isBstr, o_isBlist, o_isBtuple, o_isSint, o_isSbool, o_isSstr, o_isSlist, o_isStuple, o_isLint, o_isLbool, o_isLstr, o_isLlist, o_isLtuple, o_isTint, o_isTbool, o_isTstr, o_isTlist, o_isTtuple, o_isNint, o_isNbool, o_isNstr, o_isNlist, o_isNtuple, o_allT, o_truB, o_truN, o_truI, o_truL, o_truT, q_sv1, q_sv2, view, fixSlot, wipeE, aName, aTup, aCons, aNil, List.map_cons, List.map_nil, List.length_cons, List.length_nil, List.cons_append, List.nil_append, List.replicate_succ, List.replicate_zero, List.getElem?_cons_zero, List.getElem?_cons_succ, List.set_cons_zero, List.set_cons_succ, Option.map_some, Option.map_none, reduceIte, Nat.reduceAdd, Nat.reduceEqDiff, Option.some.injEq, List.length_map, List.length_append, and_true, true_and, and_self, decide_true, decide_false, Int.reduceLT, Int.reduceNeg, Int.reduceLE, Int.reduceEq, Int.reduceMul, Int.reduceAdd, Int.reduceSub, Int.reduceMod, Int.reduceDiv, Nat.reduceLT, Nat.reduceLeDiff, Int.reducePow, Nat.reducePow, Int.reduceToNat, SV.imm.injEq, SV.own.injEq, W.int.injEq, W.str.injEq, W.bl.injEq, W.lst.injEq, W.tup.injEq, id_eq, exists_eq', exists_eq_left', Out.nx.injEq, Out.rt.injEq, Nat.zero_le, Int.toNat_natCast, not_true_eq_false, not_false_eq_true, Bool.not_true, Bool.not_false, Bool.false_and, Bool.true_and, Bool.and_true, Bool.and_false, Bool.true_or, Bool.false_or, Bool.or_true, Bool.or_false, Bool.false_eq_true, r1]
      rw [q43 (lc_true (fun w hw => ?_)) (by simp [rngW_len]; omega)]
      · simp only [q_seq, q_if, q_fif, q_and, q_or, q_andV, q_orV, q_bin, q_binR, q_un, q_frz, q_imm, q_nil, q_cons, q_call, q_callW, q_c0, q_var, q_ret, q_set, q_aug, q_app, q_ext, q_pop, q_setIx, q_ixo, q_bor, q_tru, q_tst, q_not, q_notV, q_no, q_so, q_sl, q_sq, q_r1, q_r2, q_for, q_lc, q_asg, q_next, q_yes, q_fix, q_slot, q_drop, q_met, q_run, q1, q2, q2b, q2c, q3, q4, q5, q6, q7, q8, q9, q10, q11, q12, q13, q14, q15, q16, q17, q18, q19, q20, q21, q22, q23, q24, q25, q26, q27, q28, q29, q30, q31, q32, q33, q34, q35, q36, q37, q38, q39, q39b, q40, q41, q42, q44, q45, q46, q47, q48, o_add, o_sub, o_mulR, o_mulL, o_mod, o_div, o_addS, o_addI, o_addL, o_addT, o_p18, o_neg, o_cmp, o_eqI, o_eqS, o_eqB, o_neI, o_neS, o_len1, o_len2, o_len3, o_lenS, o_int, o_ix1, o_ix2, o_ix3, o_tup, o_lst, o_list1, o_list2, o_tuple1, o_tuple2, o_max, o_min, o_slL, o_slT, o_slS, o_mulSt, o_isIint, o_isIbool, o_isIstr, o_isIlist, o_isItuple, o_isBint, o_isBbool, o_isBstr, o_isBlist, o_isBtuple, o_isSint, o_isSbool, o_isSstr, o_isSlist, o_isStuple, o_isLint, o_isLbool, o_isLstr, o_isLlist, o_isLtuple, o_isTint, o_isTbool, o_isTstr, o_isTlist, o_isTtuple, o_isNint, o_isNbool, o_isNstr, o_isNlist, o_isNtuple, o_allT, o_truB, o_truN, o_truI, o_truL, o_truT, q_sv1, q_sv2, view, fixSlot, wipeE, aName, aTup, aCons, aNil, List.map_cons, List.map_nil, List.length_cons, List.length_nil, List.cons_append, List.nil_append, List.replicate_succ, List.replicate_zero, List.getElem?_cons_zero, List.getElem?_cons_succ, List.set_cons_zero, List.set_cons_succ, Option.map_some, Option.map_none, reduceIte, Nat.reduceAdd, Nat.reduceEqDiff, Option.some.injEq, List.length_map, List.length_append, and_true, true_and, and_self, decide_true, decide_false, Int.reduceLT, Int.reduceNeg, Int.reduceLE, Int.reduceEq, Int.reduceMul, Int.reduceAdd, Int.reduceSub, Int.reduceMod, Int.reduceDiv, Nat.reduceLT, Nat.reduceLeDiff, Int.reducePow, Nat.reducePow, Int.reduceToNat, SV.imm.injEq, SV.own.injEq, W.int.injEq, W.str.injEq, W.bl.injEq, W.lst.injEq, W.tup.injEq, id_eq, exists_eq', exists_eq_left', Out.nx.injEq, Out.rt.injEq, Nat.zero_le, Int.toNat_natCast, not_true_eq_false, not_false_eq_true, Bool.not_true, Bool.not_false, Bool.false_and, Bool.true_and, Bool.and_true, Bool.and_false, Bool.true_or, Bool.false_or, Bool.or_true, Bool.or_false, Bool.false_eq_true]
      · obtain ⟨j, hj, rfl⟩ := rngW_mem hw
        obtain ⟨u, h1, h2, h3⟩ := sq ws h.2 j hj
        simp only [q_seq, q_if, q_fif, q_and, q_or, q_andV, q_orV, q_bin, q_binR, q_un, q_frz, q_imm, q_nil, q_cons, q_call, q_callW, q_c0, q_var, q_ret, q_set, q_aug, q_app, q_ext, q_pop, q_setIx, q_ixo, q_bor, q_tru, q_tst, q_not, q_notV, q_no, q_so, q_sl, q_sq, q_r1, q_r2, q_for, q_lc, q_asg, q_next, q_yes, q_fix, q_slot, q_drop, q_met, q_run, q1, q2, q2b, q2c, q3, q4, q5, q6, q7, q8, q9, q10, q11, q12, q13, q14, q15, q16, q17, q18, q19, q20, q21, q22, q23, q24, q25, q26, q27, q28, q29, q30, q31, q32, q33, q34, q35, q36, q37, q38, q39, q39b, q40, q41, q42, q44, q45, q46, q47, q48, o_add, o_sub, o_mulR, o_mulL, o_mod, o_div, o_addS, o_addI, o_addL, o_addT, o_p18, o_neg, o_cmp, o_eqI, o_eqS, o_eqB, o_neI, o_neS, o_len1, o_len2, o_len3, o_lenS, o_int, o_ix1, o_ix2, o_ix3, o_tup, o_lst, o_list1, o_list2, o_tuple1, o_tuple2, o_max, o_min, o_slL, o_slT, o_slS, o_mulSt, o_isIint, o_isIbool, o_isIstr, o_isIlist, o_isItuple, o_isBint, o_isBbool, o_isBstr, o_isBlist, o_isBtuple, o_isSint, o_isSbool, o_isSstr, o_isSlist, o_isStuple, o_isLint, o_isLbool, o_isLstr, o_isLlist, o_isLtuple, o_isTint, o_isTbool, o_isTstr, o_isTlist, o_isTtuple, o_isNint, o_isNbool, o_isNstr, o_isNlist, o_isNtuple, o_allT, o_truB, o_truN, o_truI, o_truL, o_truT, q_sv1, q_sv2, view, fixSlot, wipeE, aName, aTup, aCons, aNil, List.map_cons, List.map_nil, List.length_cons, List.length_nil, List.cons_append, List.nil_append, List.replicate_succ, List.replicate_zero, List.getElem?_cons_zero, List.getElem?_cons_succ, List.set_cons_zero, List.set_cons_succ, Option.map_some, Option.map_none, reduceIte, Nat.reduceAdd, Nat.reduceEqDiff, Option.some.injEq, List.length_map, List.length_append, and_true, true_and, and_self, decide_true, decide_false, Int.reduceLT, Int.reduceNeg, Int.reduceLE, Int.reduceEq, Int.reduceMul, Int.reduceAdd, Int.reduceSub, Int.reduceMod, Int.reduceDiv, Nat.reduceLT, Nat.reduceLeDiff, Int.reducePow, Nat.reducePow, Int.reduceToNat, SV.imm.injEq, SV.own.injEq, W.int.injEq, W.str.injEq, W.bl.injEq, W.lst.injEq, W.tup.injEq, id_eq, exists_eq', exists_eq_left', Out.nx.injEq, Out.rt.injEq, Nat.zero_le, Int.toNat_natCast, not_true_eq_false, not_false_eq_true, Bool.not_true, Bool.not_false, Bool.false_and, Bool.true_and, Bool.and_true, Bool.and_false, Bool.true_or, Bool.false_or, Bool.or_true, Bool.or_false, Bool.false_eq_true, Int.zero_add, h2, h3]
    | _ => exact h.elim
end Qw
namespace Qw
open PySem PySem.Spec PyProof.Rows L2 Nz
def NmOk (l : List Nat) : Prop := l.headD 0 ∈ smallL ∧ (∀ c ∈ l, c ∈ innL) ∧ l.length ≤ 1000
theorem a4 : addW (.str (T (smallL ++ capL))) (.str "0123456789_") = some (.imm (.str (T innL))) := by
  have h : ("0123456789_" : Str) = T (digL ++ [95]) := by decide +kernel
  rw [h, o_addS (by decide), t_add]
  rfl
theorem rng1 : rngW 0 1 = [.int 0] := rfl
theorem rng2 : rngW 0 2 = [.int 0, .int 1] := rfl
theorem at_mod {l : List Nat} {n : Nat} {x : Int} (hn : l.length = n) (h0 : 0 < n) (hz : n ≤ 16777216) : ∃ c, ixW (.str (T l)) (.int (x % (n : Int))) = some (.str (T [c])) ∧ c ∈ l := by
  have e0 := Int.emod_nonneg x (show (n : Int) ≠ 0 by omega)
  have e1 := Int.emod_lt_of_pos x (show (0 : Int) < n by omega)
  obtain ⟨j, hj⟩ : ∃ j : Nat, x % (n : Int) = (j : Int) := ⟨(x % (n : Int)).toNat, by omega⟩
  rw [hj]
  have hlt : j < l.length := by omega
  exact ⟨l[j], t_ix (by omega) (List.getElem?_eq_getElem hlt), List.getElem_mem hlt⟩
theorem len_small : smallL.length = 26 := rfl
theorem len_inn : innL.length = 63 := rfl
theorem word_at (x : Int) : ∃ l, atI (wordL.map fun l => W.str (T l)) (x % 9) = some (.str (T l)) ∧ l ∈ wordL := by
  have e0 := Int.emod_nonneg x (show (9 : Int) ≠ 0 by decide)
  have e1 := Int.emod_lt_of_pos x (show (0 : Int) < 9 by decide)
  obtain ⟨j, hj⟩ : ∃ j : Nat, x % 9 = (j : Int) := ⟨(x % 9).toNat, by omega⟩
  rw [hj]
  have hl : wordL.length = 9 := rfl
  have hlt : j < wordL.length := by omega
  exact ⟨wordL[j], atI_at (by rw [List.getElem?_map, List.getElem?_eq_getElem hlt]; rfl), List.getElem_mem hlt⟩
theorem cut8 {ds : List Int} (h : ds.length = 8) : cutW (ds.map W.int) (some 0) (some 8) = ds.map W.int := by
  unfold cutW
  rw [List.length_map, h]
  have e1 : HT.sIx 8 0 (some (0 : Int)) = 0 := rfl
  have e2 : HT.sIx 8 8 (some (8 : Int)) = 8 := rfl
  rw [e1, e2, List.drop_zero, Nat.sub_zero, List.take_of_length_le (by rw [List.length_map, h]; exact Nat.le_refl _)]
theorem small_inn : ∀ c ∈ smallL, c ∈ innL := by decide
theorem t_in0 {a : Str} : inW (.str a) (.lst []) = some (.bl false) := rfl
theorem us_word : ∀ l ∈ wordL, l ++ [95] ∉ wordL := by decide
theorem us_last : ∀ l ∈ wordL, l.getLast? ≠ some 95 := by decide
theorem at_getD {ds : List Int} {j : Nat} (h : j < ds.length) : atI (ds.map W.int) (j : Int) = some (.int (ds.getD j 0)) := by
  rw [ints_at h, List.getD_eq_getElem?_getD, List.getElem?_eq_getElem h]
  rfl
theorem lc_gen {A : W → En → Option En} {t : En → Option Bool} {g : En → Option W} {e : En} {R : Nat → Prop} : ∀ {ws : List W}, (∀ w ∈ ws, ∃ e1, A w e = some e1 ∧ t e1 = some true ∧ ∃ c, g e1 = some (.str (T [c])) ∧ R c) →
    ∃ cs : List Nat, lcW A t g e ws = some ((cs.map fun c => [c]).map fun l => W.str (T l)) ∧ cs.length = ws.length ∧ ∀ c ∈ cs, R c
  | [], _ => ⟨[], rfl, rfl, by simp⟩
  | w :: ws, h => by
    obtain ⟨e1, a, b, c, d, r⟩ := h w List.mem_cons_self
    obtain ⟨cs, h1, h2, h3⟩ := lc_gen (ws := ws) fun w' hw => h w' (List.mem_cons_of_mem _ hw)
    refine ⟨c :: cs, by simp only [lcW, a, b, d, h1, List.map_cons], by simp [h2], fun c' hc => ?_⟩
    rcases List.mem_cons.mp hc with rfl | hc
    · exact r
    · exact h3 c' hc
theorem flat1 : ∀ cs : List Nat, (cs.map fun c => [c]).flatten = cs
  | [] => rfl
  | c :: cs => by rw [List.map_cons, List.flatten_cons, flat1 cs]; rfl
theorem sum1 : ∀ cs : List Nat, ((cs.map fun c => [c]).map List.length).sum = cs.length
  | [] => rfl
  | c :: cs => by simp only [List.map_cons, List.sum_cons, sum1 cs, List.length_cons, List.length_nil]; omega
theorem join1 {cs : List Nat} (h : cs.length ≤ 1000) : joinW (.str "") (.lst ((cs.map fun c => [c]).map fun l => W.str (T l))) = some (.str (T cs)) := by
  rw [s_e, t_joinW (by rw [sum1]; omega), flat1]
theorem addT {a b : List Nat} (h : a.length + b.length ≤ 16777216) : addW (.str (T a)) (.str (T b)) = some (.imm (.str (T (a ++ b)))) := by rw [o_addS (by rw [t_len, t_len]; exact h), t_add]
/-- the name's end: an underscore for each time that it is a word -/
theorem names1_ok (c : Int) : ∃ l, F_names [.int c, .int 1] = some (.own (.lst [.str (T l)])) ∧ NmOk l ∧ l ∉ wordL := by
  obtain ⟨ds, hds, hl, hd⟩ := digits_ok c 3276 8 (by decide) (by decide) (by decide) (by decide)
  have hl8 : ds.length = 8 := hl
  have x0 : atI (ds.map W.int) 0 = some (.int (ds.getD 0 0)) := at_getD (j := 0) (by omega)
  have x1 : atI (ds.map W.int) 1 = some (.int (ds.getD 1 0)) := at_getD (j := 1) (by omega)
  have x2 : atI (ds.map W.int) 2 = some (.int (ds.getD 2 0)) := at_getD (j := 2) (by omega)
  obtain ⟨c0, hc0, mc0⟩ := at_mod (l := smallL) (x := ds.getD 0 0) len_small (by decide) (by decide)
  have hc0' : ixW (.str (T smallL)) (.int (ds.getD 0 0 % 26)) = some (.str (T [c0])) := hc0
  have m0 := Int.emod_nonneg (ds.getD 0 0 / 26) (show (7 : Int) ≠ 0 by decide)
  have m1 := Int.emod_lt_of_pos (ds.getD 0 0 / 26) (show (0 : Int) < 7 by decide)
  have r1 : -4611686018427387904 ≤ ds.getD 0 0 / 26 % 7 ∧ ds.getD 0 0 / 26 % 7 < 4611686018427387904 := by omega
  unfold F_names B_names
  simp only [q_seq, q_if, q_fif, q_and, q_or, q_andV, q_orV, q_bin, q_binR, q_un, q_frz, q_imm, q_nil, q_cons, q_call, q_callW, q_c0, q_var, q_ret, q_set, q_aug, q_app, q_ext, q_pop, q_setIx, q_ixo, q_bor, q_tru, q_tst, q_not, q_notV, q_no, q_so, q_sl, q_sq, q_r1, q_r2, q_for, q_lc, q_asg, q_next, q_yes, q_fix, q_slot, q_drop, q_met, q_run, q1, q2, q2b, q2c, q3, q4, q5, q6, q7, q8, q9, q10, q11, q12, q13, q14, q15, q16, q17, q18, q19, q20, q21, q22, q23, q24, q25, q26, q27, q28, q29, q30, q31, q32, q33, q34, q35, q36, q37, q38, q39, q39b, q40, q41, q42, q44, q45, q46, q47, q48, o_add, o_sub, o_mulR, o_mulL, o_mod, o_div, o_addS, o_addI, o_addL, o_addT, o_p18, o_neg, o_cmp, o_eqI, o_eqS, o_eqB, o_neI, o_neS, o_len1, o_len2, o_len3, o_lenS, o_int, o_ix1, o_ix2, o_ix3, o_tup, o_lst, o_list1, o_list2, o_tuple1, o_tuple2, o_max, o_min, o_slL, o_slT, o_slS, o_mulSt, o_isIint, o_isIbool, o_isIstr, o_isIlist, o_isItuple, o_isBint, o_isBbool, o_isBstr, o_isBlist, o_isBtuple, o_isSint, o_isSbool, o_isSstr, o_isSlist, o_isStuple, o_isLint, o_isLbool, o_isLstr, o_isLlist, o_isLtuple, o_isTint, o_isTbool, o_isTstr, o_isTlist, o_isTtuple, o_isNint, o_isNbool, o_isNstr, o_isNlist, o_isNtuple, o_allT, o_truB, o_truN, o_truI, o_truL, o_truT, q_sv1, q_sv2, view, fixSlot, wipeE, aName, aTup, aCons, aNil, List.map_cons, List.map_nil, List.length_cons, List.length_nil, List.cons_append, List.nil_append, List.replicate_succ, List.replicate_zero, List.getElem?_cons_zero, List.getElem?_cons_succ, List.set_cons_zero, List.set_cons_succ, Option.map_some, Option.map_none, reduceIte, Nat.reduceAdd, Nat.reduceEqDiff, Option.some.injEq, List.length_map, List.length_append, and_true, true_and, and_self, decide_true, decide_false, Int.reduceLT, Int.reduceNeg, Int.reduceLE, Int.reduceEq, Int.reduceMul, Int.reduceAdd, Int.reduceSub, Int.reduceMod, Int.reduceDiv, Nat.reduceLT, Nat.reduceLeDiff, Int.reducePow, Nat.reducePow, Int.reduceToNat, SV.imm.injEq, SV.own.injEq, W.int.injEq, W.str.injEq, W.bl.injEq, W.lst.injEq, W.tup.injEq, id_eq, exists_eq', exists_eq_left', Out.nx.injEq, Out.rt.injEq, Nat.zero_le, Int.toNat_natCast, not_true_eq_false, not_false_eq_true, Bool.not_true, Bool.not_false, Bool.false_and, Bool.true_and, Bool.and_true, Bool.and_false, Bool.true_or, Bool.false_or, Bool.or_true, Bool.or_false, Bool.false_eq_true, hds, s_words, lw, s_small, s_cap, a1, a4, rng1, q_loop, cut8, hl8, x0, hc0', r1]
  obtain ⟨cs, hcs, lcs, mcs⟩ := lc_gen (A := aName 13) (t := fYes) (g := fBin ixW (fVar 4) (fBin modW (fCallW intW (fCons (fBin ixW (fVar 8) (fBin addI (fC (.int 1)) (fVar 13))) fNil)) (fC (.int 63)))) (R := fun c => c ∈ innL)
    (e := [some (.imm (.int c)), some (.imm (.int 1)), some (.imm (.lst (wordL.map fun l => W.str (T l)))), some (.imm (.str (T smallL))), some (.imm (.str (T innL))), some (.imm (.lst (ds.map W.int))), some (.own (.lst [])), some (.imm (.int 0)), some (.imm (.lst (ds.map W.int))), some (.imm (.int (ds.getD 0 0 / 182 % 3))), none, none, none, none])
    (ws := rngW 0 (ds.getD 0 0 / 26 % 7).toNat) (by
      intro w hw
      obtain ⟨j, hj, rfl⟩ := rngW_mem hw
      have xj : atI (ds.map W.int) (1 + (j : Int)) = some (.int (ds.getD (1 + j) 0)) := at_getD (j := 1 + j) (by omega)
      obtain ⟨cj, hcj, mcj⟩ := at_mod (l := innL) (x := ds.getD (1 + j) 0) len_inn (by decide) (by decide)
      have hcj' : ixW (.str (T innL)) (.int (ds.getD (1 + j) 0 % 63)) = some (.str (T [cj])) := hcj
      simp only [q_seq, q_if, q_fif, q_and, q_or, q_andV, q_orV, q_bin, q_binR, q_un, q_frz, q_imm, q_nil, q_cons, q_call, q_callW, q_c0, q_var, q_ret, q_set, q_aug, q_app, q_ext, q_pop, q_setIx, q_ixo, q_bor, q_tru, q_tst, q_not, q_notV, q_no, q_so, q_sl, q_sq, q_r1, q_r2, q_for, q_lc, q_asg, q_next, q_yes, q_fix, q_slot, q_drop, q_met, q_run, q1, q2, q2b, q2c, q3, q4, q5, q6, q7, q8, q9, q10, q11, q12, q13, q14, q15, q16, q17, q18, q19, q20, q21, q22, q23, q24, q25, q26, q27, q28, q29, q30, q31, q32, q33, q34, q35, q36, q37, q38, q39, q39b, q40, q41, q42, q44, q45, q46, q47, q48, o_add, o_sub, o_mulR, o_mulL, o_mod, o_div, o_addS, o_addI, o_addL, o_addT, o_p18, o_neg, o_cmp, o_eqI, o_eqS, o_eqB, o_neI, o_neS, o_len1, o_len2, o_len3, o_lenS, o_int, o_ix1, o_ix2, o_ix3, o_tup, o_lst, o_list1, o_list2, o_tuple1, o_tuple2, o_max, o_min, o_slL, o_slT, o_slS, o_mulSt, o_isIint, o_isIbool, o_isIstr, o_isIlist, o_isItuple, o_isBint, o_isBbool, o_isBstr, o_isBlist, o_isBtuple, o_isSint, o_isSbool, o_isSstr, o_isSlist, o_isStuple, o_isLint, o_isLbool, o_isLstr, o_isLlist, o_isLtuple, o_isTint, o_isTbool, o_isTstr, o_isTlist, o_isTtuple, o_isNint, o_isNbool, o_isNstr, o_isNlist, o_isNtuple, o_allT, o_truB, o_truN, o_truI, o_truL, o_truT, q_sv1, q_sv2, view, fixSlot, wipeE, aName, aTup, aCons, aNil, List.map_cons, List.map_nil, List.length_cons, List.length_nil, List.cons_append, List.nil_append, List.replicate_succ, List.replicate_zero, List.getElem?_cons_zero, List.getElem?_cons_succ, List.set_cons_zero, List.set_cons_succ, Option.map_some, Option.map_none, reduceIte, Nat.reduceAdd, Nat.reduceEqDiff, Option.some.injEq, List.length_map, List.length_append, and_true, true_and, and_self, decide_true, decide_false, Int.reduceLT, Int.reduceNeg, Int.reduceLE, Int.reduceEq, Int.reduceMul, Int.reduceAdd, Int.reduceSub, Int.reduceMod, Int.reduceDiv, Nat.reduceLT, Nat.reduceLeDiff, Int.reducePow, Nat.reducePow, Int.reduceToNat, SV.imm.injEq, SV.own.injEq, W.int.injEq, W.str.injEq, W.bl.injEq, W.lst.injEq, W.tup.injEq, id_eq, exists_eq', exists_eq_left', Out.nx.injEq, Out.rt.injEq, Nat.zero_le, Int.toNat_natCast, not_true_eq_false, not_false_eq_true, Bool.not_true, Bool.not_false, Bool.false_and, Bool.true_and, Bool.and_true, Bool.and_false, Bool.true_or, Bool.false_or, Bool.or_true, Bool.or_false, Bool.false_eq_true, Int.zero_add, xj, hcj']
      exact ⟨cj, rfl, mcj⟩)
  rw [rngW_len] at lcs
  rw [q43 hcs (by rw [List.length_map, List.length_map, lcs]; omega)]
  have lcs' : cs.length ≤ 1000 := by omega
  have ladd : addW (.str (T [c0])) (.str (T cs)) = some (.imm (.str (T (c0 :: cs)))) := addT (a := [c0]) (by simp; omega)
  have ok1 : NmOk (c0 :: cs) := ⟨mc0, fun d hd => by
    rcases List.mem_cons.mp hd with rfl | h
    · exact small_inn _ mc0
    · exact mcs d h, by simp; omega⟩
  have usl : ∀ l : List Nat, l.length ≤ 1000 → l.length + [95].length ≤ 16777216 := fun l h => by simp; omega
  have more : ∀ l : List Nat, NmOk l → NmOk (l ++ [95]) ∨ 1000 ≤ l.length := fun l h => by
    by_cases q : l.length < 1000
    · refine .inl ⟨?_, fun d hd => ?_, by simp; omega⟩
      · cases l with
        | nil => exact absurd h.1 zero_small
        | cons c r => exact h.1
      · rcases List.mem_append.mp hd with z | z
        · exact h.2.1 d z
        · rw [List.mem_singleton.mp z]
          decide
    · exact .inr (by omega)
  by_cases w2 : ds.getD 0 0 / 182 % 3 = 2
  · obtain ⟨wl, hwl, mwl⟩ := word_at (ds.getD 1 0)
    obtain ⟨c2, hc2, mc2⟩ := at_mod (l := innL) (x := ds.getD 2 0) len_inn (by decide) (by decide)
    have hc2' : ixW (.str (T innL)) (.int (ds.getD 2 0 % 63)) = some (.str (T [c2])) := hc2
    have lw9 := (word_facts wl mwl).2.2.2
    have ladd2 : addW (.str (T wl)) (.str (T [c2])) = some (.imm (.str (T (wl ++ [c2])))) := addT (by simp; omega)
    have w1 : ¬ (2 : Int) = 1 := by decide
    have ok2 : NmOk (wl ++ [c2]) := ⟨by
      obtain ⟨a, _, b, _⟩ := word_facts wl mwl
      cases wl with
      | nil => exact absurd rfl a
      | cons c r => exact b, fun d hd => by
      rcases List.mem_append.mp hd with z | z
      · exact (word_facts wl mwl).2.1 d z
      · rw [List.mem_singleton.mp z]
        exact mc2, by simp; omega⟩
    by_cases hb : wl ++ [c2] ∈ wordL
    · have hb2 := us_word _ hb
      have l1 : addW (.str (T (wl ++ [c2]))) (.str (T [95])) = some (.imm (.str (T (wl ++ [c2] ++ [95])))) := addT (by simp; omega)
      simp only [q_seq, q_if, q_fif, q_and, q_or, q_andV, q_orV, q_bin, q_binR, q_un, q_frz, q_imm, q_nil, q_cons, q_call, q_callW, q_c0, q_var, q_ret, q_set, q_aug, q_app, q_ext, q_pop, q_setIx, q_ixo, q_bor, q_tru, q_tst, q_not, q_notV, q_no, q_so, q_sl, q_sq, q_r1, q_r2, q_for, q_lc, q_asg, q_next, q_yes, q_fix, q_slot, q_drop, q_met, q_run, q1, q2, q2b, q2c, q3, q4, q5, q6, q7, q8, q9, q10, q11, q12, q13, q14, q15, q16, q17, q18, q19, q20, q21, q22, q23, q24, q25, q26, q27, q28, q29, q30, q31, q32, q33, q34, q35, q36, q37, q38, q39, q39b, q40, q41, q42, q44, q45, q46, q47, q48, o_add, o_sub, o_mulR, o_mulL, o_mod, o_div, o_addS, o_addI, o_addL, o_addT, o_p18, o_neg, o_cmp, o_eqI, o_eqS, o_eqB, o_neI, o_neS, o_len1, o_len2, o_len3, o_lenS, o_int, o_ix1, o_ix2, o_ix3, o_tup, o_lst, o_list1, o_list2, o_tuple1, o_tuple2, o_max, o_min, o_slL, o_slT, o_slS, o_mulSt, o_isIint, o_isIbool, o_isIstr, o_isIlist, o_isItuple, o_isBint, o_isBbool, o_isBstr, o_isBlist, o_isBtuple, o_isSint, o_isSbool, o_isSstr, o_isSlist, o_isStuple, o_isLint, o_isLbool, o_isLstr, o_isLlist, o_isLtuple, o_isTint, o_isTbool, o_isTstr, o_isTlist, o_isTtuple, o_isNint, o_isNbool, o_isNstr, o_isNlist, o_isNtuple, o_allT, o_truB, o_truN, o_truI, o_truL, o_truT, q_sv1, q_sv2, view, fixSlot, wipeE, aName, aTup, aCons, aNil, List.map_cons, List.map_nil, List.length_cons, List.length_nil, List.cons_append, List.nil_append, List.replicate_succ, List.replicate_zero, List.getElem?_cons_zero, List.getElem?_cons_succ, List.set_cons_zero, List.set_cons_succ, Option.map_some, Option.map_none, reduceIte, Nat.reduceAdd, Nat.reduceEqDiff, Option.some.injEq, List.length_map, List.length_append, and_true, true_and, and_self, decide_true, decide_false, Int.reduceLT, Int.reduceNeg, Int.reduceLE, Int.reduceEq, Int.reduceMul, Int.reduceAdd, Int.reduceSub, Int.reduceMod, Int.reduceDiv, Nat.reduceLT, Nat.reduceLeDiff, Int.reducePow, Nat.reducePow, Int.reduceToNat, SV.imm.injEq, SV.own.injEq, W.int.injEq, W.str.injEq, W.bl.injEq, W.lst.injEq, W.tup.injEq, id_eq, exists_eq', exists_eq_left', Out.nx.injEq, Out.rt.injEq, Nat.zero_le, Int.toNat_natCast, not_true_eq_false, not_false_eq_true, Bool.not_true, Bool.not_false, Bool.false_and, Bool.true_and, Bool.and_true, Bool.and_false, Bool.true_or, Bool.false_or, Bool.or_true, Bool.or_false, Bool.false_eq_true, join1, lcs', ladd, w2, w1, x1, x2, hwl, hc2', ladd2, rng2, q_loop, q_loop0, t_in0, t_inL, hb, hb2, s_us, l1]
      exact ⟨_, rfl, (more _ ok2).resolve_right (by simp; omega), hb2⟩
    · simp only [q_seq, q_if, q_fif, q_and, q_or, q_andV, q_orV, q_bin, q_binR, q_un, q_frz, q_imm, q_nil, q_cons, q_call, q_callW, q_c0, q_var, q_ret, q_set, q_aug, q_app, q_ext, q_pop, q_setIx, q_ixo, q_bor, q_tru, q_tst, q_not, q_notV, q_no, q_so, q_sl, q_sq, q_r1, q_r2, q_for, q_lc, q_asg, q_next, q_yes, q_fix, q_slot, q_drop, q_met, q_run, q1, q2, q2b, q2c, q3, q4, q5, q6, q7, q8, q9, q10, q11, q12, q13, q14, q15, q16, q17, q18, q19, q20, q21, q22, q23, q24, q25, q26, q27, q28, q29, q30, q31, q32, q33, q34, q35, q36, q37, q38, q39, q39b, q40, q41, q42, q44, q45, q46, q47, q48, o_add, o_sub, o_mulR, o_mulL, o_mod, o_div, o_addS, o_addI, o_addL, o_addT, o_p18, o_neg, o_cmp, o_eqI, o_eqS, o_eqB, o_neI, o_neS, o_len1, o_len2, o_len3, o_lenS, o_int, o_ix1, o_ix2, o_ix3, o_tup, o_lst, o_list1, o_list2, o_tuple1, o_tuple2, o_max, o_min, o_slL, o_slT, o_slS, o_mulSt, o_isIint, o_isIbool, o_isIstr, o_isIlist, o_isItuple, o_isBint, o_isBbool, o_isBstr, o_isBlist, o_isBtuple, o_isSint, o_isSbool, o_isSstr, o_isSlist, o_isStuple, o_isLint, o_isLbool, o_isLstr, o_isLlist, o_isLtuple, o_isTint, o_isTbool, o_isTstr, o_isTlist, o_isTtuple, o_isNint, o_isNbool, o_isNstr, o_isNlist, o_isNtuple, o_allT, o_truB, o_truN, o_truI, o_truL, o_truT, q_sv1, q_sv2, view, fixSlot, wipeE, aName, aTup, aCons, aNil, List.map_cons, List.map_nil, List.length_cons, List.length_nil, List.cons_append, List.nil_append, List.replicate_succ, List.replicate_zero, List.getElem?_cons_zero, List.getElem?_cons_succ, List.set_cons_zero, List.set_cons_succ, Option.map_some, Option.map_none, reduceIte, Nat.reduceAdd, Nat.reduceEqDiff, Option.some.injEq, List.length_map, List.length_append, and_true, true_and, and_self, decide_true, decide_false, Int.reduceLT, Int.reduceNeg, Int.reduceLE, Int.reduceEq, Int.reduceMul, Int.reduceAdd, Int.reduceSub, Int.reduceMod, Int.reduceDiv, Nat.reduceLT, Nat.reduceLeDiff, Int.reducePow, Nat.reducePow, Int.reduceToNat, SV.imm.injEq, SV.own.injEq, W.int.injEq, W.str.injEq, W.bl.injEq, W.lst.injEq, W.tup.injEq, id_eq, exists_eq', exists_eq_left', Out.nx.injEq, Out.rt.injEq, Nat.zero_le, Int.toNat_natCast, not_true_eq_false, not_false_eq_true, Bool.not_true, Bool.not_false, Bool.false_and, Bool.true_and, Bool.and_true, Bool.and_false, Bool.true_or, Bool.false_or, Bool.or_true, Bool.or_false, Bool.false_eq_true, join1, lcs', ladd, w2, w1, x1, x2, hwl, hc2', ladd2, rng2, q_loop, q_loop0, t_in0, t_inL, hb]
      exact ⟨_, rfl, ok2, hb⟩
  · by_cases w1 : ds.getD 0 0 / 182 % 3 = 1
    · by_cases hb : c0 :: cs ∈ wordL
      · have hb2 : c0 :: (cs ++ [95]) ∉ wordL := us_word _ hb
        have l1 : addW (.str (T (c0 :: cs))) (.str (T [95])) = some (.imm (.str (T ((c0 :: cs) ++ [95])))) := addT (by simp; omega)
        simp only [q_seq, q_if, q_fif, q_and, q_or, q_andV, q_orV, q_bin, q_binR, q_un, q_frz, q_imm, q_nil, q_cons, q_call, q_callW, q_c0, q_var, q_ret, q_set, q_aug, q_app, q_ext, q_pop, q_setIx, q_ixo, q_bor, q_tru, q_tst, q_not, q_notV, q_no, q_so, q_sl, q_sq, q_r1, q_r2, q_for, q_lc, q_asg, q_next, q_yes, q_fix, q_slot, q_drop, q_met, q_run, q1, q2, q2b, q2c, q3, q4, q5, q6, q7, q8, q9, q10, q11, q12, q13, q14, q15, q16, q17, q18, q19, q20, q21, q22, q23, q24, q25, q26, q27, q28, q29, q30, q31, q32, q33, q34, q35, q36, q37, q38, q39, q39b, q40, q41, q42, q44, q45, q46, q47, q48, o_add, o_sub, o_mulR, o_mulL, o_mod, o_div, o_addS, o_addI, o_addL, o_addT, o_p18, o_neg, o_cmp, o_eqI, o_eqS, o_eqB, o_neI, o_neS, o_len1, o_len2, o_len3, o_lenS, o_int, o_ix1, o_ix2, o_ix3, o_tup, o_lst, o_list1, o_list2, o_tuple1, o_tuple2, o_max, o_min, o_slL, o_slT, o_slS, o_mulSt, o_isIint, o_isIbool, o_isIstr, o_isIlist, o_isItuple, o_isBint, o_isBbool, o_isBstr, o_isBlist, o_isBtuple, o_isSint, o_isSbool, o_isSstr, o_isSlist, o_isStuple, o_isLint, o_isLbool, o_isLstr, o_isLlist, o_isLtuple, o_isTint, o_isTbool, o_isTstr, o_isTlist, o_isTtuple, o_isNint, o_isNbool, o_isNstr, o_isNlist, o_isNtuple, o_allT, o_truB, o_truN, o_truI, o_truL, o_truT, q_sv1, q_sv2, view, fixSlot, wipeE, aName, aTup, aCons, aNil, List.map_cons, List.map_nil, List.length_cons, List.length_nil, List.cons_append, List.nil_append, List.replicate_succ, List.replicate_zero, List.getElem?_cons_zero, List.getElem?_cons_succ, List.set_cons_zero, List.set_cons_succ, Option.map_some, Option.map_none, reduceIte, Nat.reduceAdd, Nat.reduceEqDiff, Option.some.injEq, List.length_map, List.length_append, and_true, true_and, and_self, decide_true, decide_false, Int.reduceLT, Int.reduceNeg, Int.reduceLE, Int.reduceEq, Int.reduceMul, Int.reduceAdd, Int.reduceSub, Int.reduceMod, Int.reduceDiv, Nat.reduceLT, Nat.reduceLeDiff, Int.reducePow, Nat.reducePow, Int.reduceToNat, SV.imm.injEq, SV.own.injEq, W.int.injEq, W.str.injEq, W.bl.injEq, W.lst.injEq, W.tup.injEq, id_eq, exists_eq', exists_eq_left', Out.nx.injEq, Out.rt.injEq, Nat.zero_le, Int.toNat_natCast, not_true_eq_false, not_false_eq_true, Bool.not_true, Bool.not_false, Bool.false_and, Bool.true_and, Bool.and_true, Bool.and_false, Bool.true_or, Bool.false_or, Bool.or_true, Bool.or_false, Bool.false_eq_true, join1, lcs', ladd, w2, w1, rng2, q_loop, q_loop0, t_in0, t_inL, hb, hb2, s_us, l1]
        exact ⟨(c0 :: cs) ++ [95], rfl, (more _ ok1).resolve_right (by simp; omega), hb2⟩
      · simp only [q_seq, q_if, q_fif, q_and, q_or, q_andV, q_orV, q_bin, q_binR, q_un, q_frz, q_imm, q_nil, q_cons, q_call, q_callW, q_c0, q_var, q_ret, q_set, q_aug, q_app, q_ext, q_pop, q_setIx, q_ixo, q_bor, q_tru, q_tst, q_not, q_notV, q_no, q_so, q_sl, q_sq, q_r1, q_r2, q_for, q_lc, q_asg, q_next, q_yes, q_fix, q_slot, q_drop, q_met, q_run, q1, q2, q2b, q2c, q3, q4, q5, q6, q7, q8, q9, q10, q11, q12, q13, q14, q15, q16, q17, q18, q19, q20, q21, q22, q23, q24, q25, q26, q27, q28, q29, q30, q31, q32, q33, q34, q35, q36, q37, q38, q39, q39b, q40, q41, q42, q44, q45, q46, q47, q48, o_add, o_sub, o_mulR, o_mulL, o_mod, o_div, o_addS, o_addI, o_addL, o_addT, o_p18, o_neg, o_cmp, o_eqI, o_eqS, o_eqB, o_neI, o_neS, o_len1, o_len2, o_len3, o_lenS, o_int, o_ix1, o_ix2, o_ix3, o_tup, o_lst, o_list1, o_list2, o_tuple1, o_tuple2, o_max, o_min, o_slL, o_slT, o_slS, o_mulSt, o_isIint, o_isIbool, o_isIstr, o_isIlist, o_isItuple, o_isBint, o_isBbool, o_isBstr, o_isBlist, o_isBtuple, o_isSint, o_isSbool, o_isSstr, o_isSlist, o_isStuple, o_isLint, o_isLbool, o_isLstr, o_isLlist, o_isLtuple, o_isTint, o_isTbool, o_isTstr, o_isTlist, o_isTtuple, o_isNint, o_isNbool, o_isNstr, o_isNlist, o_isNtuple, o_allT, o_truB, o_truN, o_truI, o_truL, o_truT, q_sv1, q_sv2, view, fixSlot, wipeE, aName, aTup, aCons, aNil, List.map_cons, List.map_nil, List.length_cons, List.length_nil, List.cons_append, List.nil_append, List.replicate_succ, List.replicate_zero, List.getElem?_cons_zero, List.getElem?_cons_succ, List.set_cons_zero, List.set_cons_succ, Option.map_some, Option.map_none, reduceIte, Nat.reduceAdd, Nat.reduceEqDiff, Option.some.injEq, List.length_map, List.length_append, and_true, true_and, and_self, decide_true, decide_false, Int.reduceLT, Int.reduceNeg, Int.reduceLE, Int.reduceEq, Int.reduceMul, Int.reduceAdd, Int.reduceSub, Int.reduceMod, Int.reduceDiv, Nat.reduceLT, Nat.reduceLeDiff, Int.reducePow, Nat.reducePow, Int.reduceToNat, SV.imm.injEq, SV.own.injEq, W.int.injEq, W.str.injEq, W.bl.injEq, W.lst.injEq, W.tup.injEq, id_eq, exists_eq', exists_eq_left', Out.nx.injEq, Out.rt.injEq, Nat.zero_le, Int.toNat_natCast, not_true_eq_false, not_false_eq_true, Bool.not_true, Bool.not_false, Bool.false_and, Bool.true_and, Bool.and_true, Bool.and_false, Bool.true_or, Bool.false_or, Bool.or_true, Bool.or_false, Bool.false_eq_true, join1, lcs', ladd, w2, w1, rng2, q_loop, q_loop0, t_in0, t_inL, hb]
        exact ⟨_, rfl, ok1, hb⟩
    · by_cases hb : c0 :: cs ∈ wordL
      · have hb2 : c0 :: (cs ++ [95]) ∉ wordL := us_word _ hb
        have l1 : addW (.str (T (c0 :: cs))) (.str (T [95])) = some (.imm (.str (T ((c0 :: cs) ++ [95])))) := addT (by simp; omega)
        simp only [q_seq, q_if, q_fif, q_and, q_or, q_andV, q_orV, q_bin, q_binR, q_un, q_frz, q_imm, q_nil, q_cons, q_call, q_callW, q_c0, q_var, q_ret, q_set, q_aug, q_app, q_ext, q_pop, q_setIx, q_ixo, q_bor, q_tru, q_tst, q_not, q_notV, q_no, q_so, q_sl, q_sq, q_r1, q_r2, q_for, q_lc, q_asg, q_next, q_yes, q_fix, q_slot, q_drop, q_met, q_run, q1, q2, q2b, q2c, q3, q4, q5, q6, q7, q8, q9, q10, q11, q12, q13, q14, q15, q16, q17, q18, q19, q20, q21, q22, q23, q24, q25, q26, q27, q28, q29, q30, q31, q32, q33, q34, q35, q36, q37, q38, q39, q39b, q40, q41, q42, q44, q45, q46, q47, q48, o_add, o_sub, o_mulR, o_mulL, o_mod, o_div, o_addS, o_addI, o_addL, o_addT, o_p18, o_neg, o_cmp, o_eqI, o_eqS, o_eqB, o_neI, o_neS, o_len1, o_len2, o_len3, o_lenS, o_int, o_ix1, o_ix2, o_ix3, o_tup, o_lst, o_list1, o_list2, o_tuple1, o_tuple2, o_max, o_min, o_slL, o_slT, o_slS, o_mulSt, o_isIint, o_isIbool, o_isIstr, o_isIlist, o_isItuple, o_isBint, o_isBbool, o_isBstr, o_isBlist, o_isBtuple, o_isSint, o_isSbool, o_isSstr, o_isSlist, o_isStuple, o_isLint, o_isLbool, o_isLstr, o_isLlist, o_isLtuple, o_isTint, o_isTbool, o_isTstr, o_isTlist, o_isTtuple, o_isNint, o_isNbool, o_isNstr, o_isNlist, o_isNtuple, o_allT, o_truB, o_truN, o_truI, o_truL, o_truT, q_sv1, q_sv2, view, fixSlot, wipeE, aName, aTup, aCons, aNil, List.map_cons, List.map_nil, List.length_cons, List.length_nil, List.cons_append, List.nil_append, List.replicate_succ, List.replicate_zero, List.getElem?_cons_zero, List.getElem?_cons_succ, List.set_cons_zero, List.set_cons_succ, Option.map_some, Option.map_none, reduceIte, Nat.reduceAdd, Nat.reduceEqDiff, Option.some.injEq, List.length_map, List.length_append, and_true, true_and, and_self, decide_true, decide_false, Int.reduceLT, Int.reduceNeg, Int.reduceLE, Int.reduceEq, Int.reduceMul, Int.reduceAdd, Int.reduceSub, Int.reduceMod, Int.reduceDiv, Nat.reduceLT, Nat.reduceLeDiff, Int.reducePow, Nat.reducePow, Int.reduceToNat, SV.imm.injEq, SV.own.injEq, W.int.injEq, W.str.injEq, W.bl.injEq, W.lst.injEq, W.tup.injEq, id_eq, exists_eq', exists_eq_left', Out.nx.injEq, Out.rt.injEq, Nat.zero_le, Int.toNat_natCast, not_true_eq_false, not_false_eq_true, Bool.not_true, Bool.not_false, Bool.false_and, Bool.true_and, Bool.and_true, Bool.and_false, Bool.true_or, Bool.false_or, Bool.or_true, Bool.or_false, Bool.false_eq_true, join1, lcs', ladd, w2, w1, rng2, q_loop, q_loop0, t_in0, t_inL, hb, hb2, s_us, l1]
        exact ⟨(c0 :: cs) ++ [95], rfl, (more _ ok1).resolve_right (by simp; omega), hb2⟩
      · simp only [q_seq, q_if, q_fif, q_and, q_or, q_andV, q_orV, q_bin, q_binR, q_un, q_frz, q_imm, q_nil, q_cons, q_call, q_callW, q_c0, q_var, q_ret, q_set, q_aug, q_app, q_ext, q_pop, q_setIx, q_ixo, q_bor, q_tru, q_tst, q_not, q_notV, q_no, q_so, q_sl, q_sq, q_r1, q_r2, q_for, q_lc, q_asg, q_next, q_yes, q_fix, q_slot, q_drop, q_met, q_run, q1, q2, q2b, q2c, q3, q4, q5, q6, q7, q8, q9, q10, q11, q12, q13, q14, q15, q16, q17, q18, q19, q20, q21, q22, q23, q24, q25, q26, q27, q28, q29, q30, q31, q32, q33, q34, q35, q36, q37, q38, q39, q39b, q40, q41, q42, q44, q45, q46, q47, q48, o_add, o_sub, o_mulR, o_mulL, o_mod, o_div, o_addS, o_addI, o_addL, o_addT, o_p18, o_neg, o_cmp, o_eqI, o_eqS, o_eqB, o_neI, o_neS, o_len1, o_len2, o_len3, o_lenS, o_int, o_ix1, o_ix2, o_ix3, o_tup, o_lst, o_list1, o_list2, o_tuple1, o_tuple2, o_max, o_min, o_slL, o_slT, o_slS, o_mulSt, o_isIint, o_isIbool, o_isIstr, o_isIlist, o_isItuple, o_isBint, o_isBbool, o_isBstr, o_isBlist, o_isBtuple, o_isSint, o_isSbool, o_isSstr, o_isSlist, o_isStuple, o_isLint, o_isLbool, o_isLstr, o_isLlist, o_isLtuple, o_isTint, o_isTbool, o_isTstr, o_isTlist, o_isTtuple, o_isNint, o_isNbool, o_isNstr, o_isNlist, o_isNtuple, o_allT, o_truB, o_truN, o_truI, o_truL, o_truT, q_sv1, q_sv2, view, fixSlot, wipeE, aName, aTup, aCons, aNil, List.map_cons, List.map_nil, List.length_cons, List.length_nil, List.cons_append, List.nil_append, List.replicate_succ, List.replicate_zero, List.getElem?_cons_zero, List.getElem?_cons_succ, List.set_cons_zero, List.set_cons_succ, Option.map_some, Option.map_none, reduceIte, Nat.reduceAdd, Nat.reduceEqDiff, Option.some.injEq, List.length_map, List.length_append, and_true, true_and, and_self, decide_true, decide_false, Int.reduceLT, Int.reduceNeg, Int.reduceLE, Int.reduceEq, Int.reduceMul, Int.reduceAdd, Int.reduceSub, Int.reduceMod, Int.reduceDiv, Nat.reduceLT, Nat.reduceLeDiff, Int.reducePow, Nat.reducePow, Int.reduceToNat, SV.imm.injEq, SV.own.injEq, W.int.injEq, W.str.injEq, W.bl.injEq, W.lst.injEq, W.tup.injEq, id_eq, exists_eq', exists_eq_left', Out.nx.injEq, Out.rt.injEq, Nat.zero_le, Int.toNat_natCast, not_true_eq_false, not_false_eq_true, Bool.not_true, Bool.not_false, Bool.false_and, Bool.true_and, Bool.and_true, Bool.and_false, Bool.true_or, Bool.false_or, Bool.or_true, Bool.or_false, Bool.false_eq_true, join1, lcs', ladd, w2, w1, rng2, q_loop, q_loop0, t_in0, t_inL, hb]
        exact ⟨_, rfl, ok1, hb⟩
end Qw
namespace Qw
open PySem PySem.Spec PyProof.Rows L2 Nz
theorem kind_not {l : List Nat} (h : l ∈ wordL ∨ l ∈ signL ∨ l = [10] ∨ (l ≠ [] ∧ (l.all (fun c => decide (c ∈ digL)) && decide (l.length ≤ 9)) = true) ∨ (l ≠ [] ∧ (decide (l.headD 0 ∈ smallL) && l.all (fun c => decide (c ∈ innL))) = true)) : kindL l ≠ "odd" ∧ kindL l ≠ "end" := by
  obtain ⟨n1, n2, n3, n4, n5, n6, n7, n8, n9, n10, n11, n12, n13, n14, n15, n16, n17, n18, n19, n20, n21⟩ := kinds_ne
  unfold kindL
  by_cases h1 : l ∈ wordL
  · rw [if_pos h1]; exact ⟨n6, n3⟩
  rw [if_neg h1]
  by_cases h2 : l ∈ signL
  · rw [if_pos h2]; exact ⟨n11, n8⟩
  rw [if_neg h2]
  by_cases h3 : l = [10]
  · rw [if_pos h3]; exact ⟨n15, n12⟩
  rw [if_neg h3]
  have h4 : l ≠ [] := by
    rcases h with h | h | h | h | h
    · exact absurd h h1
    · exact absurd h h2
    · exact absurd h h3
    · exact h.1
    · exact h.1
  rw [if_neg h4]
  by_cases h5 : (l.all (fun c => decide (c ∈ digL)) && decide (l.length ≤ 9)) = true
  · rw [if_pos h5]; exact ⟨n20, n16.symm⟩
  rw [if_neg h5]
  rcases h with h | h | h | h | h
  · exact absurd h h1
  · exact absurd h h2
  · exact absurd h h3
  · exact absurd h.2 h5
  · rw [if_pos h.2]; exact ⟨n21, n17.symm⟩
theorem str_dig {d : Int} (h0 : 0 ≤ d) (h1 : d < 10) : ∃ c, strW [.int d] = some (.str (T [c])) ∧ c ∈ digL := by
  obtain ⟨n, rfl⟩ : ∃ n : Nat, d = (n : Int) := ⟨d.toNat, by omega⟩
  have hn : n < 10 := by omega
  unfold strW
  have hb : ((n : Int)).natAbs < 2 ^ 1000 := Nat.lt_of_lt_of_le (show n < 10 from hn) (by decide)
  simp only
  rw [if_pos hb]
  refine ⟨48 + n, ?_, ?_⟩
  · have : (toString (n : Int) : Str) = T (TL.numL n) := SX.num_S n
    rw [this]
    have q : ∀ n : Fin 10, TL.numL n.val = [48 + n.val] := by decide
    rw [q ⟨n, hn⟩]
  · have q : ∀ n : Fin 10, 48 + n.val ∈ digL := by decide
    exact q ⟨n, hn⟩
theorem s_signs8 : [W.str "(", W.str ")", W.str ",", W.str ":", W.str "=", W.str "->", W.str "<->", W.str "\n"] = (signL ++ [[10]]).map fun l => W.str (T l) := by
  have h : (["(", ")", ",", ":", "=", "->", "<->", "\n"] : List Str) = (signL ++ [[10]]).map T := by decide +kernel
  have := congrArg (List.map W.str) h
  rw [List.map_map] at this
  exact this
theorem lsg8 {f : List Nat → W} : lstL ((signL ++ [[10]]).map f) = some (.own (.lst ((signL ++ [[10]]).map f))) := o_lst (by rw [List.length_map]; decide)
theorem sign_at (x : Int) : ∃ l, atI ((signL ++ [[10]]).map fun l => W.str (T l)) (x % 8) = some (.str (T l)) ∧ (l ∈ signL ∨ l = [10]) := by
  have e0 := Int.emod_nonneg x (show (8 : Int) ≠ 0 by decide)
  have e1 := Int.emod_lt_of_pos x (show (0 : Int) < 8 by decide)
  obtain ⟨j, hj⟩ : ∃ j : Nat, x % 8 = (j : Int) := ⟨(x % 8).toNat, by omega⟩
  rw [hj]
  have hl : (signL ++ [[10]]).length = 8 := rfl
  have hlt : j < (signL ++ [[10]]).length := by omega
  refine ⟨(signL ++ [[10]])[j], atI_at (by rw [List.getElem?_map, List.getElem?_eq_getElem hlt]; rfl), ?_⟩
  have := List.getElem_mem hlt
  rcases List.mem_append.mp this with h | h
  · exact .inl h
  · exact .inr (List.mem_singleton.mp h)
theorem sign_len : ∀ l ∈ signL, l.length ≤ 9 := by decide
theorem tokc_ok (c : Int) : ∃ l, F_token [.int c] = some (.imm (.str (T l))) ∧ l.length ≤ 1000 ∧ Tk l := by
  obtain ⟨ds, hds, hl, hd⟩ := digits_ok c 2520 11 (by decide) (by decide) (by decide) (by decide)
  have hl11 : ds.length = 11 := hl
  have x0 : atI (ds.map W.int) 0 = some (.int (ds.getD 0 0)) := at_getD (j := 0) (by omega)
  have x1 : atI (ds.map W.int) 1 = some (.int (ds.getD 1 0)) := at_getD (j := 1) (by omega)
  have fin : ∀ l : List Nat, l.length ≤ 1000 → (kindL l ≠ "odd" ∧ kindL l ≠ "end") → l.length ≤ 1000 ∧ Tk l := fun l h k => ⟨h, tk_of (by omega) k.1 k.2⟩
  unfold F_token B_token
  by_cases w0 : ds.getD 0 0 % 7 < 2
  · have m0 := Int.emod_nonneg (ds.getD 1 0) (show (9 : Int) ≠ 0 by decide)
    have m1 := Int.emod_lt_of_pos (ds.getD 1 0) (show (0 : Int) < 9 by decide)
    have r1 : -4611686018427387904 ≤ 1 + ds.getD 1 0 % 9 ∧ 1 + ds.getD 1 0 % 9 < 4611686018427387904 := by omega
    simp only [q_seq, q_if, q_fif, q_and, q_or, q_andV, q_orV, q_bin, q_binR, q_un, q_frz, q_imm, q_nil, q_cons, q_call, q_callW, q_c0, q_var, q_ret, q_set, q_aug, q_app, q_ext, q_pop, q_setIx, q_ixo, q_bor, q_tru, q_tst, q_not, q_notV, q_no, q_so, q_sl, q_sq, q_r1, q_r2, q_for, q_lc, q_asg, q_next, q_yes, q_fix, q_slot, q_drop, q_met, q_run, q1, q2, q2b, q2c, q3, q4, q5, q6, q7, q8, q9, q10, q11, q12, q13, q14, q15, q16, q17, q18, q19, q20, q21, q22, q23, q24, q25, q26, q27, q28, q29, q30, q31, q32, q33, q34, q35, q36, q37, q38, q39, q39b, q40, q41, q42, q44, q45, q46, q47, q48, o_add, o_sub, o_mulR, o_mulL, o_mod, o_div, o_addS, o_addI, o_addL, o_addT, o_p18, o_neg, o_cmp, o_eqI, o_eqS, o_eqB, o_neI, o_neS, o_len1, o_len2, o_len3, o_lenS, o_int, o_ix1, o_ix2, o_ix3, o_tup, o_lst, o_list1, o_list2, o_tuple1, o_tuple2, o_max, o_min, o_slL, o_slT, o_slS, o_mulSt, o_isIint, o_isIbool, o_isIstr, o_isIlist, o_isItuple, o_isBint, o_isBbool, o_isBstr, o_isBlist, o_isBtuple, o_isSint, o_isSbool, o_isSstr, o_isSlist, o_isStuple, o_isLint, o_isLbool, o_isLstr, o_isLlist, o_isLtuple, o_isTint, o_isTbool, o_isTstr, o_isTlist, o_isTtuple, o_isNint, o_isNbool, o_isNstr, o_isNlist, o_isNtuple, o_allT, o_truB, o_truN, o_truI, o_truL, o_truT, q_sv1, q_sv2, view, fixSlot, wipeE, aName, aTup, aCons, aNil, List.map_cons, List.map_nil, List.length_cons, List.length_nil, List.cons_append, List.nil_append, List.replicate_succ, List.replicate_zero, List.getElem?_cons_zero, List.getElem?_cons_succ, List.set_cons_zero, List.set_cons_succ, Option.map_some, Option.map_none, reduceIte, Nat.reduceAdd, Nat.reduceEqDiff, Option.some.injEq, List.length_map, List.length_append, and_true, true_and, and_self, decide_true, decide_false, Int.reduceLT, Int.reduceNeg, Int.reduceLE, Int.reduceEq, Int.reduceMul, Int.reduceAdd, Int.reduceSub, Int.reduceMod, Int.reduceDiv, Nat.reduceLT, Nat.reduceLeDiff, Int.reducePow, Nat.reducePow, Int.reduceToNat, SV.imm.injEq, SV.own.injEq, W.int.injEq, W.str.injEq, W.bl.injEq, W.lst.injEq, W.tup.injEq, id_eq, exists_eq', exists_eq_left', Out.nx.injEq, Out.rt.injEq, Nat.zero_le, Int.toNat_natCast, not_true_eq_false, not_false_eq_true, Bool.not_true, Bool.not_false, Bool.false_and, Bool.true_and, Bool.and_true, Bool.and_false, Bool.true_or, Bool.false_or, Bool.or_true, Bool.or_false, Bool.false_eq_true, hds, s_words, lw, s_signs8, lsg8, x0, x1, w0, r1]
    obtain ⟨cs, hcs, lcs, mcs⟩ := lc_gen (A := aName 5) (t := fYes) (g := fCallW strW (fCons (fBin modW (fCallW intW (fCons (fBin ixW (fVar 3) (fBin addI (fC (.int 2)) (fVar 5))) fNil)) (fC (.int 10))) fNil)) (R := fun c => c ∈ digL)
      (e := [some (.imm (.int c)), some (.imm (.lst (wordL.map fun l => W.str (T l)))), some (.imm (.lst ((signL ++ [[10]]).map fun l => W.str (T l)))), some (.imm (.lst (ds.map W.int))), some (.imm (.int (ds.getD 0 0 % 7))), none])
      (ws := rngW 0 (1 + ds.getD 1 0 % 9).toNat) (by
        intro w hw
        obtain ⟨j, hj, rfl⟩ := rngW_mem hw
        have xj : atI (ds.map W.int) (2 + (j : Int)) = some (.int (ds.getD (2 + j) 0)) := at_getD (j := 2 + j) (by omega)
        obtain ⟨cj, hcj, mcj⟩ := str_dig (d := ds.getD (2 + j) 0 % 10) (Int.emod_nonneg _ (by decide)) (Int.emod_lt_of_pos _ (by decide))
        simp only [q_seq, q_if, q_fif, q_and, q_or, q_andV, q_orV, q_bin, q_binR, q_un, q_frz, q_imm, q_nil, q_cons, q_call, q_callW, q_c0, q_var, q_ret, q_set, q_aug, q_app, q_ext, q_pop, q_setIx, q_ixo, q_bor, q_tru, q_tst, q_not, q_notV, q_no, q_so, q_sl, q_sq, q_r1, q_r2, q_for, q_lc, q_asg, q_next, q_yes, q_fix, q_slot, q_drop, q_met, q_run, q1, q2, q2b, q2c, q3, q4, q5, q6, q7, q8, q9, q10, q11, q12, q13, q14, q15, q16, q17, q18, q19, q20, q21, q22, q23, q24, q25, q26, q27, q28, q29, q30, q31, q32, q33, q34, q35, q36, q37, q38, q39, q39b, q40, q41, q42, q44, q45, q46, q47, q48, o_add, o_sub, o_mulR, o_mulL, o_mod, o_div, o_addS, o_addI, o_addL, o_addT, o_p18, o_neg, o_cmp, o_eqI, o_eqS, o_eqB, o_neI, o_neS, o_len1, o_len2, o_len3, o_lenS, o_int, o_ix1, o_ix2, o_ix3, o_tup, o_lst, o_list1, o_list2, o_tuple1, o_tuple2, o_max, o_min, o_slL, o_slT, o_slS, o_mulSt, o_isIint, o_isIbool, o_isIstr, o_isIlist, o_isItuple, o_isBint, o_isBbool, o_isBstr, o_isBlist, o_isBtuple, o_isSint, o_isSbool, o_isSstr, o_isSlist, o_isStuple, o_isLint, o_isLbool, o_isLstr, o_isLlist, o_isLtuple, o_isTint, o_isTbool, o_isTstr, o_isTlist, o_isTtuple, o_isNint, o_isNbool, o_isNstr, o_isNlist, o_isNtuple, o_allT, o_truB, o_truN, o_truI, o_truL, o_truT, q_sv1, q_sv2, view, fixSlot, wipeE, aName, aTup, aCons, aNil, List.map_cons, List.map_nil, List.length_cons, List.length_nil, List.cons_append, List.nil_append, List.replicate_succ, List.replicate_zero, List.getElem?_cons_zero, List.getElem?_cons_succ, List.set_cons_zero, List.set_cons_succ, Option.map_some, Option.map_none, reduceIte, Nat.reduceAdd, Nat.reduceEqDiff, Option.some.injEq, List.length_map, List.length_append, and_true, true_and, and_self, decide_true, decide_false, Int.reduceLT, Int.reduceNeg, Int.reduceLE, Int.reduceEq, Int.reduceMul, Int.reduceAdd, Int.reduceSub, Int.reduceMod, Int.reduceDiv, Nat.reduceLT, Nat.reduceLeDiff, Int.reducePow, Nat.reducePow, Int.reduceToNat, SV.imm.injEq, SV.own.injEq, W.int.injEq, W.str.injEq, W.bl.injEq, W.lst.injEq, W.tup.injEq, id_eq, exists_eq', exists_eq_left', Out.nx.injEq, Out.rt.injEq, Nat.zero_le, Int.toNat_natCast, not_true_eq_false, not_false_eq_true, Bool.not_true, Bool.not_false, Bool.false_and, Bool.true_and, Bool.and_true, Bool.and_false, Bool.true_or, Bool.false_or, Bool.or_true, Bool.or_false, Bool.false_eq_true, Int.zero_add, xj, hcj]
        exact ⟨cj, rfl, mcj⟩)
    rw [rngW_len] at lcs
    rw [q43 hcs (by rw [List.length_map, List.length_map, lcs]; omega)]
    have lcs' : cs.length ≤ 1000 := by omega
    simp only [q_seq, q_if, q_fif, q_and, q_or, q_andV, q_orV, q_bin, q_binR, q_un, q_frz, q_imm, q_nil, q_cons, q_call, q_callW, q_c0, q_var, q_ret, q_set, q_aug, q_app, q_ext, q_pop, q_setIx, q_ixo, q_bor, q_tru, q_tst, q_not, q_notV, q_no, q_so, q_sl, q_sq, q_r1, q_r2, q_for, q_lc, q_asg, q_next, q_yes, q_fix, q_slot, q_drop, q_met, q_run, q1, q2, q2b, q2c, q3, q4, q5, q6, q7, q8, q9, q10, q11, q12, q13, q14, q15, q16, q17, q18, q19, q20, q21, q22, q23, q24, q25, q26, q27, q28, q29, q30, q31, q32, q33, q34, q35, q36, q37, q38, q39, q39b, q40, q41, q42, q44, q45, q46, q47, q48, o_add, o_sub, o_mulR, o_mulL, o_mod, o_div, o_addS, o_addI, o_addL, o_addT, o_p18, o_neg, o_cmp, o_eqI, o_eqS, o_eqB, o_neI, o_neS, o_len1, o_len2, o_len3, o_lenS, o_int, o_ix1, o_ix2, o_ix3, o_tup, o_lst, o_list1, o_list2, o_tuple1, o_tuple2, o_max, o_min, o_slL, o_slT, o_slS, o_mulSt, o_isIint, o_isIbool, o_isIstr, o_isIlist, o_isItuple, o_isBint, o_isBbool, o_isBstr, o_isBlist, o_isBtuple, o_isSint, o_isSbool, o_isSstr, o_isSlist, o_isStuple, o_isLint, o_isLbool, o_isLstr, o_isLlist, o_isLtuple, o_isTint, o_isTbool, o_isTstr, o_isTlist, o_isTtuple, o_isNint, o_isNbool, o_isNstr, o_isNlist, o_isNtuple, o_allT, o_truB, o_truN, o_truI, o_truL, o_truT, q_sv1, q_sv2, view, fixSlot, wipeE, aName, aTup, aCons, aNil, List.map_cons, List.map_nil, List.length_cons, List.length_nil, List.cons_append, List.nil_append, List.replicate_succ, List.replicate_zero, List.getElem?_cons_zero, List.getElem?_cons_succ, List.set_cons_zero, List.set_cons_succ, Option.map_some, Option.map_none, reduceIte, Nat.reduceAdd, Nat.reduceEqDiff, Option.some.injEq, List.length_map, List.length_append, and_true, true_and, and_self, decide_true, decide_false, Int.reduceLT, Int.reduceNeg, Int.reduceLE, Int.reduceEq, Int.reduceMul, Int.reduceAdd, Int.reduceSub, Int.reduceMod, Int.reduceDiv, Nat.reduceLT, Nat.reduceLeDiff, Int.reducePow, Nat.reducePow, Int.reduceToNat, SV.imm.injEq, SV.own.injEq, W.int.injEq, W.str.injEq, W.bl.injEq, W.lst.injEq, W.tup.injEq, id_eq, exists_eq', exists_eq_left', Out.nx.injEq, Out.rt.injEq, Nat.zero_le, Int.toNat_natCast, not_true_eq_false, not_false_eq_true, Bool.not_true, Bool.not_false, Bool.false_and, Bool.true_and, Bool.and_true, Bool.and_false, Bool.true_or, Bool.false_or, Bool.or_true, Bool.or_false, Bool.false_eq_true, join1, lcs']
    refine ⟨cs, rfl, fin cs lcs' (kind_not (.inr (.inr (.inr (.inl ⟨?_, ?_⟩)))))⟩
    · rintro rfl
      simp at lcs
      omega
    · rw [Bool.and_eq_true, List.all_eq_true]
      exact ⟨fun c hc => decide_eq_true (mcs c hc), decide_eq_true (by omega)⟩
  by_cases w1 : ds.getD 0 0 % 7 = 2
  · obtain ⟨wl, hwl, mwl⟩ := word_at (ds.getD 1 0)
    have w2 : ¬ (2 : Int) < 2 := by decide
    simp only [q_seq, q_if, q_fif, q_and, q_or, q_andV, q_orV, q_bin, q_binR, q_un, q_frz, q_imm, q_nil, q_cons, q_call, q_callW, q_c0, q_var, q_ret, q_set, q_aug, q_app, q_ext, q_pop, q_setIx, q_ixo, q_bor, q_tru, q_tst, q_not, q_notV, q_no, q_so, q_sl, q_sq, q_r1, q_r2, q_for, q_lc, q_asg, q_next, q_yes, q_fix, q_slot, q_drop, q_met, q_run, q1, q2, q2b, q2c, q3, q4, q5, q6, q7, q8, q9, q10, q11, q12, q13, q14, q15, q16, q17, q18, q19, q20, q21, q22, q23, q24, q25, q26, q27, q28, q29, q30, q31, q32, q33, q34, q35, q36, q37, q38, q39, q39b, q40, q41, q42, q44, q45, q46, q47, q48, o_add, o_sub, o_mulR, o_mulL, o_mod, o_div, o_addS, o_addI, o_addL, o_addT, o_p18, o_neg, o_cmp, o_eqI, o_eqS, o_eqB, o_neI, o_neS, o_len1, o_len2, o_len3, o_lenS, o_int, o_ix1, o_ix2, o_ix3, o_tup, o_lst, o_list1, o_list2, o_tuple1, o_tuple2, o_max, o_min, o_slL, o_slT, o_slS, o_mulSt, o_isIint, o_isIbool, o_isIstr, o_isIlist, o_isItuple, o_isBint, o_isBbool, o_isBstr, o_isBlist, o_isBtuple, o_isSint, o_isSbool, o_isSstr, o_isSlist, o_isStuple, o_isLint, o_isLbool, o_isLstr, o_isLlist, o_isLtuple, o_isTint, o_isTbool, o_isTstr, o_isTlist, o_isTtuple, o_isNint, o_isNbool, o_isNstr, o_isNlist, o_isNtuple, o_allT, o_truB, o_truN, o_truI, o_truL, o_truT, q_sv1, q_sv2, view, fixSlot, wipeE, aName, aTup, aCons, aNil, List.map_cons, List.map_nil, List.length_cons, List.length_nil, List.cons_append, List.nil_append, List.replicate_succ, List.replicate_zero, List.getElem?_cons_zero, List.getElem?_cons_succ, List.set_cons_zero, List.set_cons_succ, Option.map_some, Option.map_none, reduceIte, Nat.reduceAdd, Nat.reduceEqDiff, Option.some.injEq, List.length_map, List.length_append, and_true, true_and, and_self, decide_true, decide_false, Int.reduceLT, Int.reduceNeg, Int.reduceLE, Int.reduceEq, Int.reduceMul, Int.reduceAdd, Int.reduceSub, Int.reduceMod, Int.reduceDiv, Nat.reduceLT, Nat.reduceLeDiff, Int.reducePow, Nat.reducePow, Int.reduceToNat, SV.imm.injEq, SV.own.injEq, W.int.injEq, W.str.injEq, W.bl.injEq, W.lst.injEq, W.tup.injEq, id_eq, exists_eq', exists_eq_left', Out.nx.injEq, Out.rt.injEq, Nat.zero_le, Int.toNat_natCast, not_true_eq_false, not_false_eq_true, Bool.not_true, Bool.not_false, Bool.false_and, Bool.true_and, Bool.and_true, Bool.and_false, Bool.true_or, Bool.false_or, Bool.or_true, Bool.or_false, Bool.false_eq_true, hds, s_words, lw, s_signs8, lsg8, x0, x1, w1, w2, hwl]
    exact ⟨wl, rfl, fin wl (by have := (word_facts wl mwl).2.2.2; omega) (kind_not (.inl mwl))⟩
  by_cases w2 : ds.getD 0 0 % 7 < 5
  · obtain ⟨sl, hsl, msl⟩ := sign_at (ds.getD 1 0)
    simp only [q_seq, q_if, q_fif, q_and, q_or, q_andV, q_orV, q_bin, q_binR, q_un, q_frz, q_imm, q_nil, q_cons, q_call, q_callW, q_c0, q_var, q_ret, q_set, q_aug, q_app, q_ext, q_pop, q_setIx, q_ixo, q_bor, q_tru, q_tst, q_not, q_notV, q_no, q_so, q_sl, q_sq, q_r1, q_r2, q_for, q_lc, q_asg, q_next, q_yes, q_fix, q_slot, q_drop, q_met, q_run, q1, q2, q2b, q2c, q3, q4, q5, q6, q7, q8, q9, q10, q11, q12, q13, q14, q15, q16, q17, q18, q19, q20, q21, q22, q23, q24, q25, q26, q27, q28, q29, q30, q31, q32, q33, q34, q35, q36, q37, q38, q39, q39b, q40, q41, q42, q44, q45, q46, q47, q48, o_add, o_sub, o_mulR, o_mulL, o_mod, o_div, o_addS, o_addI, o_addL, o_addT, o_p18, o_neg, o_cmp, o_eqI, o_eqS, o_eqB, o_neI, o_neS, o_len1, o_len2, o_len3, o_lenS, o_int, o_ix1, o_ix2, o_ix3, o_tup, o_lst, o_list1, o_list2, o_tuple1, o_tuple2, o_max, o_min, o_slL, o_slT, o_slS, o_mulSt, o_isIint, o_isIbool, o_isIstr, o_isIlist, o_isItuple, o_isBint, o_isBbool, o_isBstr, o_isBlist, o_isBtuple, o_isSint, o_isSbool, o_isSstr, o_isSlist, o_isStuple, o_isLint, o_isLbool, o_isLstr, o_isLlist, o_isLtuple, o_isTint, o_isTbool, o_isTstr, o_isTlist, o_isTtuple, o_isNint, o_isNbool, o_isNstr, o_isNlist, o_isNtuple, o_allT, o_truB, o_truN, o_truI, o_truL, o_truT, q_sv1, q_sv2, view, fixSlot, wipeE, aName, aTup, aCons, aNil, List.map_cons, List.map_nil, List.length_cons, List.length_nil, List.cons_append, List.nil_append, List.replicate_succ, List.replicate_zero, List.getElem?_cons_zero, List.getElem?_cons_succ, List.set_cons_zero, List.set_cons_succ, Option.map_some, Option.map_none, reduceIte, Nat.reduceAdd, Nat.reduceEqDiff, Option.some.injEq, List.length_map, List.length_append, and_true, true_and, and_self, decide_true, decide_false, Int.reduceLT, Int.reduceNeg, Int.reduceLE, Int.reduceEq, Int.reduceMul, Int.reduceAdd, Int.reduceSub, Int.reduceMod, Int.reduceDiv, Nat.reduceLT, Nat.reduceLeDiff, Int.reducePow, Nat.reducePow, Int.reduceToNat, SV.imm.injEq, SV.own.injEq, W.int.injEq, W.str.injEq, W.bl.injEq, W.lst.injEq, W.tup.injEq, id_eq, exists_eq', exists_eq_left', Out.nx.injEq, Out.rt.injEq, Nat.zero_le, Int.toNat_natCast, not_true_eq_false, not_false_eq_true, Bool.not_true, Bool.not_false, Bool.false_and, Bool.true_and, Bool.and_true, Bool.and_false, Bool.true_or, Bool.false_or, Bool.or_true, Bool.or_false, Bool.false_eq_true, hds, s_words, lw, s_signs8, lsg8, x0, x1, w0, w1, w2, hsl]
    refine ⟨sl, rfl, fin sl ?_ (kind_not ?_)⟩
    · rcases msl with h | h
      · have := sign_len sl h; omega
      · rw [h]; decide
    · rcases msl with h | h
      · exact .inr (.inl h)
      · exact .inr (.inr (.inl h))
  · obtain ⟨nl, hnl, ⟨n1, n2, n3⟩, n4⟩ := names1_ok (c / 7)
    have a0 : atI [W.str (T nl)] 0 = some (.str (T nl)) := atI_at (j := 0) rfl
    simp only [q_seq, q_if, q_fif, q_and, q_or, q_andV, q_orV, q_bin, q_binR, q_un, q_frz, q_imm, q_nil, q_cons, q_call, q_callW, q_c0, q_var, q_ret, q_set, q_aug, q_app, q_ext, q_pop, q_setIx, q_ixo, q_bor, q_tru, q_tst, q_not, q_notV, q_no, q_so, q_sl, q_sq, q_r1, q_r2, q_for, q_lc, q_asg, q_next, q_yes, q_fix, q_slot, q_drop, q_met, q_run, q1, q2, q2b, q2c, q3, q4, q5, q6, q7, q8, q9, q10, q11, q12, q13, q14, q15, q16, q17, q18, q19, q20, q21, q22, q23, q24, q25, q26, q27, q28, q29, q30, q31, q32, q33, q34, q35, q36, q37, q38, q39, q39b, q40, q41, q42, q44, q45, q46, q47, q48, o_add, o_sub, o_mulR, o_mulL, o_mod, o_div, o_addS, o_addI, o_addL, o_addT, o_p18, o_neg, o_cmp, o_eqI, o_eqS, o_eqB, o_neI, o_neS, o_len1, o_len2, o_len3, o_lenS, o_int, o_ix1, o_ix2, o_ix3, o_tup, o_lst, o_list1, o_list2, o_tuple1, o_tuple2, o_max, o_min, o_slL, o_slT, o_slS, o_mulSt, o_isIint, o_isIbool, o_isIstr, o_isIlist, o_isItuple, o_isBint, o_isBbool, o_isBstr, o_isBlist, o_isBtuple, o_isSint, o_isSbool, o_isSstr, o_isSlist, o_isStuple, o_isLint, o_isLbool, o_isLstr, o_isLlist, o_isLtuple, o_isTint, o_isTbool, o_isTstr, o_isTlist, o_isTtuple, o_isNint, o_isNbool, o_isNstr, o_isNlist, o_isNtuple, o_allT, o_truB, o_truN, o_truI, o_truL, o_truT, q_sv1, q_sv2, view, fixSlot, wipeE, aName, aTup, aCons, aNil, List.map_cons, List.map_nil, List.length_cons, List.length_nil, List.cons_append, List.nil_append, List.replicate_succ, List.replicate_zero, List.getElem?_cons_zero, List.getElem?_cons_succ, List.set_cons_zero, List.set_cons_succ, Option.map_some, Option.map_none, reduceIte, Nat.reduceAdd, Nat.reduceEqDiff, Option.some.injEq, List.length_map, List.length_append, and_true, true_and, and_self, decide_true, decide_false, Int.reduceLT, Int.reduceNeg, Int.reduceLE, Int.reduceEq, Int.reduceMul, Int.reduceAdd, Int.reduceSub, Int.reduceMod, Int.reduceDiv, Nat.reduceLT, Nat.reduceLeDiff, Int.reducePow, Nat.reducePow, Int.reduceToNat, SV.imm.injEq, SV.own.injEq, W.int.injEq, W.str.injEq, W.bl.injEq, W.lst.injEq, W.tup.injEq, id_eq, exists_eq', exists_eq_left', Out.nx.injEq, Out.rt.injEq, Nat.zero_le, Int.toNat_natCast, not_true_eq_false, not_false_eq_true, Bool.not_true, Bool.not_false, Bool.false_and, Bool.true_and, Bool.and_true, Bool.and_false, Bool.true_or, Bool.false_or, Bool.or_true, Bool.or_false, Bool.false_eq_true, hds, s_words, lw, s_signs8, lsg8, x0, x1, w0, w1, w2, hnl, a0]
    refine ⟨nl, rfl, fin nl n3 (kind_not (.inr (.inr (.inr (.inr ⟨?_, ?_⟩)))))⟩
    · rintro rfl
      exact zero_small n1
    · rw [Bool.and_eq_true, List.all_eq_true]
      exact ⟨decide_eq_true n1, fun c hc => decide_eq_true (n2 c hc)⟩
end Qw
namespace Qw
open PySem PySem.Spec PyProof.Rows L2 Nz
def txtL (ps : List (Nat × List Nat)) : List Nat := (ps.map fun a => List.replicate a.1 32 ++ a.2).flatten
def plc : List (Nat × List Nat) → Nat → List W
  | [], _ => []
  | (k, l) :: r, p => .int ((p + k : Nat) : Int) :: plc r (p + k + l.length)
theorem txt_eq : ∀ (ps : List (Nat × List Nat)) (g : Nat), txt ps g = txtL ps ++ List.replicate g 32
  | [], g => rfl
  | (k, l) :: r, g => by
    simp only [txt, txtL, List.map_cons, List.flatten_cons, txt_eq r g, List.append_assoc]
theorem plc_snoc : ∀ (ps : List (Nat × List Nat)) (k : Nat) (l : List Nat) (p : Nat), plc (ps ++ [(k, l)]) p = plc ps p ++ [.int ((p + (txtL ps).length + k : Nat) : Int)]
  | [], k, l, p => rfl
  | (k', l') :: r, k, l, p => by
    rw [List.cons_append]
    simp only [plc, plc_snoc r k l, List.cons_append, txtL, List.map_cons, List.flatten_cons, List.length_append, List.length_replicate]
    congr 3
    congr 1
    omega
theorem txtL_snoc (ps : List (Nat × List Nat)) (k : Nat) (l : List Nat) : txtL (ps ++ [(k, l)]) = txtL ps ++ List.replicate k 32 ++ l := by
  simp [txtL, List.append_assoc]
/-- neighbours that would run together stand apart -/
def Ch : List (Nat × List Nat) → Prop
  | [] => True
  | [_] => True
  | a :: b :: r => (Run a.2 → b.2.headD 32 ∈ innL → 1 ≤ b.1) ∧ Ch (b :: r)
theorem ch_snoc : ∀ (ps : List (Nat × List Nat)) (b : Nat × List Nat), Ch ps → (∀ a, ps.getLast? = some a → Run a.2 → b.2.headD 32 ∈ innL → 1 ≤ b.1) → Ch (ps ++ [b])
  | [], b, _, _ => trivial
  | [a], b, _, h => ⟨h a rfl, trivial⟩
  | a :: c :: r, b, h, q => ⟨h.1, ch_snoc (c :: r) b h.2 fun d hd => q d (by rw [List.getLast?_cons_cons]; exact hd)⟩
theorem tk_ne {l : List Nat} (h : Tk l) : l ≠ [] := by
  rcases h.2 with h | h | h
  · exact h.1.1
  · rintro rfl
    have := h.1
    revert this
    decide
  · rw [h.1]
    decide
theorem ok_of_ch : ∀ (ps : List (Nat × List Nat)) (g : Nat), Ch ps → (∀ a ∈ ps, Tk a.2) → OkP ps g
  | [], _, _, _ => trivial
  | [(k, l)], g, _, h => ⟨h (k, l) (by simp), fun _ => by
      cases g with
      | zero => show (32 : Nat) ∉ innL; decide
      | succ g => show (32 : Nat) ∉ innL; decide, trivial⟩
  | (k, l) :: (k', l') :: r, g, c, h => ⟨h (k, l) (by simp), fun hr => by
      cases k' with
      | succ j => show (32 : Nat) ∉ innL; decide
      | zero =>
        have hne := tk_ne (h (0, l') (by simp))
        obtain ⟨c0, r0, rfl⟩ : ∃ c0 r0, l' = c0 :: r0 := by
          cases l' with
          | nil => exact absurd rfl hne
          | cons a b => exact ⟨a, b, rfl⟩
        intro hin
        have hin' : c0 ∈ innL := hin
        exact absurd (c.1 hr hin') (Nat.not_succ_le_zero 0), ok_of_ch ((k', l') :: r) g c.2 fun a ha => h a (List.mem_cons_of_mem _ ha)⟩
theorem tk_odd {l : List Nat} (h : Tk l) : ¬ kindL l = Str.ofString "odd" := by
  obtain ⟨n1, n2, n3, n4, n5, n6, n7, n8, n9, n10, n11, n12, n13, n14, n15, n16, n17, n18, n19, n20, n21⟩ := kinds_ne
  rcases h.2 with ⟨_, h | h | h⟩ | ⟨_, h⟩ | ⟨_, h⟩ <;> rw [h]
  · exact n6
  · exact n20
  · exact n21
  · exact n11
  · exact n15
theorem sp_rep (g : Nat) (h : g ≤ 1000) : mulS (.str " ") (.int (g : Int)) = some (.str (T (List.replicate g 32))) := by
  rw [s_sp, o_mulSt ⟨by omega, by omega, by rw [t_len]; decide, by rw [t_len]; simp; omega⟩, Int.toNat_natCast, t_rep]
  congr 3
  have : ∀ n : Nat, (List.replicate n [32]).flatten = List.replicate n 32 := fun n => by
    induction n with
    | zero => rfl
    | succ n ih => rw [List.replicate_succ, List.flatten_cons, ih]; rfl
  rw [this]
theorem last_cut {l : List Nat} (h : l ≠ []) : cutS (T l) (some (-1)) none = T [l.getLast h] := by
  rw [C8.cutS_slice]
  rw [show T l = SX.S l from rfl, SX.slice_last h]
  show T _ = T _
  rw [t_inj]
  conv => lhs; rw [← List.dropLast_concat_getLast h]
  rw [List.drop_left' (by simp)]
theorem head_cut {l : List Nat} (h : l ≠ []) : cutS (T l) none (some 1) = T [l.headD 0] := by
  have := t_cutTo l 1
  rw [show ((1 : Nat) : Int) = 1 from rfl] at this
  rw [this, t_inj]
  cases l with
  | nil => exact absurd rfl h
  | cons c r => rfl
theorem gap_at (x : Int) : ∃ q : Nat, q ≤ 2 ∧ atI [W.int 0, W.int 1, W.int 1, W.int 2] (x % 4) = some (.int (q : Int)) := by
  have e0 := Int.emod_nonneg x (show (4 : Int) ≠ 0 by decide)
  have e1 := Int.emod_lt_of_pos x (show (0 : Int) < 4 by decide)
  obtain ⟨j, hj⟩ : ∃ j : Nat, x % 4 = (j : Int) := ⟨(x % 4).toNat, by omega⟩
  rw [hj]
  have hlt : j < 4 := by omega
  rcases (by omega : j = 0 ∨ j = 1 ∨ j = 2 ∨ j = 3) with rfl | rfl | rfl | rfl
  · exact ⟨0, by omega, rfl⟩
  · exact ⟨1, by omega, rfl⟩
  · exact ⟨1, by omega, rfl⟩
  · exact ⟨2, by omega, rfl⟩
def PLaid (ls : List (List Nat)) (cell : Int) (ds : List Int) (i : Nat) (e : En) : Prop := ∃ (ps : List (Nat × List Nat)) (g : Nat) (tx : List Nat) (s6 s7 s8 : Option SV),
  e = [some (.imm (.lst (ls.map fun l => W.str (T l)))), some (.imm (.int cell)), some (.imm (.str (T innL))), some (.imm (.lst (ds.map W.int))), some (.imm (.str (T tx))), some (.own (.lst (plc ps 0))), s6, s7, s8] ∧
  tx = txtL ps ++ List.replicate g 32 ∧ ps.map (·.2) = ls.take i ∧ tx.length ≤ 2000 * (i + 1) ∧ (i ≠ 0 → g = 0) ∧ Ch ps ∧ ps.length = i ∧ (plc ps 0).length = i
theorem laid_ok (ls : List (List Nat)) (cell : Int) (hn : ls.length ≤ 40) (h : ∀ l ∈ ls, l.length ≤ 1000 ∧ Tk l) : ∃ ps g, F_laid [.lst (ls.map fun l => W.str (T l)), .int cell] = some (.imm (.tup [.str (T (txt ps g)), .lst (plc ps 0 ++ [.int ((txt ps g).length : Int)])])) ∧
    ps.map (·.2) = ls ∧ OkP ps g ∧ (txt ps g).length ≤ 1000000 := by
  obtain ⟨ds, hds, hl, hd⟩ := digits_ok cell 4 ((ls.length : Int) + 1) (by decide) (by decide) (by omega) (by omega)
  have hlen : ds.length = ls.length + 1 := by omega
  have xn : atI (ds.map W.int) (ls.length : Int) = some (.int (ds.getD ls.length 0)) := at_getD (by omega)
  have dn : 0 ≤ ds.getD ls.length 0 ∧ ds.getD ls.length 0 < 4 := by
    have hlt : ls.length < ds.length := by omega
    rw [List.getD_eq_getElem?_getD, List.getElem?_eq_getElem hlt]
    exact hd _ (List.getElem_mem hlt)
  obtain ⟨g0, hg0⟩ : ∃ g0 : Nat, ds.getD ls.length 0 / 2 = (g0 : Int) := ⟨(ds.getD ls.length 0 / 2).toNat, by omega⟩
  have hg1 : g0 ≤ 1 := by omega
  have sp0 := sp_rep g0 (by omega)
  have r1 : -4611686018427387904 ≤ (ls.length : Int) ∧ (ls.length : Int) < 4611686018427387904 := by omega
  unfold F_laid B_laid
  simp only [q_seq, q_if, q_fif, q_and, q_or, q_andV, q_orV, q_bin, q_binR, q_un, q_frz, q_imm, q_nil, q_cons, q_call, q_callW, q_c0, q_var, q_ret, q_set, q_aug, q_app, q_ext, q_pop, q_setIx, q_ixo, q_bor, q_tru, q_tst, q_not, q_notV, q_no, q_so, q_sl, q_sq, q_r1, q_r2, q_for, q_lc, q_asg, q_next, q_yes, q_fix, q_slot, q_drop, q_met, q_run, q1, q2, q2b, q2c, q3, q4, q5, q6, q7, q8, q9, q10, q11, q12, q13, q14, q15, q16, q17, q18, q19, q20, q21, q22, q23, q24, q25, q26, q27, q28, q29, q30, q31, q32, q33, q34, q35, q36, q37, q38, q39, q39b, q40, q41, q42, q44, q45, q46, q47, q48, o_add, o_sub, o_mulR, o_mulL, o_mod, o_div, o_addS, o_addI, o_addL, o_addT, o_p18, o_neg, o_cmp, o_eqI, o_eqS, o_eqB, o_neI, o_neS, o_len1, o_len2, o_len3, o_lenS, o_int, o_ix1, o_ix2, o_ix3, o_tup, o_lst, o_list1, o_list2, o_tuple1, o_tuple2, o_max, o_min, o_slL, o_slT, o_slS, o_mulSt, o_isIint, o_isIbool, o_isIstr, o_isIlist, o_isItuple, o_isBint, o_isBbool, o_isBstr, o_isBlist, o_isBtuple, o_isSint, o_isSbool, o_isSstr, o_isSlist, o_isStuple, o_isLint, o_isLbool, o_isLstr, o_isLlist, o_isLtuple, o_isTint, o_isTbool, o_isTstr, o_isTlist, o_isTtuple, o_isNint, o_isNbool, o_isNstr, o_isNlist, o_isNtuple, o_allT, o_truB, o_truN, o_truI, o_truL, o_truT, q_sv1, q_sv2, view, fixSlot, wipeE, aName, aTup, aCons, aNil, List.map_cons, List.map_nil, List.length_cons, List.length_nil, List.cons_append, List.nil_append, List.replicate_succ, List.replicate_zero, List.getElem?_cons_zero, List.getElem?_cons_succ, List.set_cons_zero, List.set_cons_succ, Option.map_some, Option.map_none, reduceIte, Nat.reduceAdd, Nat.reduceEqDiff, Option.some.injEq, List.length_map, List.length_append, and_true, true_and, and_self, decide_true, decide_false, Int.reduceLT, Int.reduceNeg, Int.reduceLE, Int.reduceEq, Int.reduceMul, Int.reduceAdd, Int.reduceSub, Int.reduceMod, Int.reduceDiv, Nat.reduceLT, Nat.reduceLeDiff, Int.reducePow, Nat.reducePow, Int.reduceToNat, SV.imm.injEq, SV.own.injEq, W.int.injEq, W.str.injEq, W.bl.injEq, W.lst.injEq, W.tup.injEq, id_eq, exists_eq', exists_eq_left', Out.nx.injEq, Out.rt.injEq, Nat.zero_le, Int.toNat_natCast, not_true_eq_false, not_false_eq_true, Bool.not_true, Bool.not_false, Bool.false_and, Bool.true_and, Bool.and_true, Bool.and_false, Bool.true_or, Bool.false_or, Bool.or_true, Bool.or_false, Bool.false_eq_true, s_inn, hds, xn, hg0, sp0, r1]
  generalize hL : loopW _ _ _ _ = L
  obtain ⟨e', rfl, ps, g, tx, s6, s7, s8, rfl, htx, hps, hlt, hg, hch, hpl, hpc⟩ := loop_is hL (PLaid ls cell ds) ⟨[], g0, List.replicate g0 32, none, none, none, rfl, rfl, rfl, by simp; omega, fun z => absurd rfl z, trivial, rfl, rfl⟩ (by
    rintro i w e hw ⟨ps, g, tx, s6, s7, s8, rfl, htx, hps, hlt, hg, hch, hpl, hpc⟩
    obtain ⟨hi, rfl⟩ := rngW_get hw
    obtain ⟨cl, ctk⟩ := h _ (List.getElem_mem hi)
    generalize hcur : ls[i] = cur at cl ctk
    have hcur' : ls[i]? = some cur := by rw [List.getElem?_eq_getElem hi, hcur]
    have aw : atI (ls.map fun l => W.str (T l)) (i : Int) = some (.str (T cur)) := atI_at (by rw [List.getElem?_map, hcur']; rfl)
    have htk : ls.take (i + 1) = ls.take i ++ [cur] := by rw [List.take_succ, hcur']; rfl
    have hz : tx.length ≤ 16777216 := by omega
    have hpc' : (plc ps 0).length < 16777216 := by omega
    cases i with
    | zero =>
      have hps0 : ps = [] := List.length_eq_zero_iff.mp hpl
      subst hps0
      have hA : addW (.str (T tx)) (.str (T cur)) = some (.imm (.str (T (tx ++ cur)))) := addT (by omega)
      have aw' : atI (ls.map fun l => W.str (T l)) 0 = some (.str (T cur)) := aw
      have z0 : ((0 : Nat) : Int) = 0 := rfl
      have lx : tx.length = g := by rw [htx]; simp [txtL]
      simp only [q_seq, q_if, q_fif, q_and, q_or, q_andV, q_orV, q_bin, q_binR, q_un, q_frz, q_imm, q_nil, q_cons, q_call, q_callW, q_c0, q_var, q_ret, q_set, q_aug, q_app, q_ext, q_pop, q_setIx, q_ixo, q_bor, q_tru, q_tst, q_not, q_notV, q_no, q_so, q_sl, q_sq, q_r1, q_r2, q_for, q_lc, q_asg, q_next, q_yes, q_fix, q_slot, q_drop, q_met, q_run, q1, q2, q2b, q2c, q3, q4, q5, q6, q7, q8, q9, q10, q11, q12, q13, q14, q15, q16, q17, q18, q19, q20, q21, q22, q23, q24, q25, q26, q27, q28, q29, q30, q31, q32, q33, q34, q35, q36, q37, q38, q39, q39b, q40, q41, q42, q44, q45, q46, q47, q48, o_add, o_sub, o_mulR, o_mulL, o_mod, o_div, o_addS, o_addI, o_addL, o_addT, o_p18, o_neg, o_cmp, o_eqI, o_eqS, o_eqB, o_neI, o_neS, o_len1, o_len2, o_len3, o_lenS, o_int, o_ix1, o_ix2, o_ix3, o_tup, o_lst, o_list1, o_list2, o_tuple1, o_tuple2, o_max, o_min, o_slL, o_slT, o_slS, o_mulSt, o_isIint, o_isIbool, o_isIstr, o_isIlist, o_isItuple, o_isBint, o_isBbool, o_isBstr, o_isBlist, o_isBtuple, o_isSint, o_isSbool, o_isSstr, o_isSlist, o_isStuple, o_isLint, o_isLbool, o_isLstr, o_isLlist, o_isLtuple, o_isTint, o_isTbool, o_isTstr, o_isTlist, o_isTtuple, o_isNint, o_isNbool, o_isNstr, o_isNlist, o_isNtuple, o_allT, o_truB, o_truN, o_truI, o_truL, o_truT, q_sv1, q_sv2, view, fixSlot, wipeE, aName, aTup, aCons, aNil, List.map_cons, List.map_nil, List.length_cons, List.length_nil, List.cons_append, List.nil_append, List.replicate_succ, List.replicate_zero, List.getElem?_cons_zero, List.getElem?_cons_succ, List.set_cons_zero, List.set_cons_succ, Option.map_some, Option.map_none, reduceIte, Nat.reduceAdd, Nat.reduceEqDiff, Option.some.injEq, List.length_map, List.length_append, and_true, true_and, and_self, decide_true, decide_false, Int.reduceLT, Int.reduceNeg, Int.reduceLE, Int.reduceEq, Int.reduceMul, Int.reduceAdd, Int.reduceSub, Int.reduceMod, Int.reduceDiv, Nat.reduceLT, Nat.reduceLeDiff, Int.reducePow, Nat.reducePow, Int.reduceToNat, SV.imm.injEq, SV.own.injEq, W.int.injEq, W.str.injEq, W.bl.injEq, W.lst.injEq, W.tup.injEq, id_eq, exists_eq', exists_eq_left', Out.nx.injEq, Out.rt.injEq, Nat.zero_le, Int.toNat_natCast, not_true_eq_false, not_false_eq_true, Bool.not_true, Bool.not_false, Bool.false_and, Bool.true_and, Bool.and_true, Bool.and_false, Bool.true_or, Bool.false_or, Bool.or_true, Bool.or_false, Bool.false_eq_true, z0, lenT, hz, hpc', hA, aw']
      exact ⟨[(g, cur)], 0, tx ++ cur, _, _, _, by rw [show plc [(g, cur)] 0 = [.int ((tx.length : Nat) : Int)] by rw [lx]; simp [plc]]; rfl, by rw [htx]; simp [txtL], by rw [htk]; rfl, by simp; omega, fun _ => rfl, trivial, rfl, rfl⟩
    | succ i =>
      have hg' := hg (Nat.succ_ne_zero i)
      subst hg'
      have hi' : i < ls.length := by omega
      obtain ⟨pl, ptk⟩ := h _ (List.getElem_mem hi')
      generalize hprev : ls[i] = prev at pl ptk
      have hprev' : ls[i]? = some prev := by rw [List.getElem?_eq_getElem hi', hprev]
      have awp : atI (ls.map fun l => W.str (T l)) (((i + 1 : Nat) : Int) - 1) = some (.str (T prev)) := by
        rw [show ((i + 1 : Nat) : Int) - 1 = (i : Int) by omega]
        exact atI_at (by rw [List.getElem?_map, hprev']; rfl)
      have xd : atI (ds.map W.int) ((i + 1 : Nat) : Int) = some (.int (ds.getD (i + 1) 0)) := at_getD (by omega)
      obtain ⟨q, hq2, hq⟩ := gap_at (ds.getD (i + 1) 0)
      have kp := kind_ok prev (by omega)
      have kc := kind_ok cur (by omega)
      have op := tk_odd ptk
      have oc := tk_odd ctk
      have pne := tk_ne ptk
      have cne := tk_ne ctk
      have lc := last_cut pne
      have hc := head_cut cne
      have hTp : (T prev).length ≤ 16777216 := by rw [t_len]; omega
      have hTc : (T cur).length ≤ 16777216 := by rw [t_len]; omega
      have gt : ((0 : Int) < ((i + 1 : Nat) : Int)) := by omega
      have last : ps.getLast? = some (ps.getLast (by intro z; rw [z] at hpl; exact absurd hpl (by simp))) := List.getLast?_eq_some_getLast _
      have lastw : ∀ a, ps.getLast? = some a → a.2 = prev := fun a ha => by
        have : (ps.map (·.2)).getLast? = some a.2 := by rw [List.getLast?_map, ha]; rfl
        rw [hps, List.take_succ, hprev'] at this
        simpa using this.symm
      have fin : ∀ q' : Nat, q' ≤ 2 → (Run prev → cur.headD 32 ∈ innL → 1 ≤ q') → ∀ s6 s7 s8 : Option SV, PLaid ls cell ds (i + 1 + 1) [some (.imm (.lst (ls.map fun l => W.str (T l)))), some (.imm (.int cell)), some (.imm (.str (T innL))), some (.imm (.lst (ds.map W.int))), some (.imm (.str (T (tx ++ List.replicate q' 32 ++ cur)))), some (.own (.lst (plc ps 0 ++ [W.int ((tx.length + (List.replicate q' 32).length : Nat) : Int)]))), s6, s7, s8] := fun q' hq' hr s6 s7 s8 =>
        ⟨ps ++ [(q', cur)], 0, _, s6, s7, s8, by
          have hlq : tx.length + (List.replicate q' 32).length = 0 + (txtL ps).length + q' := by rw [htx]; simp
          rw [plc_snoc, ← hlq], by rw [htx, txtL_snoc]; simp, by rw [List.map_append, hps, htk]; rfl, by simp; omega, fun _ => rfl, ch_snoc ps _ hch fun a ha hra hin => hr (lastw a ha ▸ hra) hin, by simp [hpl], by rw [plc_snoc, List.length_append, hpc]; rfl⟩
      have run_last : Run prev → prev.getLast pne ∈ innL := fun r => r.2.1 _ (List.getLast_mem pne)
      have hd0 : cur.headD 32 ∈ innL → cur.headD 0 ∈ innL := by
        cases cur with
        | nil => exact absurd rfl cne
        | cons c r => exact fun z => z
      have eqs : ∀ q' : Nat, q' ≤ 2 → mulS (.str " ") (.int (q' : Int)) = some (.str (T (List.replicate q' 32))) ∧ addW (.str (T tx)) (.str (T (List.replicate q' 32))) = some (.imm (.str (T (tx ++ List.replicate q' 32)))) ∧
          addW (.str (T (tx ++ List.replicate q' 32))) (.str (T cur)) = some (.imm (.str (T (tx ++ List.replicate q' 32 ++ cur)))) ∧ lenW [.str (T (tx ++ List.replicate q' 32))] = some (.int ((tx.length + (List.replicate q' 32).length : Nat) : Int)) := fun q' h' =>
        ⟨sp_rep q' (by omega), addT (by simp; omega), addT (by simp; omega), by rw [lenT (by simp; omega), List.length_append]⟩
      by_cases ha : prev.getLast pne ∈ innL
      · by_cases hb : cur.headD 0 ∈ innL
        · by_cases hq1 : (1 : Int) > q
          · obtain ⟨e1, e2, e3, e4⟩ := eqs 1 (by omega)
            have e1' : mulS (.str " ") (.int 1) = some (.str (T [32])) := e1
            have e2' : addW (.str (T tx)) (.str (T [32])) = some (.imm (.str (T (tx ++ [32])))) := e2
            have e3' : addW (.str (T (tx ++ [32]))) (.str (T cur)) = some (.imm (.str (T (tx ++ [32] ++ cur)))) := e3
            have e4' : lenW [.str (T (tx ++ [32]))] = some (.int ((tx.length + 1 : Nat) : Int)) := e4
            simp only [q_seq, q_if, q_fif, q_and, q_or, q_andV, q_orV, q_bin, q_binR, q_un, q_frz, q_imm, q_nil, q_cons, q_call, q_callW, q_c0, q_var, q_ret, q_set, q_aug, q_app, q_ext, q_pop, q_setIx, q_ixo, q_bor, q_tru, q_tst, q_not, q_notV, q_no, q_so, q_sl, q_sq, q_r1, q_r2, q_for, q_lc, q_asg, q_next, q_yes, q_fix, q_slot, q_drop, q_met, q_run, q1, q2, q2b, q2c, q3, q4, q5, q6, q7, q8, q9, q10, q11, q12, q13, q14, q15, q16, q17, q18, q19, q20, q21, q22, q23, q24, q25, q26, q27, q28, q29, q30, q31, q32, q33, q34, q35, q36, q37, q38, q39, q39b, q40, q41, q42, q44, q45, q46, q47, q48, o_add, o_sub, o_mulR, o_mulL, o_mod, o_div, o_addS, o_addI, o_addL, o_addT, o_p18, o_neg, o_cmp, o_eqI, o_eqS, o_eqB, o_neI, o_neS, o_len1, o_len2, o_len3, o_lenS, o_int, o_ix1, o_ix2, o_ix3, o_tup, o_lst, o_list1, o_list2, o_tuple1, o_tuple2, o_max, o_min, o_slL, o_slT, o_slS, o_mulSt, o_isIint, o_isIbool, o_isIstr, o_isIlist, o_isItuple, o_isBint, o_isBbool, o_isBstr, o_isBlist, o_isBtuple, o_isSint, o_isSbool, o_isSstr, o_isSlist, o_isStuple, o_isLint, o_isLbool, o_isLstr, o_isLlist, o_isLtuple, o_isTint, o_isTbool, o_isTstr, o_isTlist, o_isTtuple, o_isNint, o_isNbool, o_isNstr, o_isNlist, o_isNtuple, o_allT, o_truB, o_truN, o_truI, o_truL, o_truT, q_sv1, q_sv2, view, fixSlot, wipeE, aName, aTup, aCons, aNil, List.map_cons, List.map_nil, List.length_cons, List.length_nil, List.cons_append, List.nil_append, List.replicate_succ, List.replicate_zero, List.getElem?_cons_zero, List.getElem?_cons_succ, List.set_cons_zero, List.set_cons_succ, Option.map_some, Option.map_none, reduceIte, Nat.reduceAdd, Nat.reduceEqDiff, Option.some.injEq, List.length_map, List.length_append, and_true, true_and, and_self, decide_true, decide_false, Int.reduceLT, Int.reduceNeg, Int.reduceLE, Int.reduceEq, Int.reduceMul, Int.reduceAdd, Int.reduceSub, Int.reduceMod, Int.reduceDiv, Nat.reduceLT, Nat.reduceLeDiff, Int.reducePow, Nat.reducePow, Int.reduceToNat, SV.imm.injEq, SV.own.injEq, W.int.injEq, W.str.injEq, W.bl.injEq, W.lst.injEq, W.tup.injEq, id_eq, exists_eq', exists_eq_left', Out.nx.injEq, Out.rt.injEq, Nat.zero_le, Int.toNat_natCast, not_true_eq_false, not_false_eq_true, Bool.not_true, Bool.not_false, Bool.false_and, Bool.true_and, Bool.and_true, Bool.and_false, Bool.true_or, Bool.false_or, Bool.or_true, Bool.or_false, Bool.false_eq_true, Int.zero_add, gt, xd, hq, aw, awp, kp, kc, op, oc, hTp, hTc, lc, hc, t_in1, ha, hb, hq1, e1', e2', e3', e4', hpc']
            exact fin 1 (by omega) (fun _ _ => Nat.le_refl _) _ _ _
          · obtain ⟨e1, e2, e3, e4⟩ := eqs q hq2
            simp only [q_seq, q_if, q_fif, q_and, q_or, q_andV, q_orV, q_bin, q_binR, q_un, q_frz, q_imm, q_nil, q_cons, q_call, q_callW, q_c0, q_var, q_ret, q_set, q_aug, q_app, q_ext, q_pop, q_setIx, q_ixo, q_bor, q_tru, q_tst, q_not, q_notV, q_no, q_so, q_sl, q_sq, q_r1, q_r2, q_for, q_lc, q_asg, q_next, q_yes, q_fix, q_slot, q_drop, q_met, q_run, q1, q2, q2b, q2c, q3, q4, q5, q6, q7, q8, q9, q10, q11, q12, q13, q14, q15, q16, q17, q18, q19, q20, q21, q22, q23, q24, q25, q26, q27, q28, q29, q30, q31, q32, q33, q34, q35, q36, q37, q38, q39, q39b, q40, q41, q42, q44, q45, q46, q47, q48, o_add, o_sub, o_mulR, o_mulL, o_mod, o_div, o_addS, o_addI, o_addL, o_addT, o_p18, o_neg, o_cmp, o_eqI, o_eqS, o_eqB, o_neI, o_neS, o_len1, o_len2, o_len3, o_lenS, o_int, o_ix1, o_ix2, o_ix3, o_tup, o_lst, o_list1, o_list2, o_tuple1, o_tuple2, o_max, o_min, o_slL, o_slT, o_slS, o_mulSt, o_isIint, o_isIbool, o_isIstr, o_isIlist, o_isItuple, o_isBint, o_isBbool, o_isBstr, o_isBlist, o_isBtuple, o_isSint, o_isSbool, o_isSstr, o_isSlist, o_isStuple, o_isLint, o_isLbool, o_isLstr, o_isLlist, o_isLtuple, o_isTint, o_isTbool, o_isTstr, o_isTlist, o_isTtuple, o_isNint, o_isNbool, o_isNstr, o_isNlist, o_isNtuple, o_allT, o_truB, o_truN, o_truI, o_truL, o_truT, q_sv1, q_sv2, view, fixSlot, wipeE, aName, aTup, aCons, aNil, List.map_cons, List.map_nil, List.length_cons, List.length_nil, List.cons_append, List.nil_append, List.replicate_succ, List.replicate_zero, List.getElem?_cons_zero, List.getElem?_cons_succ, List.set_cons_zero, List.set_cons_succ, Option.map_some, Option.map_none, reduceIte, Nat.reduceAdd, Nat.reduceEqDiff, Option.some.injEq, List.length_map, List.length_append, and_true, true_and, and_self, decide_true, decide_false, Int.reduceLT, Int.reduceNeg, Int.reduceLE, Int.reduceEq, Int.reduceMul, Int.reduceAdd, Int.reduceSub, Int.reduceMod, Int.reduceDiv, Nat.reduceLT, Nat.reduceLeDiff, Int.reducePow, Nat.reducePow, Int.reduceToNat, SV.imm.injEq, SV.own.injEq, W.int.injEq, W.str.injEq, W.bl.injEq, W.lst.injEq, W.tup.injEq, id_eq, exists_eq', exists_eq_left', Out.nx.injEq, Out.rt.injEq, Nat.zero_le, Int.toNat_natCast, not_true_eq_false, not_false_eq_true, Bool.not_true, Bool.not_false, Bool.false_and, Bool.true_and, Bool.and_true, Bool.and_false, Bool.true_or, Bool.false_or, Bool.or_true, Bool.or_false, Bool.false_eq_true, Int.zero_add, gt, xd, hq, aw, awp, kp, kc, op, oc, hTp, hTc, lc, hc, t_in1, ha, hb, hq1, e1, e2, e3, e4, hpc']
            exact fin q hq2 (fun _ _ => by omega) _ _ _
        · obtain ⟨e1, e2, e3, e4⟩ := eqs q hq2
          simp only [q_seq, q_if, q_fif, q_and, q_or, q_andV, q_orV, q_bin, q_binR, q_un, q_frz, q_imm, q_nil, q_cons, q_call, q_callW, q_c0, q_var, q_ret, q_set, q_aug, q_app, q_ext, q_pop, q_setIx, q_ixo, q_bor, q_tru, q_tst, q_not, q_notV, q_no, q_so, q_sl, q_sq, q_r1, q_r2, q_for, q_lc, q_asg, q_next, q_yes, q_fix, q_slot, q_drop, q_met, q_run, q1, q2, q2b, q2c, q3, q4, q5, q6, q7, q8, q9, q10, q11, q12, q13, q14, q15, q16, q17, q18, q19, q20, q21, q22, q23, q24, q25, q26, q27, q28, q29, q30, q31, q32, q33, q34, q35, q36, q37, q38, q39, q39b, q40, q41, q42, q44, q45, q46, q47, q48, o_add, o_sub, o_mulR, o_mulL, o_mod, o_div, o_addS, o_addI, o_addL, o_addT, o_p18, o_neg, o_cmp, o_eqI, o_eqS, o_eqB, o_neI, o_neS, o_len1, o_len2, o_len3, o_lenS, o_int, o_ix1, o_ix2, o_ix3, o_tup, o_lst, o_list1, o_list2, o_tuple1, o_tuple2, o_max, o_min, o_slL, o_slT, o_slS, o_mulSt, o_isIint, o_isIbool, o_isIstr, o_isIlist, o_isItuple, o_isBint, o_isBbool, o_isBstr, o_isBlist, o_isBtuple, o_isSint, o_isSbool, o_isSstr, o_isSlist, o_isStuple, o_isLint, o_isLbool, o_isLstr, o_isLlist, o_isLtuple, o_isTint, o_isTbool, o_isTstr, o_isTlist, o_isTtuple, o_isNint, o_isNbool, o_isNstr, o_isNlist, o_isNtuple, o_allT, o_truB, o_truN, o_truI, o_truL, o_truT, q_sv1, q_sv2, view, fixSlot, wipeE, aName, aTup, aCons, aNil, List.map_cons, List.map_nil, List.length_cons, List.length_nil, List.cons_append, List.nil_append, List.replicate_succ, List.replicate_zero, List.getElem?_cons_zero, List.getElem?_cons_succ, List.set_cons_zero, List.set_cons_succ, Option.map_some, Option.map_none, reduceIte, Nat.reduceAdd, Nat.reduceEqDiff, Option.some.injEq, List.length_map, List.length_append, and_true, true_and, and_self, decide_true, decide_false, Int.reduceLT, Int.reduceNeg, Int.reduceLE, Int.reduceEq, Int.reduceMul, Int.reduceAdd, Int.reduceSub, Int.reduceMod, Int.reduceDiv, Nat.reduceLT, Nat.reduceLeDiff, Int.reducePow, Nat.reducePow, Int.reduceToNat, SV.imm.injEq, SV.own.injEq, W.int.injEq, W.str.injEq, W.bl.injEq, W.lst.injEq, W.tup.injEq, id_eq, exists_eq', exists_eq_left', Out.nx.injEq, Out.rt.injEq, Nat.zero_le, Int.toNat_natCast, not_true_eq_false, not_false_eq_true, Bool.not_true, Bool.not_false, Bool.false_and, Bool.true_and, Bool.and_true, Bool.and_false, Bool.true_or, Bool.false_or, Bool.or_true, Bool.or_false, Bool.false_eq_true, Int.zero_add, gt, xd, hq, aw, awp, kp, kc, op, oc, hTp, hTc, lc, hc, t_in1, ha, hb, e1, e2, e3, e4, hpc']
          exact fin q hq2 (fun _ z => absurd (hd0 z) hb) _ _ _
      · obtain ⟨e1, e2, e3, e4⟩ := eqs q hq2
        simp only [q_seq, q_if, q_fif, q_and, q_or, q_andV, q_orV, q_bin, q_binR, q_un, q_frz, q_imm, q_nil, q_cons, q_call, q_callW, q_c0, q_var, q_ret, q_set, q_aug, q_app, q_ext, q_pop, q_setIx, q_ixo, q_bor, q_tru, q_tst, q_not, q_notV, q_no, q_so, q_sl, q_sq, q_r1, q_r2, q_for, q_lc, q_asg, q_next, q_yes, q_fix, q_slot, q_drop, q_met, q_run, q1, q2, q2b, q2c, q3, q4, q5, q6, q7, q8, q9, q10, q11, q12, q13, q14, q15, q16, q17, q18, q19, q20, q21, q22, q23, q24, q25, q26, q27, q28, q29, q30, q31, q32, q33, q34, q35, q36, q37, q38, q39, q39b, q40, q41, q42, q44, q45, q46, q47, q48, o_add, o_sub, o_mulR, o_mulL, o_mod, o_div, o_addS, o_addI, o_addL, o_addT, o_p18, o_neg, o_cmp, o_eqI, o_eqS, o_eqB, o_neI, o_neS, o_len1, o_len2, o_len3, o_lenS, o_int, o_ix1, o_ix2, o_ix3, o_tup, o_lst, o_list1, o_list2, o_tuple1, o_tuple2, o_max, o_min, o_slL, o_slT, o_slS, o_mulSt, o_isIint, o_isIbool, o_isIstr, o_isIlist, o_isItuple, o_isBint, o_isBbool, o_isBstr, o_isBlist, o_isBtuple, o_isSint, o_isSbool, o_isSstr, o_isSlist, o_isStuple, o_isLint, o_isLbool, o_isLstr, o_isLlist, o_isLtuple, o_isTint, o_isTbool, o_isTstr, o_isTlist, o_isTtuple, o_isNint, o_isNbool, o_isNstr, o_isNlist, o_isNtuple, o_allT, o_truB, o_truN, o_truI, o_truL, o_truT, q_sv1, q_sv2, view, fixSlot, wipeE, aName, aTup, aCons, aNil, List.map_cons, List.map_nil, List.length_cons, List.length_nil, List.cons_append, List.nil_append, List.replicate_succ, List.replicate_zero, List.getElem?_cons_zero, List.getElem?_cons_succ, List.set_cons_zero, List.set_cons_succ, Option.map_some, Option.map_none, reduceIte, Nat.reduceAdd, Nat.reduceEqDiff, Option.some.injEq, List.length_map, List.length_append, and_true, true_and, and_self, decide_true, decide_false, Int.reduceLT, Int.reduceNeg, Int.reduceLE, Int.reduceEq, Int.reduceMul, Int.reduceAdd, Int.reduceSub, Int.reduceMod, Int.reduceDiv, Nat.reduceLT, Nat.reduceLeDiff, Int.reducePow, Nat.reducePow, Int.reduceToNat, SV.imm.injEq, SV.own.injEq, W.int.injEq, W.str.injEq, W.bl.injEq, W.lst.injEq, W.tup.injEq, id_eq, exists_eq', exists_eq_left', Out.nx.injEq, Out.rt.injEq, Nat.zero_le, Int.toNat_natCast, not_true_eq_false, not_false_eq_true, Bool.not_true, Bool.not_false, Bool.false_and, Bool.true_and, Bool.and_true, Bool.and_false, Bool.true_or, Bool.false_or, Bool.or_true, Bool.or_false, Bool.false_eq_true, Int.zero_add, gt, xd, hq, aw, awp, kp, kc, op, oc, hTp, hTc, lc, hc, t_in1, ha, e1, e2, e3, e4, hpc']
        exact fin q hq2 (fun z _ => absurd (run_last z) ha) _ _ _)
  rw [rngW_len] at hps hlt hpl hpc
  rw [List.take_length] at hps
  have x0 : atI (ds.map W.int) 0 = some (.int (ds.getD 0 0)) := at_getD (j := 0) (by omega)
  have d0 : 0 ≤ ds.getD 0 0 ∧ ds.getD 0 0 < 4 := by
    have hlt : 0 < ds.length := by omega
    rw [List.getD_eq_getElem?_getD, List.getElem?_eq_getElem hlt]
    exact hd _ (List.getElem_mem hlt)
  obtain ⟨g1, hg1'⟩ : ∃ g1 : Nat, ds.getD 0 0 / 2 = (g1 : Int) := ⟨(ds.getD 0 0 / 2).toNat, by omega⟩
  have hg11 : g1 ≤ 1 := by omega
  have sp1 := sp_rep g1 (by omega)
  have hF : tx ++ List.replicate g1 32 = txt ps (g + g1) := by rw [txt_eq, htx, List.append_assoc, List.replicate_append_replicate]
  have hC : addW (.str (T tx)) (.str (T (List.replicate g1 32))) = some (.imm (.str (T (txt ps (g + g1))))) := by rw [addT (by simp; omega), hF]
  have hFl : (txt ps (g + g1)).length ≤ 1000000 := by
    rw [← hF]
    simp
    omega
  have hD : lenW [.str (T (txt ps (g + g1)))] = some (.int (((txt ps (g + g1)).length : Nat) : Int)) := lenT (by omega)
  have hE : addW (.lst (plc ps 0)) (.lst [W.int (((txt ps (g + g1)).length : Nat) : Int)]) = some (.own (.lst (plc ps 0 ++ [W.int (((txt ps (g + g1)).length : Nat) : Int)]))) := o_addL (by simp; omega)
  refine ⟨ps, g + g1, ?_, hps, ok_of_ch ps _ hch fun a ha => ?_, ?_⟩
  · simp only [q_seq, q_if, q_fif, q_and, q_or, q_andV, q_orV, q_bin, q_binR, q_un, q_frz, q_imm, q_nil, q_cons, q_call, q_callW, q_c0, q_var, q_ret, q_set, q_aug, q_app, q_ext, q_pop, q_setIx, q_ixo, q_bor, q_tru, q_tst, q_not, q_notV, q_no, q_so, q_sl, q_sq, q_r1, q_r2, q_for, q_lc, q_asg, q_next, q_yes, q_fix, q_slot, q_drop, q_met, q_run, q1, q2, q2b, q2c, q3, q4, q5, q6, q7, q8, q9, q10, q11, q12, q13, q14, q15, q16, q17, q18, q19, q20, q21, q22, q23, q24, q25, q26, q27, q28, q29, q30, q31, q32, q33, q34, q35, q36, q37, q38, q39, q39b, q40, q41, q42, q44, q45, q46, q47, q48, o_add, o_sub, o_mulR, o_mulL, o_mod, o_div, o_addS, o_addI, o_addL, o_addT, o_p18, o_neg, o_cmp, o_eqI, o_eqS, o_eqB, o_neI, o_neS, o_len1, o_len2, o_len3, o_lenS, o_int, o_ix1, o_ix2, o_ix3, o_tup, o_lst, o_list1, o_list2, o_tuple1, o_tuple2, o_max, o_min, o_slL, o_slT, o_slS, o_mulSt, o_isIint, o_isIbool, o_isIstr, o_isIlist, o_isItuple, o_isBint, o_isBbool, o_isBstr, o_isBlist, o_isBtuple, o_isSint, o_isSbool, o_isSstr, o_isSlist, o_isStuple, o_isLint, o_isLbool, o_isLstr, o_isLlist, o_isLtuple, o_isTint, o_isTbool, o_isTstr, o_isTlist, o_isTtuple, o_isNint, o_isNbool, o_isNstr, o_isNlist, o_isNtuple, o_allT, o_truB, o_truN, o_truI, o_truL, o_truT, q_sv1, q_sv2, view, fixSlot, wipeE, aName, aTup, aCons, aNil, List.map_cons, List.map_nil, List.length_cons, List.length_nil, List.cons_append, List.nil_append, List.replicate_succ, List.replicate_zero, List.getElem?_cons_zero, List.getElem?_cons_succ, List.set_cons_zero, List.set_cons_succ, Option.map_some, Option.map_none, reduceIte, Nat.reduceAdd, Nat.reduceEqDiff, Option.some.injEq, List.length_map, List.length_append, and_true, true_and, and_self, decide_true, decide_false, Int.reduceLT, Int.reduceNeg, Int.reduceLE, Int.reduceEq, Int.reduceMul, Int.reduceAdd, Int.reduceSub, Int.reduceMod, Int.reduceDiv, Nat.reduceLT, Nat.reduceLeDiff, Int.reducePow, Nat.reducePow, Int.reduceToNat, SV.imm.injEq, SV.own.injEq, W.int.injEq, W.str.injEq, W.bl.injEq, W.lst.injEq, W.tup.injEq, id_eq, exists_eq', exists_eq_left', Out.nx.injEq, Out.rt.injEq, Nat.zero_le, Int.toNat_natCast, not_true_eq_false, not_false_eq_true, Bool.not_true, Bool.not_false, Bool.false_and, Bool.true_and, Bool.and_true, Bool.and_false, Bool.true_or, Bool.false_or, Bool.or_true, Bool.or_false, Bool.false_eq_true, x0, hg1', sp1, hC, hD, hE]
  · have : a.2 ∈ ps.map (·.2) := List.mem_map_of_mem ha
    rw [hps] at this
    exact (h _ this).2
  · exact hFl
theorem lc_list {A : W → En → Option En} {t : En → Option Bool} {g : En → Option W} {e : En} : ∀ (ws us : List W), ws.length = us.length → (∀ (i : Nat) (w u : W), ws[i]? = some w → us[i]? = some u → ∃ e1, A w e = some e1 ∧ t e1 = some true ∧ g e1 = some u) → lcW A t g e ws = some us
  | [], [], _, _ => rfl
  | [], _ :: _, h, _ => by simp at h
  | _ :: _, [], h, _ => by simp at h
  | w :: ws, u :: us, h, q => by
    obtain ⟨e1, a, b, c⟩ := q 0 w u rfl rfl
    have ih := lc_list ws us (by simpa using h) fun i w' u' h1 h2 => q (i + 1) w' u' (by simpa using h1) (by simpa using h2)
    simp only [lcW, a, b, c, ih]
theorem lc_strs {A : W → En → Option En} {t : En → Option Bool} {g : En → Option W} {e : En} {R : List Nat → Prop} : ∀ {ws : List W}, (∀ w ∈ ws, ∃ e1, A w e = some e1 ∧ t e1 = some true ∧ ∃ l, g e1 = some (.str (T l)) ∧ R l) →
    ∃ ls : List (List Nat), lcW A t g e ws = some (ls.map fun l => W.str (T l)) ∧ ls.length = ws.length ∧ ∀ l ∈ ls, R l
  | [], _ => ⟨[], rfl, rfl, by simp⟩
  | w :: ws, h => by
    obtain ⟨e1, a, b, l, d, r⟩ := h w List.mem_cons_self
    obtain ⟨ls, h1, h2, h3⟩ := lc_strs (ws := ws) fun w' hw => h w' (List.mem_cons_of_mem _ hw)
    refine ⟨l :: ls, by simp only [lcW, a, b, d, h1, List.map_cons], by simp [h2], fun l' hl => ?_⟩
    rcases List.mem_cons.mp hl with rfl | hl
    · exact r
    · exact h3 l' hl
theorem plc_len : ∀ (ps : List (Nat × List Nat)) (p : Nat), (plc ps p).length = ps.length
  | [], _ => rfl
  | (k, l) :: r, p => by simp only [plc, List.length_cons, plc_len r]
theorem toks_len : ∀ (ps : List (Nat × List Nat)) (p : Nat), (toks ps p).length = ps.length
  | [], _ => rfl
  | (k, l) :: r, p => by simp only [toks, List.length_cons, toks_len r]
theorem toks_get : ∀ (ps : List (Nat × List Nat)) (p j : Nat) (a : Nat × List Nat), ps[j]? = some a → ∃ u : Int, (plc ps p)[j]? = some (.int u) ∧ (toks ps p)[j]? = some (.tup [.str (kindL a.2), valL a.2, .int u])
  | [], _, _, _, h => by simp at h
  | (k, l) :: r, p, 0, a, h => by
    simp at h
    subst h
    exact ⟨_, rfl, rfl⟩
  | (k, l) :: r, p, j + 1, a, h => toks_get r (p + k + l.length) j a (by simpa using h)
theorem gd_val (l : List Nat) (n : Nat) : Gd (n + 1) (valL l) := by
  unfold valL
  split
  · trivial
  · split <;> trivial
theorem gd_tok : ∀ (ps : List (Nat × List Nat)) (p : Nat), ∀ u ∈ toks ps p, Gd 7 u
  | [], _, u, h => by simp [toks] at h
  | (k, l) :: r, p, u, h => by
    rcases List.mem_cons.mp h with rfl | h
    · refine ⟨by show 3 ≤ 1000000; decide, fun v hv => ?_⟩
      simp only [List.mem_cons, List.not_mem_nil, or_false] at hv
      rcases hv with rfl | rfl | rfl
      · trivial
      · exact gd_val l 5
      · trivial
    · exact gd_tok r _ u h
theorem law_true (ns : List Int) (h : ns.length ≤ 63) : F_law [.klst (ns.map W.int)] = some (.imm (.bl true)) := by
  obtain ⟨c0, hc0⟩ := cell_ok ns 0
  obtain ⟨c1, hc1⟩ := cell_ok ns 1
  have hc0' : F_cell [.klst (ns.map W.int), .int 0] = some (.imm (.int c0)) := hc0
  have hc1' : F_cell [.klst (ns.map W.int), .int 1] = some (.imm (.int c1)) := hc1
  have m0 := Int.emod_nonneg c0 (show (41 : Int) ≠ 0 by decide)
  have m1 := Int.emod_lt_of_pos c0 (show (0 : Int) < 41 by decide)
  have r1 : -4611686018427387904 ≤ c0 % 41 ∧ c0 % 41 < 4611686018427387904 := by omega
  unfold F_law B_law
  simp only [q_seq, q_if, q_fif, q_and, q_or, q_andV, q_orV, q_bin, q_binR, q_un, q_frz, q_imm, q_nil, q_cons, q_call, q_callW, q_c0, q_var, q_ret, q_set, q_aug, q_app, q_ext, q_pop, q_setIx, q_ixo, q_bor, q_tru, q_tst, q_not, q_notV, q_no, q_so, q_sl, q_sq, q_r1, q_r2, q_for, q_lc, q_asg, q_next, q_yes, q_fix, q_slot, q_drop, q_met, q_run, q1, q2, q2b, q2c, q3, q4, q5, q6, q7, q8, q9, q10, q11, q12, q13, q14, q15, q16, q17, q18, q19, q20, q21, q22, q23, q24, q25, q26, q27, q28, q29, q30, q31, q32, q33, q34, q35, q36, q37, q38, q39, q39b, q40, q41, q42, q44, q45, q46, q47, q48, o_add, o_sub, o_mulR, o_mulL, o_mod, o_div, o_addS, o_addI, o_addL, o_addT, o_p18, o_neg, o_cmp, o_eqI, o_eqS, o_eqB, o_neI, o_neS, o_len1, o_len2, o_len3, o_lenS, o_int, o_ix1, o_ix2, o_ix3, o_tup, o_lst, o_list1, o_list2, o_tuple1, o_tuple2, o_max, o_min, o_slL, o_slT, o_slS, o_mulSt, o_isIint, o_isIbool, o_isIstr, o_isIlist, o_isItuple, o_isBint, o_isBbool, o_isBstr, o_isBlist, o_isBtuple, o_isSint, o_isSbool, o_isSstr, o_isSlist, o_isStuple, o_isLint, o_isLbool, o_isLstr, o_isLlist, o_isLtuple, o_isTint, o_isTbool, o_isTstr, o_isTlist, o_isTtuple, o_isNint, o_isNbool, o_isNstr, o_isNlist, o_isNtuple, o_allT, o_truB, o_truN, o_truI, o_truL, o_truT, q_sv1, q_sv2, view, fixSlot, wipeE, aName, aTup, aCons, aNil, List.map_cons, List.map_nil, List.length_cons, List.length_nil, List.cons_append, List.nil_append, List.replicate_succ, List.replicate_zero, List.getElem?_cons_zero, List.getElem?_cons_succ, List.set_cons_zero, List.set_cons_succ, Option.map_some, Option.map_none, reduceIte, Nat.reduceAdd, Nat.reduceEqDiff, Option.some.injEq, List.length_map, List.length_append, and_true, true_and, and_self, decide_true, decide_false, Int.reduceLT, Int.reduceNeg, Int.reduceLE, Int.reduceEq, Int.reduceMul, Int.reduceAdd, Int.reduceSub, Int.reduceMod, Int.reduceDiv, Nat.reduceLT, Nat.reduceLeDiff, Int.reducePow, Nat.reducePow, Int.reduceToNat, SV.imm.injEq, SV.own.injEq, W.int.injEq, W.str.injEq, W.bl.injEq, W.lst.injEq, W.tup.injEq, id_eq, exists_eq', exists_eq_left', Out.nx.injEq, Out.rt.injEq, Nat.zero_le, Int.toNat_natCast, not_true_eq_false, not_false_eq_true, Bool.not_true, Bool.not_false, Bool.false_and, Bool.true_and, Bool.and_true, Bool.and_false, Bool.true_or, Bool.false_or, Bool.or_true, Bool.or_false, Bool.false_eq_true, hc0', r1]
  obtain ⟨ls, hls, lls, mls⟩ := lc_strs (A := aName 6) (t := fYes) (g := fFrz (fCall F_token (fCons (fFrz (fCall F_cell (fCons (fVar 0) (fCons (fBin addI (fC (.int 2)) (fVar 6)) fNil)))) fNil))) (R := fun l => l.length ≤ 1000 ∧ Tk l)
    (e := [some (.imm (.klst (ns.map W.int))), none, none, none, none, none, none]) (ws := rngW 0 (c0 % 41).toNat) (by
      intro w hw
      obtain ⟨j, hj, rfl⟩ := rngW_mem hw
      obtain ⟨cj, hcj⟩ := cell_ok ns (2 + j)
      have hcj' : F_cell [.klst (ns.map W.int), .int (2 + (j : Int))] = some (.imm (.int cj)) := hcj
      obtain ⟨l, hl, h1, h2⟩ := tokc_ok cj
      simp only [q_seq, q_if, q_fif, q_and, q_or, q_andV, q_orV, q_bin, q_binR, q_un, q_frz, q_imm, q_nil, q_cons, q_call, q_callW, q_c0, q_var, q_ret, q_set, q_aug, q_app, q_ext, q_pop, q_setIx, q_ixo, q_bor, q_tru, q_tst, q_not, q_notV, q_no, q_so, q_sl, q_sq, q_r1, q_r2, q_for, q_lc, q_asg, q_next, q_yes, q_fix, q_slot, q_drop, q_met, q_run, q1, q2, q2b, q2c, q3, q4, q5, q6, q7, q8, q9, q10, q11, q12, q13, q14, q15, q16, q17, q18, q19, q20, q21, q22, q23, q24, q25, q26, q27, q28, q29, q30, q31, q32, q33, q34, q35, q36, q37, q38, q39, q39b, q40, q41, q42, q44, q45, q46, q47, q48, o_add, o_sub, o_mulR, o_mulL, o_mod, o_div, o_addS, o_addI, o_addL, o_addT, o_p18, o_neg, o_cmp, o_eqI, o_eqS, o_eqB, o_neI, o_neS, o_len1, o_len2, o_len3, o_lenS, o_int, o_ix1, o_ix2, o_ix3, o_tup, o_lst, o_list1, o_list2, o_tuple1, o_tuple2, o_max, o_min, o_slL, o_slT, o_slS, o_mulSt, o_isIint, o_isIbool, o_isIstr, o_isIlist, o_isItuple, o_isBint, o_isBbool, o_isBstr, o_isBlist, o_isBtuple, o_isSint, o_isSbool, o_isSstr, o_isSlist, o_isStuple, o_isLint, o_isLbool, o_isLstr, o_isLlist, o_isLtuple, o_isTint, o_isTbool, o_isTstr, o_isTlist, o_isTtuple, o_isNint, o_isNbool, o_isNstr, o_isNlist, o_isNtuple, o_allT, o_truB, o_truN, o_truI, o_truL, o_truT, q_sv1, q_sv2, view, fixSlot, wipeE, aName, aTup, aCons, aNil, List.map_cons, List.map_nil, List.length_cons, List.length_nil, List.cons_append, List.nil_append, List.replicate_succ, List.replicate_zero, List.getElem?_cons_zero, List.getElem?_cons_succ, List.set_cons_zero, List.set_cons_succ, Option.map_some, Option.map_none, reduceIte, Nat.reduceAdd, Nat.reduceEqDiff, Option.some.injEq, List.length_map, List.length_append, and_true, true_and, and_self, decide_true, decide_false, Int.reduceLT, Int.reduceNeg, Int.reduceLE, Int.reduceEq, Int.reduceMul, Int.reduceAdd, Int.reduceSub, Int.reduceMod, Int.reduceDiv, Nat.reduceLT, Nat.reduceLeDiff, Int.reducePow, Nat.reducePow, Int.reduceToNat, SV.imm.injEq, SV.own.injEq, W.int.injEq, W.str.injEq, W.bl.injEq, W.lst.injEq, W.tup.injEq, id_eq, exists_eq', exists_eq_left', Out.nx.injEq, Out.rt.injEq, Nat.zero_le, Int.toNat_natCast, not_true_eq_false, not_false_eq_true, Bool.not_true, Bool.not_false, Bool.false_and, Bool.true_and, Bool.and_true, Bool.and_false, Bool.true_or, Bool.false_or, Bool.or_true, Bool.or_false, Bool.false_eq_true, Int.zero_add, hcj', hl]
      exact ⟨l, rfl, h1, h2⟩)
  rw [rngW_len] at lls
  rw [q43 hls (by rw [List.length_map, lls]; omega)]
  obtain ⟨ps, g, hlaid, hps, hok, htl⟩ := laid_ok ls c1 (by omega) mls
  have hpl : ps.length = ls.length := by rw [← hps, List.length_map]
  have r2 : -4611686018427387904 ≤ (ls.length : Int) ∧ (ls.length : Int) < 4611686018427387904 := by omega
  simp only [q_seq, q_if, q_fif, q_and, q_or, q_andV, q_orV, q_bin, q_binR, q_un, q_frz, q_imm, q_nil, q_cons, q_call, q_callW, q_c0, q_var, q_ret, q_set, q_aug, q_app, q_ext, q_pop, q_setIx, q_ixo, q_bor, q_tru, q_tst, q_not, q_notV, q_no, q_so, q_sl, q_sq, q_r1, q_r2, q_for, q_lc, q_asg, q_next, q_yes, q_fix, q_slot, q_drop, q_met, q_run, q1, q2, q2b, q2c, q3, q4, q5, q6, q7, q8, q9, q10, q11, q12, q13, q14, q15, q16, q17, q18, q19, q20, q21, q22, q23, q24, q25, q26, q27, q28, q29, q30, q31, q32, q33, q34, q35, q36, q37, q38, q39, q39b, q40, q41, q42, q44, q45, q46, q47, q48, o_add, o_sub, o_mulR, o_mulL, o_mod, o_div, o_addS, o_addI, o_addL, o_addT, o_p18, o_neg, o_cmp, o_eqI, o_eqS, o_eqB, o_neI, o_neS, o_len1, o_len2, o_len3, o_lenS, o_int, o_ix1, o_ix2, o_ix3, o_tup, o_lst, o_list1, o_list2, o_tuple1, o_tuple2, o_max, o_min, o_slL, o_slT, o_slS, o_mulSt, o_isIint, o_isIbool, o_isIstr, o_isIlist, o_isItuple, o_isBint, o_isBbool, o_isBstr, o_isBlist, o_isBtuple, o_isSint, o_isSbool, o_isSstr, o_isSlist, o_isStuple, o_isLint, o_isLbool, o_isLstr, o_isLlist, o_isLtuple, o_isTint, o_isTbool, o_isTstr, o_isTlist, o_isTtuple, o_isNint, o_isNbool, o_isNstr, o_isNlist, o_isNtuple, o_allT, o_truB, o_truN, o_truI, o_truL, o_truT, q_sv1, q_sv2, view, fixSlot, wipeE, aName, aTup, aCons, aNil, List.map_cons, List.map_nil, List.length_cons, List.length_nil, List.cons_append, List.nil_append, List.replicate_succ, List.replicate_zero, List.getElem?_cons_zero, List.getElem?_cons_succ, List.set_cons_zero, List.set_cons_succ, Option.map_some, Option.map_none, reduceIte, Nat.reduceAdd, Nat.reduceEqDiff, Option.some.injEq, List.length_map, List.length_append, and_true, true_and, and_self, decide_true, decide_false, Int.reduceLT, Int.reduceNeg, Int.reduceLE, Int.reduceEq, Int.reduceMul, Int.reduceAdd, Int.reduceSub, Int.reduceMod, Int.reduceDiv, Nat.reduceLT, Nat.reduceLeDiff, Int.reducePow, Nat.reducePow, Int.reduceToNat, SV.imm.injEq, SV.own.injEq, W.int.injEq, W.str.injEq, W.bl.injEq, W.lst.injEq, W.tup.injEq, id_eq, exists_eq', exists_eq_left', Out.nx.injEq, Out.rt.injEq, Nat.zero_le, Int.toNat_natCast, not_true_eq_false, not_false_eq_true, Bool.not_true, Bool.not_false, Bool.false_and, Bool.true_and, Bool.and_true, Bool.and_false, Bool.true_or, Bool.false_or, Bool.or_true, Bool.or_false, Bool.false_eq_true, hc1', hlaid, r2]
  rw [q43 (lc_list _ (toks ps 0) (by rw [rngW_len, toks_len, hpl]) (by
    intro i w u hw hu
    obtain ⟨hi, rfl⟩ := rngW_get hw
    have hip : i < ps.length := by omega
    obtain ⟨v, hv1, hv2⟩ := toks_get ps 0 i _ (List.getElem?_eq_getElem hip)
    rw [hu] at hv2
    cases hv2
    have hli : ls[i]? = some (ps[i]).2 := by
      rw [← hps, List.getElem?_map, List.getElem?_eq_getElem hip]
      rfl
    have hlm : (ps[i]).2 ∈ ls := List.mem_of_getElem? hli
    have aw : atI (ls.map fun l => W.str (T l)) (i : Int) = some (.str (T (ps[i]).2)) := atI_at (by rw [List.getElem?_map, hli]; rfl)
    have ap : atI (plc ps 0 ++ [W.int ((txt ps g).length : Int)]) (i : Int) = some (.int v) := atI_at (by
      rw [List.getElem?_append_left (by rw [plc_len]; exact hip)]
      exact hv1)
    have hk := kind_ok (ps[i]).2 (by have := (mls _ hlm).1; omega)
    have hvv := value_ok (l := (ps[i]).2) (by have := (mls _ hlm).1; omega)
    simp only [q_seq, q_if, q_fif, q_and, q_or, q_andV, q_orV, q_bin, q_binR, q_un, q_frz, q_imm, q_nil, q_cons, q_call, q_callW, q_c0, q_var, q_ret, q_set, q_aug, q_app, q_ext, q_pop, q_setIx, q_ixo, q_bor, q_tru, q_tst, q_not, q_notV, q_no, q_so, q_sl, q_sq, q_r1, q_r2, q_for, q_lc, q_asg, q_next, q_yes, q_fix, q_slot, q_drop, q_met, q_run, q1, q2, q2b, q2c, q3, q4, q5, q6, q7, q8, q9, q10, q11, q12, q13, q14, q15, q16, q17, q18, q19, q20, q21, q22, q23, q24, q25, q26, q27, q28, q29, q30, q31, q32, q33, q34, q35, q36, q37, q38, q39, q39b, q40, q41, q42, q44, q45, q46, q47, q48, o_add, o_sub, o_mulR, o_mulL, o_mod, o_div, o_addS, o_addI, o_addL, o_addT, o_p18, o_neg, o_cmp, o_eqI, o_eqS, o_eqB, o_neI, o_neS, o_len1, o_len2, o_len3, o_lenS, o_int, o_ix1, o_ix2, o_ix3, o_tup, o_lst, o_list1, o_list2, o_tuple1, o_tuple2, o_max, o_min, o_slL, o_slT, o_slS, o_mulSt, o_isIint, o_isIbool, o_isIstr, o_isIlist, o_isItuple, o_isBint, o_isBbool, o_isBstr, o_isBlist, o_isBtuple, o_isSint, o_isSbool, o_isSstr, o_isSlist, o_isStuple, o_isLint, o_isLbool, o_isLstr, o_isLlist, o_isLtuple, o_isTint, o_isTbool, o_isTstr, o_isTlist, o_isTtuple, o_isNint, o_isNbool, o_isNstr, o_isNlist, o_isNtuple, o_allT, o_truB, o_truN, o_truI, o_truL, o_truT, q_sv1, q_sv2, view, fixSlot, wipeE, aName, aTup, aCons, aNil, List.map_cons, List.map_nil, List.length_cons, List.length_nil, List.cons_append, List.nil_append, List.replicate_succ, List.replicate_zero, List.getElem?_cons_zero, List.getElem?_cons_succ, List.set_cons_zero, List.set_cons_succ, Option.map_some, Option.map_none, reduceIte, Nat.reduceAdd, Nat.reduceEqDiff, Option.some.injEq, List.length_map, List.length_append, and_true, true_and, and_self, decide_true, decide_false, Int.reduceLT, Int.reduceNeg, Int.reduceLE, Int.reduceEq, Int.reduceMul, Int.reduceAdd, Int.reduceSub, Int.reduceMod, Int.reduceDiv, Nat.reduceLT, Nat.reduceLeDiff, Int.reducePow, Nat.reducePow, Int.reduceToNat, SV.imm.injEq, SV.own.injEq, W.int.injEq, W.str.injEq, W.bl.injEq, W.lst.injEq, W.tup.injEq, id_eq, exists_eq', exists_eq_left', Out.nx.injEq, Out.rt.injEq, Nat.zero_le, Int.toNat_natCast, not_true_eq_false, not_false_eq_true, Bool.not_true, Bool.not_false, Bool.false_and, Bool.true_and, Bool.and_true, Bool.and_false, Bool.true_or, Bool.false_or, Bool.or_true, Bool.or_false, Bool.false_eq_true, Int.zero_add, aw, ap, hk, hvv])) (by rw [toks_len]; omega)]
  have htok := tokenize_ok htl (ps := ps) (g := g) rfl hok
  have hlt : lenW [.str (T (txt ps g))] = some (.int ((txt ps g).length : Int)) := lenT (by omega)
  have hgd : Gd 8 (.lst (toks ps 0 ++ [.tup [.str "end", .str "", .int ((txt ps g).length : Int)]])) := ⟨by rw [List.length_append, toks_len]; simp; omega, fun u hu => by
    rcases List.mem_append.mp hu with q | q
    · exact gd_tok ps 0 u q
    · rw [List.mem_singleton.mp q]
      refine ⟨by show 3 ≤ 1000000; decide, fun v hv => ?_⟩
      simp only [List.mem_cons, List.not_mem_nil, or_false] at hv
      rcases hv with rfl | rfl | rfl <;> trivial⟩
  have heq := equal_ok 8 _ hgd
  have hsz : (toks ps 0).length < 16777216 := by rw [toks_len]; omega
  have hne : ¬ (toks ps 0 ++ [W.tup [.str "end", .str "", .int ((txt ps g).length : Int)]] = []) := by simp
  have hdl : (toks ps 0 ++ [W.tup [.str "end", .str "", .int ((txt ps g).length : Int)]]).dropLast = toks ps 0 := List.dropLast_concat
  simp only [q_seq, q_if, q_fif, q_and, q_or, q_andV, q_orV, q_bin, q_binR, q_un, q_frz, q_imm, q_nil, q_cons, q_call, q_callW, q_c0, q_var, q_ret, q_set, q_aug, q_app, q_ext, q_pop, q_setIx, q_ixo, q_bor, q_tru, q_tst, q_not, q_notV, q_no, q_so, q_sl, q_sq, q_r1, q_r2, q_for, q_lc, q_asg, q_next, q_yes, q_fix, q_slot, q_drop, q_met, q_run, q1, q2, q2b, q2c, q3, q4, q5, q6, q7, q8, q9, q10, q11, q12, q13, q14, q15, q16, q17, q18, q19, q20, q21, q22, q23, q24, q25, q26, q27, q28, q29, q30, q31, q32, q33, q34, q35, q36, q37, q38, q39, q39b, q40, q41, q42, q44, q45, q46, q47, q48, o_add, o_sub, o_mulR, o_mulL, o_mod, o_div, o_addS, o_addI, o_addL, o_addT, o_p18, o_neg, o_cmp, o_eqI, o_eqS, o_eqB, o_neI, o_neS, o_len1, o_len2, o_len3, o_lenS, o_int, o_ix1, o_ix2, o_ix3, o_tup, o_lst, o_list1, o_list2, o_tuple1, o_tuple2, o_max, o_min, o_slL, o_slT, o_slS, o_mulSt, o_isIint, o_isIbool, o_isIstr, o_isIlist, o_isItuple, o_isBint, o_isBbool, o_isBstr, o_isBlist, o_isBtuple, o_isSint, o_isSbool, o_isSstr, o_isSlist, o_isStuple, o_isLint, o_isLbool, o_isLstr, o_isLlist, o_isLtuple, o_isTint, o_isTbool, o_isTstr, o_isTlist, o_isTtuple, o_isNint, o_isNbool, o_isNstr, o_isNlist, o_isNtuple, o_allT, o_truB, o_truN, o_truI, o_truL, o_truT, q_sv1, q_sv2, view, fixSlot, wipeE, aName, aTup, aCons, aNil, List.map_cons, List.map_nil, List.length_cons, List.length_nil, List.cons_append, List.nil_append, List.replicate_succ, List.replicate_zero, List.getElem?_cons_zero, List.getElem?_cons_succ, List.set_cons_zero, List.set_cons_succ, Option.map_some, Option.map_none, reduceIte, Nat.reduceAdd, Nat.reduceEqDiff, Option.some.injEq, List.length_map, List.length_append, and_true, true_and, and_self, decide_true, decide_false, Int.reduceLT, Int.reduceNeg, Int.reduceLE, Int.reduceEq, Int.reduceMul, Int.reduceAdd, Int.reduceSub, Int.reduceMod, Int.reduceDiv, Nat.reduceLT, Nat.reduceLeDiff, Int.reducePow, Nat.reducePow, Int.reduceToNat, SV.imm.injEq, SV.own.injEq, W.int.injEq, W.str.injEq, W.bl.injEq, W.lst.injEq, W.tup.injEq, id_eq, exists_eq', exists_eq_left', Out.nx.injEq, Out.rt.injEq, Nat.zero_le, Int.toNat_natCast, not_true_eq_false, not_false_eq_true, Bool.not_true, Bool.not_false, Bool.false_and, Bool.true_and, Bool.and_true, Bool.and_false, Bool.true_or, Bool.false_or, Bool.or_true, Bool.or_false, Bool.false_eq_true, htok, hlt, heq, hsz, hne, hdl]
end Qw
namespace Qw
open PySem PySem.Spec PyProof.Rows L2 Nz
open Evl (Ex)
def spLaw (K : PySem.W.Frag) : Sp := fun vs H Q _ => ∃ (a : Addr) (ns : List Int), vs = [.ref a] ∧ SqL K H a (ns.map V.int) ∧ ns.length ≤ 63 ∧ ∀ H', Q (.bl true) H'
theorem law_sp {K : PySem.W.Frag} {vs : List V} {H : Hp} {Q : VK} {E : XK} (h : spLaw K vs H Q E) : spQ K 1 F_law vs H Q E := by
  obtain ⟨a, ns, rfl, hS, hl, q⟩ := h
  refine ⟨H, [.klst (ns.map W.int)], .imm (.bl true), Ex.refl _, IsWs.cons ?_ IsWs.nil, rfl, law_true ns hl, fun I' H' v _ r => ?_⟩
  · simp only [IsW]
    exact ⟨a, _, rfl, hS, IsWs.ofInts⟩
  · have e : v = .bl true := by simpa [Res, IsW] using r
    subst e
    exact q H'
theorem all_mk {l : PySem.W.OpenLaw} {w : World} {K : PySem.W.Frag} {h : Heap} {mg : Str → Option Value} {fa f1 f2 f3 f4 f5 f6 f7 f8 f9 f10 f11 f12 f13 f14 f15 : Addr} (X : K.In h) (G : h.Ns mainGlobals mg) (hfa : mg "law" = some (.ref fa))
    {od1 an1 od2 an2 od3 an3 od4 an4 od5 an5 od6 an6 od7 an7 od8 an8 od9 an9 od10 an10 od11 an11 od12 an12 od13 an13 od14 an14 od15 an15 : Option Addr} {sl1 sl2 sl3 sl4 sl5 sl6 sl7 sl8 sl9 sl10 sl11 sl12 sl13 sl14 sl15 : Array (Option Value)} {oc1 kV1 dc1 pm1 cd1 ct1 oc2 kV2 dc2 pm2 cd2 ct2 oc3 kV3 dc3 pm3 cd3 ct3 oc4 kV4 dc4 pm4 cd4 ct4 oc5 kV5 dc5 pm5 cd5 ct5 oc6 kV6 dc6 pm6 cd6 ct6 oc7 kV7 dc7 pm7 cd7 ct7 oc8 kV8 dc8 pm8 cd8 ct8 oc9 kV9 dc9 pm9 cd9 ct9 oc10 kV10 dc10 pm10 cd10 ct10 oc11 kV11 dc11 pm11 cd11 ct11 oc12 kV12 dc12 pm12 cd12 ct12 oc13 kV13 dc13 pm13 cd13 ct13 oc14 kV14 dc14 pm14 cd14 ct14 oc15 kV15 dc15 pm15 cd15 ct15 : Value}
    (a1 : PySem.W.nsIn K mainGlobals "is_number" = some (some (.ref f1)))
    (l1 : K.lookup f1 = some ⟨oc1, od1, .func (PySem.W.fnOf "is_number" "is_number" (defArgs s_is_number) (defBody s_is_number) (defScope s_is_number) .none kV1 dc1 pm1 an1 cd1 ct1), sl1⟩)
    (c1 : PySem.W.codeIn K cd1 "is_number" = true) (k1 : PySem.W.keepIn K (.ref f1) = true)
    (a2 : PySem.W.nsIn K mainGlobals "end_of_run" = some (some (.ref f2)))
    (l2 : K.lookup f2 = some ⟨oc2, od2, .func (PySem.W.fnOf "end_of_run" "end_of_run" (defArgs s_end_of_run) (defBody s_end_of_run) (defScope s_end_of_run) .none kV2 dc2 pm2 an2 cd2 ct2), sl2⟩)
    (c2 : PySem.W.codeIn K cd2 "end_of_run" = true) (k2 : PySem.W.keepIn K (.ref f2) = true)
    (a3 : PySem.W.nsIn K mainGlobals "end_of_token" = some (some (.ref f3)))
    (l3 : K.lookup f3 = some ⟨oc3, od3, .func (PySem.W.fnOf "end_of_token" "end_of_token" (defArgs s_end_of_token) (defBody s_end_of_token) (defScope s_end_of_token) .none kV3 dc3 pm3 an3 cd3 ct3), sl3⟩)
    (c3 : PySem.W.codeIn K cd3 "end_of_token" = true) (k3 : PySem.W.keepIn K (.ref f3) = true)
    (a4 : PySem.W.nsIn K mainGlobals "token_of" = some (some (.ref f4)))
    (l4 : K.lookup f4 = some ⟨oc4, od4, .func (PySem.W.fnOf "token_of" "token_of" (defArgs s_token_of) (defBody s_token_of) (defScope s_token_of) .none kV4 dc4 pm4 an4 cd4 ct4), sl4⟩)
    (c4 : PySem.W.codeIn K cd4 "token_of" = true) (k4 : PySem.W.keepIn K (.ref f4) = true)
    (a5 : PySem.W.nsIn K mainGlobals "tokens_to_fault" = some (some (.ref f5)))
    (l5 : K.lookup f5 = some ⟨oc5, od5, .func (PySem.W.fnOf "tokens_to_fault" "tokens_to_fault" (defArgs s_tokens_to_fault) (defBody s_tokens_to_fault) (defScope s_tokens_to_fault) .none kV5 dc5 pm5 an5 cd5 ct5), sl5⟩)
    (c5 : PySem.W.codeIn K cd5 "tokens_to_fault" = true) (k5 : PySem.W.keepIn K (.ref f5) = true)
    (a6 : PySem.W.nsIn K mainGlobals "tokenize" = some (some (.ref f6)))
    (l6 : K.lookup f6 = some ⟨oc6, od6, .func (PySem.W.fnOf "tokenize" "tokenize" (defArgs s_tokenize) (defBody s_tokenize) (defScope s_tokenize) .none kV6 dc6 pm6 an6 cd6 ct6), sl6⟩)
    (c6 : PySem.W.codeIn K cd6 "tokenize" = true) (k6 : PySem.W.keepIn K (.ref f6) = true)
    (a7 : PySem.W.nsIn K mainGlobals "_law_cell" = some (some (.ref f7)))
    (l7 : K.lookup f7 = some ⟨oc7, od7, .func (PySem.W.fnOf "_law_cell" "_law_cell" (defArgs s_cell) (defBody s_cell) (defScope s_cell) .none kV7 dc7 pm7 an7 cd7 ct7), sl7⟩)
    (c7 : PySem.W.codeIn K cd7 "_law_cell" = true) (k7 : PySem.W.keepIn K (.ref f7) = true)
    (a8 : PySem.W.nsIn K mainGlobals "_law_digits" = some (some (.ref f8)))
    (l8 : K.lookup f8 = some ⟨oc8, od8, .func (PySem.W.fnOf "_law_digits" "_law_digits" (defArgs s_digits) (defBody s_digits) (defScope s_digits) .none kV8 dc8 pm8 an8 cd8 ct8), sl8⟩)
    (c8 : PySem.W.codeIn K cd8 "_law_digits" = true) (k8 : PySem.W.keepIn K (.ref f8) = true)
    (a9 : PySem.W.nsIn K mainGlobals "_law_equal" = some (some (.ref f9)))
    (l9 : K.lookup f9 = some ⟨oc9, od9, .func (PySem.W.fnOf "_law_equal" "_law_equal" (defArgs s_equal) (defBody s_equal) (defScope s_equal) .none kV9 dc9 pm9 an9 cd9 ct9), sl9⟩)
    (c9 : PySem.W.codeIn K cd9 "_law_equal" = true) (k9 : PySem.W.keepIn K (.ref f9) = true)
    (a10 : PySem.W.nsIn K mainGlobals "_law_names" = some (some (.ref f10)))
    (l10 : K.lookup f10 = some ⟨oc10, od10, .func (PySem.W.fnOf "_law_names" "_law_names" (defArgs s_names) (defBody s_names) (defScope s_names) .none kV10 dc10 pm10 an10 cd10 ct10), sl10⟩)
    (c10 : PySem.W.codeIn K cd10 "_law_names" = true) (k10 : PySem.W.keepIn K (.ref f10) = true)
    (a11 : PySem.W.nsIn K mainGlobals "_law_token" = some (some (.ref f11)))
    (l11 : K.lookup f11 = some ⟨oc11, od11, .func (PySem.W.fnOf "_law_token" "_law_token" (defArgs s_token) (defBody s_token) (defScope s_token) .none kV11 dc11 pm11 an11 cd11 ct11), sl11⟩)
    (c11 : PySem.W.codeIn K cd11 "_law_token" = true) (k11 : PySem.W.keepIn K (.ref f11) = true)
    (a12 : PySem.W.nsIn K mainGlobals "_law_kind" = some (some (.ref f12)))
    (l12 : K.lookup f12 = some ⟨oc12, od12, .func (PySem.W.fnOf "_law_kind" "_law_kind" (defArgs s_kind) (defBody s_kind) (defScope s_kind) .none kV12 dc12 pm12 an12 cd12 ct12), sl12⟩)
    (c12 : PySem.W.codeIn K cd12 "_law_kind" = true) (k12 : PySem.W.keepIn K (.ref f12) = true)
    (a13 : PySem.W.nsIn K mainGlobals "_law_laid" = some (some (.ref f13)))
    (l13 : K.lookup f13 = some ⟨oc13, od13, .func (PySem.W.fnOf "_law_laid" "_law_laid" (defArgs s_laid) (defBody s_laid) (defScope s_laid) .none kV13 dc13 pm13 an13 cd13 ct13), sl13⟩)
    (c13 : PySem.W.codeIn K cd13 "_law_laid" = true) (k13 : PySem.W.keepIn K (.ref f13) = true)
    (a14 : PySem.W.nsIn K mainGlobals "_law_value" = some (some (.ref f14)))
    (l14 : K.lookup f14 = some ⟨oc14, od14, .func (PySem.W.fnOf "_law_value" "_law_value" (defArgs s_value) (defBody s_value) (defScope s_value) .none kV14 dc14 pm14 an14 cd14 ct14), sl14⟩)
    (c14 : PySem.W.codeIn K cd14 "_law_value" = true) (k14 : PySem.W.keepIn K (.ref f14) = true)
    (a15 : PySem.W.nsIn K mainGlobals "law" = some (some (.ref f15)))
    (l15 : K.lookup f15 = some ⟨oc15, od15, .func (PySem.W.fnOf "law" "law" (defArgs s_law) (defBody s_law) (defScope s_law) .none kV15 dc15 pm15 an15 cd15 ct15), sl15⟩)
    (c15 : PySem.W.codeIn K cd15 "law" = true) (k15 : PySem.W.keepIn K (.ref f15) = true)
    {c_WORDS : Addr} {o_WORDS : Obj} (a_WORDS : PySem.W.nsIn K mainGlobals "WORDS" = some (some (.ref c_WORDS))) (l_WORDS : K.lookup c_WORDS = some o_WORDS) (e_WORDS : tupOk o_WORDS [.str "all", .str "true", .str "false", .str "not", .str "and", .str "or", .str "relation", .str "values", .str "symmetric"] = true)
    {c_SIGNS : Addr} {o_SIGNS : Obj} (a_SIGNS : PySem.W.nsIn K mainGlobals "SIGNS" = some (some (.ref c_SIGNS))) (l_SIGNS : K.lookup c_SIGNS = some o_SIGNS) (e_SIGNS : tupOk o_SIGNS [.str "<->", .str "->", .str "(", .str ")", .str ",", .str ":", .str "="] = true)
    {t_DIGITS : Tok} (a_DIGITS : PySem.W.nsIn K mainGlobals "DIGITS" = some (some (Value.str "0123456789" t_DIGITS)))
    {t_SMALL_LETTERS : Tok} (a_SMALL_LETTERS : PySem.W.nsIn K mainGlobals "SMALL_LETTERS" = some (some (Value.str "abcdefghijklmnopqrstuvwxyz" t_SMALL_LETTERS)))
    {t_NAME_CHARACTERS : Tok} (a_NAME_CHARACTERS : PySem.W.nsIn K mainGlobals "NAME_CHARACTERS" = some (some (Value.str "abcdefghijklmnopqrstuvwxyzABCDEFGHIJKLMNOPQRSTUVWXYZ0123456789_" t_NAME_CHARACTERS)))
    {t_MOST_DIGITS : Tok} (a_MOST_DIGITS : PySem.W.nsIn K mainGlobals "MOST_DIGITS" = some (some (Value.int 9 t_MOST_DIGITS)))
    (z_all : PySem.W.nsIn K mainGlobals "all" = some none) (z_bool : PySem.W.nsIn K mainGlobals "bool" = some none) (z_int : PySem.W.nsIn K mainGlobals "int" = some none) (z_isinstance : PySem.W.nsIn K mainGlobals "isinstance" = some none) (z_len : PySem.W.nsIn K mainGlobals "len" = some none) (z_list : PySem.W.nsIn K mainGlobals "list" = some none) (z_max : PySem.W.nsIn K mainGlobals "max" = some none) (z_range : PySem.W.nsIn K mainGlobals "range" = some none) (z_str : PySem.W.nsIn K mainGlobals "str" = some none) (z_tuple : PySem.W.nsIn K mainGlobals "tuple" = some none) :
    ∃ fd : FuncData, (∀ (s : Shared) (v : Value), BindsTo s fd ⟨[v], []⟩ [("script", v)]) ∧ ∀ base : Heap, K.In base → base.Ns mainGlobals mg → FnOk l.prog w K mg base CX0 9 fa fd ["script"] (spLaw K) := by
  have e := hfa.symm.trans (PySem.W.mg_of X G a15)
  cases e
  have F_is_number := fun_mk (st := s_is_number) l1 c1 k1
  have g_is_number := PySem.W.mg_of X G a1
  have b_is_number := F_is_number.binds (ps := ["run"]) fun _ _ _ _ _ _ us hl => match us, hl with | [_], _ => rfl
  have F_end_of_run := fun_mk (st := s_end_of_run) l2 c2 k2
  have g_end_of_run := PySem.W.mg_of X G a2
  have b_end_of_run := F_end_of_run.binds (ps := ["text", "place"]) fun _ _ _ _ _ _ us hl => match us, hl with | [_, _], _ => rfl
  have F_end_of_token := fun_mk (st := s_end_of_token) l3 c3 k3
  have g_end_of_token := PySem.W.mg_of X G a3
  have b_end_of_token := F_end_of_token.binds (ps := ["text", "place"]) fun _ _ _ _ _ _ us hl => match us, hl with | [_, _], _ => rfl
  have F_token_of := fun_mk (st := s_token_of) l4 c4 k4
  have g_token_of := PySem.W.mg_of X G a4
  have b_token_of := F_token_of.binds (ps := ["run", "place"]) fun _ _ _ _ _ _ us hl => match us, hl with | [_, _], _ => rfl
  have F_tokens_to_fault := fun_mk (st := s_tokens_to_fault) l5 c5 k5
  have g_tokens_to_fault := PySem.W.mg_of X G a5
  have b_tokens_to_fault := F_tokens_to_fault.binds (ps := ["text"]) fun _ _ _ _ _ _ us hl => match us, hl with | [_], _ => rfl
  have F_tokenize := fun_mk (st := s_tokenize) l6 c6 k6
  have g_tokenize := PySem.W.mg_of X G a6
  have b_tokenize := F_tokenize.binds (ps := ["text"]) fun _ _ _ _ _ _ us hl => match us, hl with | [_], _ => rfl
  have F_cell := fun_mk (st := s_cell) l7 c7 k7
  have g_cell := PySem.W.mg_of X G a7
  have b_cell := F_cell.binds (ps := ["script", "k"]) fun _ _ _ _ _ _ us hl => match us, hl with | [_, _], _ => rfl
  have F_digits := fun_mk (st := s_digits) l8 c8 k8
  have g_digits := PySem.W.mg_of X G a8
  have b_digits := F_digits.binds (ps := ["cell", "many", "count"]) fun _ _ _ _ _ _ us hl => match us, hl with | [_, _, _], _ => rfl
  have F_equal := fun_mk (st := s_equal) l9 c9 k9
  have g_equal := PySem.W.mg_of X G a9
  have b_equal := F_equal.binds (ps := ["actual", "expected"]) fun _ _ _ _ _ _ us hl => match us, hl with | [_, _], _ => rfl
  have F_names := fun_mk (st := s_names) l10 c10 k10
  have g_names := PySem.W.mg_of X G a10
  have b_names := F_names.binds (ps := ["cell", "count"]) fun _ _ _ _ _ _ us hl => match us, hl with | [_, _], _ => rfl
  have F_token := fun_mk (st := s_token) l11 c11 k11
  have g_token := PySem.W.mg_of X G a11
  have b_token := F_token.binds (ps := ["cell"]) fun _ _ _ _ _ _ us hl => match us, hl with | [_], _ => rfl
  have F_kind := fun_mk (st := s_kind) l12 c12 k12
  have g_kind := PySem.W.mg_of X G a12
  have b_kind := F_kind.binds (ps := ["word"]) fun _ _ _ _ _ _ us hl => match us, hl with | [_], _ => rfl
  have F_laid := fun_mk (st := s_laid) l13 c13 k13
  have g_laid := PySem.W.mg_of X G a13
  have b_laid := F_laid.binds (ps := ["words", "cell"]) fun _ _ _ _ _ _ us hl => match us, hl with | [_, _], _ => rfl
  have F_value := fun_mk (st := s_value) l14 c14 k14
  have g_value := PySem.W.mg_of X G a14
  have b_value := F_value.binds (ps := ["word"]) fun _ _ _ _ _ _ us hl => match us, hl with | [_], _ => rfl
  have F_law := fun_mk (st := s_law) l15 c15 k15
  have g_law := PySem.W.mg_of X G a15
  have b_law := F_law.binds (ps := ["script"]) fun _ _ _ _ _ _ us hl => match us, hl with | [_], _ => rfl
  have g_WORDS := PySem.W.mg_of X G a_WORDS
  have t_WORDS : ∀ H, IsW K H Qw.c_WORDS (.ref c_WORDS) := fun H => tupOk_is l_WORDS e_WORDS
  have g_SIGNS := PySem.W.mg_of X G a_SIGNS
  have t_SIGNS : ∀ H, IsW K H Qw.c_SIGNS (.ref c_SIGNS) := fun H => tupOk_is l_SIGNS e_SIGNS
  have g_DIGITS := PySem.W.mg_of X G a_DIGITS
  have g_SMALL_LETTERS := PySem.W.mg_of X G a_SMALL_LETTERS
  have g_NAME_CHARACTERS := PySem.W.mg_of X G a_NAME_CHARACTERS
  have g_MOST_DIGITS := PySem.W.mg_of X G a_MOST_DIGITS
  have m_all := PySem.W.mg_none_of X G z_all
  have m_bool := PySem.W.mg_none_of X G z_bool
  have m_int := PySem.W.mg_none_of X G z_int
  have m_isinstance := PySem.W.mg_none_of X G z_isinstance
  have m_len := PySem.W.mg_none_of X G z_len
  have m_list := PySem.W.mg_none_of X G z_list
  have m_max := PySem.W.mg_none_of X G z_max
  have m_range := PySem.W.mg_none_of X G z_range
  have m_str := PySem.W.mg_none_of X G z_str
  have m_tuple := PySem.W.mg_none_of X G z_tuple
  refine ⟨PySem.W.fnOf "law" "law" (defArgs s_law) (defBody s_law) (defScope s_law) .none kV15 dc15 pm15 an15 cd15 ct15, fun s v => .of_eq rfl, fun base _ _ => ?_⟩
  have G_is_number := ok_is_number (P := l.prog) (w := w) (base := base) F_is_number g_DIGITS g_MOST_DIGITS m_all m_len
  have G_end_of_run := ok_end_of_run (P := l.prog) (w := w) (base := base) F_end_of_run G_is_number b_is_number k1 g_is_number g_NAME_CHARACTERS g_SMALL_LETTERS m_len
  have G_end_of_token := ok_end_of_token (P := l.prog) (w := w) (base := base) F_end_of_token G_end_of_run b_end_of_run k2 g_end_of_run g_NAME_CHARACTERS g_SIGNS t_SIGNS m_len
  have G_token_of := ok_token_of (P := l.prog) (w := w) (base := base) F_token_of g_DIGITS g_SMALL_LETTERS g_WORDS t_WORDS m_int
  have G_tokens_to_fault := ok_tokens_to_fault (P := l.prog) (w := w) (base := base) F_tokens_to_fault G_end_of_token b_end_of_token k3 g_end_of_token G_token_of b_token_of k4 g_token_of m_len
  have G_tokenize := ok_tokenize (P := l.prog) (w := w) (base := base) F_tokenize G_tokens_to_fault b_tokens_to_fault k5 g_tokens_to_fault
  have G_cell := ok_cell (P := l.prog) (w := w) (base := base) F_cell m_int m_len
  have G_digits := ok_digits (P := l.prog) (w := w) (base := base) F_digits m_int m_range
  have G_equal := ok_equal (P := l.prog) (w := w) (base := base) F_equal b_equal k9 g_equal m_all m_bool m_int m_isinstance m_len m_list m_range m_str m_tuple 8
  have G_names := ok_names (P := l.prog) (w := w) (base := base) F_names G_digits b_digits k8 g_digits m_int m_len m_range
  have G_token := ok_token (P := l.prog) (w := w) (base := base) F_token G_digits b_digits k8 g_digits G_names b_names k10 g_names m_int m_range m_str
  have G_kind := ok_kind (P := l.prog) (w := w) (base := base) F_kind m_all m_len
  have G_laid := ok_laid (P := l.prog) (w := w) (base := base) F_laid G_digits b_digits k8 g_digits G_kind b_kind k12 g_kind m_int m_len m_max m_range
  have G_value := ok_value (P := l.prog) (w := w) (base := base) F_value G_kind b_kind k12 g_kind m_int
  have G_law := ok_law (P := l.prog) (w := w) (base := base) F_law G_tokenize b_tokenize k6 g_tokenize G_cell b_cell k7 g_cell G_equal b_equal k9 g_equal G_token b_token k11 g_token G_kind b_kind k12 g_kind G_laid b_laid k13 g_laid G_value b_value k14 g_value m_int m_len m_range
  exact G_law.imp fun vs H Q E q => law_sp q
end Qw
open PySem PySem.W PyProof.Rows
set_option maxHeartbeats 0 in
theorem PySem.Challenge.cw_oneofeach_k01_tokens_of_a_text_holds : PySem.Challenge.rw_oneofeach_k01_tokens_of_a_text.Holds := by
  w_on; o_law; k_head; (case hw => w_witness2)
  k_fill
  refine L2.walk_of (l := PySem.Challenge.rw_oneofeach_k01_tokens_of_a_text) (n := 63) (k := 9) (x := "script") (CX := fun _ => L2.CX0) (sp := fun w => Qw.spLaw _) rfl (by decide) rfl ⟨rfl, by decide, by decide⟩
    (fun w h Y => PySem.W.kIn_of Y) ?F (fun _ _ a ns hl _ hS => ⟨a, ns, rfl, hS, hl, fun _ => rfl⟩) (fun _ _ _ _ _ h => h)
  case F =>
    intro w mg fa h KX G hmg
    refine' Qw.all_mk KX G hmg ?a1 ?l1 ?c1 ?k1 ?a2 ?l2 ?c2 ?k2 ?a3 ?l3 ?c3 ?k3 ?a4 ?l4 ?c4 ?k4 ?a5 ?l5 ?c5 ?k5 ?a6 ?l6 ?c6 ?k6 ?a7 ?l7 ?c7 ?k7 ?a8 ?l8 ?c8 ?k8 ?a9 ?l9 ?c9 ?k9 ?a10 ?l10 ?c10 ?k10 ?a11 ?l11 ?c11 ?k11 ?a12 ?l12 ?c12 ?k12 ?a13 ?l13 ?c13 ?k13 ?a14 ?l14 ?c14 ?k14 ?a15 ?l15 ?c15 ?k15 ?a_WORDS ?l_WORDS ?e_WORDS ?a_SIGNS ?l_SIGNS ?e_SIGNS ?a_DIGITS ?a_SMALL_LETTERS ?a_NAME_CHARACTERS ?a_MOST_DIGITS ?z_all ?z_bool ?z_int ?z_isinstance ?z_len ?z_list ?z_max ?z_range ?z_str ?z_tuple
    (case a1 => k_is)
    (case l1 => k_is)
    (case c1 => k_is)
    (case k1 => k_is)
    (case a2 => k_is)
    (case l2 => k_is)
    (case c2 => k_is)
    (case k2 => k_is)
    (case a3 => k_is)
    (case l3 => k_is)
    (case c3 => k_is)
    (case k3 => k_is)
    (case a4 => k_is)
    (case l4 => k_is)
    (case c4 => k_is)
    (case k4 => k_is)
    (case a5 => k_is)
    (case l5 => k_is)
    (case c5 => k_is)
    (case k5 => k_is)
    (case a6 => k_is)
    (case l6 => k_is)
    (case c6 => k_is)
    (case k6 => k_is)
    (case a7 => k_is)
    (case l7 => k_is)
    (case c7 => k_is)
    (case k7 => k_is)
    (case a8 => k_is)
    (case l8 => k_is)
    (case c8 => k_is)
    (case k8 => k_is)
    (case a9 => k_is)
    (case l9 => k_is)
    (case c9 => k_is)
    (case k9 => k_is)
    (case a10 => k_is)
    (case l10 => k_is)
    (case c10 => k_is)
    (case k10 => k_is)
    (case a11 => k_is)
    (case l11 => k_is)
    (case c11 => k_is)
    (case k11 => k_is)
    (case a12 => k_is)
    (case l12 => k_is)
    (case c12 => k_is)
    (case k12 => k_is)
    (case a13 => k_is)
    (case l13 => k_is)
    (case c13 => k_is)
    (case k13 => k_is)
    (case a14 => k_is)
    (case l14 => k_is)
    (case c14 => k_is)
    (case k14 => k_is)
    (case a15 => k_is)
    (case l15 => k_is)
    (case c15 => k_is)
    (case k15 => k_is)
    (case a_WORDS => k_is)
    (case l_WORDS => k_is)
    (case e_WORDS => decide +kernel)
    (case a_SIGNS => k_is)
    (case l_SIGNS => k_is)
    (case e_SIGNS => decide +kernel)
    (case a_DIGITS => k_is)
    (case a_SMALL_LETTERS => k_is)
    (case a_NAME_CHARACTERS => k_is)
    (case a_MOST_DIGITS => k_is)
    (case z_all => k_is)
    (case z_bool => k_is)
    (case z_int => k_is)
    (case z_isinstance => k_is)
    (case z_len => k_is)
    (case z_list => k_is)
    (case z_max => k_is)
    (case z_range => k_is)
    (case z_str => k_is)
    (case z_tuple => k_is)
