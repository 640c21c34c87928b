import PyProof.Rows.All
import Wide.All
import OpenK.AllK
import Wide.FinOn
import HandS.ForMost
import HandS.TupAny
import HandS.Conv
import HandS.IsInst
import HandS.Style
import KE.GoesEnum
import PyProof.TupleOfSeq
import KE.GoesMore
import HandS.Wide
import HandS.Walk
import HandS.Codes
import HandS.Evl
import KE.KSortedM
import HandS.TryMany
import HandS.ExcInit
import HandS.ExcIs
import KE.KExcIs
import HandS.ExcField
import HandS.ClsMeth
import HandS.FStr
import HandS.ExcOwn
import HandS.Iter
import HandS.StrMore
import HandS.WordsExc
import HandS.HotCalls
import HandS.Zip
import PyProof.ZipIter
import PyProof.CallType
import PyProof.Walk
import PyProof.WalkLemmas
import PyProof.RangeIter
import PyProof.RulesTry
import HandS.RepeatKit
import HandS.Sort
import HandS.Records
import PyProof.ListRange
import HandS.Comp
import HandS.Rev
import HandS.RevRange
import HandS.SortInts
import HandS.SetFor
import HandS.Gcd
import KE.KMathGC
import HandS.Small
import HandS.More
import HandS.Deep
import PySem.Challenge.RW_oneofeach_k59_structures_written_and_rea
set_option Elab.async false
set_option linter.all false
set_option maxRecDepth 100000
namespace Nz
open PySem PySem.Spec PyProof.Rows L2
/-! ### sorted(t), t a tuple of ints -/
section
variable {prog : Program} {w : World} {A : Around} {E : Value → Shared → Prop} {s : Shared}
/-- the heap behind the collecting of vs -/
def gath (h : Heap) (vs : List Value) : Heap :=
  (h.push (seqObj "list" #[] 0)).update h.objs.size (Obj.mapSeq (· ++ vs.toArray))
theorem gath_size (h : Heap) (vs : List Value) : (gath h vs).objs.size = h.objs.size + 1 :=
  (Heap.size_update ..).trans (size_push' _ _)
theorem gath_old {h : Heap} {vs : List Value} {b : Addr} {o : Obj} (e : h.get? b = some o) : (gath h vs).get? b = some o :=
  (Heap.get?_update_other _ _ (Nat.ne_of_gt (Heap.lt_size e))).trans (Heap.get?_push_of_some _ e)
set_option maxHeartbeats 1000000 in
theorem gather_tup {t : Addr} {vs : List Value} {Q : List Value → Shared → Prop} (ht : IsTup s.heap t vs.toArray)
    (hz : vs.length ≤ sizeLine) (fin : Q vs { s with heap := gath s.heap vs }) : wpAny (model prog w) A (collect (.ref t)) Q E s := by
  obtain ⟨o, ho, hc, n, hd⟩ := ht
  have new0 : (s.heap.push (seqObj "list" #[] 0)).get? s.heap.objs.size = some (seqObj "list" #[] 0) := Heap.get?_push_size _ rfl
  have old : (s.heap.push (seqObj "list" #[] 0)).get? t = some o := Heap.get?_push_of_some _ ho
  unfold collect
  refine wpAny_bind (wpAny_runValue (codeAny_builtin entry_proto_collect' (?k : wpAny _ _
    (do again (.builtin "list.__iadd__" ⟨[← newList [], .ref t], []⟩)) _ _ s)))
  refine wpAny_bind (wpAny_newList (wpAny_pure ⟨Code.quiet_builtin _ (by decide +kernel), codeAny_builtin entry_list_iadd'
    (?k2 : wpAny _ _ (Builtin.List.listExtendWith (.ref s.heap.objs.size) (.ref t) (.ref s.heap.objs.size)) _ _
      { s with heap := s.heap.push (seqObj "list" #[] 0) })⟩))
  unfold Builtin.List.listExtendWith
  refine wpAny_bind (wpAny_typeOf (T := "tuple") ⟨o, old, hc⟩ ?_)
  have tt : (Value.type "tuple" == Value.type "tuple") = true := by rfl
  rw [if_pos (by simp [tt])]
  refine wpAny_bind (listItems_at old hd (wpAny_bind (listItems_at (xs := #[]) (n := 0) new0 rfl ?_)))
  rw [if_neg (by simp)]
  refine wpAny_bind (listUpdate_at (xs := #[]) (n := 0) new0 rfl ?_ (Nat.zero_le _) (by
    show (#[] ++ vs.toArray).size ≤ sizeLine + 1
    simp only [Array.size_append, List.size_toArray, List.length_nil]
    omega))
  refine wpAny_pure (?k3 : wpAny (model prog w) A (do
      match (← load s.heap.objs.size).data with
      | .seq xs _ => pure xs.toList
      | _ => unsupported "internal:collect") Q E { s with heap := gath s.heap vs })
  refine wpAny_bind (wpAny_load (get?_update_seq new0 _) ?_)
  have e : ((#[] : Array Value) ++ vs.toArray).toList = vs := by simp
  exact wpAny_pure (e.symm ▸ fin)
set_option maxHeartbeats 1000000 in
theorem sort_tup {t : Addr} {vs : List Value} {ns : List Int} {Q : Value → Shared → Prop}
    (ht : IsTup s.heap t vs.toArray) (hI : IntsAre vs ns) (lt : vs.length < 64)
    (fin : ∀ (out : List Value) (ms : List Int) (p : Addr) (g : Heap) (ep : Nat), IntsAre out ms → ms.Perm ns →
      ms.Pairwise (· ≤ ·) → s.heap.objs.size ≤ p → (∀ b o, s.heap.get? b = some o → g.get? b = some o) →
      g.get? p = some (seqObj "list" out.toArray ep) → Q (.ref p) { s with heap := g }) :
    wpAny (model prog w) A (call (.builtin "sorted") [.ref t]) Q E s := by
  have hz : vs.length ≤ sizeLine := by
    rw [sizeLine_eq]
    omega
  refine (fun z => Calls.call_function_entry kind_sorted plain_sorted entry_sorted (args_sorted1 _) z) ?_
  unfold Builtin.«sorted»
  refine wpAny_bind (m := checkCount "sorted" 1 1 [Value.ref t].length) (wpAny_pure (wpAny_bind (gather_tup ht hz (wpAny_bind (wpAny_newList ?_ hz)))))
  have hoL : ((gath s.heap vs).push (seqObj "list" vs.toArray 0)).get? (gath s.heap vs).objs.size = some (seqObj "list" vs.toArray 0) :=
    Heap.get?_push_size _ rfl
  refine wpAny_bind (s := { s with heap := (gath s.heap vs).push (seqObj "list" vs.toArray 0) }) (wpAny_holding (wpAny_call_entry slot_list_sort
    ⟨_, hoL, rfl⟩ entry_list_sort (list_sort_tree hoL hI lt fun out ms a1 a2 a3 => ⟨_, rfl, ?_⟩) (args_list_sort _)))
  obtain ⟨ep, he⟩ := sortedHeap_at (vs := vs) (out := out) hoL
  have hgs : s.heap.objs.size ≤ (gath s.heap vs).objs.size := by
    rw [gath_size]
    exact Nat.le_succ _
  refine wpAny_pure ⟨_, rfl, fin out.toList ms _ _ ep a1 a2 a3 hgs (fun b u hb => ?_) ?_⟩
  · have hb1 := gath_old (vs := vs) hb
    have hb2 := Heap.get?_push_of_some (seqObj "list" vs.toArray 0) hb1
    rw [sortedHeap_old (Nat.ne_of_lt (Heap.lt_size hb1)) (Heap.lt_size hb2)]
    exact hb2
  · exact he
end
section
variable {X : Cx}
def rSortT (K : PySem.W.Frag) : List V → Hp → VK → Prop := fun vs H Q => ∃ (a : Addr) (ns : List Int), vs = [V.ref a] ∧
  SqT K H a (ns.map V.int) ∧ ns.length < 64 ∧
  ∀ (ms : List Int) (p : Addr), ms.Perm ns → ms.Pairwise (· ≤ ·) → H p = none → Q (.ref p) (upd H p (.lst (ms.map V.int)))
theorem cr_sortTup : CallR X (.builtin "sorted") (rSortT X.K) := by
  intro pins s σ H vs us Q I r ⟨a, ns, e0, hs, h64, q⟩
  subst e0
  obtain ⟨its, rv, hl, _⟩ := I.tuple hs
  rw [Vals.ref1 r]
  have hi := rv.ints
  refine sort_tup hl hi (by rw [hi.length]; exact h64) fun out ms p g ep h1 h2 h3 hp hk he => ?_
  have hlen : (ms.map V.int).length ≤ sizeLine := by
    rw [List.length_map, h2.length_eq]
    exact small64 h64
  exact ⟨.ref p, upd H p (.lst (ms.map V.int)), I.laid (t' := s.toks) hk hp ⟨hlen, out, ep, vals_of_ints h1, he⟩, rfl,
    q ms p h2 h3 (I.hok.fresh hp)⟩
end
end Nz
namespace Nz
open PySem PySem.Spec PyProof.Rows L2
/-! ### enumerate(t), t a tuple -/
abbrev enumO (n : Nat) : Obj :=
  { cls := .type "enumerate", data := .fields #[.none, .bool false, .ref n, rawInt 0, .none, .none] }
set_option maxHeartbeats 1000000 in
theorem meets_enumT {t : Addr} {o : Obj} {H : Heap → Prop} (B : Begins (.ref t) o H) :
    Meets (Builtin.«enumerate.__new__» ⟨[.type "enumerate", .ref t], []⟩) (fun _ R s => H s.heap ∧
      R (.ok (.ret (.ref (s.heap.push o).objs.size))) { s with heap := (s.heap.push o).push (enumO s.heap.objs.size) }) :=
  .of_wp fun prog w A R s h => by
    obtain ⟨hp, g, d, tk, os⟩ := s
    obtain ⟨h1, h⟩ := h
    have hsub := sub_enumerate
    have q1 : ∀ {A' : Around} {E : Value → Shared → Prop} {Q : Value → Shared → Prop}, Q (.ref hp.objs.size) ⟨hp.push o, g, d, tk, os⟩ →
        wpAny (model prog w) A' (pyIter (.ref t)) Q E ⟨hp, g, d, tk, os⟩ := fun q => B.iter prog w _ _ ⟨hp, g, d, tk, os⟩ _ h1 q
    wp_walk using q1
    refine wpAny_stack_any fun st => wpAny_pure ?_
    split
    · rename_i c _ _ _ _ _
      cases (c == Value.type "enumerate")
      all_goals
        wp_walk using q1
        exact ⟨_, rfl, h⟩
    · wp_walk using q1
      exact ⟨_, rfl, h⟩
section
variable {prog : Program} {w : World} {A : Around} {E : Value → Shared → Prop} {s : Shared}
theorem call_enumT {t : Addr} {o : Obj} {H : Heap → Prop} {Q : Value → Shared → Prop} (B : Begins (.ref t) o H) (h1 : H s.heap)
    (fin : ∀ g, IsEnum g (s.heap.objs.size + 1) s.heap.objs.size 0 .none → g.get? s.heap.objs.size = some o →
      g.objs.size = s.heap.objs.size + 2 → (∀ b u, s.heap.get? b = some u → g.get? b = some u) → Q (.ref (s.heap.objs.size + 1)) { s with heap := g }) :
    wpAny (model prog w) A (call (.type "enumerate") [.ref t]) Q E s := by
  have hz : (s.heap.push o).objs.size = s.heap.objs.size + 1 := Heap.size_push ..
  have new := Heap.get?_push_size (s.heap.push o)
    (o := enumO s.heap.objs.size) rfl
  rw [hz] at new
  refine callType_new F.called_enumerate (by decide) (F.typeCall_enumerate_1 _) (F.newCall_enumerate_1 _)
    (fun obj => F.args_object_init_2 obj _) F.entry_enumerate_new (meets_enumT B) ⟨h1, ?_⟩
  refine (?g : _ ∧ _)
  rw [hz]
  exact ⟨⟨_, new, rfl⟩, fin _ new (Heap.get?_push_of_some _ (Heap.get?_push_size _ B.free)) (by rw [Heap.size_push, hz])
    fun b u x => Heap.get?_push_of_some _ (Heap.get?_push_of_some _ x)⟩
end
/-- the tuple at a, item by item, each in a new pair with its place -/
def IteT (K : PySem.W.Frag) (a : Addr) : It :=
  ⟨fun i H => ∃ (xs : List V) (x : V), SqT K H a xs ∧ xs[i]? = some x,
   fun i H v H' => ∃ T x, v = .ref T ∧ H T = none ∧ H' = upd H T (.tup [.int (i : Nat), x]) ∧ ∀ xs, SqT K H a xs → xs[i]? = some x,
   fun i H => ∃ xs : List V, SqT K H a xs ∧ xs.length ≤ i⟩
theorem apartE {h : Heap} {a e it : Addr} {k : Int} {old : Value} {its : Array Value} {i : Nat} (ht : h.IsTuple a its)
    (he : IsEnum h e it k old) (hi : h.IsTupleIter it a i) : a ≠ it ∧ e ∉ [it, a] ∧ e ≠ it := by
  obtain ⟨o1, g1, c1, _⟩ := ht
  obtain ⟨o2, g2, c2, _⟩ := hi
  have g3 : h.get? e = some _ := he
  have ne1 : a ≠ it := fun z => by
    subst z
    rw [g1] at g2
    cases g2
    rw [c1] at c2
    revert c2
    decide
  have ne2 : e ≠ it := fun z => by
    subst z
    rw [g3] at g2
    cases g2
    exact absurd (show Value.type "enumerate" = .type "tuple_iterator" from c2) (by simp)
  have ne3 : e ≠ a := fun z => by
    subst z
    rw [g3] at g1
    cases g1
    exact absurd (show Value.type "enumerate" = .type "tuple" from c1) (by simp)
  exact ⟨ne1, by simp [ne2, ne3], ne2⟩
theorem turn_enumT {P : Program} {w : World} {K : PySem.W.Frag} {elts : List Expr} {kk : Nat} {tpos : Pos} (a e it : Addr) :
    Turn P w K (.Tuple elts kk tpos) (IteT K a) [e, it] e
      (fun i h => (∃ old, IsEnum h e it ((i : Nat) : Int) old) ∧ h.IsTupleIter it a i) where
  mem := by simp
  obj := fun i h st b hb => by
    obtain ⟨⟨old, he⟩, o, ho, hc, hd⟩ := st
    rcases (show b = e ∨ b = it by simpa using hb) with rfl | rfl
    · exact ⟨_, he, fun v q => nomatch q⟩
    · exact ⟨o, ho, fun v q => by rw [hd] at q; cases q⟩
  keep := fun i h h' ⟨⟨old, he⟩, hi⟩ k => ⟨⟨old, k e (by simp) _ he⟩, hi.at fun o q => k it (by simp) o q⟩
  item := by
    intro X hP hw hK hc i pins s σ H E I hf st hg
    subst hP hw hK
    obtain ⟨⟨old, he⟩, hit⟩ := st
    obtain ⟨xs, x, hq, hx⟩ := hg
    obtain ⟨its, rv, p, hz⟩ := I.tuple hq
    obtain ⟨u, hu, ru⟩ := rv.get hx
    have p' : s.heap.IsTuple a its.toArray := p
    obtain ⟨na, nin, ne⟩ := apartE p' he hit
    have hel : e < s.heap.objs.size := Heap.lt_size he
    have hil : it < s.heap.objs.size := by
      obtain ⟨_, q, _⟩ := hit
      exact Heap.lt_size q
    have hlt : i < its.toArray.size := by
      have := (List.getElem?_eq_some_iff.mp hu).1
      simpa using this
    refine wpAny_pyNext_enum_itemD (Draws.tuple (A := X.A.in1) (I.ok.hd hc) it a na its.toArray) he ⟨hit, p'⟩ hlt ne nin
      fun y g tk hy ho st1 hT hsz hk => ?_
    have ey : y = u := by
      have h2 : its.toArray[i]? = some u := by simpa using hu
      exact Option.some.inj (hy.symm.trans h2)
    subst ey
    refine ⟨_, rfl, wpAny_letOwnedTupleGo_enum (s := { s with heap := g, toks := tk + 1 }) ho fun g2 he2 sb => ?_⟩
    have hT2 : g2.get? s.heap.objs.size = some { cls := .type "tuple", data := .seq #[.int i tk, y] } :=
      (sb.2 _ (Nat.ne_of_gt hel)).trans hT
    have new : ObjOk X.prog X.w (upd H s.heap.objs.size (.tup [.int (i : Nat), x])) g2 s.heap.objs.size (.tup [.int (i : Nat), x]) :=
      ⟨by show 2 ≤ sizeLine; decide, [.int i tk, y], .cons ⟨_, rfl⟩ (.cons ru .nil), ⟨_, hT2, rfl, _, rfl⟩⟩
    have I1 : Inv X pins σ (upd H s.heap.objs.size (.tup [.int (i : Nat), x])) { s with heap := g2, toks := tk + 1 } :=
      I.turnedNew (ch := [e, it]) (fun b ob hb q => (sb.2 b (fun z => hb (by simp [z]))).trans
        (hk b ob (fun z => hb (by simp [z])) (fun z => hb (by simp [z])) q)) hf (Nat.le_refl _) new
    refine ⟨.ref s.heap.objs.size, _, I1, rfl, ⟨_, x, rfl, I.hok.fresh (Nat.le_refl _), rfl, fun ys hy => by
      rw [I.tuple_inj hy hq]
      exact hx⟩, ⟨⟨y, ?_⟩, st1.1.at fun o q => (sb.2 it (Ne.symm ne)).trans q⟩, fun b hb => ?_⟩
    · rw [show ((i + 1 : Nat) : Int) = (i : Int) + 1 by omega]
      exact he2
    · have hb' : b < s.heap.objs.size := by
        rcases (show b = e ∨ b = it by simpa using hb) with rfl | rfl
        · exact hel
        · exact hil
      rw [upd_ne (Nat.ne_of_lt hb')]
      exact (hf b hb).1
  done := by
    intro X hP hw hK hc i pins s σ H E I hf st hg
    subst hP hw hK
    obtain ⟨⟨old, he⟩, hit⟩ := st
    obtain ⟨xs, hq, hx⟩ := hg
    obtain ⟨its, rv, p, hz⟩ := I.tuple hq
    have p' : s.heap.IsTuple a its.toArray := p
    obtain ⟨na, nin, ne⟩ := apartE p' he hit
    obtain ⟨f0, f1, f2, f3, f4, f5⟩ := hf it (by simp)
    have hl := rv.length
    have none_at : its.toArray[i]? = none := by
      simp
      omega
    unfold pyNext
    have hT : s.TypeIs (.ref e) "enumerate" := ⟨_, he, rfl⟩
    refine wpAny_bind (wpAny_attempt (wpAny_callSpecial?_slot (name := Str.ofString "__next__") hT F.slot_enumerate_next (wpAny_call_entry
      F.slot_enumerate_next hT F.entry_enumerate_next (?g : wpAny _ _ (field (.ref e) 2 >>= _) _ _ _) (F.args_enumerate_next_1 _))))
    refine wpAny_bind (wpAny_field he rfl (x := .ref it) rfl (wpAny_bind (wpAny_nextOf_tuple_end (I.ok.hd hc) hit p' none_at fun g x hx' hs => ?_)))
    obtain ⟨o, ho, hcls⟩ := hs
    refine wpAny_bind (wpAny_isInstance (T := "StopIteration") (b := true) ⟨o, ho, hcls⟩ isSubtype_stop (wpAny_pure ⟨rfl, ?_⟩))
    exact I.turned (t' := s.toks) (fun b o hb q => hx' b o hb q) f0 f1 f3 f4 f5
  self := fun A i s Q E ⟨⟨_, he⟩, _⟩ h => wpAny_pyIter_enum he h
end Nz
namespace Nz
open PySem PySem.Spec PyProof.Rows L2
def iEnumT (K : PySem.W.Frag) (ta : TA) : TI := fun σ H R => ta σ H fun vs H1 => ∃ a xs, vs = [.ref a] ∧ SqT K H1 a xs ∧ R (IteT K a) H1
theorem pi_enumT {X : Cx} {e : Expr} {ta : TA} {p pos tpos : Pos} {elts : List Expr} {kk : Nat} (hg : Gl X "enumerate")
    (hm : X.mg "enumerate" = none) (ha : PA X [e] ta) (hs : starEach [e] X.env = [(false, eval e X.env)] := by rfl) :
    PI X (.Tuple elts kk tpos) (.Call (.Name "enumerate" p) [e] [] pos) (iEnumT X.K ta) := by
  refine ⟨fun pins s σ H R I h => Call_ (ld_blt I hg hm boot_enumerate (PyProof.Rows.callWith_type1 (thn (ha.run pos pins s σ H _ I h)
    fun us s1 ⟨vs, H1, I1, r1, a, xs, ex, hq, q⟩ => ?_) hs rfl))⟩
  subst ex
  rcases r1 with _ | ⟨r, rr⟩
  cases rr
  cases r
  obtain ⟨its, rv, p', hz⟩ := I1.tuple hq
  refine call_enumT (begins_tuple a its.toArray) (show s1.heap.IsTuple a its.toArray from p') fun g he hit hsz hk => wpAny_pyIter_enum he ?_
  have I2 : Inv X pins σ H1 { s1 with heap := g } := I1.kept (t' := s1.toks) hk
  refine ⟨s1.heap.objs.size + 1, [s1.heap.objs.size + 1, s1.heap.objs.size], _, _, H1, rfl, I2,
    turn_enumT a (s1.heap.objs.size + 1) s1.heap.objs.size, ⟨⟨.none, he⟩, ⟨_, hit, rfl, rfl⟩⟩, fun b hb => ?_, q⟩
  have hle : s1.heap.objs.size ≤ b := by
    rcases (show b = s1.heap.objs.size + 1 ∨ b = s1.heap.objs.size by simpa using hb) with z | z
    · rw [z]
      exact Nat.le_succ _
    · rw [z]
      exact Nat.le_refl _
  exact I1.fpOk hle (I1.hok.fresh hle)
end Nz
namespace Nz
open PySem PySem.Spec PyProof.Rows L2
/-! ### t[::-1], t a tuple -/
section
variable {prog : Program} {w : World} {A : Around} {E : Value → Shared → Prop} {s : Shared}
theorem fm_congr {α β : Type} {f g : α → Option β} : ∀ l : List α, (∀ x ∈ l, f x = g x) → l.filterMap f = l.filterMap g
  | [], _ => rfl
  | a :: r, h => by
    have ih := fm_congr r fun x hx => h x (List.mem_cons_of_mem _ hx)
    rw [List.filterMap_cons, List.filterMap_cons, h a List.mem_cons_self, ih]
theorem pick_back (xs : Array Value) : ((List.range xs.size).filterMap fun (m : Nat) => xs[(((xs.size : Int) - 1) + (m : Int) * (-1)).toNat]?).toArray = xs.toList.reverse.toArray := by
  congr 1
  apply List.ext_getElem?
  intro i
  have e : ((List.range xs.size).filterMap fun (m : Nat) => xs[(((xs.size : Int) - 1) + (m : Int) * (-1)).toNat]?) =
      (List.range xs.size).filterMap fun (m : Nat) => xs.toList.reverse[m]? := by
    refine fm_congr _ fun m hm => ?_
    have hm := List.mem_range.mp hm
    have h2 : (((xs.size : Int) - 1) + (m : Int) * (-1)).toNat = xs.size - 1 - m := by omega
    rw [h2, List.getElem?_reverse (by simpa using hm)]
    simp
  rw [e]
  have all : ∀ l : List Value, ((List.range l.length).filterMap fun m => l[m]?) = l := by
    intro l
    induction l with
    | nil => rfl
    | cons a t ih =>
      rw [List.length_cons, List.range_succ_eq_map, List.filterMap_cons, List.filterMap_map]
      simp only [List.getElem?_cons_zero]
      congr 1
  have := all xs.toList.reverse
  rw [List.length_reverse, Array.length_toList] at this
  rw [this]
theorem adjust_back (n : Nat) : Builtin.Slice.sliceAdjust none none (-1) (n : Int) = ((n : Int) - 1, -1) := by
  unfold Builtin.Slice.sliceAdjust
  simp
theorem places_back (n : Nat) : Builtin.Slice.slicePlaces ((n : Int) - 1) (-1) (-1) = n := by
  unfold Builtin.Slice.slicePlaces
  have h1 : ¬ ((-1 : Int) > 0) := by decide
  simp only [h1, if_false]
  split
  · rw [show (- -1 : Int) = 1 by decide, Int.ediv_one]
    omega
  · omega
theorem applied_back {sl : Addr} {vs : Value} {n : Nat} {Q : Int × Int × Nat → Shared → Prop} (hs : s.heap.IsSliceOf sl .none .none vs) (ps : IsPart vs (some (-1)))
    (h : Q ((n : Int) - 1, -1, n) s) : wpAny (model prog w) A (Builtin.Slice.sliceApplied (.ref sl) (pure (n : Int))) Q E s := by
  obtain ⟨os, hos, hcs, hds⟩ := id hs
  unfold Builtin.Slice.sliceApplied Builtin.Slice.sliceFields
  refine wpAny_bind (wpAny_bind (wpAny_field hos hds (x := .none) rfl (wpAny_bind (wpAny_field hos hds (x := .none) rfl
    (wpAny_bind (wpAny_field hos hds (x := vs) rfl (wpAny_pure ?_)))))))
  refine wpAny_bind (HT.slicePart_ ps ?_)
  refine (?g1 : wpAny _ _ (if ((-1 : Int) == 0) = true then _ else _) _ _ s)
  rw [if_neg (by decide)]
  refine wpAny_bind (HT.slicePart_ .none (wpAny_bind (HT.slicePart_ .none (wpAny_bind (wpAny_pure ?_)))))
  refine (?g2 : wpAny _ _ (match Builtin.Slice.sliceAdjust none none (-1) (n : Int) with
    | (lo, hi) => pure (lo, (-1 : Int), Builtin.Slice.slicePlaces lo hi (-1))) _ _ s)
  rw [adjust_back n]
  refine (?g3 : wpAny _ _ (pure ((n : Int) - 1, (-1 : Int), Builtin.Slice.slicePlaces ((n : Int) - 1) (-1) (-1))) _ _ s)
  rw [places_back]
  exact wpAny_pure h
theorem item_back {t sl : Addr} {items : Array Value} {vs : Value} {Q : Value → Shared → Prop} (ht : IsTup s.heap t items) (hs : s.heap.IsSliceOf sl .none .none vs) (ps : IsPart vs (some (-1)))
    (h : Q (.ref s.heap.objs.size) { s with heap := s.heap.push { cls := .type "tuple", data := .seq items.toList.reverse.toArray } }) (hz : items.size ≤ sizeLine) :
    wpAny (model prog w) A (getItem (.ref t) (.ref sl)) Q E s := by
  have z : items.toList.reverse.toArray.size ≤ sizeLine := by
    rw [List.size_toArray, List.length_reverse, Array.length_toList]
    exact hz
  have fit : sizeOk (.seq items.toList.reverse.toArray) := z
  obtain ⟨os, hos, hcs, hds⟩ := id hs
  have hTs : s.TypeIs (.ref sl) "slice" := ⟨os, hos, hcs⟩
  unfold getItem
  try with_reducible refine wpAny_holding ?_
  first | refine wpAny_bind (wpAny_pure ?_) | skip
  refine wpAny_bind (wpAny_sequenceKey ht.typeIs (by decide) ?_)
  have entry := args_tuple_getitem (.ref t) (.ref sl)
  refine wpAny_bind (wpAny_callSpecial?_slot (name := Str.ofString "__getitem__") ht.typeIs PyProof.Rows.slot_tuple_getitem (wpAny_call_entry
    PyProof.Rows.slot_tuple_getitem ht.typeIs entry_tuple_getitem ?_ entry))
  refine (?g5 : wpAny _ _ (Builtin.Tuple.tupleItemsOf (.ref t) >>= _) _ _ s)
  refine wpAny_bind (tupleItemsOf_ ht (wpAny_bind (wpAny_typeOf hTs ?_)))
  rw [if_pos (by decide)]
  refine wpAny_bind (applied_back hs ps ?_)
  have no : ¬ ((((items.size : Int) - 1) == 0 && (-1 : Int) == 1 && items.size == items.size) = true) := by simp
  refine (?g4 : wpAny _ _ (if (((items.size : Int) - 1) == 0 && (-1 : Int) == 1 && items.size == items.size) = true then _ else _) _ _ s)
  rw [if_neg no, pick_back]
  first
    | exact wpAny_bind (m := Builtin.Tuple.tupleExact _) (wpAny_newObj_type (wpAny_pure ⟨_, rfl, wpAny_pure h⟩) fit)
    | exact wpAny_bind (m := Builtin.Tuple.tupleExact _) (wpAny_newObj_type (wpAny_bind (wpAny_pure (wpAny_pure ⟨_, rfl, wpAny_pure h⟩))) fit)
end
section
variable {X : Cx}
def tRevT (K : PySem.W.Frag) (te : TE) : TE := fun σ H Q => te σ H fun x H1 => ∃ a xs, x = .ref a ∧ SqT K H1 a xs ∧ ∀ p, H1 p = none → Q (.ref p) (upd H1 p (.tup xs.reverse))
theorem pe_revT {e : Expr} {te : TE} {k : Nat} {p1 p2 p3 pos : Pos} (he : PE X e te) :
    PE X (.Subscript e (.Slice none none (some (.UnaryOp .USub (.Constant (.int 1) k p1) p2)) p3) pos) (tRevT X.K te) := by
  refine ⟨fun pins s σ H Q I h => Subscript_ (thn (he.run pins s σ H _ I h) fun v s1 ⟨x, H1, I1, r1, a, xs, ex, hx, q⟩ => ?_)⟩
  subst ex
  cases r1
  have hst : PO X (some (.UnaryOp .USub (.Constant (.int 1) k p1) p2)) (tPart (tUn (rU fun i => .int (-i)) (tC (.int 1)))) :=
    po_some (pe_un un_neg pe_int)
  refine wpAny_Slice ?_
  rw [evalPart_none]
  refine wpAny_pure (wpAny_pure ?_)
  refine thn (hst.run pins s1 σ H1 (fun o H4 => o = some (-1) ∧ H4 = H1) I1 ⟨1, rfl, -1, rfl, rfl, rfl⟩) fun vs s4 ⟨o, H4, I4, ps, eo, e4⟩ => ?_
  subst eo e4
  have I5 : Inv X pins σ H4 { s4 with heap := s4.heap.push { cls := .type "slice", data := .fields #[.none, .none, vs] } } :=
    I4.kept (t' := s4.toks) fun b ob q => Heap.get?_push_of_some _ q
  obtain ⟨its, r, ht, hz⟩ := I5.tuple hx
  have hlen := r.length
  refine tail_any (ops := [.ref a, .ref s4.heap.objs.size]) ht.typeIs PyProof.Rows.slot_tuple_getitem.lookup ?_ (by with_unfolding_all rfl)
  refine item_back ht (Heap.IsSliceOf.new _ .none .none vs) ps ?_ (by rw [List.size_toArray]; omega)
  refine ⟨.ref _, _, I5.laid (t' := s4.toks) (o := .tup xs.reverse) (fun b ob q => Heap.get?_push_of_some _ q) (Nat.le_refl _) ?_, rfl, q _ (I5.hok.fresh (Nat.le_refl _))⟩
  exact ⟨by rw [List.length_reverse]; exact hz, _, r.reverse, ⟨_, Heap.get?_push_size _ rfl, rfl, _, rfl⟩⟩
end
end Nz
namespace Nz
open PySem PySem.Spec PyProof.Rows L2
/-! ### rules that take several kinds of values -/
section
variable {X : Cx} {K : PySem.W.Frag}
theorem or_op {f : Value → Value → Sem Value} {r r' : R2} (h : OpR X f r) (h' : OpR X f r') : OpR X f (fun x y H Q => r x y H Q ∨ r' x y H Q) := by
  intro pins s σ H x y v u Q I rx ry q
  rcases q with q | q
  · exact h pins s σ H x y v u Q I rx ry q
  · exact h' pins s σ H x y v u Q I rx ry q
theorem or_call {f : Value} {r r' : List V → Hp → VK → Prop} (h : CallR X f r) (h' : CallR X f r') : CallR X f (fun x H Q => r x H Q ∨ r' x H Q) := by
  intro pins s σ H xs us Q I rx q
  rcases q with q | q
  · exact h pins s σ H xs us Q I rx q
  · exact h' pins s σ H xs us Q I rx q
theorem or_iter {tg e : Expr} {t t' : TI} (h : PI X tg e t) (h' : PI X tg e t') : PI X tg e (fun σ H R => t σ H R ∨ t' σ H R) :=
  ⟨fun pins s σ H R I q => q.elim (h.run pins s σ H R I) (h'.run pins s σ H R I)⟩
/-- len of a list or tuple; of a text -/
def rLn (K : PySem.W.Frag) : List V → Hp → VK → Prop := fun vs H Q => (∃ p ys, vs = [.ref p] ∧ (SqL K H p ys ∨ SqT K H p ys) ∧ Q (.int ys.length) H) ∨ ∃ z, vs = [.str z] ∧ z.length ≤ sizeLine ∧ Q (.int z.length) H
theorem c_len : CallR X (.builtin "len") (rLn X.K) := or_call call_len_seq call_len_str
def rTupOf (K : PySem.W.Frag) : List V → Hp → VK → Prop := fun vs H Q => ∃ p ys, vs = [.ref p] ∧ ((SqL K H p ys ∧ ∀ l, H l = none → Q (.ref l) (upd H l (.tup ys))) ∨ (SqT K H p ys ∧ Q (.ref p) H))
theorem c_tuple : CallR X (.type "tuple") (rTupOf X.K) := call_tuple_of
def rLstOf (K : PySem.W.Frag) : List V → Hp → VK → Prop := fun vs H Q => ∃ p ys, vs = [.ref p] ∧ (SqL K H p ys ∨ SqT K H p ys) ∧ ∀ l, H l = none → Q (.ref l) (upd H l (.lst ys))
theorem c_list : CallR X (.type "list") (rLstOf X.K) := call_list_of
def rIntOf : List V → Hp → VK → Prop := fun vs H Q => ∃ i, vs = [.int i] ∧ Q (.int i) H
theorem c_int : CallR X (.type "int") rIntOf := by
  intro pins s σ H xs us Q I r ⟨i, e, q⟩
  exact call_int1 pins s σ H xs us Q I r (.inl ⟨i, e, q⟩)
/-- a slice of a list, a tuple, a text -/
def rSl (K : PySem.W.Frag) : V → Option Int → Option Int → Hp → VK → Prop := fun x lo hi H Q => rSlL K x lo hi H Q ∨ rSlA K x lo hi H Q ∨ rSlS x lo hi H Q
theorem sl_any : SlR X (rSl X.K) := sl_list.or (sl_tupA.or sl_str)
/-- + of ints; of texts; of lists; of tuples -/
def rAd (K : PySem.W.Frag) : R2 := fun x y H Q => (∃ i j, x = .int i ∧ y = .int j ∧ Q (.int (i + j)) H) ∨ (∃ i j, x = .str i ∧ y = .str j ∧ i.length + j.length ≤ sizeLine ∧ Q (.str (i ++ j)) H) ∨ rCat x y H Q ∨ rCatA K x y H Q
theorem ad_any : OpR X (binaryOp .Add) (rAd X.K) := or_op op_add (or_op op_add_str (or_op op_cat op_catA))
def rAdS : R2 := fun x y H Q => ∃ i j, x = .str i ∧ y = .str j ∧ i.length + j.length ≤ sizeLine ∧ Q (.str (i ++ j)) H
theorem ad_str : OpR X (binaryOp .Add) rAdS := op_add_str
/-- == of flat things; of data -/
def rEqA (K : PySem.W.Frag) : R2 := fun x y H Q => (scal x y = true ∧ Q (.bl (decide (x = y))) H) ∨ rEqD K x y H Q
theorem eq_any (hu : X.A.units + 64 < cLine) : OpR X (compareOp .Eq) (rEqA X.K) := or_op op_eq (op_eqD hu)
def rNeA (K : PySem.W.Frag) : R2 := fun x y H Q => (scal x y = true ∧ Q (.bl (!decide (x = y))) H) ∨ rNeD K x y H Q
theorem ne_any (hu : X.A.units + 64 < cLine) : OpR X (compareOp .NotEq) (rNeA X.K) := or_op op_ne (op_neD hu)
/-- a for over a list or a tuple -/
def iSeq (K : PySem.W.Frag) (tl : TE) : TI := fun σ H R => iList K tl σ H R ∨ iTup K tl σ H R
theorem pi_seq {tg l : Expr} {tl : TE} (hl : PE X l tl) : PI X tg l (iSeq X.K tl) := or_iter (pi_list hl) (pi_tup hl)
end
end Nz
namespace Qw
open PySem PySem.Spec PyProof.Rows L2
open Evl (Ex)

/-- a value as a tree: klst is a list that is only read (the script), lst one that the program made; ins: an instance of the class at C -/
inductive W where
  | non | bl (b : Bool) | int (i : Int) | str (s : Str) | tup (ws : List W) | lst (ws : List W) | klst (ws : List W) | ktup (ws : List W)
  | ins (nm : Str) (ns : List Str) (ws : List W) | dct (t : Bool) (ks : List (List Key)) (ws : List W) | opq (v : V) | exc (a d : Addr) (x fn : Str) (w : W)

def kW : Key → W
  | .inl i => .int i
  | .inr s => .str s
/-- a dict; t: its keys are tuples -/
def DctAt (I : Hp) (a : Addr) (t : Bool) (ks : List (List Key)) (vs : List V) : Prop := ks.length = vs.length ∧
  ((t = true ∧ I a = some (.dT (ks.zip vs))) ∨ (t = false ∧ ∃ ls : List Key, ks = ls.map (fun k => [k]) ∧ I a = some (.dK (ls.zip vs))))
mutual
def IsW (K : PySem.W.Frag) (I : Hp) : W → V → Prop
  | .non, v => v = .non
  | .bl b, v => v = .bl b
  | .int i, v => v = .int i
  | .str s, v => v = .str s
  | .tup ws, v => ∃ a vs, v = .ref a ∧ I a = some (.tup vs) ∧ IsWs K I ws vs
  | .lst ws, v => ∃ a vs, v = .ref a ∧ I a = some (.lst vs) ∧ IsWs K I ws vs
  | .klst ws, v => ∃ a vs, v = .ref a ∧ SqL K I a vs ∧ IsWs K I ws vs
  | .ktup ws, v => ∃ a vs, v = .ref a ∧ SqT K I a vs ∧ IsWs K I ws vs
  | .ins _ ns ws, v => ∃ a C dx vs, v = .ref a ∧ I a = some (.ins C dx (ns.zip vs)) ∧ vs.length ≤ ns.length ∧ (Cls K C ∧ ∀ f ∈ ns, NoAttr K C f) ∧ IsWs K I ws vs
  | .dct t ks ws, v => ∃ a vs, v = .ref a ∧ DctAt I a t ks vs ∧ IsWs K I ws vs
  | .opq x, v => v = x
  | .exc a d _ fn w, v => v = .ref a ∧ ∃ u, I d = some (.xd [(fn, u)]) ∧ IsW K I w u
def IsWs (K : PySem.W.Frag) (I : Hp) : List W → List V → Prop
  | [], vs => vs = []
  | w :: ws, vs => ∃ v r, vs = v :: r ∧ IsW K I w v ∧ IsWs K I ws r
end
/-- a tuple that we know -/
theorem sqT_of {K : PySem.W.Frag} {I : Hp} {a : Addr} {vs : List V} (h : I a = some (.tup vs)) : SqT K I a vs := .inl (.inl h)
variable {K : PySem.W.Frag} {I I' I1 I2 H H' H1 H2 I0 H0 : Hp}

theorem DctAt.mono {a : Addr} {t : Bool} {ks : List (List Key)} {vs : List V} (e : Ex I I') (h : DctAt I a t ks vs) : DctAt I' a t ks vs :=
  ⟨h.1, h.2.imp (fun ⟨x, y⟩ => ⟨x, e _ _ y⟩) fun ⟨x, ls, y, z⟩ => ⟨x, ls, y, e _ _ z⟩⟩
mutual
theorem IsW.mono (e : Ex I I') : ∀ {w : W} {v : V}, IsW K I w v → IsW K I' w v
  | .non, _, h => h
  | .bl _, _, h => h
  | .int _, _, h => h
  | .str _, _, h => h
  | .opq _, _, h => h
  | .exc _ _ _ _ _, v, h => by
    simp only [IsW] at h ⊢
    obtain ⟨h1, u, h2, h3⟩ := h
    exact ⟨h1, u, e _ _ h2, IsW.mono e h3⟩
  | .tup ws, v, h => by
    simp only [IsW] at h ⊢
    obtain ⟨a, vs, rfl, h, r⟩ := h
    exact ⟨a, vs, rfl, e _ _ h, IsWs.mono e r⟩
  | .lst ws, v, h => by
    simp only [IsW] at h ⊢
    obtain ⟨a, vs, rfl, h, r⟩ := h
    exact ⟨a, vs, rfl, e _ _ h, IsWs.mono e r⟩
  | .klst ws, v, h => by
    simp only [IsW] at h ⊢
    obtain ⟨a, vs, rfl, h, r⟩ := h
    exact ⟨a, vs, rfl, Evl.ex_l e h, IsWs.mono e r⟩
  | .ktup ws, v, h => by
    simp only [IsW] at h ⊢
    obtain ⟨a, vs, rfl, h, r⟩ := h
    exact ⟨a, vs, rfl, Evl.ex_t e h, IsWs.mono e r⟩
  | .ins C ns ws, v, h => by
    simp only [IsW] at h ⊢
    obtain ⟨a, C, dx, vs, rfl, h, hl, hd, r⟩ := h
    exact ⟨a, C, dx, vs, rfl, e _ _ h, hl, hd, IsWs.mono e r⟩
  | .dct t ks ws, v, h => by
    simp only [IsW] at h ⊢
    obtain ⟨a, vs, rfl, h, r⟩ := h
    exact ⟨a, vs, rfl, h.mono e, IsWs.mono e r⟩
theorem IsWs.mono (e : Ex I I') : ∀ {ws : List W} {vs : List V}, IsWs K I ws vs → IsWs K I' ws vs
  | [], _, h => h
  | w :: ws, vs, h => by
    simp only [IsWs] at h ⊢
    obtain ⟨v, r, rfl, h, t⟩ := h
    exact ⟨v, r, rfl, IsW.mono e h, IsWs.mono e t⟩
end
theorem IsWs.nil : IsWs K I [] [] := by simp only [IsWs]
theorem IsWs.cons {w : W} {v : V} {ws : List W} {vs : List V} (h : IsW K I w v) (t : IsWs K I ws vs) : IsWs K I (w :: ws) (v :: vs) := by
  simp only [IsWs]
  exact ⟨v, vs, rfl, h, t⟩
theorem IsWs.len : ∀ {ws : List W} {vs : List V}, IsWs K I ws vs → ws.length = vs.length
  | [], vs, h => by simp only [IsWs] at h; simp [h]
  | w :: ws, vs, h => by
    simp only [IsWs] at h
    obtain ⟨v, r, rfl, _, t⟩ := h
    simp [IsWs.len t]
theorem IsWs.get : ∀ {ws : List W} {vs : List V} {i : Nat} {w : W}, IsWs K I ws vs → ws[i]? = some w → ∃ v, vs[i]? = some v ∧ IsW K I w v
  | [], vs, i, w, h, e => by simp at e
  | w :: ws, vs, 0, u, h, e => by
    simp only [IsWs] at h
    obtain ⟨v, r, rfl, h, t⟩ := h
    simp at e
    subst e
    exact ⟨v, rfl, h⟩
  | w :: ws, vs, i + 1, u, h, e => by
    simp only [IsWs] at h
    obtain ⟨v, r, rfl, h, t⟩ := h
    obtain ⟨x, h1, h2⟩ := IsWs.get (i := i) t (by simpa using e)
    exact ⟨x, by simpa using h1, h2⟩
theorem IsWs.getV {ws : List W} {vs : List V} {i : Nat} {v : V} (h : IsWs K I ws vs) (e : vs[i]? = some v) : ∃ w, ws[i]? = some w ∧ IsW K I w v := by
  have hl := h.len
  have hi : i < ws.length := by rw [hl]; exact (List.getElem?_eq_some_iff.mp e).1
  obtain ⟨x, h1, h2⟩ := h.get (List.getElem?_eq_getElem hi)
  rw [e] at h1
  cases h1
  exact ⟨_, List.getElem?_eq_getElem hi, h2⟩
theorem IsWs.append : ∀ {ws us : List W} {vs xs : List V}, IsWs K I ws vs → IsWs K I us xs → IsWs K I (ws ++ us) (vs ++ xs)
  | [], us, vs, xs, h, t => by simp only [IsWs] at h; subst h; exact t
  | w :: ws, us, vs, xs, h, t => by
    simp only [IsWs] at h
    obtain ⟨v, r, rfl, h, q⟩ := h
    exact IsWs.cons h (q.append t)
theorem IsWs.take : ∀ {ws : List W} {vs : List V} (n : Nat), IsWs K I ws vs → IsWs K I (ws.take n) (vs.take n)
  | [], vs, n, h => by simp only [IsWs] at h; subst h; simp [IsWs]
  | w :: ws, vs, 0, h => by simp [IsWs]
  | w :: ws, vs, n + 1, h => by
    simp only [IsWs] at h
    obtain ⟨v, r, rfl, h, q⟩ := h
    exact IsWs.cons h (q.take n)
theorem IsWs.drop : ∀ {ws : List W} {vs : List V} (n : Nat), IsWs K I ws vs → IsWs K I (ws.drop n) (vs.drop n)
  | [], vs, n, h => by simp only [IsWs] at h; subst h; simp [IsWs]
  | w :: ws, vs, 0, h => h
  | w :: ws, vs, n + 1, h => by
    simp only [IsWs] at h
    obtain ⟨v, r, rfl, h, q⟩ := h
    exact q.drop n
theorem IsWs.set : ∀ {ws : List W} {vs : List V} {w : W} {v : V} (n : Nat), IsWs K I ws vs → IsW K I w v → IsWs K I (ws.set n w) (vs.set n v)
  | [], vs, _, _, n, h, _ => by simp only [IsWs] at h; subst h; simp [IsWs]
  | _ :: ws, vs, _, _, 0, h, t => by
    simp only [IsWs] at h
    obtain ⟨v, r, rfl, h, q⟩ := h
    exact IsWs.cons t q
  | _ :: ws, vs, _, _, n + 1, h, t => by
    simp only [IsWs] at h
    obtain ⟨v, r, rfl, h, q⟩ := h
    exact IsWs.cons h (q.set n t)
theorem IsWs.reverse : ∀ {ws : List W} {vs : List V}, IsWs K I ws vs → IsWs K I ws.reverse vs.reverse
  | [], vs, h => by simp only [IsWs] at h; subst h; simp [IsWs]
  | _ :: ws, vs, h => by
    simp only [IsWs] at h
    obtain ⟨v, r, rfl, h, q⟩ := h
    rw [List.reverse_cons, List.reverse_cons]
    exact q.reverse.append (IsWs.cons h IsWs.nil)
theorem IsWs.ints : ∀ {ns : List Int} {vs : List V}, IsWs K I (ns.map W.int) vs → vs = ns.map V.int
  | [], vs, h => by simp only [List.map_nil, IsWs] at h; rw [h]; rfl
  | n :: ns, vs, h => by
    simp only [List.map_cons, IsWs] at h
    obtain ⟨v, r, rfl, h, q⟩ := h
    simp only [IsW] at h
    rw [h, IsWs.ints q]
    rfl
theorem IsWs.ofInts : ∀ {ns : List Int}, IsWs K I (ns.map W.int) (ns.map V.int)
  | [] => by simp [IsWs]
  | n :: ns => IsWs.cons (by simp [IsW]) IsWs.ofInts
theorem IsWs.strs : ∀ {ns : List Str} {vs : List V}, IsWs K I (ns.map W.str) vs → vs = ns.map V.str
  | [], vs, h => by simp only [List.map_nil, IsWs] at h; rw [h]; rfl
  | n :: ns, vs, h => by
    simp only [List.map_cons, IsWs] at h
    obtain ⟨v, r, rfl, h, q⟩ := h
    simp only [IsW] at h
    rw [h, IsWs.strs q]
    rfl

/-! ### heaps: I what is fixed, H all -/
structure Ext (I H I' H' : Hp) : Prop where
  h : Ex H H'
  i : Ex I I'
  ih : Ex I' H'
  k : ∀ a, H a ≠ none → I' a = I a
theorem Ext.refl (e : Ex I H) : Ext I H I H := ⟨Ex.refl _, Ex.refl _, e, fun _ _ => rfl⟩
theorem ne_some {a : Addr} (e : Ex H H') (h : H a ≠ none) : H' a ≠ none := by
  cases q : H a with
  | none => exact absurd q h
  | some o => rw [e _ _ q]; exact fun z => nomatch z
theorem Ext.trans (a : Ext I H I1 H1) (b : Ext I1 H1 I2 H2) : Ext I H I2 H2 :=
  ⟨a.h.trans b.h, a.i.trans b.i, b.ih, fun x hx => (b.k x (ne_some a.h hx)).trans (a.k x hx)⟩
theorem some_ne {a : Addr} {o : HO} (h : H a = some o) : H a ≠ none := by rw [h]; exact fun z => nomatch z
/-- a new fixed object -/
theorem Ext.new {p : Addr} {o : HO} (e : Ext I H I1 H1) (hp : H1 p = none) : Ext I H (upd I1 p o) (upd H1 p o) := by
  have hi : I1 p = none := Evl.fresh_back e.ih hp
  refine ⟨e.h.trans (Ex.new hp), e.i.trans (Ex.new hi), fun a u q => ?_, fun a ha => ?_⟩
  · by_cases ha : a = p
    · subst ha
      rw [upd_same] at q ⊢
      exact q
    · rw [upd_ne ha] at q ⊢
      exact e.ih _ _ q
  · have : a ≠ p := fun z => ne_some e.h ha (z ▸ hp)
    rw [upd_ne this]
    exact e.k a ha
/-- a new object of our own -/
theorem Ext.newOwn {p : Addr} {o : HO} (e : Ext I H I1 H1) (hp : H1 p = none) : Ext I H I1 (upd H1 p o) :=
  ⟨e.h.trans (Ex.new hp), e.i, e.ih.trans (Ex.new hp), e.k⟩
/-- one of our own is fixed -/
theorem Ext.fix {p : Addr} {o : HO} (e : Ext I H I1 H1) (hp : H p = none) (hi : I1 p = none) (ho : H1 p = some o) : Ext I H (upd I1 p o) H1 := by
  refine ⟨e.h, e.i.trans (Ex.new hi), fun a u q => ?_, fun a ha => ?_⟩
  · by_cases hb : a = p
    · subst hb
      rw [upd_same] at q
      rw [ho]
      exact q
    · rw [upd_ne hb] at q
      exact e.ih _ _ q
  · have : a ≠ p := fun z => ha (z ▸ hp)
    rw [upd_ne this]
    exact e.k a ha
/-- one of our own is changed -/
theorem Ext.chg {p : Addr} {o : HO} (e : Ext I H I1 H1) (hp : H p = none) (hi : I1 p = none) : Ext I H I1 (upd H1 p o) :=
  ⟨e.h.mut hp, e.i, e.ih.mut hi, e.k⟩

inductive SV where
  | imm (w : W) | own (w : W)
def SV.w : SV → W
  | .imm w => w
  | .own w => w
abbrev En := List (Option SV)
def OwnAt (K : PySem.W.Frag) (I H : Hp) (p : Addr) : W → Prop
  | .lst ws => ∃ vs, H p = some (.lst vs) ∧ IsWs K I ws vs
  | .dct t ks ws => ∃ vs, DctAt H p t ks vs ∧ IsWs K I ws vs
  | .ins nm ns ws => nm = ⟨#[p]⟩ ∧ ∃ C dx vs, H p = some (.ins C dx (ns.zip vs)) ∧ vs.length ≤ ns.length ∧ (Cls K C ∧ ∀ f ∈ ns, NoAttr K C f) ∧ IsWs K I ws vs
  | _ => False
theorem OwnAt.ne {p : Addr} {w : W} (h : OwnAt K I H p w) : H p ≠ none := by
  cases w with
  | lst ws => obtain ⟨vs, h, _⟩ := h; exact some_ne h
  | dct t ks ws =>
    obtain ⟨vs, ⟨_, h⟩, _⟩ := h
    rcases h with ⟨_, h⟩ | ⟨_, _, _, h⟩ <;> exact some_ne h
  | ins nm ns ws => obtain ⟨_, C, dx, vs, h, _⟩ := h; exact some_ne h
  | _ => exact h.elim
theorem OwnAt.mono {p : Addr} {w : W} (e : Ex I I') (hp : H' p = H p) (h : OwnAt K I H p w) : OwnAt K I' H' p w := by
  cases w with
  | lst ws => obtain ⟨vs, h, r⟩ := h; exact ⟨vs, hp.trans h, r.mono e⟩
  | dct t ks ws =>
    obtain ⟨vs, ⟨l, h⟩, r⟩ := h
    exact ⟨vs, ⟨l, h.imp (fun ⟨x, y⟩ => ⟨x, hp.trans y⟩) fun ⟨x, ls, y, z⟩ => ⟨x, ls, y, hp.trans z⟩⟩, r.mono e⟩
  | ins nm ns ws => obtain ⟨hn, C, dx, vs, h, l, c, r⟩ := h; exact ⟨hn, C, dx, vs, hp.trans h, l, c, r.mono e⟩
  | _ => exact h.elim
theorem OwnAt.fix {p : Addr} {w : W} {o : HO} (hi : I p = none) (ho : H p = some o) (h : OwnAt K I H p w) : IsW K (upd I p o) w (.ref p) := by
  cases w with
  | lst ws =>
    obtain ⟨vs, h, r⟩ := h
    rw [ho] at h
    cases h
    simp only [IsW]
    exact ⟨p, vs, rfl, upd_same, r.mono (Ex.new hi)⟩
  | dct t ks ws =>
    obtain ⟨vs, ⟨l, h⟩, r⟩ := h
    simp only [IsW]
    refine ⟨p, vs, rfl, ⟨l, ?_⟩, r.mono (Ex.new hi)⟩
    rcases h with ⟨x, h⟩ | ⟨x, ls, y, h⟩
    · rw [ho] at h; cases h; exact .inl ⟨x, upd_same⟩
    · rw [ho] at h; cases h; exact .inr ⟨x, ls, y, upd_same⟩
  | ins nm ns ws =>
    obtain ⟨hn, C, dx, vs, h, l, c, r⟩ := h
    rw [ho] at h
    cases h
    simp only [IsW]
    exact ⟨p, C, dx, vs, rfl, upd_same, l, c, r.mono (Ex.new hi)⟩
  | _ => exact h.elim
/-- a result, made since H -/
def Res (K : PySem.W.Frag) (I' H' H : Hp) : SV → V → Prop
  | .imm w, v => IsW K I' w v
  | .own w, v => ∃ p, v = .ref p ∧ I' p = none ∧ H p = none ∧ OwnAt K I' H' p w
theorem Res.weak {sv : SV} {v : V} (e : Ex H H1) (r : Res K I' H' H1 sv v) : Res K I' H' H sv v := by
  cases sv with
  | imm w => exact r
  | own w =>
    obtain ⟨p, rfl, a, b, c⟩ := r
    exact ⟨p, rfl, a, Evl.fresh_back e b, c⟩
theorem Res.mono {sv : SV} {v : V} (e : Ext I H I' H') (r : Res K I H H0 sv v) : Res K I' H' H0 sv v := by
  cases sv with
  | imm w => exact IsW.mono e.i r
  | own w =>
    obtain ⟨p, rfl, a, b, c⟩ := r
    have hs := c.ne
    have hp : H' p = H p := by
      cases q : H p with
      | none => exact absurd q hs
      | some o => exact e.h _ _ q
    exact ⟨p, rfl, (e.k p hs).trans a, b, c.mono e.i hp⟩
theorem Res.use {sv : SV} {v : V} (e : Ext I H I' H') (r : Res K I' H' H sv v) : ∃ I'', Ext I H I'' H' ∧ Ex I' I'' ∧ IsW K I'' sv.w v := by
  cases sv with
  | imm w => exact ⟨I', e, Ex.refl _, r⟩
  | own w =>
    obtain ⟨p, rfl, a, b, c⟩ := r
    cases q : H' p with
    | none => exact absurd q c.ne
    | some o => exact ⟨upd I' p o, e.fix b a q, Ex.new a, c.fix a q⟩

structure Sat (K : PySem.W.Frag) (I0 H0 I : Hp) (e : En) (σ : L2.St) (H : Hp) : Prop where
  x : Ext I0 H0 I H
  len : e.length = σ.length
  slot : ∀ (i : Nat) (sv : SV), e[i]? = some (some sv) → ∃ v, σ[i]? = some (some v) ∧ Res K I H H0 sv v
  sep : ∀ (i j : Nat) (w w' : W), e[i]? = some (some (SV.own w)) → e[j]? = some (some (SV.own w')) → i ≠ j → σ[i]? ≠ σ[j]?
variable {e : En} {σ : L2.St}
theorem Sat.mono (S : Sat K I0 H0 I e σ H) (x : Ext I H I' H') : Sat K I0 H0 I' e σ H' :=
  ⟨S.x.trans x, S.len, fun i sv h => let ⟨v, a, b⟩ := S.slot i sv h; ⟨v, a, b.mono x⟩, S.sep⟩
theorem Sat.ext (S : Sat K I0 H0 I e σ H) : Ex I H := S.x.ih
theorem Sat.ref (S : Sat K I0 H0 I e σ H) : Ext I H I H := Ext.refl S.x.ih
theorem set_get {α : Type} {l : List α} {i j : Nat} {x y : α} (h : (l.set i x)[j]? = some y) : (j = i ∧ y = x) ∨ (j ≠ i ∧ l[j]? = some y) := by
  by_cases e : j = i
  · subst e
    have hl : j < l.length := by
      have := (List.getElem?_eq_some_iff.mp h).1
      simpa using this
    rw [List.getElem?_set_self hl] at h
    cases h
    exact .inl ⟨rfl, rfl⟩
  · rw [List.getElem?_set_ne (Ne.symm e)] at h
    exact .inr ⟨e, h⟩
/-- a slot is stored -/
theorem Sat.set (S : Sat K I0 H0 I e σ H) (x : Ext I H I' H') {sv : SV} {v : V} (r : Res K I' H' H sv v) (i : Nat) : Sat K I0 H0 I' (e.set i (some sv)) (σ.set i (some v)) H' := by
  have S' := S.mono x
  have own : ∀ (j : Nat) (w : W), e[j]? = some (some (.own w)) → ∃ p, σ[j]? = some (some (.ref p)) ∧ H p ≠ none := fun j w h => by
    obtain ⟨v, a, b⟩ := S.slot j _ h
    obtain ⟨p, rfl, _, _, c⟩ := b
    exact ⟨p, a, c.ne⟩
  have at_i : i < e.length → (σ.set i (some v))[i]? = some (some v) := fun h => List.getElem?_set_self (by rw [← S.len]; exact h)
  refine ⟨S'.x, by simp [S'.len], fun j sv' h => ?_, fun j k w w' h1 h2 hne => ?_⟩
  · rcases set_get h with ⟨rfl, hz⟩ | ⟨hj, h⟩
    · cases hz
      have hl : j < e.length := by simpa using (List.getElem?_eq_some_iff.mp h).1
      exact ⟨v, at_i hl, r.weak S.x.h⟩
    · rw [List.getElem?_set_ne (Ne.symm hj)]
      exact S'.slot j sv' h
  · rcases set_get h1 with ⟨rfl, hz⟩ | ⟨hj, h⟩
    · cases hz
      have hl : j < e.length := by simpa using (List.getElem?_eq_some_iff.mp h1).1
      rcases set_get h2 with ⟨rfl, _⟩ | ⟨hk, h'⟩
      · exact absurd rfl hne
      · rw [at_i hl, List.getElem?_set_ne (Ne.symm hk)]
        obtain ⟨p, hp, hs⟩ := own k w' h'
        obtain ⟨q, rfl, _, hq, _⟩ := r
        rw [hp]
        intro z
        cases z
        exact hs hq
    · rcases set_get h2 with ⟨rfl, hz⟩ | ⟨hk, h'⟩
      · cases hz
        have hl : k < e.length := by simpa using (List.getElem?_eq_some_iff.mp h2).1
        rw [at_i hl, List.getElem?_set_ne (Ne.symm hj)]
        obtain ⟨p, hp, hs⟩ := own j w h
        obtain ⟨q, rfl, _, hq, _⟩ := r
        rw [hp]
        intro z
        cases z
        exact hs hq
      · rw [List.getElem?_set_ne (Ne.symm hj), List.getElem?_set_ne (Ne.symm hk)]
        exact S.sep j k w w' h h' hne
/-- a slot is forgotten -/
theorem Sat.del (S : Sat K I0 H0 I e σ H) (i : Nat) (o : Option V) : Sat K I0 H0 I (e.set i none) (σ.set i o) H := by
  refine ⟨S.x, by simp [S.len], fun j sv' h => ?_, fun j k w w' h1 h2 hne => ?_⟩
  · rcases set_get h with ⟨rfl, hz⟩ | ⟨hj, h⟩
    · cases hz
    · rw [List.getElem?_set_ne (Ne.symm hj)]
      exact S.slot j sv' h
  · rcases set_get h1 with ⟨rfl, hz⟩ | ⟨hj, h⟩
    · cases hz
    · rcases set_get h2 with ⟨rfl, hz⟩ | ⟨hk, h'⟩
      · cases hz
      · rw [List.getElem?_set_ne (Ne.symm hj), List.getElem?_set_ne (Ne.symm hk)]
        exact S.sep j k w w' h h' hne
/-- one of our own, at slot i, is changed -/
theorem Sat.chg (S : Sat K I0 H0 I e σ H) {i : Nat} {w w' : W} {p : Addr} {o : HO} (hs : e[i]? = some (some (.own w))) (hp : σ[i]? = some (some (.ref p))) (n : OwnAt K I (upd H p o) p w') :
    Sat K I0 H0 I (e.set i (some (.own w'))) σ (upd H p o) := by
  obtain ⟨v, a, q, rfl, hi, h0, hq⟩ := S.slot i _ hs
  rw [hp] at a
  cases a
  have hl : i < e.length := (List.getElem?_eq_some_iff.mp hs).1
  refine ⟨S.x.chg h0 hi, by simp [S.len], fun j sv' h => ?_, fun j k u u' h1 h2 hne => ?_⟩
  · rcases set_get h with ⟨rfl, hz⟩ | ⟨hj, h⟩
    · cases hz
      exact ⟨_, hp, p, rfl, hi, h0, n⟩
    · obtain ⟨v, a, b⟩ := S.slot j sv' h
      refine ⟨v, a, ?_⟩
      cases sv' with
      | imm u => exact b
      | own u =>
        obtain ⟨q, rfl, b1, b2, b3⟩ := b
        have hqp : q ≠ p := by
          rintro rfl
          exact S.sep j i u w h hs hj (a.trans hp.symm)
        exact ⟨q, rfl, b1, b2, b3.mono (Ex.refl _) (upd_ne hqp)⟩
  · have f : ∀ {j : Nat} {u : W}, (e.set i (some (SV.own w')))[j]? = some (some (SV.own u)) → ∃ u : W, e[j]? = some (some (SV.own u)) := fun {j u} h => by
      rcases set_get h with ⟨rfl, _⟩ | ⟨_, h⟩
      · exact ⟨w, hs⟩
      · exact ⟨u, h⟩
    obtain ⟨_, h1⟩ := f h1
    obtain ⟨_, h2⟩ := f h2
    exact S.sep j k _ _ h1 h2 hne
/-- one of our own is fixed -/
def fixSlot (e : En) (i : Nat) : En := match e[i]? with
  | some (some (.own w)) => e.set i (some (.imm w))
  | _ => e
theorem fix_own {j i : Nat} {u : W} (h : (fixSlot e i)[j]? = some (some (.own u))) : j ≠ i ∧ e[j]? = some (some (.own u)) := by
  unfold fixSlot at h
  split at h
  next w hs =>
    rcases set_get h with ⟨rfl, hz⟩ | h
    · cases hz
    · exact h
  next hn =>
    refine ⟨?_, h⟩
    rintro rfl
    exact hn u h
theorem Sat.fix (S : Sat K I0 H0 I e σ H) (i : Nat) : ∃ I', Ex I I' ∧ Sat K I0 H0 I' (fixSlot e i) σ H := by
  unfold fixSlot
  split
  next w hs =>
    obtain ⟨v, a, p, rfl, hi, h0, hq⟩ := S.slot i _ hs
    cases q : H p with
    | none => exact absurd q hq.ne
    | some o =>
      have hl : i < e.length := (List.getElem?_eq_some_iff.mp hs).1
      have x1 : Ext I0 H0 (upd I p o) H := S.x.fix h0 hi q
      have eI : Ex I (upd I p o) := Ex.new hi
      refine ⟨upd I p o, eI, x1, by simp [S.len], fun j sv' h => ?_, fun j k u u' h1 h2 hne => ?_⟩
      · rcases set_get h with ⟨rfl, hz⟩ | ⟨hj, h⟩
        · cases hz
          exact ⟨_, a, hq.fix hi q⟩
        · obtain ⟨v, a', b⟩ := S.slot j sv' h
          refine ⟨v, a', ?_⟩
          cases sv' with
          | imm u => exact IsW.mono eI b
          | own u =>
            obtain ⟨q', rfl, b1, b2, b3⟩ := b
            have hqp : q' ≠ p := by
              rintro rfl
              exact S.sep j i u w h hs hj (a'.trans a.symm)
            exact ⟨q', rfl, (upd_ne hqp).trans b1, b2, b3.mono eI rfl⟩
      · rcases set_get h1 with ⟨_, h⟩ | ⟨_, h1⟩
        · cases h
        · rcases set_get h2 with ⟨_, h⟩ | ⟨_, h2⟩
          · cases h
          · exact S.sep j k _ _ h1 h2 hne
  next => exact ⟨I, Ex.refl _, S⟩
end Qw
namespace Qw
open PySem PySem.Spec PyProof.Rows L2 Nz
open Evl (Ex)
/-! ### readings by functions of the slots -/
def tW (K : PySem.W.Frag) (f : En → Option W) : TE := fun σ H Q => ∃ I0 H0 I e w, Sat K I0 H0 I e σ H ∧ f e = some w ∧ ∀ I' H' v, Ext I H I' H' → IsW K I' w v → Q v H'
def tR (K : PySem.W.Frag) (f : En → Option SV) : TE := fun σ H Q => ∃ I0 H0 I e sv, Sat K I0 H0 I e σ H ∧ f e = some sv ∧ ∀ I' H' v, Ext I H I' H' → Res K I' H' H sv v → Q v H'
def tT (K : PySem.W.Frag) (f : En → Option Bool) : TT := fun σ H Q => ∃ I0 H0 I e b, Sat K I0 H0 I e σ H ∧ f e = some b ∧ ∀ I' H', Ext I H I' H' → Q b H'
def tA (K : PySem.W.Frag) (f : En → Option (List W)) : TA := fun σ H Q => ∃ I0 H0 I e ws, Sat K I0 H0 I e σ H ∧ f e = some ws ∧ ∀ I' H' vs, Ext I H I' H' → IsWs K I' ws vs → Q vs H'
def tO (K : PySem.W.Frag) (f : En → Option (Option Int)) : TO := fun σ H Q => ∃ I0 H0 I e o, Sat K I0 H0 I e σ H ∧ f e = some o ∧ ∀ I' H', Ext I H I' H' → Q o H'

/-! ### the functions -/
def fVar (i : Nat) : En → Option W := fun e => match e[i]? with
  | some (some (.imm w)) => some w
  | _ => none
def fC (w : W) : En → Option W := fun _ => some w
def fBin (o : W → W → Option W) (f g : En → Option W) : En → Option W := fun e => match f e with
  | some a => (match g e with
    | some b => o a b
    | none => none)
  | none => none
def fBinR (o : W → W → Option SV) (f g : En → Option W) : En → Option SV := fun e => match f e with
  | some a => (match g e with
    | some b => o a b
    | none => none)
  | none => none
def fUn (o : W → Option W) (f : En → Option W) : En → Option W := fun e => match f e with
  | some a => o a
  | none => none
def fFrz (f : En → Option SV) : En → Option W := fun e => match f e with
  | some sv => some sv.w
  | none => none
def fImm (f : En → Option W) : En → Option SV := fun e => match f e with
  | some w => some (.imm w)
  | none => none
def fNil : En → Option (List W) := fun _ => some []
def fCons (f : En → Option W) (g : En → Option (List W)) : En → Option (List W) := fun e => match f e with
  | some a => (match g e with
    | some b => some (a :: b)
    | none => none)
  | none => none
def fCall (o : List W → Option SV) (g : En → Option (List W)) : En → Option SV := fun e => match g e with
  | some ws => o ws
  | none => none
def fCallW (o : List W → Option W) (g : En → Option (List W)) : En → Option W := fun e => match g e with
  | some ws => o ws
  | none => none
def fNone : En → Option (Option Int) := fun _ => some none
def fSome (f : En → Option W) : En → Option (Option Int) := fun e => match f e with
  | some (.int i) => some (some i)
  | _ => none
def fSl (o : W → Option Int → Option Int → Option SV) (f : En → Option W) (g h : En → Option (Option Int)) : En → Option SV := fun e => match f e with
  | some a => (match g e with
    | some l => (match h e with
      | some u => o a l u
      | none => none)
    | none => none)
  | none => none
/-- all slots read as fixed -/
def view : En → En := List.map fun s => match s with
  | some (.own w) => some (.imm w)
  | s => s
def flatW : W → Bool
  | .non => true
  | .bl _ => true
  | .int _ => true
  | .str _ => true
  | _ => false
def fBor (f : En → Option W) : En → Option W := fun e => match f (view e) with
  | some w => if flatW w = true then some w else none
  | none => none

section
variable {X : Cx} {K : PySem.W.Frag} {I I' I1 I2 H H' H1 H2 I0 H0 : Hp} {e : En} {σ : L2.St}
theorem pe_imp {ex : Expr} {t t' : TE} (h : PE X ex t) (k : ∀ σ H Q, t' σ H Q → t σ H Q) : PE X ex t' := ⟨fun pins s σ H Q I q => h.run pins s σ H Q I (k σ H Q q)⟩
theorem pt_imp {ex : Expr} {t t' : TT} (h : PT X ex t) (k : ∀ σ H Q, t' σ H Q → t σ H Q) : PT X ex t' := ⟨fun pins s σ H Q I q => h.run pins s σ H Q I (k σ H Q q)⟩
theorem pa_imp {ex : List Expr} {t t' : TA} (h : PA X ex t) (k : ∀ σ H Q, t' σ H Q → t σ H Q) : PA X ex t' := ⟨fun pos pins s σ H Q I q => h.run pos pins s σ H Q I (k σ H Q q)⟩
theorem po_imp {ex : Option Expr} {t t' : TO} (h : PO X ex t) (k : ∀ σ H Q, t' σ H Q → t σ H Q) : PO X ex t' := ⟨fun pins s σ H Q I q => h.run pins s σ H Q I (k σ H Q q)⟩
theorem frz_use {f : En → Option SV} {Q : VK} : tW K (fFrz f) σ H Q → tR K f σ H Q := fun ⟨I0, H0, I, e, w, S, hf, k⟩ => by
  unfold fFrz at hf
  split at hf
  next sv hs =>
    cases hf
    refine ⟨I0, H0, I, e, sv, S, hs, fun I' H' v x r => ?_⟩
    obtain ⟨I'', x', _, q⟩ := r.use x
    exact k _ _ _ x' q
  next => cases hf
theorem imm_use {f : En → Option W} {Q : VK} : tR K (fImm f) σ H Q → tW K f σ H Q := fun ⟨I0, H0, I, e, sv, S, hf, k⟩ => by
  unfold fImm at hf
  split at hf
  next w hs =>
    cases hf
    exact ⟨I0, H0, I, e, w, S, hs, fun I' H' v x r => k _ _ _ x r⟩
  next => cases hf
/-- frozen -/
theorem qfrz {ex : Expr} {f : En → Option SV} (h : PE X ex (tR X.K f)) : PE X ex (tW X.K (fFrz f)) := pe_imp h fun _ _ _ => frz_use
theorem qimm {ex : Expr} {f : En → Option W} (h : PE X ex (tW X.K f)) : PE X ex (tR X.K (fImm f)) := pe_imp h fun _ _ _ => imm_use
/-! ### names, constants -/
theorem qv (i : Nat) {x : Str} {pos : Pos} (hN : X.N[i]? = some x := by rfl) (hv : Vis X.env.scope x := by first | exact Or.inl rfl | exact Or.inr (Or.inl rfl) | exact Or.inr (Or.inr rfl)) (hd : (x == ("__debug__" : Str)) = false := by decide)
    (hcd : (x == ("__classdict__" : Str)) = false := by decide) : PE X (.Name x pos) (tW X.K (fVar i)) := pe_imp (pe_var hN hv hd hcd) fun σ H Q ⟨I0, H0, I, e, w, S, hf, k⟩ => by
  unfold fVar at hf
  split at hf
  next w' hs =>
    cases hf
    obtain ⟨v, a, b⟩ := S.slot i _ hs
    exact ⟨v, a, k _ _ _ S.ref b⟩
  next => cases hf
theorem q_c {ex : Expr} {v : V} {w : W} (h : PE X ex (tC v)) (r : ∀ I, IsW X.K I w v) : PE X ex (tW X.K (fC w)) := pe_imp h fun σ H Q ⟨I0, H0, I, e, w', S, hf, k⟩ => by
  cases hf
  exact k _ _ _ S.ref (r _)
theorem qint {i : Int} {j pos} : PE X (.Constant (.int i) j pos) (tW X.K (fC (.int i))) := q_c pe_int fun _ => by simp [IsW]
theorem qbl {b : Bool} {j pos} : PE X (.Constant (.bool b) j pos) (tW X.K (fC (.bl b))) := q_c pe_bl fun _ => by simp [IsW]
theorem qnon {j pos} : PE X (.Constant .none j pos) (tW X.K (fC .non)) := q_c pe_non fun _ => by simp [IsW]
theorem qstr {x : Str} {j pos} : PE X (.Constant (.str x) j pos) (tW X.K (fC (.str x))) := q_c pe_str fun _ => by simp [IsW]
/-! ### two operands -/
theorem bin_use {f g : En → Option W} {a b : W} {R : V → V → Hp → Prop} (S : Sat K I0 H0 I e σ H) (ha : f e = some a) (hb : g e = some b) (k : ∀ I' H' x y, Ext I H I' H' → IsW K I' a x → IsW K I' b y → R x y H') :
    tW K f σ H fun x H1 => tW K g σ H1 fun y H2 => R x y H2 :=
  ⟨I0, H0, I, e, a, S, ha, fun I1 H1 x x1 r1 => ⟨I0, H0, I1, e, b, S.mono x1, hb, fun I2 H2 y x2 r2 => k I2 H2 x y (x1.trans x2) (IsW.mono x2.i r1) r2⟩⟩
def BinV (K : PySem.W.Frag) (r : R2) (o : W → W → Option W) : Prop := ∀ (I H : Hp) (a b : W) (x y : V) (w : W) (Q : VK), Ex I H → IsW K I a x → IsW K I b y → o a b = some w → (∀ I' H' v, Ext I H I' H' → IsW K I' w v → Q v H') → r x y H Q
def BinR (K : PySem.W.Frag) (r : R2) (o : W → W → Option SV) : Prop := ∀ (I H : Hp) (a b : W) (x y : V) (sv : SV) (Q : VK), Ex I H → IsW K I a x → IsW K I b y → o a b = some sv → (∀ I' H' v, Ext I H I' H' → Res K I' H' H sv v → Q v H') → r x y H Q
theorem binV_use {r : R2} {o : W → W → Option W} {f g : En → Option W} (hw : BinV K r o) {Q : VK} : tW K (fBin o f g) σ H Q → tOp r (tW K f) (tW K g) σ H Q := fun ⟨I0, H0, I, e, w, S, hf, k⟩ => by
  unfold fBin at hf
  split at hf
  next a ha =>
    split at hf
    next b hb => exact bin_use S ha hb fun I' H' x y x1 r1 r2 => hw I' H' a b x y w Q x1.ih r1 r2 hf fun I2 H2 v x2 r => k _ _ _ (x1.trans x2) r
    next => cases hf
  next => cases hf
theorem binR_use {r : R2} {o : W → W → Option SV} {f g : En → Option W} (hw : BinR K r o) {Q : VK} : tR K (fBinR o f g) σ H Q → tOp r (tW K f) (tW K g) σ H Q := fun ⟨I0, H0, I, e, w, S, hf, k⟩ => by
  unfold fBinR at hf
  split at hf
  next a ha =>
    split at hf
    next b hb => exact bin_use S ha hb fun I' H' x y x1 r1 r2 => hw I' H' a b x y w Q x1.ih r1 r2 hf fun I2 H2 v x2 r => k _ _ _ (x1.trans x2) (r.weak x1.h)
    next => cases hf
  next => cases hf
theorem qop {op : Operator} {r : R2} {o : W → W → Option W} {a b : Expr} {f g : En → Option W} {pos : Pos} (ho : OpR X (binaryOp op) r) (hw : BinV X.K r o) (ha : PE X a (tW X.K f)) (hb : PE X b (tW X.K g)) :
    PE X (.BinOp a op b pos) (tW X.K (fBin o f g)) := pe_imp (pe_op ho ha hb) fun _ _ _ => binV_use hw
theorem qopR {op : Operator} {r : R2} {o : W → W → Option SV} {a b : Expr} {f g : En → Option W} {pos : Pos} (ho : OpR X (binaryOp op) r) (hw : BinR X.K r o) (ha : PE X a (tW X.K f)) (hb : PE X b (tW X.K g)) :
    PE X (.BinOp a op b pos) (tR X.K (fBinR o f g)) := pe_imp (pe_op ho ha hb) fun _ _ _ => binR_use hw
theorem qcmp {op : CmpOp} {r : R2} {o : W → W → Option W} {a b : Expr} {f g : En → Option W} {pos : Pos} (ho : OpR X (compareOp op) r) (hw : BinV X.K r o) (ha : PE X a (tW X.K f)) (hb : PE X b (tW X.K g)) (hm : behindInMarks op b = false) :
    PE X (.Compare a [op] [b] pos) (tW X.K (fBin o f g)) := pe_imp (pe_cmpR ho ha hb hm) fun _ _ _ => binV_use hw
/-! ### ints -/
def addI : W → W → Option W
  | .int i, .int j => some (.int (i + j))
  | _, _ => none
def subW : W → W → Option W
  | .int i, .int j => some (.int (i - j))
  | _, _ => none
def small (i : Int) : Bool := decide (-(2 ^ 64) < i ∧ i < 2 ^ 64)
def mulW : W → W → Option W
  | .int i, .int j => if small i = true ∨ small j = true then some (.int (i * j)) else none
  | _, _ => none
def modW : W → W → Option W
  | .int i, .int j => if 0 < j then some (.int (i % j)) else none
  | _, _ => none
def divW : W → W → Option W
  | .int i, .int j => if 0 < j ∧ j < 2 ^ 1000 then some (.int (i / j)) else none
  | _, _ => none
def powW : W → W → Option W
  | .int i, .int j => if 0 ≤ j ∧ j ≤ 1000 ∧ i.natAbs < 2 ^ 64 then some (.int (i ^ j.toNat)) else none
  | _, _ => none
theorem isInt {i : Int} {v : V} : IsW K I (.int i) v ↔ v = .int i := by simp [IsW]
theorem isBl {i : Bool} {v : V} : IsW K I (.bl i) v ↔ v = .bl i := by simp [IsW]
theorem isStr {i : Str} {v : V} : IsW K I (.str i) v ↔ v = .str i := by simp [IsW]
theorem isNon {v : V} : IsW K I .non v ↔ v = .non := by simp [IsW]
theorem bv_add : BinV K (rI0 fun i j => .int (i + j)) addI := by
  intro I H a b x y w Q ex ra rb ho k
  cases a <;> cases b <;> try (cases ho; done)
  cases ho
  rw [isInt] at ra rb
  exact ⟨_, _, ra, rb, k _ _ _ (Ext.refl ex) (isInt.mpr rfl)⟩
theorem bv_sub : BinV K (rI0 fun i j => .int (i - j)) subW := by
  intro I H a b x y w Q ex ra rb ho k
  cases a <;> cases b <;> try (cases ho; done)
  cases ho
  rw [isInt] at ra rb
  exact ⟨_, _, ra, rb, k _ _ _ (Ext.refl ex) (isInt.mpr rfl)⟩
theorem bv_mod : BinV K (rI (fun _ j => 0 < j) fun i j => .int (i % j)) modW := by
  intro I H a b x y w Q ex ra rb ho k
  cases a <;> cases b <;> try (cases ho; done)
  simp only [modW] at ho
  split at ho
  next h =>
    cases ho
    rw [isInt] at ra rb
    exact ⟨_, _, ra, rb, h, k _ _ _ (Ext.refl ex) (isInt.mpr rfl)⟩
  next => cases ho
theorem bv_div : BinV K (rI CDivW fun i j => .int (i / j)) divW := by
  intro I H a b x y w Q ex ra rb ho k
  cases a <;> cases b <;> try (cases ho; done)
  simp only [divW] at ho
  split at ho
  next h =>
    cases ho
    rw [isInt] at ra rb
    refine ⟨_, _, ra, rb, ⟨h.1, ?_⟩, k _ _ _ (Ext.refl ex) (isInt.mpr rfl)⟩
    rename_i j
    have hn : j.natAbs ≠ 0 := by omega
    have h2 : j.natAbs < 2 ^ 1000 := by
      have e : ((j.natAbs : Nat) : Int) < ((2 ^ 1000 : Nat) : Int) := by
        rw [Int.natAbs_of_nonneg (by omega), Int.natCast_pow]
        exact h.2
      exact Int.ofNat_lt.mp e
    exact Nat.lt_trans ((Nat.log2_lt hn).mpr h2) (by decide)
  next => cases ho
theorem bv_pow : BinV K (rI CPow fun i j => .int (i ^ j.toNat)) powW := by
  intro I H a b x y w Q ex ra rb ho k
  cases a <;> cases b <;> try (cases ho; done)
  simp only [powW] at ho
  split at ho
  next h =>
    cases ho
    rw [isInt] at ra rb
    exact ⟨_, _, ra, rb, ⟨h.1, by omega, h.2.2⟩, k _ _ _ (Ext.refl ex) (isInt.mpr rfl)⟩
  next => cases ho
def rMul2 : R2 := fun x y H Q => ∃ i j, x = .int i ∧ y = .int j ∧ (small i = true ∨ small j = true) ∧ Q (.int (i * j)) H
theorem op_mul2 : OpR X (binaryOp .Mult) rMul2 := by
  intro pins s σ H x y v u Q I rx ry h
  obtain ⟨i, j, rfl, rfl, c, q⟩ := h
  refine op_mul pins s σ H _ _ v u Q I rx ry ⟨i, j, rfl, rfl, ?_, q⟩
  rcases c with c | c
  · exact .inl (of_decide_eq_true c)
  · exact .inr (of_decide_eq_true c)
theorem bv_mul : BinV K rMul2 mulW := by
  intro I H a b x y w Q ex ra rb ho k
  cases a <;> cases b <;> try (cases ho; done)
  simp only [mulW] at ho
  split at ho
  next h =>
    cases ho
    rw [isInt] at ra rb
    exact ⟨_, _, ra, rb, h, k _ _ _ (Ext.refl ex) (isInt.mpr rfl)⟩
  next => cases ho
end
end Qw
namespace Nz
open PySem PySem.Spec PyProof.Rows L2
/-! ### the mathematics -/
def rng (n : Int) : List Int := (List.range n.toNat).map fun i => ((i : Nat) : Int)
theorem rng_length (n : Int) : (rng n).length = n.toNat := by
  unfold rng
  rw [List.length_map, List.length_range]
theorem rgV_rng (n : Int) : rgV 0 n = (rng n).map V.int := by
  unfold rgV rng
  rw [List.map_map, Int.sub_zero]
  refine List.map_congr_left fun i _ => ?_
  show V.int (0 + (i : Nat)) = V.int ((i : Nat) : Int)
  rw [Int.zero_add]
theorem rng_sorted (n : Int) : (rng n).Pairwise (· ≤ ·) := by
  unfold rng
  rw [List.pairwise_map]
  exact List.pairwise_lt_range.imp fun h => by omega
def isRen (ns : List Int) (n : Int) : Bool := (rng n).isPerm ns
theorem ren_eq {ns ms : List Int} (n : Int) (hp : ms.Perm ns) (hs : ms.Pairwise (· ≤ ·)) : decide (ms = rng n) = isRen ns n := by
  unfold isRen
  rw [Bool.eq_iff_iff, decide_eq_true_iff, List.isPerm_iff]
  exact ⟨fun e => e ▸ hp, fun h => PySem.W.ksm_same (hp.trans h.symm) hs (rng_sorted n)⟩
/-! ### data -/
theorem dpInts {K : PySem.W.Frag} {H : Hp} : ∀ ns : List Int, DpAll K H (ns.map V.int) (ns.map PyData.int)
  | [] => .nil
  | n :: r => .cons (.int n) (dpInts r)
theorem layInts : ∀ ns : List Int, PyData.canLayAll0 (ns.map PyData.int) = true
  | [] => by simp [PyData.canLayAll0]
  | n :: r => by simp [PyData.canLayAll0, PyData.canLay0, layInts r]
theorem depInts : ∀ ns : List Int, PyData.depthAll (ns.map PyData.int) ≤ 1
  | [] => by simp [PyData.depthAll]
  | n :: r => by
    have := depInts r
    simp [PyData.depthAll, PyData.depth]
    try omega
theorem shInts (ns : List Int) : SeqAt.shaped (.list (ns.map PyData.int)) = true := by
  have h := depInts ns
  have h2 : PyData.depthAll (ns.map PyData.int) + 1 ≤ 64 := by omega
  simpa [SeqAt.shaped, PyData.canLay0, layInts ns, PyData.depth] using h2
theorem shIntsT (ns : List Int) : SeqAt.shaped (.tuple (ns.map PyData.int)) = true := by
  have h := depInts ns
  have h2 : PyData.depthAll (ns.map PyData.int) + 1 ≤ 64 := by omega
  simpa [SeqAt.shaped, PyData.canLay0, layInts ns, PyData.depth] using h2
theorem eqvInts : ∀ ms ns : List Int, PyData.eqvAll (ms.map PyData.int) (ns.map PyData.int) = decide (ms = ns)
  | [], [] => by simp [PyData.eqvAll]
  | [], _ :: _ => by simp [PyData.eqvAll]
  | _ :: _, [] => by simp [PyData.eqvAll]
  | m :: r, n :: t => by
    simp only [List.map_cons, PyData.eqvAll, eqvInts r t]
    by_cases h : m = n <;> by_cases h2 : r = t <;> simp [h, h2, PyData.eqv]
theorem eqvL (ms ns : List Int) : PyData.eqv (.list (ms.map .int)) (.list (ns.map .int)) = decide (ms = ns) := by
  rw [← eqvInts]
  simp [PyData.eqv]
theorem eqvT (ms ns : List Int) : PyData.eqv (.tuple (ms.map .int)) (.tuple (ns.map .int)) = decide (ms = ns) := by
  rw [← eqvInts]
  simp [PyData.eqv]
theorem same_new {H : Hp} {p : Addr} {o : HO} (h : H p = none) : Same H (upd H p o) := fun b x e => by
  rw [upd_ne (ne_of_none e h)]
  exact e
theorem upd_more {H : Hp} {p : Addr} {o : HO} {ds : List Int} {d : Int} : upd (upd H p o) p (.lst (ds.map V.int ++ [.int d])) = upd H p (.lst ((ds ++ [d]).map V.int)) := by
  rw [upd_upd, List.map_append]
  rfl
theorem taken_perm {α : Type} {l : List α} {i : Nat} {y : α} (h : l[i]? = some y) : (y :: l.eraseIdx i).Perm l := by
  obtain ⟨hi, e⟩ := List.getElem?_eq_some_iff.mp h
  have e2 : l = l.take i ++ y :: l.drop (i + 1) := by
    rw [← e, ← List.drop_eq_getElem_cons hi, List.take_append_drop]
  rw [List.eraseIdx_eq_take_drop_succ]
  conv => rhs; rw [e2]
  exact List.perm_middle.symm
theorem pop_perm {α : Type} {ns rs all : List α} {i : Nat} {y : α} (h : rs[i]? = some y) (p : (ns ++ rs).Perm all) : ((ns ++ [y]) ++ rs.eraseIdx i).Perm all := by
  refine List.Perm.trans ?_ p
  rw [List.append_assoc]
  exact List.Perm.append_left ns (taken_perm h)
theorem mem_rng {n : Nat} {x : Int} (h : x ∈ rng n) : 0 ≤ x ∧ x < n := by
  unfold rng at h
  obtain ⟨i, hi, e⟩ := List.mem_map.mp h
  have := List.mem_range.mp hi
  omega
theorem nodup_rng (n : Int) : (rng n).Nodup := by
  unfold rng
  unfold List.Nodup
  rw [List.pairwise_map]
  exact List.pairwise_lt_range.imp fun h => by omega
theorem at_map {ns : List Int} {i : Nat} (h : i < ns.length) : (ns.map V.int)[i]? = some (.int ns[i]) := by
  rw [List.getElem?_map, List.getElem?_eq_getElem h]
  rfl
theorem sameT {K : PySem.W.Frag} {H H' : Hp} {a : Addr} {xs : List V} (e : Same H H') (h : SqT K H a xs) : SqT K H' a xs := by
  rcases h with (h | ⟨o, h⟩) | h
  · exact .inl (.inl (e _ _ h))
  · exact .inl (.inr ⟨o, e _ _ h⟩)
  · exact .inr h
theorem tyL {K : PySem.W.Frag} {H : Hp} {a : Addr} {xs : List V} (h : SqL K H a xs) : TyX K H (.ref a) (.type "list") := by
  rcases h with (h | ⟨o, h⟩) | ⟨o, its, n, h, hc, _⟩
  · exact .base (.lst h)
  · exact .base (.frz h)
  · exact .kList h hc
theorem tyT {K : PySem.W.Frag} {H : Hp} {a : Addr} {xs : List V} (h : SqT K H a xs) : TyX K H (.ref a) (.type "tuple") := by
  rcases h with (h | ⟨o, h⟩) | ⟨o, its, n, h, hc, _⟩
  · exact .base (.tup h)
  · exact .fTuple h
  · exact .kTuple h hc
theorem line6 {n : Nat} (h : n ≤ 1000000) : n < sizeLine := by
  rw [sizeLine_eq]
  omega
theorem free_same {H H' : Hp} (e : Same H H') {p : Addr} (h : H' p = none) : H p = none := e.free h
end Nz
namespace Qw
open PySem PySem.Spec PyProof.Rows L2 Nz
open Evl (Ex)
variable {X : Cx} {K : PySem.W.Frag} {I I' I1 I2 H H' H1 H2 I0 H0 : Hp} {e : En} {σ : L2.St}
theorem sqL_of {p : Addr} {xs : List V} (h : H p = some (.lst xs)) : SqL K H p xs := .inl (.inl h)
/-- lists and tuples alike -/
theorem isSeqW {ws : List W} {w : W} {v : V} (hw : w = .lst ws ∨ w = .tup ws ∨ w = .klst ws) (h : IsW K I w v) : ∃ p vs, v = .ref p ∧ (SqL K I p vs ∨ SqT K I p vs) ∧ IsWs K I ws vs := by
  rcases hw with rfl | rfl | rfl <;> simp only [IsW] at h <;> obtain ⟨p, vs, rfl, h, r⟩ := h
  · exact ⟨p, vs, rfl, .inl (sqL_of h), r⟩
  · exact ⟨p, vs, rfl, .inr (sqT_of h), r⟩
  · exact ⟨p, vs, rfl, .inl h, r⟩
/-! ### + * with texts, lists, tuples -/
def addW : W → W → Option SV
  | .int i, .int j => some (.imm (.int (i + j)))
  | .str a, .str b => if a.length + b.length ≤ sizeLine then some (.imm (.str (a ++ b))) else none
  | .lst a, .lst b => if a.length + b.length ≤ sizeLine then some (.own (.lst (a ++ b))) else none
  | .tup a, .tup b => if a.length + b.length ≤ sizeLine then some (.imm (.tup (a ++ b))) else none
  | _, _ => none
theorem br_add : BinR K (rAd K) addW := by
  intro I H a b x y sv Q ex ra rb ho k
  cases a <;> cases b <;> try (cases ho; done)
  · cases ho
    rw [isInt] at ra rb
    exact .inl ⟨_, _, ra, rb, k _ _ _ (Ext.refl ex) (by simp [Res, IsW])⟩
  · simp only [addW] at ho
    split at ho
    next h =>
      cases ho
      rw [isStr] at ra rb
      exact .inr (.inl ⟨_, _, ra, rb, h, k _ _ _ (Ext.refl ex) (by simp [Res, IsW])⟩)
    next => cases ho
  · simp only [addW] at ho
    split at ho
    next h =>
      cases ho
      have ra' := IsW.mono ex ra
      have rb' := IsW.mono ex rb
      simp only [IsW] at ra rb ra' rb'
      obtain ⟨p, vs, rfl, hp, rp⟩ := ra
      obtain ⟨q, us, rfl, hq, rq⟩ := rb
      refine .inr (.inr (.inr ⟨p, q, vs, us, rfl, rfl, sqT_of (ex _ _ hp), sqT_of (ex _ _ hq), by rw [← rp.len, ← rq.len]; exact h, fun z => ?_, fun _ z => ?_, fun _ _ l hl => ?_⟩))
      · subst z
        have e1 := rp.len
        rename_i ws us'
        cases ws with
        | nil => exact k _ _ _ (Ext.refl ex) (by simp only [Res, IsW]; exact ⟨q, us, rfl, hq, rq⟩)
        | cons _ _ => simp at e1
      · subst z
        have e1 := rq.len
        rename_i ws us' _
        cases us' with
        | nil => exact k _ _ _ (Ext.refl ex) (by simp only [Res, IsW, List.append_nil]; exact ⟨p, vs, rfl, hp, rp⟩)
        | cons _ _ => simp at e1
      · refine k (upd I l (.tup (vs ++ us))) _ _ ((Ext.refl ex).new hl) ?_
        have hi : I l = none := Evl.fresh_back ex hl
        simp only [Res, IsW]
        exact ⟨l, vs ++ us, rfl, upd_same, (rp.append rq).mono (Ex.new hi)⟩
    next => cases ho
  · simp only [addW] at ho
    split at ho
    next h =>
      cases ho
      simp only [IsW] at ra rb
      obtain ⟨p, vs, rfl, hp, rp⟩ := ra
      obtain ⟨q, us, rfl, hq, rq⟩ := rb
      refine .inr (.inr (.inl ⟨p, q, vs, us, rfl, rfl, ex _ _ hp, ex _ _ hq, by rw [← rp.len, ← rq.len]; exact h, fun l hl => ?_⟩))
      have hi : I l = none := Evl.fresh_back ex hl
      exact k I _ _ ((Ext.refl ex).newOwn hl) ⟨l, rfl, hi, hl, vs ++ us, upd_same, rp.append rq⟩
    next => cases ho
/-- a list n times -/
def repW : W → W → Option SV
  | .lst a, .int k => if -(2 ^ 63) ≤ k ∧ k < 2 ^ 63 ∧ a.length * k.toNat ≤ sizeLine then some (.own (.lst (List.replicate k.toNat a).flatten)) else none
  | _, _ => none
theorem isWs_rep {ws : List W} {vs : List V} (h : IsWs K I ws vs) : ∀ n : Nat, IsWs K I (List.replicate n ws).flatten (List.replicate n vs).flatten
  | 0 => IsWs.nil
  | n + 1 => by
    rw [List.replicate_succ, List.replicate_succ, List.flatten_cons, List.flatten_cons]
    exact h.append (isWs_rep h n)
theorem br_rep : BinR K rRep repW := by
  intro I H a b x y sv Q ex ra rb ho k
  cases a <;> cases b <;> try (cases ho; done)
  simp only [repW] at ho
  split at ho
  next h =>
    cases ho
    rw [isInt] at rb
    simp only [IsW] at ra
    obtain ⟨p, vs, rfl, hp, rp⟩ := ra
    refine ⟨p, _, vs, rfl, rb, ex _ _ hp, h.1, h.2.1, by rw [← rp.len]; exact h.2.2, fun l hl => ?_⟩
    have hi : I l = none := Evl.fresh_back ex hl
    exact k I _ _ ((Ext.refl ex).newOwn hl) ⟨l, rfl, hi, hl, _, upd_same, isWs_rep rp _⟩
  next => cases ho
/-! ### comparisons -/
def cmpI (p : Int → Int → Bool) : W → W → Option W
  | .int i, .int j => some (.bl (p i j))
  | _, _ => none
theorem bv_cmpI {p : Int → Int → Bool} : BinV K (rI0 fun i j => .bl (p i j)) (cmpI p) := by
  intro I H a b x y w Q ex ra rb ho k
  cases a <;> cases b <;> try (cases ho; done)
  cases ho
  rw [isInt] at ra rb
  exact ⟨_, _, ra, rb, k _ _ _ (Ext.refl ex) (isBl.mpr rfl)⟩
mutual
def toD : W → Option PyData
  | .non => some .none
  | .bl b => some (.bool b)
  | .int i => some (.int i)
  | .str s => some (.str s)
  | .tup ws => (toDs ws).map .tuple
  | .lst ws => (toDs ws).map .list
  | .klst ws => (toDs ws).map .list
  | _ => none
def toDs : List W → Option (List PyData)
  | [] => some []
  | w :: ws => match toD w with
    | some d => (match toDs ws with
      | some ds => some (d :: ds)
      | none => none)
    | none => none
end
set_option maxHeartbeats 2000000 in
mutual
theorem toD_dp : ∀ {w : W} {v : V} {d : PyData}, IsW K I w v → toD w = some d → Dp K I v d
  | .non, _, _, h, e => by simp only [toD, Option.some.injEq] at e; subst e; rw [isNon] at h; subst h; exact .non
  | .bl b, _, _, h, e => by simp only [toD, Option.some.injEq] at e; subst e; rw [isBl] at h; subst h; exact .bl _
  | .int b, _, _, h, e => by simp only [toD, Option.some.injEq] at e; subst e; rw [isInt] at h; subst h; exact .int _
  | .str b, _, _, h, e => by simp only [toD, Option.some.injEq] at e; subst e; rw [isStr] at h; subst h; exact .str _
  | .tup ws, _, _, h, e => by
    simp only [toD] at e
    simp only [IsW] at h
    obtain ⟨p, vs, rfl, hp, r⟩ := h
    cases q : toDs ws with
    | none => rw [q] at e; cases e
    | some ds => rw [q] at e; cases e; exact .tup (sqT_of hp) (toDs_dp r q)
  | .lst ws, _, _, h, e => by
    simp only [toD] at e
    simp only [IsW] at h
    obtain ⟨p, vs, rfl, hp, r⟩ := h
    cases q : toDs ws with
    | none => rw [q] at e; cases e
    | some ds => rw [q] at e; cases e; exact .lst (sqL_of hp) (toDs_dp r q)
  | .klst ws, _, _, h, e => by
    simp only [toD] at e
    simp only [IsW] at h
    obtain ⟨p, vs, rfl, hp, r⟩ := h
    cases q : toDs ws with
    | none => rw [q] at e; cases e
    | some ds => rw [q] at e; cases e; exact .lst hp (toDs_dp r q)
  | .ins _ _ _, _, _, _, e => by simp [toD] at e
  | .ktup _, _, _, _, e => by simp [toD] at e
  | .dct _ _ _, _, _, _, e => by simp [toD] at e
  | .opq _, _, _, _, e => by simp [toD] at e
theorem toDs_dp : ∀ {ws : List W} {vs : List V} {ds : List PyData}, IsWs K I ws vs → toDs ws = some ds → DpAll K I vs ds
  | [], _, _, h, e => by simp only [toDs, Option.some.injEq] at e; subst e; simp only [IsWs] at h; subst h; exact .nil
  | w :: ws, _, _, h, e => by
    simp only [toDs] at e
    simp only [IsWs] at h
    obtain ⟨v, r, rfl, h1, h2⟩ := h
    split at e
    next d hd =>
      split at e
      next ds hds => cases e; exact .cons (toD_dp h1 hd) (toDs_dp h2 hds)
      next => cases e
    next => cases e
end
def eqB : W → W → Option Bool
  | .int i, .int j => some (decide (i = j))
  | .str i, .str j => some (decide (i = j))
  | .bl i, .bl j => some (decide (i = j))
  | a, b => match toD a with
    | some d => (match toD b with
      | some d' => if SeqAt.shaped d = true ∧ SeqAt.shaped d' = true then some (PyData.eqv d d') else none
      | none => none)
    | none => none
def eqW (a b : W) : Option W := (eqB a b).map .bl
def neW (a b : W) : Option W := (eqB a b).map fun c => .bl (!c)
theorem eqB_use {a b : W} {x y : V} {c : Bool} (ra : IsW K I a x) (rb : IsW K I b y) (ho : eqB a b = some c) : (scal x y = true ∧ c = decide (x = y)) ∨ ∃ d d', Dp K I x d ∧ Dp K I y d' ∧ SeqAt.shaped d = true ∧ SeqAt.shaped d' = true ∧ c = PyData.eqv d d' := by
  unfold eqB at ho
  split at ho
  · cases ho; rw [isInt] at ra rb; subst ra rb; exact .inl ⟨rfl, by simp⟩
  · cases ho; rw [isStr] at ra rb; subst ra rb; exact .inl ⟨rfl, by simp⟩
  · cases ho; rw [isBl] at ra rb; subst ra rb; exact .inl ⟨rfl, by simp⟩
  · split at ho
    next d hd =>
      split at ho
      next d' hd' =>
        split at ho
        next h => cases ho; exact .inr ⟨d, d', toD_dp ra hd, toD_dp rb hd', h.1, h.2, rfl⟩
        next => cases ho
      next => cases ho
    next => cases ho
theorem bv_eq : BinV K (rEqA K) eqW := by
  intro I H a b x y w Q ex ra rb ho k
  unfold eqW at ho
  cases q : eqB a b with
  | none => rw [q] at ho; cases ho
  | some c =>
    rw [q] at ho
    cases ho
    rcases eqB_use (IsW.mono ex ra) (IsW.mono ex rb) q with ⟨h1, rfl⟩ | ⟨d, d', h1, h2, h3, h4, rfl⟩
    · exact .inl ⟨h1, k _ _ _ (Ext.refl ex) (isBl.mpr rfl)⟩
    · exact .inr ⟨d, d', h1, h2, h3, h4, k _ _ _ (Ext.refl ex) (isBl.mpr rfl)⟩
theorem bv_ne : BinV K (rNeA K) neW := by
  intro I H a b x y w Q ex ra rb ho k
  unfold neW at ho
  cases q : eqB a b with
  | none => rw [q] at ho; cases ho
  | some c =>
    rw [q] at ho
    cases ho
    rcases eqB_use (IsW.mono ex ra) (IsW.mono ex rb) q with ⟨h1, rfl⟩ | ⟨d, d', h1, h2, h3, h4, rfl⟩
    · exact .inl ⟨h1, k _ _ _ (Ext.refl ex) (isBl.mpr rfl)⟩
    · exact .inr ⟨d, d', h1, h2, h3, h4, k _ _ _ (Ext.refl ex) (isBl.mpr rfl)⟩
/-! ### is None, is False -/
def isNonW : W → W → Option W
  | .opq _, _ => none
  | a, .non => some (.bl (match a with
    | .non => true
    | _ => false))
  | .bl a, .bl b => some (.bl (decide (a = b)))
  | _, _ => none
def rIsNB : R2 := fun x y H Q => (y = .non ∧ Q (.bl (decide (x = .non))) H) ∨ rIsB x y H Q
theorem op_isNB : OpR X (compareOp .Is) rIsNB := or_op op_isN op_isBl
def rNotNB : R2 := fun x y H Q => (y = .non ∧ Q (.bl (!decide (x = .non))) H) ∨ rNotB x y H Q
theorem op_notNB : OpR X (compareOp .IsNot) rNotNB := or_op op_notN op_notBl
theorem isNon_dec {w : W} {v : V} (h : IsW K I w v) (hw : ∀ x, w ≠ .opq x) : decide (v = .non) = (match w with
    | .non => true
    | _ => false) := by
  cases w <;> simp only [IsW] at h
  all_goals first
    | (obtain ⟨_, _, rfl, _⟩ := h; rfl)
    | (obtain ⟨_, _, _, rfl, _⟩ := h; rfl)
    | (obtain ⟨_, _, _, _, rfl, _⟩ := h; rfl)
    | (obtain ⟨rfl, _⟩ := h; rfl)
    | (subst h; rfl)
    | exact absurd rfl (hw _)
theorem bv_isN : BinV K rIsNB isNonW := by
  intro I H a b x y w Q ex ra rb ho k
  cases b with
  | non =>
    rw [isNon] at rb
    by_cases hop : ∃ z, a = .opq z
    · obtain ⟨z, rfl⟩ := hop
      cases ho
    · have e := isNon_dec ra fun z q => hop ⟨z, q⟩
      refine .inl ⟨rb, ?_⟩
      rw [e]
      cases a <;> first | (cases ho; done) | (cases ho; exact k _ _ _ (Ext.refl ex) (isBl.mpr rfl))
  | bl b =>
    cases a <;> try (cases ho; done)
    cases ho
    rw [isBl] at ra rb
    exact .inr ⟨_, _, ra, rb, k _ _ _ (Ext.refl ex) (isBl.mpr rfl)⟩
  | _ => cases a <;> exact nomatch ho
def notNonW (a b : W) : Option W := match isNonW a b with
  | some (.bl c) => some (.bl (!c))
  | _ => none
theorem bv_notN : BinV K rNotNB notNonW := by
  intro I H a b x y w Q ex ra rb ho k
  cases b with
  | non =>
    rw [isNon] at rb
    by_cases hop : ∃ z, a = .opq z
    · obtain ⟨z, rfl⟩ := hop
      cases ho
    · have e := isNon_dec ra fun z q => hop ⟨z, q⟩
      refine .inl ⟨rb, ?_⟩
      rw [e]
      cases a <;> first | (cases ho; done) | (cases ho; exact k _ _ _ (Ext.refl ex) (isBl.mpr rfl))
  | bl b =>
    cases a <;> try (cases ho; done)
    cases ho
    rw [isBl] at ra rb
    exact .inr ⟨_, _, ra, rb, k _ _ _ (Ext.refl ex) (isBl.mpr rfl)⟩
  | _ => cases a <;> exact nomatch ho
/-! ### in -/
def toV : W → V
  | .bl b => .bl b
  | .int i => .int i
  | .str s => .str s
  | _ => .non
theorem flat_toV {w : W} {v : V} (h : IsW K I w v) (f : flatW w = true) : v = toV w ∧ flatV v = true := by
  cases w <;> simp only [IsW] at h <;> try (exact absurd f Bool.false_ne_true)
  all_goals (subst h; exact ⟨rfl, rfl⟩)
theorem flat_toVs : ∀ {ws : List W} {vs : List V}, IsWs K I ws vs → ws.all flatW = true → vs = ws.map toV ∧ vs.all flatV = true
  | [], _, h, _ => by simp only [IsWs] at h; subst h; exact ⟨rfl, rfl⟩
  | w :: ws, _, h, f => by
    simp only [IsWs] at h
    obtain ⟨v, r, rfl, h1, h2⟩ := h
    rw [List.all_cons, Bool.and_eq_true] at f
    obtain ⟨a1, a2⟩ := flat_toV h1 f.1
    obtain ⟨b1, b2⟩ := flat_toVs h2 f.2
    refine ⟨by rw [a1, b1]; rfl, ?_⟩
    rw [List.all_cons, a2, b2]
    rfl
def inStr (i j : Str) : Bool := match i.cps.toList with
  | [c] => decide (c ∈ j.cps.toList)
  | _ => !(Builtin.Str.occurrences j i 0 j.length 1).isEmpty
def inSeq (a : W) (ws : List W) : Option Bool := if flatW a = true ∧ ws.all flatW = true then some (inV (toV a) (ws.map toV)) else none
def inB : W → W → Option Bool
  | a, .lst ws => inSeq a ws
  | a, .tup ws => inSeq a ws
  | a, .klst ws => inSeq a ws
  | a, .ktup ws => inSeq a ws
  | .str i, .str j => some (inStr i j)
  | _, _ => none
def inW (a b : W) : Option W := (inB a b).map .bl
def notInW (a b : W) : Option W := (inB a b).map fun c => .bl (!c)
def rInA (K : PySem.W.Frag) (neg : Bool) : R2 := fun x y H Q => rIn K neg x y H Q ∨ (∃ (c : Nat) (z : Str), x = .str ⟨#[c]⟩ ∧ y = .str z ∧ Q (.bl (if neg then !decide (c ∈ z.cps.toList) else decide (c ∈ z.cps.toList))) H) ∨
  ∃ i j : Str, x = .str i ∧ y = .str j ∧ Q (.bl (if neg then !(!(Builtin.Str.occurrences j i 0 j.length 1).isEmpty) else !(Builtin.Str.occurrences j i 0 j.length 1).isEmpty)) H
theorem op_inA : OpR X (compareOp .In) (rInA X.K false) := or_op op_in_seq (or_op op_in_sign op_in_str)
theorem op_notInA : OpR X (compareOp .NotIn) (rInA X.K true) := or_op op_notIn_seq (or_op op_notIn_sign op_notIn_str)
theorem str_one {i : Str} {c : Nat} (h : i.cps.toList = [c]) : i = ⟨#[c]⟩ := by
  obtain ⟨⟨l⟩⟩ := i
  have e : l = [c] := h
  rw [e]
theorem inB_use {neg : Bool} {a b : W} {x y : V} {c : Bool} {Q : VK} (ex : Ex I H) (ra : IsW K I a x) (rb : IsW K I b y) (ho : inB a b = some c) (k : Q (.bl (if neg then !c else c)) H) : rInA K neg x y H Q := by
  have sq : ∀ ws : List W, (b = .lst ws ∨ b = .tup ws ∨ b = .klst ws) → inSeq a ws = some c → rInA K neg x y H Q := fun ws hb ho => by
    obtain ⟨p, vs, rfl, hp, r⟩ := isSeqW hb rb
    unfold inSeq at ho
    split at ho
    next h =>
      cases ho
      obtain ⟨e1, e2⟩ := flat_toV ra h.1
      obtain ⟨e3, e4⟩ := flat_toVs r h.2
      refine .inl ⟨p, vs, rfl, hp.imp (Evl.ex_l ex) (Evl.ex_t ex), e2, e4, ?_⟩
      rw [e3, e1]
      exact k
    next => cases ho
  unfold inB at ho
  split at ho
  · exact sq _ (.inl rfl) ho
  · exact sq _ (.inr (.inl rfl)) ho
  · exact sq _ (.inr (.inr rfl)) ho
  · next ws =>
    simp only [IsW] at rb
    obtain ⟨p, vs, rfl, hp, r⟩ := rb
    unfold inSeq at ho
    split at ho
    next h =>
      cases ho
      obtain ⟨e1, e2⟩ := flat_toV ra h.1
      obtain ⟨e3, e4⟩ := flat_toVs r h.2
      refine .inl ⟨p, vs, rfl, .inr (Evl.ex_t ex hp), e2, e4, ?_⟩
      rw [e3, e1]
      exact k
    next => cases ho
  · next i j =>
    cases ho
    rw [isStr] at ra rb
    subst ra rb
    by_cases hc : ∃ c, i.cps.toList = [c]
    · obtain ⟨c, hc⟩ := hc
      have e : inStr i j = decide (c ∈ j.cps.toList) := by
        unfold inStr
        rw [hc]
      rw [e] at k
      exact .inr (.inl ⟨c, _, by rw [str_one hc], rfl, k⟩)
    · have e : inStr i j = !(Builtin.Str.occurrences j i 0 j.length 1).isEmpty := by
        unfold inStr
        split
        next c q => exact absurd ⟨c, q⟩ hc
        next => rfl
      rw [e] at k
      exact .inr (.inr ⟨_, _, rfl, rfl, k⟩)
  · cases ho
theorem bv_in : BinV K (rInA K false) inW := by
  intro I H a b x y w Q ex ra rb ho k
  unfold inW at ho
  cases q : inB a b with
  | none => rw [q] at ho; cases ho
  | some c => rw [q] at ho; cases ho; exact inB_use ex ra rb q (k _ _ _ (Ext.refl ex) (isBl.mpr rfl))
theorem bv_notIn : BinV K (rInA K true) notInW := by
  intro I H a b x y w Q ex ra rb ho k
  unfold notInW at ho
  cases q : inB a b with
  | none => rw [q] at ho; cases ho
  | some c => rw [q] at ho; cases ho; exact inB_use ex ra rb q (k _ _ _ (Ext.refl ex) (isBl.mpr rfl))
/-! ### subscripts -/
def ixW : W → W → Option W
  | .lst ws, .int i => atI ws i
  | .tup ws, .int i => atI ws i
  | .klst ws, .int i => atI ws i
  | .ktup ws, .int i => atI ws i
  | .str z, .int i => if z.length ≤ sizeLine then (atI z.cps.toList i).map fun c => .str ⟨#[c]⟩ else none
  | _, _ => none
def rIxA (K : PySem.W.Frag) : R2 := fun x y H Q => rIxL K x y H Q ∨ rIxT K x y H Q ∨ rIxS x y H Q
theorem ix_any : IxR X (rIxA X.K) := ix_list.or (ix_tup.or ix_str)
theorem atI_ws {ws : List W} {vs : List V} {i : Int} {w : W} (h : IsWs K I ws vs) (e : atI ws i = some w) : ∃ v, atI vs i = some v ∧ IsW K I w v := by
  unfold atI at e ⊢
  rw [← h.len]
  cases q : ixN ws.length i with
  | none => rw [q] at e; cases e
  | some j =>
    rw [q] at e
    exact h.get e
theorem bv_ix : BinV K (rIxA K) ixW := by
  intro I H a b x y w Q ex ra rb ho k
  unfold ixW at ho
  split at ho
  · simp only [IsW] at ra
    obtain ⟨p, vs, rfl, hp, r⟩ := ra
    rw [isInt] at rb
    obtain ⟨v, h1, h2⟩ := atI_ws r ho
    exact .inl ⟨p, vs, _, v, rfl, rb, sqL_of (ex _ _ hp), h1, k _ _ _ (Ext.refl ex) h2⟩
  · simp only [IsW] at ra
    obtain ⟨p, vs, rfl, hp, r⟩ := ra
    rw [isInt] at rb
    obtain ⟨v, h1, h2⟩ := atI_ws r ho
    exact .inr (.inl ⟨p, vs, _, v, rfl, rb, sqT_of (ex _ _ hp), h1, k _ _ _ (Ext.refl ex) h2⟩)
  · simp only [IsW] at ra
    obtain ⟨p, vs, rfl, hp, r⟩ := ra
    rw [isInt] at rb
    obtain ⟨v, h1, h2⟩ := atI_ws r ho
    exact .inl ⟨p, vs, _, v, rfl, rb, Evl.ex_l ex hp, h1, k _ _ _ (Ext.refl ex) h2⟩
  · simp only [IsW] at ra
    obtain ⟨p, vs, rfl, hp, r⟩ := ra
    rw [isInt] at rb
    obtain ⟨v, h1, h2⟩ := atI_ws r ho
    exact .inr (.inl ⟨p, vs, _, v, rfl, rb, Evl.ex_t ex hp, h1, k _ _ _ (Ext.refl ex) h2⟩)
  · split at ho
    next hz =>
      rw [isStr] at ra
      rw [isInt] at rb
      rename_i z i
      cases q : atI z.cps.toList i with
      | none => rw [q] at ho; cases ho
      | some c =>
        rw [q] at ho
        cases ho
        exact .inr (.inr ⟨z, i, c, ra, rb, hz, q, k _ _ _ (Ext.refl ex) (isStr.mpr rfl)⟩)
    next => cases ho
  · cases ho
theorem qix {a b : Expr} {f g : En → Option W} {pos : Pos} (ha : PE X a (tW X.K f)) (hb : PE X b (tW X.K g)) (hs : PlainIx b := by intro _ _; rfl) : PE X (.Subscript a b pos) (tW X.K (fBin ixW f g)) :=
  pe_imp (pe_ix ix_any ha hb hs) fun _ _ _ => binV_use bv_ix
/-! ### slices -/
def cutW (ws : List W) (lo hi : Option Int) : List W := (ws.drop (HT.sIx ws.length 0 lo)).take (HT.sIx ws.length ws.length hi - HT.sIx ws.length 0 lo)
def slW : W → Option Int → Option Int → Option SV
  | .lst ws, lo, hi => some (.own (.lst (cutW ws lo hi)))
  | .klst ws, lo, hi => some (.own (.lst (cutW ws lo hi)))
  | .tup ws, lo, hi => some (.imm (.tup (cutW ws lo hi)))
  | .ktup ws, lo, hi => some (.imm (.ktup (cutW ws lo hi)))
  | .str z, lo, hi => if z.length ≤ sizeLine then some (.imm (.str (cutS z lo hi))) else none
  | _, _, _ => none
theorem isWs_cut {ws : List W} {vs : List V} {lo hi : Option Int} (h : IsWs K I ws vs) : IsWs K I (cutW ws lo hi) (cutV vs lo hi) := by
  unfold cutW cutV
  rw [h.len]
  exact (h.drop _).take _
theorem qsl {a : Expr} {lo hi : Option Expr} {f : En → Option W} {g h : En → Option (Option Int)} {pos p2 : Pos} (ha : PE X a (tW X.K f)) (hl : PO X lo (tO X.K g)) (hh : PO X hi (tO X.K h)) :
    PE X (.Subscript a (.Slice lo hi none p2) pos) (tR X.K (fSl slW f g h)) := pe_imp (pe_slice (r := rSl X.K) sl_any ha hl hh) fun σ H Q ⟨I0, H0, I, e, sv, S, hf, k⟩ => by
  unfold fSl at hf
  split at hf
  next w hw =>
    split at hf
    next l hl =>
      split at hf
      next u hu =>
        refine ⟨I0, H0, I, e, w, S, hw, fun I1 H1 x x1 r1 => ⟨I0, H0, I1, e, l, S.mono x1, hl, fun I2 H2 x2 => ⟨I0, H0, I2, e, u, S.mono (x1.trans x2), hu, fun I3 H3 x3 => ?_⟩⟩⟩
        have X13 := x2.trans x3
        have XX := x1.trans X13
        have r3 := IsW.mono X13.i r1
        unfold slW at hf
        split at hf
        · cases hf
          simp only [IsW] at r3
          obtain ⟨p, vs, rfl, hp, r⟩ := r3
          refine .inl ⟨p, vs, rfl, sqL_of (XX.ih _ _ hp), fun q hq => ?_⟩
          exact k _ _ _ (XX.newOwn hq) ⟨q, rfl, Evl.fresh_back XX.ih hq, Evl.fresh_back XX.h hq, _, upd_same, isWs_cut r⟩
        · cases hf
          simp only [IsW] at r3
          obtain ⟨p, vs, rfl, hp, r⟩ := r3
          refine .inl ⟨p, vs, rfl, Evl.ex_l XX.ih hp, fun q hq => ?_⟩
          exact k _ _ _ (XX.newOwn hq) ⟨q, rfl, Evl.fresh_back XX.ih hq, Evl.fresh_back XX.h hq, _, upd_same, isWs_cut r⟩
        · cases hf
          simp only [IsW] at r3
          obtain ⟨p, vs, rfl, hp, r⟩ := r3
          refine .inr (.inl ⟨p, vs, rfl, sqT_of (XX.ih _ _ hp), fun z => ?_, fun _ q hq => ?_⟩)
          · refine k _ _ _ XX ?_
            simp only [Res, IsW]
            refine ⟨p, vs, rfl, hp, ?_⟩
            have e := isWs_cut (lo := l) (hi := u) r
            have e2 : cutV vs l u = vs := by
              unfold cutV
              rw [z.1, z.2]
              simp
            rw [e2] at e
            exact e
          · refine k _ _ _ (XX.new hq) ?_
            simp only [Res, IsW]
            exact ⟨q, _, rfl, upd_same, (isWs_cut r).mono (Ex.new (Evl.fresh_back XX.ih hq))⟩
        · cases hf
          simp only [IsW] at r3
          obtain ⟨p, vs, rfl, hp, r⟩ := r3
          refine .inr (.inl ⟨p, vs, rfl, Evl.ex_t XX.ih hp, fun z => ?_, fun _ q hq => ?_⟩)
          · refine k _ _ _ XX ?_
            simp only [Res, IsW]
            refine ⟨p, vs, rfl, hp, ?_⟩
            have e := isWs_cut (lo := l) (hi := u) r
            have e2 : cutV vs l u = vs := by
              unfold cutV
              rw [z.1, z.2]
              simp
            rw [e2] at e
            exact e
          · refine k _ _ _ (XX.new hq) ?_
            simp only [Res, IsW]
            exact ⟨q, _, rfl, sqT_of upd_same, (isWs_cut r).mono (Ex.new (Evl.fresh_back XX.ih hq))⟩
        · split at hf
          next hz =>
            cases hf
            rw [isStr] at r3
            subst r3
            exact .inr (.inr ⟨_, rfl, hz, k _ _ _ XX (by simp [Res, IsW])⟩)
          next => cases hf
        · cases hf
      next => cases hf
    next => cases hf
  next => cases hf
theorem IsW.cons' {w : W} {v : V} {ws : List W} {vs : List V} (h : IsW K I w v) (t : IsWs K I ws vs) : IsWs K I (w :: ws) (v :: vs) := IsWs.cons h t
theorem qno : PO X none (tO X.K fNone) := po_imp po_none fun σ H Q ⟨I0, H0, I, e, o, S, hf, k⟩ => by
  cases hf
  exact k _ _ S.ref
theorem qso {a : Expr} {f : En → Option W} (ha : PE X a (tW X.K f)) : PO X (some a) (tO X.K (fSome f)) := po_imp (po_some ha) fun σ H Q ⟨I0, H0, I, e, o, S, hf, k⟩ => by
  unfold fSome at hf
  split at hf
  next i hi =>
    cases hf
    refine ⟨I0, H0, I, e, _, S, hi, fun I' H' v x r => ?_⟩
    rw [isInt] at r
    exact ⟨i, r, k _ _ x⟩
  next => cases hf
/-! ### argument lists, displays -/
theorem qnil : PA X [] (tA X.K fNil) := pa_imp pa_nil fun σ H Q ⟨I0, H0, I, e, o, S, hf, k⟩ => by
  cases hf
  exact k _ _ _ S.ref IsWs.nil
theorem qcons {a : Expr} {es : List Expr} {f : En → Option W} {g : En → Option (List W)} (ha : PE X a (tW X.K f)) (hr : PA X es (tA X.K g)) (hs : starEach (a :: es) X.env = (false, eval a X.env) :: starEach es X.env := by rfl) :
    PA X (a :: es) (tA X.K (fCons f g)) := pa_imp (pa_cons ha hr hs) fun σ H Q ⟨I0, H0, I, e, o, S, hf, k⟩ => by
  unfold fCons at hf
  split at hf
  next w hw =>
    split at hf
    next ws hws =>
      cases hf
      exact ⟨I0, H0, I, e, w, S, hw, fun I1 H1 x x1 r1 => ⟨I0, H0, I1, e, ws, S.mono x1, hws, fun I2 H2 xs x2 r2 => k _ _ _ (x1.trans x2) ((IsW.mono x2.i r1).cons' r2)⟩⟩
    next => cases hf
  next => cases hf
end Qw
namespace Qw
open PySem PySem.Spec PyProof.Rows L2 Nz
open Evl (Ex)
variable {X : Cx} {K : PySem.W.Frag} {I I' I1 I2 H H' H1 H2 I0 H0 : Hp} {e : En} {σ : L2.St}
/-! ### displays -/
def tupL (ws : List W) : Option W := if ws.length ≤ sizeLine then some (.tup ws) else none
def lstL (ws : List W) : Option SV := if ws.length ≤ sizeLine then some (.own (.lst ws)) else none
theorem qtup {es : List Expr} {x1} {pos : Pos} {f : En → Option (List W)} (h : PA X es (tA X.K f)) : PE X (.Tuple es x1 pos) (tW X.K (fCallW tupL f)) := pe_imp (pe_tup h) fun σ H Q ⟨I0, H0, I, e, w, S, hf, k⟩ => by
  unfold fCallW at hf
  split at hf
  next ws hws =>
    unfold tupL at hf
    split at hf
    next hz =>
      cases hf
      refine ⟨I0, H0, I, e, ws, S, hws, fun I1 H1 vs x1 r1 => ⟨by rw [← r1.len]; exact hz, fun p hp => ?_⟩⟩
      refine k _ _ _ (x1.new hp) ?_
      simp only [IsW]
      exact ⟨p, vs, rfl, upd_same, r1.mono (Ex.new (Evl.fresh_back x1.ih hp))⟩
    next => cases hf
  next => cases hf
theorem qlst {es : List Expr} {pos : Pos} {f : En → Option (List W)} (h : PA X es (tA X.K f)) : PE X (.List es pos) (tR X.K (fCall lstL f)) := pe_imp (pe_lst h) fun σ H Q ⟨I0, H0, I, e, w, S, hf, k⟩ => by
  unfold fCall at hf
  split at hf
  next ws hws =>
    unfold lstL at hf
    split at hf
    next hz =>
      cases hf
      refine ⟨I0, H0, I, e, ws, S, hws, fun I1 H1 vs x1 r1 => ⟨by rw [← r1.len]; exact hz, fun p hp => ?_⟩⟩
      exact k _ _ _ (x1.newOwn hp) ⟨p, rfl, Evl.fresh_back x1.ih hp, Evl.fresh_back x1.h hp, vs, upd_same, r1⟩
    next => cases hf
  next => cases hf
/-! ### calls of builtins -/
def CalV (K : PySem.W.Frag) (r : List V → Hp → VK → Prop) (o : List W → Option W) : Prop := ∀ (I H : Hp) (ws : List W) (vs : List V) (w : W) (Q : VK), Ex I H → IsWs K I ws vs → o ws = some w → (∀ I' H' v, Ext I H I' H' → IsW K I' w v → Q v H') → r vs H Q
def CalR (K : PySem.W.Frag) (r : List V → Hp → VK → Prop) (o : List W → Option SV) : Prop := ∀ (I H : Hp) (ws : List W) (vs : List V) (w : SV) (Q : VK), Ex I H → IsWs K I ws vs → o ws = some w → (∀ I' H' v, Ext I H I' H' → Res K I' H' H w v → Q v H') → r vs H Q
theorem calV_use {r : List V → Hp → VK → Prop} {o : List W → Option W} {f : En → Option (List W)} (hw : CalV K r o) {Q : VK} : tW K (fCallW o f) σ H Q → tCB r (tA K f) σ H Q := fun ⟨I0, H0, I, e, w, S, hf, k⟩ => by
  unfold fCallW at hf
  split at hf
  next ws hws => exact ⟨I0, H0, I, e, ws, S, hws, fun I1 H1 vs x1 r1 => hw I1 H1 ws vs w Q x1.ih r1 hf fun I2 H2 v x2 r2 => k _ _ _ (x1.trans x2) r2⟩
  next => cases hf
theorem calR_use {r : List V → Hp → VK → Prop} {o : List W → Option SV} {f : En → Option (List W)} (hw : CalR K r o) {Q : VK} : tR K (fCall o f) σ H Q → tCB r (tA K f) σ H Q := fun ⟨I0, H0, I, e, w, S, hf, k⟩ => by
  unfold fCall at hf
  split at hf
  next ws hws => exact ⟨I0, H0, I, e, ws, S, hws, fun I1 H1 vs x1 r1 => hw I1 H1 ws vs w Q x1.ih r1 hf fun I2 H2 v x2 r2 => k _ _ _ (x1.trans x2) (r2.weak x1.h)⟩
  next => cases hf
theorem qcB {id : String} {x : Str} {r : List V → Hp → VK → Prop} {o : List W → Option W} {f : En → Option (List W)} {a : Expr} {es : List Expr} {p pos : Pos} (hc : CallR X (.builtin id) r) (hw : CalV X.K r o) (hg : Gl X x) (hm : X.mg x = none) (hv : bootBuiltins x = some (.builtin id))
    (ha : PA X (a :: es) (tA X.K f)) (hn : x ≠ "__name__" := by decide) (hdb : (x == ("__debug__" : Str)) = false := by decide) (hs : starEach (a :: es) X.env = (false, eval a X.env) :: starEach es X.env := by rfl) (hpl : (backTo pos (starEach es X.env)).any (·.1) = false := by rfl) :
    PE X (.Call (.Name x p) (a :: es) [] pos) (tW X.K (fCallW o f)) := pe_imp (pe_callB hc hg hm hv ha hn hdb hs hpl) fun _ _ _ => calV_use hw
theorem qcT {id : String} {x : Str} {r : List V → Hp → VK → Prop} {o : List W → Option W} {f : En → Option (List W)} {a : Expr} {es : List Expr} {p pos : Pos} (hc : CallR X (.type id) r) (hw : CalV X.K r o) (hg : Gl X x) (hm : X.mg x = none) (hv : bootBuiltins x = some (.type id))
    (ha : PA X (a :: es) (tA X.K f)) (hn : x ≠ "__name__" := by decide) (hdb : (x == ("__debug__" : Str)) = false := by decide) (hs : starEach (a :: es) X.env = (false, eval a X.env) :: starEach es X.env := by rfl) (hpl : (backTo pos (starEach es X.env)).any (·.1) = false := by rfl) :
    PE X (.Call (.Name x p) (a :: es) [] pos) (tW X.K (fCallW o f)) := pe_imp (pe_callTy hc hg hm hv ha hn hdb hs hpl) fun _ _ _ => calV_use hw
theorem qcBR {id : String} {x : Str} {r : List V → Hp → VK → Prop} {o : List W → Option SV} {f : En → Option (List W)} {a : Expr} {es : List Expr} {p pos : Pos} (hc : CallR X (.builtin id) r) (hw : CalR X.K r o) (hg : Gl X x) (hm : X.mg x = none) (hv : bootBuiltins x = some (.builtin id))
    (ha : PA X (a :: es) (tA X.K f)) (hn : x ≠ "__name__" := by decide) (hdb : (x == ("__debug__" : Str)) = false := by decide) (hs : starEach (a :: es) X.env = (false, eval a X.env) :: starEach es X.env := by rfl) (hpl : (backTo pos (starEach es X.env)).any (·.1) = false := by rfl) :
    PE X (.Call (.Name x p) (a :: es) [] pos) (tR X.K (fCall o f)) := pe_imp (pe_callB hc hg hm hv ha hn hdb hs hpl) fun _ _ _ => calR_use hw
theorem qcTR {id : String} {x : Str} {r : List V → Hp → VK → Prop} {o : List W → Option SV} {f : En → Option (List W)} {a : Expr} {es : List Expr} {p pos : Pos} (hc : CallR X (.type id) r) (hw : CalR X.K r o) (hg : Gl X x) (hm : X.mg x = none) (hv : bootBuiltins x = some (.type id))
    (ha : PA X (a :: es) (tA X.K f)) (hn : x ≠ "__name__" := by decide) (hdb : (x == ("__debug__" : Str)) = false := by decide) (hs : starEach (a :: es) X.env = (false, eval a X.env) :: starEach es X.env := by rfl) (hpl : (backTo pos (starEach es X.env)).any (·.1) = false := by rfl) :
    PE X (.Call (.Name x p) (a :: es) [] pos) (tR X.K (fCall o f)) := pe_imp (pe_callTy hc hg hm hv ha hn hdb hs hpl) fun _ _ _ => calR_use hw
/-- a written type's name as a value -/
theorem qty {x : Str} {T : String} {pos : Pos} (hg : Gl X x) (hm : X.mg x = none) (hv : bootBuiltins x = some (.type T)) (hn : x ≠ "__name__" := by decide) (hd : (x == ("__debug__" : Str)) = false := by decide) : PE X (.Name x pos) (tW X.K (fC (.opq (.ty T)))) :=
  q_c (pe_bltn (v := .ty T) hg hm hv rfl hn hd) fun _ => by simp [IsW]
/-- what is wanted of one argument -/
theorem one {ws : List W} {vs : List V} {w : W} (h : IsWs K I (w :: ws) vs) : ∃ v r, vs = v :: r ∧ IsW K I w v ∧ IsWs K I ws r := by simpa only [IsWs] using h
theorem isNil {vs : List V} (h : IsWs K I [] vs) : vs = [] := by simpa only [IsWs] using h
/-- len -/
def lenW : List W → Option W
  | [.lst ws] => some (.int ws.length)
  | [.tup ws] => some (.int ws.length)
  | [.klst ws] => some (.int ws.length)
  | [.str s] => if s.length ≤ sizeLine then some (.int s.length) else none
  | _ => none
theorem cv_len : CalV K (rLn K) lenW := by
  intro I H ws vs w Q ex r ho k
  have sq : ∀ (u : W) (ys : List W), (u = .lst ys ∨ u = .tup ys ∨ u = .klst ys) → ws = [u] → w = .int ys.length → rLn K vs H Q := fun u ys hu e e2 => by
    subst e e2
    obtain ⟨v, r', rfl, h1, h2⟩ := one r
    rw [isNil h2]
    obtain ⟨p, us, rfl, hp, q⟩ := isSeqW hu h1
    refine .inl ⟨p, us, rfl, hp.imp (Evl.ex_l ex) (Evl.ex_t ex), k _ _ _ (Ext.refl ex) ?_⟩
    rw [isInt, q.len]
  unfold lenW at ho
  split at ho
  · cases ho; exact sq _ _ (.inl rfl) rfl rfl
  · cases ho; exact sq _ _ (.inr (.inl rfl)) rfl rfl
  · cases ho; exact sq _ _ (.inr (.inr rfl)) rfl rfl
  · split at ho
    next hz =>
      cases ho
      obtain ⟨v, r', rfl, h1, h2⟩ := one r
      rw [isNil h2]
      rw [isStr] at h1
      subst h1
      exact .inr ⟨_, rfl, hz, k _ _ _ (Ext.refl ex) (isInt.mpr rfl)⟩
    next => cases ho
  · cases ho
/-- int(i), int(text) -/
def intW : List W → Option W
  | [.int i] => some (.int i)
  | [.str s] => if s.length ≤ 640 then (match PySem.intText? s with
    | some n => some (.int n)
    | none => none) else none
  | _ => none
def rInt2 : List V → Hp → VK → Prop := fun vs H Q => rIntOf vs H Q ∨ ∃ a n, vs = [.str a] ∧ PySem.intText? a = some n ∧ a.length ≤ 640 ∧ Q (.int n) H
theorem c_int2 : CallR X (.type "int") rInt2 := or_call c_int call_int_str
theorem cv_int : CalV K rInt2 intW := by
  intro I H ws vs w Q ex r ho k
  unfold intW at ho
  split at ho
  · cases ho
    obtain ⟨v, r', rfl, h1, h2⟩ := one r
    rw [isNil h2]
    rw [isInt] at h1
    subst h1
    exact .inl ⟨_, rfl, k _ _ _ (Ext.refl ex) (isInt.mpr rfl)⟩
  · split at ho
    next hz =>
      split at ho
      next n hn =>
        cases ho
        obtain ⟨v, r', rfl, h1, h2⟩ := one r
        rw [isNil h2]
        rw [isStr] at h1
        subst h1
        exact .inr ⟨_, n, rfl, hn, hz, k _ _ _ (Ext.refl ex) (isInt.mpr rfl)⟩
      next => cases ho
    next => cases ho
  · cases ho
/-- str(i) -/
def strW : List W → Option W
  | [.int i] => if i.natAbs < 2 ^ 1000 then some (.str (toString i)) else none
  | _ => none
theorem cv_str : CalV K (fun xs H Q => ∃ i, xs = [.int i] ∧ i.natAbs.log2 < 1920 ∧ Q (.str (toString i)) H) strW := by
  intro I H ws vs w Q ex r ho k
  unfold strW at ho
  split at ho
  · split at ho
    next i hz =>
      cases ho
      obtain ⟨v, r', rfl, h1, h2⟩ := one r
      rw [isNil h2]
      rw [isInt] at h1
      subst h1
      refine ⟨_, rfl, ?_, k _ _ _ (Ext.refl ex) (isStr.mpr rfl)⟩
      by_cases h0 : i.natAbs = 0
      · rw [h0]; decide
      · exact Nat.lt_trans ((Nat.log2_lt h0).mpr hz) (by decide)
    next => cases ho
  · cases ho
/-- list(..), tuple(..) of a list or a tuple -/
def listW : List W → Option SV
  | [.lst ws] => some (.own (.lst ws))
  | [.tup ws] => some (.own (.lst ws))
  | [.klst ws] => some (.own (.lst ws))
  | _ => none
theorem cr_list : CalR K (rLstOf K) listW := by
  intro I H ws vs w Q ex r ho k
  have sq : ∀ (u : W) (ys : List W), (u = .lst ys ∨ u = .tup ys ∨ u = .klst ys) → ws = [u] → w = .own (.lst ys) → rLstOf K vs H Q := fun u ys hu e e2 => by
    subst e e2
    obtain ⟨v, r', rfl, h1, h2⟩ := one r
    rw [isNil h2]
    obtain ⟨p, us, rfl, hp, q⟩ := isSeqW hu h1
    exact ⟨p, us, rfl, hp.imp (Evl.ex_l ex) (Evl.ex_t ex), fun l hl => k _ _ _ ((Ext.refl ex).newOwn hl) ⟨l, rfl, Evl.fresh_back ex hl, hl, us, upd_same, q⟩⟩
  unfold listW at ho
  split at ho
  · cases ho; exact sq _ _ (.inl rfl) rfl rfl
  · cases ho; exact sq _ _ (.inr (.inl rfl)) rfl rfl
  · cases ho; exact sq _ _ (.inr (.inr rfl)) rfl rfl
  · cases ho
def tupleW : List W → Option W
  | [.lst ws] => some (.tup ws)
  | [.tup ws] => some (.tup ws)
  | [.klst ws] => some (.tup ws)
  | _ => none
theorem cv_tuple : CalV K (rTupOf K) tupleW := by
  intro I H ws vs w Q ex r ho k
  have sq : ∀ (u : W) (ys : List W), (u = .lst ys ∨ u = .klst ys) → ws = [u] → w = .tup ys → rTupOf K vs H Q := fun u ys hu e e2 => by
    subst e e2
    obtain ⟨v, r', rfl, h1, h2⟩ := one r
    rw [isNil h2]
    obtain ⟨p, us, rfl, hp, q⟩ : ∃ p us, v = .ref p ∧ SqL K I p us ∧ IsWs K I ys us := by
      rcases hu with rfl | rfl <;> simp only [IsW] at h1 <;> obtain ⟨p, us, rfl, hp, q⟩ := h1
      · exact ⟨p, us, rfl, sqL_of hp, q⟩
      · exact ⟨p, us, rfl, hp, q⟩
    refine ⟨p, us, rfl, .inl ⟨Evl.ex_l ex hp, fun l hl => k _ _ _ ((Ext.refl ex).new hl) ?_⟩⟩
    simp only [IsW]
    exact ⟨l, us, rfl, upd_same, q.mono (Ex.new (Evl.fresh_back ex hl))⟩
  unfold tupleW at ho
  split at ho
  · cases ho; exact sq _ _ (.inl rfl) rfl rfl
  · cases ho
    obtain ⟨v, r', rfl, h1, h2⟩ := one r
    rw [isNil h2]
    have h1' := h1
    simp only [IsW] at h1
    obtain ⟨p, us, rfl, hp, q⟩ := h1
    exact ⟨p, us, rfl, .inr ⟨sqT_of (ex _ _ hp), k _ _ _ (Ext.refl ex) h1'⟩⟩
  · cases ho; exact sq _ _ (.inr rfl) rfl rfl
  · cases ho
/-- all, any of a list of bools -/
def bools : List W → Option (List Bool)
  | [] => some []
  | .bl b :: ws => (match bools ws with
    | some bs => some (b :: bs)
    | none => none)
  | _ => none
theorem bools_vs : ∀ {ws : List W} {vs : List V} {bs : List Bool}, IsWs K I ws vs → bools ws = some bs → vs = bs.map V.bl
  | [], _, _, h, e => by cases e; rw [isNil h]; rfl
  | w :: ws, _, bs, h, e => by
    cases w <;> try (cases e; done)
    simp only [bools] at e
    split at e
    next b bs hb =>
      cases e
      obtain ⟨v, r, rfl, h1, h2⟩ := one h
      rw [isBl] at h1
      rw [h1, bools_vs h2 hb]
      rfl
    next => cases e
def allW : List W → Option W
  | [.lst ws] => (match bools ws with
    | some bs => some (.bl (bs.all id))
    | none => none)
  | _ => none
def anyW : List W → Option W
  | [.lst ws] => (match bools ws with
    | some bs => some (.bl (bs.any id))
    | none => none)
  | _ => none
theorem cv_all : CalV K (rAll K) allW := by
  intro I H ws vs w Q ex r ho k
  unfold allW at ho
  split at ho
  · split at ho
    next bs hb =>
      cases ho
      obtain ⟨v, r', rfl, h1, h2⟩ := one r
      rw [isNil h2]
      simp only [IsW] at h1
      obtain ⟨p, us, rfl, hp, q⟩ := h1
      have e := bools_vs q hb
      subst e
      exact ⟨p, bs, rfl, sqL_of (ex _ _ hp), k _ _ _ (Ext.refl ex) (isBl.mpr rfl)⟩
    next => cases ho
  · cases ho
theorem cv_any : CalV K (rAny K) anyW := by
  intro I H ws vs w Q ex r ho k
  unfold anyW at ho
  split at ho
  · split at ho
    next bs hb =>
      cases ho
      obtain ⟨v, r', rfl, h1, h2⟩ := one r
      rw [isNil h2]
      simp only [IsW] at h1
      obtain ⟨p, us, rfl, hp, q⟩ := h1
      have e := bools_vs q hb
      subst e
      exact ⟨p, bs, rfl, sqL_of (ex _ _ hp), k _ _ _ (Ext.refl ex) (isBl.mpr rfl)⟩
    next => cases ho
  · cases ho
/-- max, min of two ints -/
def max2W : List W → Option W
  | [.int i, .int j] => some (.int (if j > i then j else i))
  | _ => none
def min2W : List W → Option W
  | [.int i, .int j] => some (.int (if j < i then j else i))
  | _ => none
theorem cv_max2 : CalV K (fun xs H Q => ∃ i j, xs = [.int i, .int j] ∧ Q (.int (if j > i then j else i)) H) max2W := by
  intro I H ws vs w Q ex r ho k
  unfold max2W at ho
  split at ho
  · cases ho
    obtain ⟨v, r', rfl, h1, h2⟩ := one r
    obtain ⟨v', r'', rfl, h3, h4⟩ := one h2
    rw [isNil h4]
    rw [isInt] at h1 h3
    subst h1 h3
    exact ⟨_, _, rfl, k _ _ _ (Ext.refl ex) (isInt.mpr rfl)⟩
  · cases ho
theorem cv_min2 : CalV K (fun xs H Q => ∃ i j, xs = [.int i, .int j] ∧ Q (.int (if j < i then j else i)) H) min2W := by
  intro I H ws vs w Q ex r ho k
  unfold min2W at ho
  split at ho
  · cases ho
    obtain ⟨v, r', rfl, h1, h2⟩ := one r
    obtain ⟨v', r'', rfl, h3, h4⟩ := one h2
    rw [isNil h4]
    rw [isInt] at h1 h3
    subst h1 h3
    exact ⟨_, _, rfl, k _ _ _ (Ext.refl ex) (isInt.mpr rfl)⟩
  · cases ho
/-- isinstance(x, T) -/
def tyName : W → Option String
  | .non => some "NoneType"
  | .bl _ => some "bool"
  | .int _ => some "int"
  | .str _ => some "str"
  | .tup _ => some "tuple"
  | .lst _ => some "list"
  | .klst _ => some "list"
  | _ => none
theorem tyName_x {w : W} {v : V} {T : String} (h : IsW K H w v) (e : tyName w = some T) : TyX K H v (.type T) := by
  cases w <;> simp only [tyName, Option.some.injEq] at e <;> try (cases e; done)
  all_goals (subst e; simp only [IsW] at h)
  · subst h; exact .base .non
  · subst h; exact .base (.bl _)
  · subst h; exact .base (.int _)
  · subst h; exact .base (.str _)
  · obtain ⟨p, vs, rfl, hp, _⟩ := h
    exact .base (.tup hp)
  · obtain ⟨p, vs, rfl, hp, _⟩ := h
    exact .base (.lst hp)
  · obtain ⟨p, vs, rfl, hp, _⟩ := h
    rcases hp with (hp | ⟨o, hp⟩) | ⟨o, its, n, h1, h2, _⟩
    · exact .base (.lst hp)
    · exact .base (.frz hp)
    · exact .kList h1 h2
def isTy (n T : String) : Option Bool := match n, T with
  | "int", "int" => some true | "bool", "int" => some true | "str", "int" => some false | "tuple", "int" => some false | "list", "int" => some false | "NoneType", "int" => some false
  | "int", "bool" => some false | "bool", "bool" => some true | "str", "bool" => some false | "tuple", "bool" => some false | "list", "bool" => some false | "NoneType", "bool" => some false
  | "int", "str" => some false | "bool", "str" => some false | "str", "str" => some true | "tuple", "str" => some false | "list", "str" => some false | "NoneType", "str" => some false
  | "int", "tuple" => some false | "bool", "tuple" => some false | "str", "tuple" => some false | "tuple", "tuple" => some true | "list", "tuple" => some false | "NoneType", "tuple" => some false
  | "int", "list" => some false | "bool", "list" => some false | "str", "list" => some false | "tuple", "list" => some false | "list", "list" => some true | "NoneType", "list" => some false
  | _, _ => none
theorem kit_any {n T : String} {b : Bool} (h : isTy n T = some b) : PySem.W.kitOne K (.type n) (.type T) = some b := by
  unfold isTy at h
  split at h <;> first | (cases h; exact kit_ty (by decide +kernel)) | (cases h)
def isiW : List W → Option W
  | [w, .opq (.ty T)] => (match tyName w with
    | some n => (match isTy n T with
      | some b => some (.bl b)
      | none => none)
    | none => none)
  | _ => none
theorem cv_isi : CalV K (rIsi K) isiW := by
  intro I H ws vs w Q ex r ho k
  unfold isiW at ho
  split at ho
  · split at ho
    next n hn =>
      split at ho
      next b hb =>
        cases ho
        obtain ⟨v, r', rfl, h1, h2⟩ := one r
        obtain ⟨v', r'', rfl, h3, h4⟩ := one h2
        rw [isNil h4]
        simp only [IsW] at h3
        subst h3
        exact ⟨_, _, _, _, b, rfl, .ty _, tyName_x (IsW.mono ex h1) hn, kit_any hb, k _ _ _ (Ext.refl ex) (isBl.mpr rfl)⟩
      next => cases ho
    next => cases ho
  · cases ho
end Qw
namespace Qw
open PySem PySem.Spec PyProof.Rows L2 Nz
open Evl (Ex)
variable {X : Cx} {K : PySem.W.Frag} {I I' I1 I2 H H' H1 H2 I0 H0 : Hp} {e : En} {σ : L2.St}
/-! ### all slots fixed for a while -/
def fixN (e : En) : Nat → En
  | 0 => e
  | n + 1 => fixSlot (fixN e n) n
theorem fixSlot_get (e : En) (i j : Nat) : (fixSlot e i)[j]? = if j = i then (view e)[j]? else e[j]? := by
  unfold fixSlot view
  by_cases h : j = i
  · subst h
    rw [if_pos rfl, List.getElem?_map]
    split
    next w hs =>
      have hl : j < e.length := (List.getElem?_eq_some_iff.mp hs).1
      rw [List.getElem?_set_self hl, hs]
      rfl
    next hn =>
      cases q : e[j]? with
      | none => rfl
      | some o =>
        cases o with
        | none => rfl
        | some sv =>
          cases sv with
          | imm w => rfl
          | own w => exact absurd q (hn w)
  · rw [if_neg h]
    split
    next w hs => rw [List.getElem?_set_ne (Ne.symm h)]
    next => rfl
theorem view_view_get (e : En) (i : Nat) (e' : En) (h : e'[i]? = e[i]?) : (view e')[i]? = (view e)[i]? := by
  unfold view
  rw [List.getElem?_map, List.getElem?_map, h]
theorem fixN_get (e : En) (n j : Nat) : (fixN e n)[j]? = if j < n then (view e)[j]? else e[j]? := by
  induction n generalizing j with
  | zero => rw [if_neg (Nat.not_lt_zero _)]; rfl
  | succ n ih =>
    show (fixSlot (fixN e n) n)[j]? = _
    rw [fixSlot_get]
    by_cases h : j = n
    · subst h
      rw [if_pos rfl, if_pos (Nat.lt_succ_self _)]
      refine view_view_get e j _ ?_
      rw [ih, if_neg (Nat.lt_irrefl _)]
    · rw [if_neg h, ih]
      by_cases h2 : j < n
      · rw [if_pos h2, if_pos (by omega)]
      · rw [if_neg h2, if_neg (by omega)]
theorem fixN_view (e : En) : fixN e e.length = view e := by
  refine List.ext_getElem? fun j => ?_
  rw [fixN_get]
  by_cases h : j < e.length
  · rw [if_pos h]
  · rw [if_neg h]
    have h1 : e[j]? = none := List.getElem?_eq_none_iff.mpr (by omega)
    unfold view
    rw [List.getElem?_map, h1]
    rfl
theorem Sat.fixN (S : Sat K I0 H0 I e σ H) : ∀ n, ∃ I', Ex I I' ∧ Sat K I0 H0 I' (fixN e n) σ H
  | 0 => ⟨I, Ex.refl _, S⟩
  | n + 1 => by
    obtain ⟨I1, x1, S1⟩ := Sat.fixN S n
    obtain ⟨I2, x2, S2⟩ := S1.fix n
    exact ⟨I2, x1.trans x2, S2⟩
theorem Sat.view (S : Sat K I0 H0 I e σ H) : ∃ I', Ex I I' ∧ Sat K I0 H0 I' (view e) σ H := by
  have h := S.fixN e.length
  rw [fixN_view] at h
  exact h
theorem flat_any {w : W} {v : V} (f : flatW w = true) (h : IsW K I w v) : IsW K I' w v := by
  cases w <;> first | exact absurd f Bool.false_ne_true | (simp only [IsW] at h ⊢; exact h)
/-- a flat value is read while all is fixed -/
theorem qbor {ex : Expr} {f : En → Option W} (h : PE X ex (tW X.K f)) : PE X ex (tW X.K (fBor f)) := pe_imp h fun σ H Q ⟨I0, H0, I, e, w, S, hf, k⟩ => by
  unfold fBor at hf
  split at hf
  next w' hw =>
    split at hf
    next fl =>
      cases hf
      obtain ⟨J, xJ, SJ⟩ := S.view
      exact ⟨I0, H0, J, _, w, SJ, hw, fun I' H' v x r => k I H' v ⟨x.h, Ex.refl _, S.ext.trans x.h, fun _ _ => rfl⟩ (flat_any fl r)⟩
    next => cases hf
  next => cases hf
/-! ### tests -/
def truW : W → Option Bool
  | .non => some false
  | .bl b => some b
  | .int i => some (i != 0)
  | .str y => if y.length ≤ sizeLine then some ((y.length : Int) != 0) else none
  | .tup ws => some (!ws.isEmpty)
  | .lst ws => some (!ws.isEmpty)
  | .klst ws => some (!ws.isEmpty)
  | _ => none
theorem isEmp {ws : List W} {vs : List V} (h : IsWs K I ws vs) : (!ws.isEmpty) = !vs.isEmpty := by
  have e := h.len
  cases ws <;> cases vs <;> simp_all
theorem truW_x {w : W} {v : V} {b : Bool} (h : IsW K H w v) (e : truW w = some b) : TruV K v H b := by
  unfold truW at e
  split at e
  · cases e; rw [isNon] at h; subst h; rfl
  · cases e; rw [isBl] at h; subst h; rfl
  · cases e; rw [isInt] at h; subst h; rfl
  · split at e
    next hz => cases e; rw [isStr] at h; subst h; exact ⟨hz, rfl⟩
    next => cases e
  · cases e
    simp only [IsW] at h
    obtain ⟨p, vs, rfl, hp, r⟩ := h
    exact .inr (.inl ⟨vs, sqT_of hp, isEmp r⟩)
  · cases e
    simp only [IsW] at h
    obtain ⟨p, vs, rfl, hp, r⟩ := h
    exact .inl ⟨vs, sqL_of hp, isEmp r⟩
  · cases e
    simp only [IsW] at h
    obtain ⟨p, vs, rfl, hp, r⟩ := h
    exact .inl ⟨vs, hp, isEmp r⟩
  · cases e
def fTru (f : En → Option W) : En → Option Bool := fun e => match f (view e) with
  | some w => truW w
  | none => none
def fAnd (f g : En → Option Bool) : En → Option Bool := fun e => match f e with
  | some true => g e
  | r => r
def fOr (f g : En → Option Bool) : En → Option Bool := fun e => match f e with
  | some false => g e
  | r => r
def fNot (f : En → Option Bool) : En → Option Bool := fun e => match f e with
  | some b => some (!b)
  | none => none
theorem qt {a : Expr} {f : En → Option W} (ha : PE X a (tW X.K f)) (he : ∀ whole, isTrue a X.env whole = (do let v ← whole; standAt a.pos; holding [v] (truthy v)) := by exact fun _ => rfl) : PT X a (tT X.K (fTru f)) :=
  pt_imp (pt_truth ha he) fun σ H Q ⟨I0, H0, I, e, b, S, hf, k⟩ => by
    unfold fTru at hf
    split at hf
    next w hw =>
      obtain ⟨J, xJ, SJ⟩ := S.view
      exact ⟨I0, H0, J, _, w, SJ, hw, fun I' H' v x r => ⟨b, truW_x (IsW.mono x.ih r) hf, k I H' ⟨x.h, Ex.refl _, S.ext.trans x.h, fun _ _ => rfl⟩⟩⟩
    next => cases hf
/-- a comparison as a test -/
def fTst (f : En → Option W) : En → Option Bool := fun e => match f (view e) with
  | some (.bl b) => some b
  | _ => none
theorem qtc {op : CmpOp} {r : R2} {o : W → W → Option W} {a b : Expr} {f g : En → Option W} {pos : Pos} (ho : OpR X (compareOp op) r) (hw : BinV X.K r o) (ha : PE X a (tW X.K f)) (hb : PE X b (tW X.K g)) (hm : behindInMarks op b = false) :
    PT X (.Compare a [op] [b] pos) (tT X.K (fTst (fBin o f g))) := pt_imp (pt_cmpR ho ha hb hm) fun σ H Q ⟨I0, H0, I, e, b, S, hf, k⟩ => by
  unfold fTst at hf
  split at hf
  next w hw' =>
    cases hf
    obtain ⟨J, xJ, SJ⟩ := S.view
    exact binV_use hw ⟨I0, H0, J, _, _, SJ, hw', fun I' H' v x r => ⟨b, isBl.mp r, k I H' ⟨x.h, Ex.refl _, S.ext.trans x.h, fun _ _ => rfl⟩⟩⟩
  next => cases hf
theorem tT_and {f g : En → Option Bool} {Q : Bool → Hp → Prop} : tT K (fAnd f g) σ H Q → tAnd (tT K f) (tT K g) σ H Q := fun ⟨I0, H0, I, e, b, S, hf, k⟩ => by
  unfold fAnd at hf
  split at hf
  next hw => exact ⟨I0, H0, I, e, true, S, hw, fun I1 H1 x1 => iteT ⟨I0, H0, I1, e, b, S.mono x1, hf, fun I2 H2 x2 => k _ _ (x1.trans x2)⟩⟩
  next r hr =>
    cases b with
    | true => exact absurd hf hr
    | false => exact ⟨I0, H0, I, e, false, S, hf, fun I1 H1 x1 => iteF (k _ _ x1)⟩
theorem tT_or {f g : En → Option Bool} {Q : Bool → Hp → Prop} : tT K (fOr f g) σ H Q → tOr (tT K f) (tT K g) σ H Q := fun ⟨I0, H0, I, e, b, S, hf, k⟩ => by
  unfold fOr at hf
  split at hf
  next hw => exact ⟨I0, H0, I, e, false, S, hw, fun I1 H1 x1 => iteF ⟨I0, H0, I1, e, b, S.mono x1, hf, fun I2 H2 x2 => k _ _ (x1.trans x2)⟩⟩
  next r hr =>
    cases b with
    | false => exact absurd hf hr
    | true => exact ⟨I0, H0, I, e, true, S, hf, fun I1 H1 x1 => iteT (k _ _ x1)⟩
theorem pw_imp {ex : Expr} {t t' : TT} (h : PW X ex t) (k : ∀ σ H Q, t' σ H Q → t σ H Q) : PW X ex t' := ⟨fun wh pins s σ H Q I q => h.run wh pins s σ H Q I (k σ H Q q)⟩
theorem qand1 {a : Expr} {f : En → Option Bool} {pos : Pos} (ha : PT X a (tT X.K f)) : PW X (.BoolOp .And [a] pos) (tT X.K f) := pw_and1 ha
theorem qor1 {a : Expr} {f : En → Option Bool} {pos : Pos} (ha : PT X a (tT X.K f)) : PW X (.BoolOp .Or [a] pos) (tT X.K f) := pw_or1 ha
theorem qand {a b : Expr} {rest : List Expr} {f g : En → Option Bool} {pos : Pos} (ha : PT X a (tT X.K f)) (hb : PW X (.BoolOp .And (b :: rest) pos) (tT X.K g)) : PW X (.BoolOp .And (a :: b :: rest) pos) (tT X.K (fAnd f g)) :=
  pw_imp (pw_and ha hb) fun _ _ _ => tT_and
theorem qor {a b : Expr} {rest : List Expr} {f g : En → Option Bool} {pos : Pos} (ha : PT X a (tT X.K f)) (hb : PW X (.BoolOp .Or (b :: rest) pos) (tT X.K g)) : PW X (.BoolOp .Or (a :: b :: rest) pos) (tT X.K (fOr f g)) :=
  pw_imp (pw_or ha hb) fun _ _ _ => tT_or
theorem qnot {a : Expr} {f : En → Option Bool} {pos : Pos} (ha : PT X a (tT X.K f)) : PT X (.UnaryOp .Not a pos) (tT X.K (fNot f)) := pt_imp (pt_not ha) fun σ H Q ⟨I0, H0, I, e, b, S, hf, k⟩ => by
  unfold fNot at hf
  split at hf
  next c hc => cases hf; exact ⟨I0, H0, I, e, c, S, hc, fun I1 H1 x1 => k _ _ x1⟩
  next => cases hf
/-! ### and, or, not of bools, if as values -/
def fAndV (f g : En → Option W) : En → Option W := fun e => match f e with
  | some (.bl true) => g e
  | some (.bl false) => some (.bl false)
  | _ => none
def fOrV (f g : En → Option W) : En → Option W := fun e => match f e with
  | some (.bl false) => g e
  | some (.bl true) => some (.bl true)
  | _ => none
def fNotV (f : En → Option W) : En → Option W := fun e => match f e with
  | some (.bl b) => some (.bl (!b))
  | _ => none
def fIf (t : En → Option Bool) (f g : En → Option W) : En → Option W := fun e => match t e with
  | some true => f e
  | some false => g e
  | none => none
theorem qandV {a b : Expr} {rest : List Expr} {f g : En → Option W} {pos : Pos} (ha : PE X a (tW X.K f)) (hb : PE X (.BoolOp .And (b :: rest) pos) (tW X.K g)) : PE X (.BoolOp .And (a :: b :: rest) pos) (tW X.K (fAndV f g)) :=
  pe_imp (pe_and ha hb) fun σ H Q ⟨I0, H0, I, e, w, S, hf, k⟩ => by
    unfold fAndV at hf
    split at hf
    next hw => exact ⟨I0, H0, I, e, _, S, hw, fun I1 H1 v x1 r => ⟨true, isBl.mp r, iteT ⟨I0, H0, I1, e, w, S.mono x1, hf, fun I2 H2 v x2 r2 => k _ _ _ (x1.trans x2) r2⟩⟩⟩
    next hw => cases hf; exact ⟨I0, H0, I, e, _, S, hw, fun I1 H1 v x1 r => ⟨false, isBl.mp r, iteF (k _ _ _ x1 (isBl.mpr rfl))⟩⟩
    next => cases hf
theorem qorV {a b : Expr} {rest : List Expr} {f g : En → Option W} {pos : Pos} (ha : PE X a (tW X.K f)) (hb : PE X (.BoolOp .Or (b :: rest) pos) (tW X.K g)) : PE X (.BoolOp .Or (a :: b :: rest) pos) (tW X.K (fOrV f g)) :=
  pe_imp (pe_or ha hb) fun σ H Q ⟨I0, H0, I, e, w, S, hf, k⟩ => by
    unfold fOrV at hf
    split at hf
    next hw => exact ⟨I0, H0, I, e, _, S, hw, fun I1 H1 v x1 r => ⟨false, isBl.mp r, iteF ⟨I0, H0, I1, e, w, S.mono x1, hf, fun I2 H2 v x2 r2 => k _ _ _ (x1.trans x2) r2⟩⟩⟩
    next hw => cases hf; exact ⟨I0, H0, I, e, _, S, hw, fun I1 H1 v x1 r => ⟨true, isBl.mp r, iteT (k _ _ _ x1 (isBl.mpr rfl))⟩⟩
    next => cases hf
theorem qoneV {a : Expr} {op} {f : En → Option W} {pos : Pos} (ha : PE X a (tW X.K f)) : PE X (.BoolOp op [a] pos) (tW X.K f) := pe_one ha
theorem qnotV {a : Expr} {f : En → Option W} {pos : Pos} (ha : PE X a (tW X.K f)) : PE X (.UnaryOp .Not a pos) (tW X.K (fNotV f)) := pe_imp (pe_not ha) fun σ H Q ⟨I0, H0, I, e, w, S, hf, k⟩ => by
  unfold fNotV at hf
  split at hf
  next b hw => cases hf; exact ⟨I0, H0, I, e, _, S, hw, fun I1 H1 v x1 r => ⟨b, isBl.mp r, k _ _ _ x1 (isBl.mpr rfl)⟩⟩
  next => cases hf
theorem qif {c a b : Expr} {t : En → Option Bool} {f g : En → Option W} {pos : Pos} (hc : PT X c (tT X.K t)) (ha : PE X a (tW X.K f)) (hb : PE X b (tW X.K g)) : PE X (.IfExp c a b pos) (tW X.K (fIf t f g)) :=
  pe_imp (pe_ifExp hc ha hb) fun σ H Q ⟨I0, H0, I, e, w, S, hf, k⟩ => by
    unfold fIf at hf
    split at hf
    next hw => exact ⟨I0, H0, I, e, true, S, hw, fun I1 H1 x1 => iteT ⟨I0, H0, I1, e, w, S.mono x1, hf, fun I2 H2 v x2 r2 => k _ _ _ (x1.trans x2) r2⟩⟩
    next hw => exact ⟨I0, H0, I, e, false, S, hw, fun I1 H1 x1 => iteF ⟨I0, H0, I1, e, w, S.mono x1, hf, fun I2 H2 v x2 r2 => k _ _ _ (x1.trans x2) r2⟩⟩
    next => cases hf
end Qw
set_option maxHeartbeats 4000000
namespace Nz
open PySem PySem.Spec PyProof.Rows L2
abbrev Hnd := Value × (Addr → Value → Option Addr → TS)
/-- the ends of a clause's suite: the name is gone behind it -/
def Ends.off (D : Ends) (i : Nat) : Ends := ⟨fun v G => D.nx (v.set i none) G, D.rt, fun v G => D.bk (v.set i none) G, fun v G => D.ct (v.set i none) G⟩
/-- what clauses with the one name in slot i wish -/
def wClauses (K : PySem.W.Frag) (i : Nat) (W0 : WX) (D : Ends) : List Hnd → WX
  | [] => W0
  | hd :: tl => fun cls d v G => ∃ b, PySem.W.exmOne K cls hd.1 = some b ∧ (b = true → ∀ a, G a = none → hd.2 a cls d (Ends.off D i) (v.set i (some (.ref a))) G) ∧ (b = false → wClauses K i W0 D tl cls d v G)
inductive Clauses (X : Cx) (n : Str) : List ExceptHandler → List Hnd → Prop
  | nil : Clauses X n [] []
  | cons {x : Str} {c : Value} {ts : Addr → Value → Option Addr → TS} {b₁ : Stmt} {su : List Stmt} {q1 q2 : Pos} {hs : List ExceptHandler} {l : List Hnd} (hc : Names X x c)
      (hu : ∀ (a : Addr) (oe : Obj) (cls : Value) (d : Option Addr) (pn : List (Addr × Obj)), Zc cls d oe → (∃ vs, oe.data = .fields vs) → PSs (X.suite a ((a, oe) :: pn)) (b₁ :: su) (ts a cls d)) (r : Clauses X n hs l) :
      Clauses X n (.ExceptHandler (some (.Name x q1)) (some n) (b₁ :: su) q2 :: hs) ((c, ts) :: l)
section
variable {X : Cx} {n : Str} {i : Nat} {W0 : WX}
/-- the clauses, one after the other, at a caught exception -/
theorem clauses_run {pins : List (Addr × Obj)} {D : Ends} (st : X.stack = X.env :: X.outer) (fr : X.env.frame = some X.env.locals) (nd : X.N.Nodup) (at_ : X.N[i]? = some n) (lo : X.env.kindOf n = some .local)
    {a : Addr} {B : Heap} {sI : Shared} {v : L2.St} {G : Hp} {cls : Value} {d : Option Addr} {s1 : Shared} {h1 : Heap} (up : sI.heap.UpToSlots h1) (fl : HandSPX.FlyingZ B (X.env :: X.outer) a (Zc cls d) h1) (na : G a = none)
    (land : ∀ h2, B.StaysIn h2 → sI.heap.UpToSlots h2 → Inv X pins v G { s1 with heap := h2 })
    (back : ∀ h2, sI.heap.UpToSlots h2 → HandSPX.HeldZ B (X.env :: X.outer) a (Zc cls d) X.env.locals h2 → W0 cls d v G → X.xe (.ref a) { s1 with heap := h2 }) :
    ∀ {hs : List ExceptHandler} {l : List Hnd}, Clauses X n hs l → wClauses X.K i W0 D l cls d v G → wpAny (model X.prog X.w) X.A (handleBy (.ref a) X.env hs) (SP X pins D) X.xe { s1 with heap := h1 } := by
  have away : ∀ {g : Heap} {o : Obj} {ws : Array Value}, g.FunFrames B (X.env :: X.outer) → g.get? a = some o → o.data = .fields ws → a ∉ frs (X.env :: X.outer) := by
    intro g o ws ff e dd hm
    obtain ⟨_, o', e', hnf⟩ := ff.mem hm
    exact hnf ws (by rw [e] at e'; cases e'; exact dd)
  obtain ⟨oe, ws, he, hz, hd⟩ := fl.there
  have off := away fl.2.2.1 he hd
  have nL : a ≠ X.env.locals := fun z => off (List.mem_filterMap.mpr ⟨X.env, .head _, fr.trans (congrArg some z.symm)⟩)
  have nF : a ∉ X.fs := fun hm => let ⟨e, m, q⟩ := List.mem_filterMap.mp hm; off (List.mem_filterMap.mpr ⟨e, .tail _ m, q⟩)
  have J1 := land h1 fl.1 up
  have ok := J1.ok
  have S1 := J1.suite he hd na nL nF
  intro hs l hk
  induction hk with
  | nil =>
    intro w
    refine wpAny_handleBy_nil ?_
    obtain ⟨_, _, _, ob, us, T, _, _, g1, _, g3, g4, _⟩ := id fl
    unfold PySem.passOn
    refine wpAny_bind (wpAny_field g1 g3 g4 ?_)
    rw [if_neg (by simp : ¬ ((Value.ref T == Value.none) = true))]
    have out : wpAny (model X.prog X.w) X.A (setFlight (.ref a) X.env.frame) (fun _ s4 => wpAny (model X.prog X.w) X.A (throw (.ref a) : Sem Flow) (SP X pins D) X.xe s4) X.xe { s1 with heap := h1 } := by
      rw [fr]
      exact HandSPX.setFlight_upZ fl fun h4 hh4 up4 => wpAny_throw (back h4 (up.trans up4) hh4 w)
    first
      | exact wpAny_bind (wpAny_pure (wpAny_bind out))
      | exact wpAny_bind out
  | @cons x c ts b₁ su q1 q2 hs2 l2 hc hu r ih =>
    intro ⟨b, hb, yes, no⟩
    refine wpAny_handleBy_cons (codeAny_handlers_test ?_) (by intro q; cases q)
    have LT : PySem.W.Looks (model X.prog X.w) h1 (typeOf (.ref a)) cls := fun _ _ _ _ k q => wpAny_typeOf_ref (k _ _ he) (hz.1 ▸ q)
    have named : ∀ {Q : Value → Shared → Prop} {E : Value → Shared → Prop}, Q c { s1 with heap := h1 } → wpAny (model X.prog X.w) (X.A.mark (some (.ref a))) (eval (.Name x q1) X.env) Q E { s1 with heap := h1 } := by
      intro Q E q
      rcases hc with ⟨hg, hdb, hm | ⟨hm, hv, hnn⟩⟩
      · exact ld_glob (X := X.suite a ((a, oe) :: (X.pn ++ pins))) S1 hg hm q hdb
      · exact ld_blt (X := X.suite a ((a, oe) :: (X.pn ++ pins))) S1 hg hm hv q hnn hdb
    refine named ((PySem.W.exm_one J1.kIn LT hb).here ?_)
    cases b with
    | false => exact ih (no rfl)
    | true =>
      refine codeAny_handlers_suite_as (HandSPX.lands_againZ fl fun h4 fl4 up4 => ?_)
      have J4 := land h4 fl4.1 (up.trans up4)
      obtain ⟨oe4, _, he4, hz4, hd4⟩ := fl4.there
      refine store_ok (X := X.suite a ((a, oe4) :: (X.pn ++ pins))) (v := .ref a) (J4.suite he4 hd4 na nL nF) nd at_ (.inl lo) rfl (fun s5 S5 => ?_) (.inr lo)
      refine wpAny_mono ((hu a oe4 cls d (X.pn ++ pins) hz4 ⟨_, hd4⟩).run [] s5 _ G _ S5 (yes rfl a na)) (fun f s6 z => ?_) fun _ _ z => z.elim
      have bye : ∀ {v6 : L2.St} {G6 : Hp} {Q : Shared → Prop}, Inv (X.suite a ((a, oe4) :: (X.pn ++ pins))) [] v6 G6 s6 → (∀ s7, Inv X pins (v6.set i none) G6 s7 → Q s7) →
          wpAny (model X.prog X.w) X.A (do bindName X.env n .none; unbindBehindTheSuite X.env n q2) (fun _ s7 => Q s7) X.xe s6 := fun S6 k => gone_ok (S6.unsuite ok) nd at_ lo k
      cases f with
      | ret u => exact let ⟨_, _, _, S6, rr, qq⟩ := z; bye S6 fun s7 J7 => ⟨_, _, _, J7, rr, qq⟩
      | next => exact let ⟨_, _, S6, qq⟩ := z; bye S6 fun s7 J7 => ⟨_, _, J7, qq⟩
      | brk => exact let ⟨_, _, S6, qq⟩ := z; bye S6 fun s7 J7 => ⟨_, _, J7, qq⟩
      | cont => exact let ⟨_, _, S6, qq⟩ := z; bye S6 fun s7 J7 => ⟨_, _, J7, qq⟩
theorem ps_many_as {body : List Stmt} {h₀ : ExceptHandler} {hs : List ExceptHandler} {l : List Hnd} {pos : Pos} {tb : WX → TS} (st : X.stack = X.env :: X.outer) (fr : X.env.frame = some X.env.locals) (nd : X.N.Nodup) (at_ : X.N[i]? = some n) (lo : X.env.kindOf n = some .local)
    (tk : Takes X W0) (hb : ∀ (W : WX) (pn : List (Addr × Obj)) (xe : Value → Shared → Prop), Takes (X.tr pn xe) W → PassesOwn (model X.prog X.w) X.A X.env xe → PSs (X.tr pn xe) body (tb W))
    (hh : Clauses X n (h₀ :: hs) l) : PS X (.Try body (h₀ :: hs) [] [] pos) (fun D v G => tb (wClauses X.K i W0 D l) D v G) := by
  constructor
  intro pins s v G D I q
  have ok := I.ok
  refine wpAny_Try_except (wpAny_mono ((hb (wClauses X.K i W0 D l) (X.pn ++ pins) (fun e z₁ => wpAny (model X.prog X.w) X.A (noteFrame e X.env) (fun _ z₂ => wpAny (model X.prog X.w) X.A (setFlight e none)
    (fun _ z₃ => wpAny (model X.prog X.w) X.A (handleBy e X.env (h₀ :: hs)) (SP X pins D) X.xe z₃) X.xe z₂) X.xe z₁) (fun u s1 xx => ?_) PassesOwn.looking).run [] s v G D (I.toTry _) q) (fun f s1 z => ?_) fun _ _ z => z)
  · obtain ⟨a, B, sI, _, v1, G1, cls, d, rfl, J', nb, up, sky, na, os, ag, w⟩ := xx
    have J : Inv X pins v1 G1 sI := J'.ofTry ok
    refine Sky.land Zc.steady (by rw [ok.frames, st] : X.A.frames = some (X.env :: X.outer)) fr (by rw [← st]; exact sky : Sky B (X.env :: X.outer) a (Zc cls d) X.env.locals s1.heap) fun h1 fl up1 => ?_
    exact clauses_run (sI := sI) st fr nd at_ lo (up.trans up1) fl na (fun h2 k2 u2 => J.landed (s' := { s1 with heap := h2 }) nb k2 u2 os ag)
      (fun h2 u2 hh2 w2 => tk _ _ ⟨a, B, sI, pins, v1, G1, cls, d, rfl, J, nb, u2, .inr (.inr (by rw [st]; exact hh2)), na, os, ag, w2⟩) hh w
  · cases f with
    | ret u => exact let ⟨_, _, _, J1, rr, qq⟩ := z; ⟨_, _, _, J1.ofTry ok, rr, qq⟩
    | next => exact let ⟨_, _, J1, qq⟩ := z; wpAny_execs_nil ⟨_, _, J1.ofTry ok, qq⟩
    | brk => exact let ⟨_, _, J1, qq⟩ := z; ⟨_, _, J1.ofTry ok, qq⟩
    | cont => exact let ⟨_, _, J1, qq⟩ := z; ⟨_, _, J1.ofTry ok, qq⟩
end
/-! ### C.__init__(self, ..) of an own class that has none of its own: ValueError's -/
section
variable {X : Cx} {C : Addr} {mc : Value} {n : Str} {e : Expr} {es : List Expr} {ta : TA} {p1 p2 pos : Pos}
theorem pe_uinit {pl : Sem Bool} (hg : Gl X n) (hm : X.mg n = some (.ref C)) (rd : ClX.CRead X.K C mc) (fi : PySem.W.findCls X.K (.ref C) mc "__init__" = some (.val (.builtin "ValueError.__init__"))) (ha : PA X (e :: es) ta)
    (hc : eval (.Call (.Attribute (.Name n p1) "__init__" p2) (e :: es) [] pos) X.env = (do
      let ov ← eval (.Name n p1) X.env
      standAt p2.atName
      let (f, first) ← holding [ov] (getMethod ov "__init__" pl)
      callWith pos f first (backTo pos (starEach (e :: es) X.env)) (backToKw pos (keywordEach [] X.env))) := by rfl)
    (hs : starEach (e :: es) X.env = (false, eval e X.env) :: starEach es X.env := by rfl) (hp : (backTo pos (starEach es X.env)).any (·.1) = false := by rfl) (hd : (n == ("__debug__" : Str)) = false := by decide) :
    PE X (.Call (.Attribute (.Name n p1) "__init__" p2) (e :: es) [] pos) (tVeI X.K ta) := by
  constructor
  intro pins s σ H Q I h
  refine PySem.W.methodCall_KW (ld_glob I hg hm ?_ hd) hc
  refine PySem.W.method_cls I.kIn rd.ga (PySem.W.cls_value I.kIn rd.rd fi (by decide +kernel) ?_)
  refine PyProof.Rows.callWith_method1 (thn (ha.run pos pins _ σ H _ (I.tok _) h) fun us s1 ⟨vs, H1, I1, rr, a, D, ws, ev, hl, T, ea, q⟩ => ?_) hs hp
  subst ev
  cases rr with
  | @cons _ u0 _ ur ra rw' =>
    obtain rfl : u0 = Value.ref a := ra
    exact oinit_ok T I1 ea (by rw [← Paired.length rw', sizeLine_eq]; omega) fun s' J => ⟨.non, H1, J, rfl, q⟩
end
/-! ### isinstance of a caught exception with fields -/
/-- isinstance(e, c), e the exception that the suite holds: its class is at D, its dict at d -/
structure rIsX (K : PySem.W.Frag) (a : Addr) (cls : Value) (d : Option Addr) (xs : List V) (H : Hp) (Q : VK) : Prop where
  ex : ∃ (c : V) (cv : Value) (b : Bool) (D dd : Addr) (fs : List (Str × V)), xs = [.ref a, c] ∧ cls = .ref D ∧ ExcC K D ∧ d = some dd ∧ H dd = some (.xd fs) ∧
  (∀ u, RelV c u → u = cv) ∧ PySem.W.kitOne K (.ref D) cv = some b ∧ Q (.bl b) H
theorem call_isX {X : Cx} {a : Addr} {oe : Obj} {cls : Value} {d : Option Addr} {pn : List (Addr × Obj)} (hz : Zc cls d oe) (hf : ∃ vs, oe.data = .fields vs) : CallR (X.suite a ((a, oe) :: pn)) (.builtin "isinstance") (rIsX X.K a cls d) := by
  intro pins s σ H xs us Q I r h
  obtain ⟨c, cv, b, D, dd, fs, rfl, rfl, C, rfl, ed, hcv, e, q⟩ := h.ex
  rcases r with _ | ⟨rx, _ | ⟨rt, rr⟩⟩
  cases rr
  cases rx
  obtain rfl := hcv _ rt
  obtain ⟨hget, _⟩ := I.pin (a, oe) (List.mem_append_left _ (.head _))
  obtain ⟨vs, hv⟩ := hf
  have hx : ObjOk X.prog X.w H s.heap dd (.xd fs) := I.hok dd _ ed
  obtain ⟨mA, ⟨od, _, _, ho, _⟩, _⟩ := hx
  have J : PySem.W.InstAt s.heap a oe D (some od) := ⟨hget, hz.1, by unfold PySem.W.notCls; rw [hv] <;> rfl, by rw [hz.2]; exact ho⟩
  have hcl : (PySem.W.clsIn X.K D).isSome = true := by
    obtain ⟨cd, hc, _⟩ := PySem.W.any_some C.hd
    rw [hc]; rfl
  exact PySem.W.kia_one (PySem.W.kitx_exc hcl C.hg C.hk C.hs C.ha C.hn C.ht C.hm) I.kIn J e (fun z => nomatch z) fun tk => ⟨.bl b, H, I.kept (t' := tk) fun _ _ z => z, rfl, q⟩
end Nz
namespace Nz
open PySem PySem.Spec PyProof.Rows L2
/-- C(e, ..), C's own __init__ keeping sp; what it raises goes where E says, at the slots as they stand -/
def tMakeS (C : Addr) (sp : Sp) (E : L2.St → XK) (t : TA) : TE := fun v G Q => t v G fun vs G1 => ∀ x dx, G1 x = none → G1 dx = none → dx ≠ x →
  sp (.ref x :: vs) (upd (upd G1 dx (.own x)) x (.ins C dx [])) (fun y G2 => y = .non ∧ Q (.ref x) G2) (E v)
section
variable {X : Cx} {CX : CXT} {k : Nat} {f C : Addr} {fd : FuncData} {ps : List Str} {sp : Sp} {E : L2.St → XK} {x : Str} {p pos : Pos} {e : Expr} {es : List Expr} {t : TA}
theorem pe_makeS (M : Mk X.K C f) (F : FnOk X.prog X.w X.K X.mg X.base CX k f fd ps sp) (hr : Room (k + 1) X.A) (hg : Gl X x) (hm : X.mg x = some (.ref C)) (hb : Binds X.K fd ps []) (out : ∀ v, PassesAt CX X v (E v)) (ha : PA X (e :: es) t)
    (hd : (x == ("__debug__" : Str)) = false := by decide) (hs : starEach (e :: es) X.env = (false, eval e X.env) :: starEach es X.env := by rfl) (hp : (backTo pos (starEach es X.env)).any (·.1) = false := by rfl) :
    PE X (.Call (.Name x p) (e :: es) [] pos) (tMakeS C sp E t) := by
  constructor
  intro pins s v G Q I q
  refine wpAny_Call_Name_kw (ld_glob I hg hm ?_ hd)
  refine PySem.W.callWith_K (h₀ := X.base) I.ok.mod.kin M.kp (thn (ha.run pos pins s v G _ I q) fun us z ⟨vs, G1, I1, rr, q1⟩ => ⟨I1.kIn, ?_⟩) hs hp
  have q2 := q1 (z.heap.objs.size + 1) z.heap.objs.size (I1.hok.fresh (Nat.le_succ _)) (I1.hok.fresh (Nat.le_refl _)) (Nat.ne_of_lt (Nat.lt_succ_self _))
  have J := Inv.made (C := C) I1
  have rs : Vals (V.ref (z.heap.objs.size + 1) :: vs) (Value.ref (z.heap.objs.size + 1) :: us) := .cons rfl rr
  have len : (Value.ref (z.heap.objs.size + 1) :: us).length = ps.length := rs.length.symm.trans (F.len _ _ _ _ q2)
  have bind := hb _ (Value.ref (z.heap.objs.size + 1) :: us) J.kIn (by rw [List.append_nil]; exact len)
  rw [List.append_nil] at bind
  refine wpAny_call (make_map (f := f) I1.kIn M.makes M.init (beq_iff_eq.mp M.fn) (codeAny_mono (F.run _ X.stack _ _ ⟨Value.ref (z.heap.objs.size + 1) :: us, []⟩ _ _ _ (E v) (hr.make C us []) (J.env0.make C us []) bind rs q2) fun r s1 h => ?_))
  rcases r with er | fl
  · exact out v pins _ _ er s1 J h
  rcases fl with _ | _ | _ | u <;> first
    | exact False.elim h
    | (obtain ⟨y, G2, J2, ry, rfl, q3⟩ := J.after h
       exact ⟨ry, .ref _, G2, J2, rfl, q3⟩)
end
end Nz
namespace Qw
open PySem PySem.Spec PyProof.Rows L2 Nz
open Evl (Ex)
variable {X : Cx} {K : PySem.W.Frag} {I I' I1 I2 H H' H1 H2 I0 H0 : Hp} {e : En} {σ : L2.St}
/-- what is wished where an own exception with one field leaves: its class's name, its dict -/
abbrev TQ := Str → Addr → L2.St → Hp → Prop
def wxW (X : Cx) : WX := fun cls d σ H => ∃ W0, Takes X W0 ∧ W0 cls d σ H
def wxQ (X : Cx) : TQ := fun x d σ H => ∀ C, X.mg x = some (.ref C) → wxW X (.ref C) (some d) σ H
theorem takes_wx : Takes X (wxW X) := fun u s' ⟨a, B, sI, pins, v, G, cls, d, h1, h2, h3, h4, h5, h6, h7, h8, W0, tk, w⟩ => tk u s' ⟨a, B, sI, pins, v, G, cls, d, h1, h2, h3, h4, h5, h6, h7, h8, w⟩
variable {T : TQ}
inductive Out where
  | nx (e : En) | rt (sv : SV) | bk (e : En) | ct (e : En) | ex (x fn : Str) (w : W) (e : En)
def OutOk (K : PySem.W.Frag) (T : TQ) (I0 H0 I : Hp) (D : Ends) : Out → Prop
  | .nx e => ∀ I' σ' H', Sat K I0 H0 I' e σ' H' → Ex I I' → D.nx σ' H'
  | .bk e => ∀ I' σ' H', Sat K I0 H0 I' e σ' H' → Ex I I' → D.bk σ' H'
  | .ct e => ∀ I' σ' H', Sat K I0 H0 I' e σ' H' → Ex I I' → D.ct σ' H'
  | .rt sv => ∀ I' H' v, Ext I0 H0 I' H' → Res K I' H' H0 sv v → D.rt v H'
  | .ex x fn w e => ∀ I' σ' H' d u, Sat K I0 H0 I' e σ' H' → Ex I I' → I' d = some (.xd [(fn, u)]) → IsW K I' w u → T x d σ' H'
def tS (K : PySem.W.Frag) (T : TQ) (F : En → Option Out) : TS := fun D σ H => ∃ I0 H0 I e o, Sat K I0 H0 I e σ H ∧ F e = some o ∧ OutOk K T I0 H0 I D o
abbrev PQ (X : Cx) (sts : List Stmt) (F : En → Option Out) : Prop := PSs X sts (tS X.K (wxQ X) F)
theorem OutOk.later {D : Ends} {o : Out} (h : OutOk K T I0 H0 I D o) (hx : Ex I I') : OutOk K T I0 H0 I' D o := by
  cases o with
  | nx e => exact fun J σ' H' s y => h J σ' H' s (hx.trans y)
  | bk e => exact fun J σ' H' s y => h J σ' H' s (hx.trans y)
  | ct e => exact fun J σ' H' s y => h J σ' H' s (hx.trans y)
  | rt sv => exact h
  | ex x fn w e => exact fun J σ' H' d u s y => h J σ' H' d u s (hx.trans y)
theorem ps_imp {st : Stmt} {t t' : TS} (h : PS X st t) (k : ∀ D σ H, t' D σ H → t D σ H) : PS X st t' := ⟨fun pins s σ H D I q => h.run pins s σ H D I (k D σ H q)⟩
theorem pss_imp {sts : List Stmt} {t t' : TS} (h : PSs X sts t) (k : ∀ D σ H, t' D σ H → t D σ H) : PSs X sts t' := ⟨fun pins s σ H D I q => h.run pins s σ H D I (k D σ H q)⟩
/-! ### rows of statements -/
def sNext : En → Option Out := fun e => some (.nx e)
def sSeq (F G : En → Option Out) : En → Option Out := fun e => match F e with
  | some (.nx e') => G e'
  | r => r
def sFix (i : Nat) (G : En → Option Out) : En → Option Out := fun e => G (fixSlot e i)
theorem qpass : PSs X [] (tS X.K (wxQ X) sNext) := pss_imp pss_nil fun D σ H ⟨I0, H0, I, e, o, S, hf, k⟩ => by
  cases hf
  exact k I σ H S (Ex.refl _)
theorem seq_use {F G : En → Option Out} {D : Ends} : tS K T (sSeq F G) D σ H → tSeq (tS K T F) (tS K T G) D σ H := fun ⟨I0, H0, I, e, o, S, hf, k⟩ => by
  unfold sSeq at hf
  split at hf
  next e' he => exact ⟨I0, H0, I, e, _, S, he, fun I' σ' H' S' x => ⟨I0, H0, I', e', o, S', hf, k.later x⟩⟩
  next hn =>
    refine ⟨I0, H0, I, e, o, S, hf, ?_⟩
    cases o with
    | nx e' => exact absurd hf (hn e')
    | bk e' => exact k
    | ct e' => exact k
    | rt sv => exact k
    | ex x fn w e' => exact k
theorem qseq {st : Stmt} {rest : List Stmt} {F G : En → Option Out} (h1 : PS X st (tS X.K (wxQ X) F)) (h2 : PSs X rest (tS X.K (wxQ X) G)) : PSs X (st :: rest) (tS X.K (wxQ X) (sSeq F G)) := pss_imp (pss_cons h1 h2) fun _ _ _ => seq_use
theorem qone {st : Stmt} {F : En → Option Out} (h1 : PS X st (tS X.K (wxQ X) F)) : PSs X [st] (tS X.K (wxQ X) F) := pss_one h1
theorem qfix (i : Nat) {sts : List Stmt} {G : En → Option Out} (h : PSs X sts (tS X.K (wxQ X) G)) : PSs X sts (tS X.K (wxQ X) (sFix i G)) := pss_imp h fun D σ H ⟨I0, H0, I, e, o, S, hf, k⟩ => by
  obtain ⟨I', x, S'⟩ := S.fix i
  exact ⟨I0, H0, I', _, o, S', hf, k.later x⟩
/-! ### if, return, name = .. -/
def sIf (t : En → Option Bool) (F G : En → Option Out) : En → Option Out := fun e => match t e with
  | some true => F e
  | some false => G e
  | none => none
theorem qIf {c : Expr} {a b : List Stmt} {pos : Pos} {t : En → Option Bool} {F G : En → Option Out} (hc : PT X c (tT X.K t)) (ha : PSs X a (tS X.K (wxQ X) F)) (hb : PSs X b (tS X.K (wxQ X) G)) : PS X (.If c a b pos) (tS X.K (wxQ X) (sIf t F G)) :=
  ps_imp (ps_if hc ha hb) fun D σ H ⟨I0, H0, I, e, o, S, hf, k⟩ => by
    unfold sIf at hf
    split at hf
    next hw => exact ⟨I0, H0, I, e, true, S, hw, fun I1 H1 x1 => iteT ⟨I0, H0, I1, e, o, S.mono x1, hf, k.later x1.i⟩⟩
    next hw => exact ⟨I0, H0, I, e, false, S, hw, fun I1 H1 x1 => iteF ⟨I0, H0, I1, e, o, S.mono x1, hf, k.later x1.i⟩⟩
    next => cases hf
def sRet (f : En → Option SV) : En → Option Out := fun e => match f e with
  | some sv => some (.rt sv)
  | none => none
theorem qret {a : Expr} {pos : Pos} {f : En → Option SV} (ha : PE X a (tR X.K f)) : PS X (.Return (some a) pos) (tS X.K (wxQ X) (sRet f)) := ps_imp (ps_ret ha) fun D σ H ⟨I0, H0, I, e, o, S, hf, k⟩ => by
  unfold sRet at hf
  split at hf
  next sv hs => cases hf; exact ⟨I0, H0, I, e, sv, S, hs, fun I1 H1 v x1 r => k I1 H1 v (S.x.trans x1) (r.weak S.x.h)⟩
  next => cases hf
/-- return name: as it stands -/
def fSlot (i : Nat) : En → Option SV := fun e => match e[i]? with
  | some (some sv) => some sv
  | _ => none
theorem qretv (i : Nat) {x : Str} {p pos : Pos} (hN : X.N[i]? = some x := by rfl) (hv : Vis X.env.scope x := by first | exact Or.inl rfl | exact Or.inr (Or.inl rfl) | exact Or.inr (Or.inr rfl)) (hd : (x == ("__debug__" : Str)) = false := by decide)
    (hcd : (x == ("__classdict__" : Str)) = false := by decide) : PS X (.Return (some (.Name x p)) pos) (tS X.K (wxQ X) (sRet (fSlot i))) := ps_imp (ps_ret (pe_var hN hv hd hcd)) fun D σ H ⟨I0, H0, I, e, o, S, hf, k⟩ => by
  unfold sRet fSlot at hf
  split at hf
  next sv hs =>
    cases hf
    split at hs
    next sv' hsv =>
      cases hs
      obtain ⟨v, a, r⟩ := S.slot i _ hsv
      exact ⟨v, a, k I H v S.x r⟩
    next => cases hs
  next => cases hf
def sRetN : En → Option Out := fun _ => some (.rt (.imm .non))
theorem qretn {pos : Pos} : PS X (.Return none pos) (tS X.K (wxQ X) sRetN) := ps_imp ps_retN fun D σ H ⟨I0, H0, I, e, o, S, hf, k⟩ => by
  cases hf
  exact k I H _ S.x (by simp [Res, IsW])
def sSet (i : Nat) (f : En → Option SV) : En → Option Out := fun e => match f e with
  | some sv => some (.nx (e.set i (some sv)))
  | none => none
theorem set_use {i : Nat} {f : En → Option SV} {D : Ends} : tS K T (sSet i f) D σ H → tR K f σ H (fun v H1 => D.nx (σ.set i (some v)) H1) := fun ⟨I0, H0, I, e, o, S, hf, k⟩ => by
  unfold sSet at hf
  split at hf
  next sv hs => cases hf; exact ⟨I0, H0, I, e, sv, S, hs, fun I1 H1 v x1 r => k I1 _ H1 (S.set x1 r i) x1.i⟩
  next => cases hf
theorem qset {i : Nat} {x : Str} {a : Expr} {f : En → Option SV} {p pos : Pos} (hN : X.N.Nodup) (hi : X.N[i]? = some x) (hx : Loc X.env.scope x) (ha : PE X a (tR X.K f)) (hs : swapsWith a (some (.Name x p)) pos.line X.env = pure false := by rfl)
    (hf : X.fn x = true ∨ X.env.scope.names.lookup x = some .local := by first | exact .inl rfl | exact .inr rfl | assumption) : PS X (.Assign [.Name x p] a pos) (tS X.K (wxQ X) (sSet i f)) :=
  ps_imp (ps_set hN hi hx ha hs hf) fun _ _ _ => set_use
/-! ### name op= int -/
def sAug (i : Nat) (o : Int → Int → Int) (f : En → Option W) : En → Option Out := fun e => match e[i]? with
  | some (some (.imm (.int a))) => (match f e with
    | some (.int b) => some (.nx (e.set i (some (.imm (.int (o a b))))))
    | _ => none)
  | _ => none
theorem qaug {i : Nat} {x : Str} {a : Expr} {op : Operator} {o : Int → Int → Int} {f : En → Option W} {p pos : Pos} (hN : X.N.Nodup) (hi : X.N[i]? = some x) (hx : Loc X.env.scope x) (ha : PE X a (tW X.K f)) (ho : PIp X op (ipI o))
    (hf : X.fn x = true ∨ X.env.scope.names.lookup x = some .local := by first | exact .inl rfl | exact .inr rfl | assumption) : PS X (.AugAssign (.Name x p) op a pos) (tS X.K (wxQ X) (sAug i o f)) :=
  ps_imp (ps_aug hN hi hx ha ho hf) fun D σ H ⟨I0, H0, I, e, out, S, hf, k⟩ => by
    unfold sAug at hf
    split at hf
    next u hu =>
      split at hf
      next b hb =>
        cases hf
        obtain ⟨v, hv, r⟩ := S.slot i _ hu
        have r' : v = .int u := by simpa [Res, IsW] using r
        subst r'
        refine ⟨_, hv, I0, H0, I, e, _, S, hb, fun I1 H1 y x1 r1 => ?_⟩
        rw [isInt] at r1
        exact ⟨u, b, rfl, r1, k I1 _ H1 (S.set x1 (by simp [Res, IsW]) i) x1.i⟩
      next => cases hf
    next => cases hf
/-! ### our own lists -/
theorem own_at {i : Nat} {w : W} (S : Sat K I0 H0 I e σ H) (h : e[i]? = some (some (.own w))) : ∃ p, σ[i]? = some (some (.ref p)) ∧ I p = none ∧ H0 p = none ∧ OwnAt K I H p w := by
  obtain ⟨v, a, p, rfl, b, c, d⟩ := S.slot i _ h
  exact ⟨p, a, b, c, d⟩
def sApp (i : Nat) (f : En → Option W) : En → Option Out := fun e => match e[i]? with
  | some (some (.own (.lst ws))) => (match f e with
    | some w => if ws.length < sizeLine then some (.nx (e.set i (some (.own (.lst (ws ++ [w])))))) else none
    | none => none)
  | _ => none
theorem app_use {i : Nat} {f : En → Option W} {D : Ends} : tS K T (sApp i f) D σ H → tDrop (tBM K "list" rAppend (tVar i) (tCons (tW K f) tNil)) D σ H := fun ⟨I0, H0, I, e, o, S, hf, k⟩ => by
  unfold sApp at hf
  split at hf
  next ws hs =>
    split at hf
    next w hw =>
      split at hf
      next hz =>
        cases hf
        obtain ⟨p, hp, hi, h0, vs, hv, r⟩ := own_at S hs
        refine ⟨_, hp, .inl ⟨rfl, _, .inl (.inl hv)⟩, I0, H0, I, e, w, S, hw, fun I1 H1 y x1 r1 => ?_⟩
        have S1 := S.mono x1
        have hv1 : H1 p = some (.lst vs) := x1.h _ _ hv
        refine ⟨p, vs, y, rfl, rfl, hv1, by rw [← r.len]; exact hz, k I1 _ _ (S1.chg hs hp ⟨vs ++ [y], upd_same, (r.mono x1.i).append (IsWs.cons r1 IsWs.nil)⟩) x1.i⟩
      next => cases hf
    next => cases hf
  next => cases hf
def sExt (i : Nat) (f : En → Option W) : En → Option Out := fun e => match e[i]? with
  | some (some (.own (.lst ws))) => (match f e with
    | some (.lst us) => if ws.length + us.length ≤ sizeLine then some (.nx (e.set i (some (.own (.lst (ws ++ us)))))) else none
    | _ => none)
  | _ => none
theorem ext_use {i : Nat} {f : En → Option W} {D : Ends} : tS K T (sExt i f) D σ H → tDrop (tBM K "list" rExtend (tVar i) (tCons (tW K f) tNil)) D σ H := fun ⟨I0, H0, I, e, o, S, hf, k⟩ => by
  unfold sExt at hf
  split at hf
  next ws hs =>
    split at hf
    next us hw =>
      split at hf
      next hz =>
        cases hf
        obtain ⟨p, hp, hi, h0, vs, hv, r⟩ := own_at S hs
        refine ⟨_, hp, .inl ⟨rfl, _, .inl (.inl hv)⟩, I0, H0, I, e, _, S, hw, fun I1 H1 y x1 r1 => ?_⟩
        have S1 := S.mono x1
        have hv1 : H1 p = some (.lst vs) := x1.h _ _ hv
        simp only [IsW] at r1
        obtain ⟨q, zs, rfl, hq, rz⟩ := r1
        refine ⟨p, q, vs, zs, rfl, rfl, hv1, x1.ih _ _ hq, by rw [← r.len, ← rz.len]; exact hz, k I1 _ _ (S1.chg hs hp ⟨vs ++ zs, upd_same, (r.mono x1.i).append rz⟩) x1.i⟩
      next => cases hf
    next => cases hf
  next => cases hf
def sPop (i : Nat) : En → Option Out := fun e => match e[i]? with
  | some (some (.own (.lst ws))) => if ws = [] then none else some (.nx (e.set i (some (.own (.lst ws.dropLast)))))
  | _ => none
theorem isWs_dropLast : ∀ {ws : List W} {vs : List V}, IsWs K I ws vs → IsWs K I ws.dropLast vs.dropLast := fun {ws vs} h => by
  rw [List.dropLast_eq_take, List.dropLast_eq_take, h.len]
  exact h.take _
/-- an expression, its value dropped -/
def sDrop (f : En → Option W) : En → Option Out := fun e => match f e with
  | some _ => some (.nx e)
  | none => none
theorem qdrop {a : Expr} {pos : Pos} {f : En → Option W} (ha : PE X a (tW X.K f)) (hs : swapsWith a none pos.line X.env = pure false := by rfl) : PS X (.Expr a pos) (tS X.K (wxQ X) (sDrop f)) := ps_imp (ps_expr ha hs) fun D σ H ⟨I0, H0, I, e, o, S, hf, k⟩ => by
  unfold sDrop at hf
  split at hf
  next w hw => cases hf; exact ⟨I0, H0, I, e, w, S, hw, fun I1 H1 v x1 r => k I1 σ H1 (S.mono x1) x1.i⟩
  next => cases hf
/-- xs[j] = v -/
def sSetIx (i : Nat) (g f : En → Option W) : En → Option Out := fun e => match f e with
  | some w => (match e[i]? with
    | some (some (.own (.lst ws))) => (match g e with
      | some (.int j) => (match ixN ws.length j with
        | some n => some (.nx (e.set i (some (.own (.lst (ws.set n w))))))
        | none => none)
      | _ => none)
    | _ => none)
  | none => none
theorem setIx_use {i : Nat} {g f : En → Option W} {D : Ends} : tS K T (sSetIx i g f) D σ H → tAsg (tW K f) (gSub (tVar i) (tW K g) rSetL) D σ H := fun ⟨I0, H0, I, e, o, S, hf, k⟩ => by
  unfold sSetIx at hf
  split at hf
  next w hw =>
    split at hf
    next ws hs =>
      split at hf
      next j hj =>
        split at hf
        next n hn =>
          cases hf
          refine ⟨I0, H0, I, e, w, S, hw, fun I1 H1 y x1 r1 => ?_⟩
          have S1 := S.mono x1
          obtain ⟨p, hp, hi, h0, vs, hv, r⟩ := own_at S1 hs
          refine ⟨_, hp, I0, H0, I1, e, _, S1, hj, fun I2 H2 z x2 r2 => ?_⟩
          have S2 := S1.mono x2
          rw [isInt] at r2
          have hv2 : H2 p = some (.lst vs) := x2.h _ _ hv
          refine ⟨p, vs, j, n, rfl, r2, hv2, by rw [← r.len]; exact hn, k I2 _ _ (S2.chg hs hp ⟨vs.set n y, upd_same, (r.mono x2.i).set n (IsW.mono x2.i r1)⟩) (x1.i.trans x2.i)⟩
        next => cases hf
      next => cases hf
    next => cases hf
  next => cases hf
/-- our own list, read at an index -/
def fIxOwn (i : Nat) (g : En → Option W) : En → Option W := fun e => match e[i]? with
  | some (some (.own (.lst ws))) => (match g e with
    | some (.int j) => atI ws j
    | _ => none)
  | some (some (.imm w)) => (match g e with
    | some u => ixW w u
    | none => none)
  | _ => none
theorem qixo (i : Nat) {x : Str} {b : Expr} {g : En → Option W} {p pos : Pos} (hb : PE X b (tW X.K g)) (hN : X.N[i]? = some x := by rfl) (hv : Vis X.env.scope x := by first | exact Or.inl rfl | exact Or.inr (Or.inl rfl) | exact Or.inr (Or.inr rfl))
    (hd : (x == ("__debug__" : Str)) = false := by decide) (hcd : (x == ("__classdict__" : Str)) = false := by decide) (hs : PlainIx b := by intro _ _; rfl) : PE X (.Subscript (.Name x p) b pos) (tW X.K (fIxOwn i g)) :=
  pe_imp (pe_ix ix_any (pe_var hN hv hd hcd) hb hs) fun σ H Q ⟨I0, H0, I, e, w, S, hf, k⟩ => by
    unfold fIxOwn at hf
    split at hf
    next ws hs =>
      split at hf
      next j hj =>
        obtain ⟨p, hp, hi, h0, vs, hv, r⟩ := own_at S hs
        refine ⟨_, hp, I0, H0, I, e, _, S, hj, fun I1 H1 z x1 r1 => ?_⟩
        rw [isInt] at r1
        obtain ⟨v, h1, h2⟩ := atI_ws (r.mono x1.i) hf
        exact .inl ⟨p, vs, j, v, rfl, r1, sqL_of (x1.h _ _ hv), h1, k _ _ _ x1 h2⟩
      next => cases hf
    next u hs =>
      split at hf
      next j hj =>
        obtain ⟨v, a, r⟩ := S.slot i _ hs
        exact ⟨v, a, I0, H0, I, e, _, S, hj, fun I1 H1 z x1 r1 => bv_ix I1 H1 u j v z w Q x1.ih (IsW.mono x1.i r) r1 hf fun I2 H2 y x2 r2 => k _ _ _ (x1.trans x2) r2⟩
      next => cases hf
    next => cases hf
end Qw
namespace Qw
open PySem PySem.Spec PyProof.Rows L2 Nz
open Evl (Ex)
variable {T : TQ} {X : Cx} {K : PySem.W.Frag} {I I' I1 I2 H H' H1 H2 I0 H0 : Hp} {e : En} {σ : L2.St}
/-! ### targets -/
def tG (K : PySem.W.Frag) (A : W → En → Option En) (ts : List Nat) : TG := fun v σ H Q => ∃ I0 H0 I e w e', Sat K I0 H0 I e σ H ∧ IsW K I w v ∧ A w e = some e' ∧
  ∀ σ', Sat K I0 H0 I e' σ' H → (∀ us, (∀ i ∈ ts, i ∈ us) → wipe σ' us = wipe σ us) → Q σ' H
def tGs (K : PySem.W.Frag) (A : List W → En → Option En) (ts : List Nat) : TGs := fun vs σ H Q => ∃ I0 H0 I e ws e', Sat K I0 H0 I e σ H ∧ IsWs K I ws vs ∧ A ws e = some e' ∧
  ∀ σ', Sat K I0 H0 I e' σ' H → (∀ us, (∀ i ∈ ts, i ∈ us) → wipe σ' us = wipe σ us) → Q σ' H
theorem pg_imp {ex : Expr} {t t' : TG} (h : PG X ex t) (k : ∀ v σ H Q, t' v σ H Q → t v σ H Q) : PG X ex t' := ⟨fun pins s σ H v u Q I r q => h.run pins s σ H v u Q I r (k v σ H Q q)⟩
theorem pgs_imp {ex : List Expr} {t t' : TGs} (h : PGs X ex t) (k : ∀ v σ H Q, t' v σ H Q → t v σ H Q) : PGs X ex t' := ⟨fun pins s σ H v u Q I r q => h.run pins s σ H v u Q I r (k v σ H Q q)⟩
theorem wipe_set_in {σ : L2.St} {i : Nat} {o : Option V} : ∀ {us : List Nat}, i ∈ us → wipe (σ.set i o) us = wipe σ us
  | [], h => absurd h (by simp)
  | u :: us, h => by
    show (wipe (σ.set i o) us).set u none = (wipe σ us).set u none
    by_cases hu : i ∈ us
    · rw [wipe_set_in hu]
    · have e : i = u := by
        rcases List.mem_cons.mp h with z | z
        · exact z
        · exact absurd z hu
      subst e
      have q : ∀ (vs : List Nat), i ∉ vs → wipe (σ.set i o) vs = (wipe σ vs).set i o := fun vs => by
        induction vs with
        | nil => intro _; rfl
        | cons w ws ih =>
          intro hw
          have h1 : i ≠ w := fun z => hw (by simp [z])
          show (wipe (σ.set i o) ws).set w none = ((wipe σ ws).set w none).set i o
          rw [ih (fun z => hw (by simp [z])), List.set_comm _ _ h1]
      rw [q us hu, List.set_set]
def aName (i : Nat) : W → En → Option En := fun w e => some (e.set i (some (.imm w)))
theorem qgn {i : Nat} {x : Str} {pos : Pos} (hN : X.N.Nodup) (hi : X.N[i]? = some x) (hx : Loc X.env.scope x) (hf : X.fn x = true ∨ X.env.scope.names.lookup x = some .local := by first | exact .inl rfl | exact .inr rfl | assumption) :
    PG X (.Name x pos) (tG X.K (aName i) [i]) := pg_imp (pg_name hN hi hx hf) fun v σ H Q ⟨I0, H0, I, e, w, e', S, r, hA, k⟩ => by
  cases hA
  exact k _ (S.set S.ref (sv := .imm w) r i) fun us hu => wipe_set_in (hu i (by simp))
def aNil : List W → En → Option En
  | [], e => some e
  | _, _ => none
def aCons (A : W → En → Option En) (B : List W → En → Option En) : List W → En → Option En
  | w :: ws, e => (match A w e with
    | some e' => B ws e'
    | none => none)
  | _, _ => none
def aTup (B : List W → En → Option En) : W → En → Option En
  | .tup ws, e => B ws e
  | .ktup ws, e => B ws e
  | _, _ => none
theorem qgnil : PGs X [] (tGs X.K aNil []) := pgs_imp pgs_nil fun v σ H Q ⟨I0, H0, I, e, ws, e', S, r, hA, k⟩ => by
  cases ws with
  | nil => cases hA; exact ⟨isNil r, k σ S fun _ _ => rfl⟩
  | cons _ _ => cases hA
theorem qgcons {a : Expr} {es : List Expr} {A : W → En → Option En} {B : List W → En → Option En} {ts us : List Nat} (h1 : PG X a (tG X.K A ts)) (h2 : PGs X es (tGs X.K B us))
    (hs : (assignEach (a :: es) X.env).map (·.2) = assign a X.env :: (assignEach es X.env).map (·.2) := by rfl) : PGs X (a :: es) (tGs X.K (aCons A B) (ts ++ us)) := pgs_imp (pgs_cons h1 h2 hs) fun v σ H Q ⟨I0, H0, I, e, ws, e', S, r, hA, k⟩ => by
  cases ws with
  | nil => cases hA
  | cons w ws =>
    simp only [aCons] at hA
    split at hA
    next e1 h1 =>
      obtain ⟨x, vr, rfl, r1, r2⟩ := one r
      refine ⟨x, vr, rfl, I0, H0, I, e, w, e1, S, r1, h1, fun σ1 S1 w1 => ⟨I0, H0, I, e1, ws, e', S1, r2, hA, fun σ2 S2 w2 => k σ2 S2 fun us' hu => ?_⟩⟩
      rw [w2 us' fun i hi => hu i (List.mem_append_right _ hi), w1 us' fun i hi => hu i (List.mem_append_left _ hi)]
    next => cases hA
theorem qgtup {es : List Expr} {kk : Nat} {n : Nat} {B : List W → En → Option En} {ts : List Nat} {pos : Pos} (hc : X.calm = true) (h : PGs X es (tGs X.K B ts)) (hB : ∀ ws e e', B ws e = some e' → ws.length = n)
    (hn : (assignEach es X.env).length = n := by rfl) (hst : (assignEach es X.env).findIdx? (·.1) = none := by rfl) : PG X (.Tuple es kk pos) (tG X.K (aTup B) ts) := pg_imp (pg_tup hc h hn hst) fun v σ H Q ⟨I0, H0, I, e, w, e', S, r, hA, k⟩ => by
  cases w <;> try (cases hA; done)
  · simp only [aTup] at hA
    simp only [IsW] at r
    obtain ⟨p, vs, rfl, hp, r⟩ := r
    exact ⟨p, vs, rfl, sqT_of (S.ext _ _ hp), by rw [← r.len]; exact hB _ _ _ hA, I0, H0, I, e, _, e', S, r, hA, k⟩
  · simp only [aTup] at hA
    simp only [IsW] at r
    obtain ⟨p, vs, rfl, hp, r⟩ := r
    exact ⟨p, vs, rfl, Evl.ex_t S.ext hp, by rw [← r.len]; exact hB _ _ _ hA, I0, H0, I, e, _, e', S, r, hA, k⟩
theorem aNil_len (ws : List W) (e e' : En) (h : aNil ws e = some e') : ws.length = 0 := by
  cases ws with
  | nil => rfl
  | cons _ _ => cases h
theorem aCons_len {A : W → En → Option En} {B : List W → En → Option En} {n : Nat} (h : ∀ ws e e', B ws e = some e' → ws.length = n) (ws : List W) (e e' : En) (q : aCons A B ws e = some e') : ws.length = n + 1 := by
  cases ws with
  | nil => cases q
  | cons w ws =>
    simp only [aCons] at q
    split at q
    next => rw [List.length_cons, h _ _ _ q]
    next => cases q
/-- target = value, the target a tuple -/
def sAsg (A : W → En → Option En) (f : En → Option W) : En → Option Out := fun e => match f e with
  | some w => (match A w e with
    | some e' => some (.nx e')
    | none => none)
  | none => none
theorem asg_use {A : W → En → Option En} {ts : List Nat} {f : En → Option W} {D : Ends} : tS K T (sAsg A f) D σ H → tAsg (tW K f) (tG K A ts) D σ H := fun ⟨I0, H0, I, e, o, S, hf, k⟩ => by
  unfold sAsg at hf
  split at hf
  next w hw =>
    split at hf
    next e' he =>
      cases hf
      exact ⟨I0, H0, I, e, w, S, hw, fun I1 H1 v x1 r => ⟨I0, H0, I1, e, w, e', S.mono x1, r, he, fun σ' S' _ => k I1 σ' H1 S' x1.i⟩⟩
    next => cases hf
  next => cases hf
theorem qasg {tg a : Expr} {A : W → En → Option En} {ts : List Nat} {f : En → Option W} {pos : Pos} (ha : PE X a (tW X.K f)) (hg : PG X tg (tG X.K A ts)) (hs : swapsWithSole [tg] a pos.line X.env = pure false := by rfl) (hw : swappedStores [tg] a X.env = pure none := by rfl)
    (h1 : (assignEach [tg] X.env).map (·.2) = [assign tg X.env] := by rfl) : PS X (.Assign [tg] a pos) (tS X.K (wxQ X) (sAsg A f)) := ps_imp (ps_asg ha hg hs hw h1) fun _ _ _ => asg_use
/-! ### what is walked -/
structure ItW (K : PySem.W.Frag) (I : Hp) (J : It) (ws : List W) : Prop where
  go : ∀ (i : Nat) (w : W), ws[i]? = some w → ∀ I1 H1, Ex I I1 → Ex I1 H1 → J.go i H1 ∧ ∀ x H2, J.yld i H1 x H2 → ∃ I2, Ext I1 H1 I2 H2 ∧ IsW K I2 w x
  stop : ∀ I1 H1, Ex I I1 → Ex I1 H1 → J.stop ws.length H1
def tI (K : PySem.W.Frag) (f : En → Option (List W)) : TI := fun σ H R => ∃ I0 H0 I e ws, Sat K I0 H0 I e σ H ∧ f e = some ws ∧ ∀ I' H' J, Ext I H I' H' → ItW K I' J ws → R J H'
theorem pi_imp {tg it : Expr} {t t' : TI} (h : PI X tg it t) (k : ∀ σ H R, t' σ H R → t σ H R) : PI X tg it t' := ⟨fun pins s σ H R I q => h.run pins s σ H R I (k σ H R q)⟩
def fSeq (f : En → Option W) : En → Option (List W) := fun e => match f e with
  | some (.lst ws) => some ws
  | some (.tup ws) => some ws
  | some (.klst ws) => some ws
  | some (.ktup ws) => some ws
  | some (.str s) => some (s.cps.toList.map fun c => .str ⟨#[c]⟩)
  | _ => none
theorem sqL_inj {a : Addr} {xs ys : List V} (h : I a = some (.lst xs)) (h2 : SqL K I a ys) (nk : True) : True := trivial
theorem it_list {a : Addr} {vs : List V} {ws : List W} (h : SqL K I a vs) (r : IsWs K I ws vs) : ItW K I (Itl K a) ws where
  go := fun i w hw I1 H1 x1 x2 => by
    obtain ⟨v, hv, rv⟩ := r.get hw
    have hq : SqL K H1 a vs := Evl.ex_l (x1.trans x2) h
    refine ⟨⟨vs, v, hq, hv⟩, fun x H2 y => ?_⟩
    obtain ⟨e, y⟩ := y
    subst e
    have := y vs hq
    rw [hv] at this
    cases this
    exact ⟨I1, Ext.refl x2, IsW.mono x1 rv⟩
  stop := fun I1 H1 x1 x2 => ⟨vs, Evl.ex_l (x1.trans x2) h, by rw [r.len]; exact Nat.le_refl _⟩
theorem it_tup {a : Addr} {vs : List V} {ws : List W} (h : SqT K I a vs) (r : IsWs K I ws vs) : ItW K I (Itt K a) ws where
  go := fun i w hw I1 H1 x1 x2 => by
    obtain ⟨v, hv, rv⟩ := r.get hw
    have hq : SqT K H1 a vs := Evl.ex_t (x1.trans x2) h
    refine ⟨⟨vs, v, hq, hv⟩, fun x H2 y => ?_⟩
    obtain ⟨e, y⟩ := y
    subst e
    have := y vs hq
    rw [hv] at this
    cases this
    exact ⟨I1, Ext.refl x2, IsW.mono x1 rv⟩
  stop := fun I1 H1 x1 x2 => ⟨vs, Evl.ex_t (x1.trans x2) h, by rw [r.len]; exact Nat.le_refl _⟩
theorem it_str (s : Str) : ItW K I (Its s) (s.cps.toList.map fun c => W.str ⟨#[c]⟩) where
  go := fun i w hw I1 H1 x1 x2 => by
    rw [List.getElem?_map] at hw
    cases q : s.cps.toList[i]? with
    | none => rw [q] at hw; cases hw
    | some c =>
      rw [q] at hw
      cases hw
      have q' : s.cps[i]? = some c := by simpa using q
      refine ⟨(Array.getElem?_eq_some_iff.mp q').1, fun x H2 y => ?_⟩
      obtain ⟨e, d, h1, h2⟩ := y
      subst e h2
      rw [q'] at h1
      cases h1
      exact ⟨I1, Ext.refl x2, isStr.mpr rfl⟩
  stop := fun I1 H1 x1 x2 => by
    show s.cps.size ≤ _
    simp
theorem qsq {tg l : Expr} {f : En → Option W} (hl : PE X l (tW X.K f)) : PI X tg l (tI X.K (fSeq f)) := pi_imp (or_iter (pi_seq hl) (pi_str hl)) fun σ H R ⟨I0, H0, I, e, ws, S, hf, k⟩ => by
  unfold fSeq at hf
  split at hf
  next us hw =>
    cases hf
    refine .inl (.inl ⟨I0, H0, I, e, _, S, hw, fun I1 H1 v x1 r => ?_⟩)
    simp only [IsW] at r
    obtain ⟨p, vs, rfl, hp, r⟩ := r
    exact ⟨p, rfl, ⟨vs, sqL_of (x1.ih _ _ hp)⟩, k I1 H1 _ x1 (it_list (sqL_of hp) r)⟩
  next us hw =>
    cases hf
    refine .inl (.inr ⟨I0, H0, I, e, _, S, hw, fun I1 H1 v x1 r => ?_⟩)
    simp only [IsW] at r
    obtain ⟨p, vs, rfl, hp, r⟩ := r
    exact ⟨p, rfl, ⟨vs, sqT_of (x1.ih _ _ hp)⟩, k I1 H1 _ x1 (it_tup (sqT_of hp) r)⟩
  next us hw =>
    cases hf
    refine .inl (.inl ⟨I0, H0, I, e, _, S, hw, fun I1 H1 v x1 r => ?_⟩)
    simp only [IsW] at r
    obtain ⟨p, vs, rfl, hp, r⟩ := r
    exact ⟨p, rfl, ⟨vs, Evl.ex_l x1.ih hp⟩, k I1 H1 _ x1 (it_list hp r)⟩
  next us hw =>
    cases hf
    refine .inl (.inr ⟨I0, H0, I, e, _, S, hw, fun I1 H1 v x1 r => ?_⟩)
    simp only [IsW] at r
    obtain ⟨p, vs, rfl, hp, r⟩ := r
    exact ⟨p, rfl, ⟨vs, Evl.ex_t x1.ih hp⟩, k I1 H1 _ x1 (it_tup hp r)⟩
  next s hw =>
    cases hf
    refine .inr ⟨I0, H0, I, e, _, S, hw, fun I1 H1 v x1 r => ?_⟩
    rw [isStr] at r
    subst r
    exact ⟨s, rfl, k I1 H1 _ x1 (it_str s)⟩
  next => cases hf
/-- lo, lo + 1, .. -/
def rngW (lo : Int) (n : Nat) : List W := (List.range n).map fun i => W.int (lo + (i : Nat))
theorem it_rng (lo : Int) (n : Nat) : ItW K I (Itr lo n) (rngW lo n) where
  go := fun i w hw I1 H1 x1 x2 => by
    unfold rngW at hw
    rw [List.getElem?_map] at hw
    have hi : i < n := by
      cases q : (List.range n)[i]? with
      | none => rw [q] at hw; cases hw
      | some j => simpa using (List.getElem?_eq_some_iff.mp q).1
    rw [List.getElem?_range hi] at hw
    cases hw
    refine ⟨hi, fun x H2 y => ?_⟩
    obtain ⟨e, y⟩ := y
    subst e y
    exact ⟨I1, Ext.refl x2, isInt.mpr rfl⟩
  stop := fun I1 H1 x1 x2 => by
    show n ≤ (rngW lo n).length
    simp [rngW]
def inR (i : Int) : Bool := decide (-(2 ^ 62) ≤ i ∧ i < 2 ^ 62)
def fRng1 (f : En → Option W) : En → Option (List W) := fun e => match f e with
  | some (.int n) => if inR n = true then some (rngW 0 n.toNat) else none
  | _ => none
def fRng2 (f g : En → Option W) : En → Option (List W) := fun e => match f e with
  | some (.int m) => (match g e with
    | some (.int n) => if inR m = true ∧ inR n = true then some (rngW m (n - m).toNat) else none
    | _ => none)
  | _ => none
theorem qr1 {tg a : Expr} {f : En → Option W} {p pos : Pos} (hg : Gl X "range") (hm : X.mg "range" = none) (ha : PE X a (tW X.K f)) (hs0 : starEach [a] X.env = [(false, eval a X.env)] := by rfl) : PI X tg (.Call (.Name "range" p) [a] [] pos) (tI X.K (fRng1 f)) :=
  pi_imp (pi_range1 hg hm (pa_cons ha pa_nil hs0) hs0) fun σ H R ⟨I0, H0, I, e, ws, S, hf, k⟩ => by
    unfold fRng1 at hf
    split at hf
    next n hw =>
      split at hf
      next hr =>
        cases hf
        have hr' := of_decide_eq_true hr
        refine ⟨I0, H0, I, e, _, S, hw, fun I1 H1 v x1 r => ?_⟩
        rw [isInt] at r
        subst r
        exact ⟨n, rfl, hr'.1, hr'.2, k I1 H1 _ x1 (it_rng 0 _)⟩
      next => cases hf
    next => cases hf
theorem qr2 {tg a b : Expr} {f g : En → Option W} {p pos : Pos} (hg : Gl X "range") (hm : X.mg "range" = none) (ha : PE X a (tW X.K f)) (hb : PE X b (tW X.K g)) (hs : starEach [a, b] X.env = [(false, eval a X.env), (false, eval b X.env)] := by rfl) (hs2 : starEach [b] X.env = [(false, eval b X.env)] := by rfl) :
    PI X tg (.Call (.Name "range" p) [a, b] [] pos) (tI X.K (fRng2 f g)) :=
  pi_imp (pi_range2 hg hm (pa_cons ha (pa_cons hb pa_nil hs2) (by rw [hs, hs2])) hs hs2) fun σ H R ⟨I0, H0, I, e, ws, S, hf, k⟩ => by
    unfold fRng2 at hf
    split at hf
    next m hm' =>
      split at hf
      next n hn =>
        split at hf
        next hr =>
          cases hf
          have h1 := of_decide_eq_true hr.1
          have h2 := of_decide_eq_true hr.2
          refine ⟨I0, H0, I, e, _, S, hm', fun I1 H1 v x1 r => ⟨I0, H0, I1, e, _, S.mono x1, hn, fun I2 H2 u x2 r2 => ?_⟩⟩
          rw [isInt] at r r2
          subst r r2
          exact ⟨m, n, rfl, ⟨h1.1, h1.2, h2.1, h2.2⟩, k I2 H2 _ (x1.trans x2) (it_rng m _)⟩
        next => cases hf
      next => cases hf
    next => cases hf
/-! ### for, while -/
def loopW (A : W → En → Option En) (F : En → Option Out) : List W → En → Option Out
  | [], e => some (.nx e)
  | w :: ws, e => match A w e with
    | none => none
    | some e1 => match F e1 with
      | some (.nx e2) => loopW A F ws e2
      | some (.ct e2) => loopW A F ws e2
      | some (.bk e2) => some (.nx e2)
      | r => r
def sFor (f : En → Option (List W)) (A : W → En → Option En) (F : En → Option Out) : En → Option Out := fun e => match f e with
  | some ws => loopW A F ws e
  | none => none
theorem for_use {f : En → Option (List W)} {A : W → En → Option En} {ts : List Nat} {F : En → Option Out} {D : Ends} : tS K T (sFor f A F) D σ H → tFor (tI K f) (tG K A ts) (tS K T F) D σ H := fun ⟨I0, H0, I, e, o, S, hf, k⟩ => by
  unfold sFor at hf
  split at hf
  next ws hw =>
    refine ⟨I0, H0, I, e, ws, S, hw, fun Ia Ha J xa it => ?_⟩
    refine ⟨fun i m σ' H' => m = ws.length - i ∧ i ≤ ws.length ∧ ∃ I1 e', Sat K I0 H0 I1 e' σ' H' ∧ Ex Ia I1 ∧ loopW A F (ws.drop i) e' = some o, ⟨_, rfl, Nat.zero_le _, Ia, e, S.mono xa, Ex.refl _, by simpa using hf⟩, ?_⟩
    rintro i m σ1 H1 ⟨rfl, hi, I1, e1, S1, x1, hl⟩
    by_cases hlt : i < ws.length
    · have hd : ws.drop i = ws[i] :: ws.drop (i + 1) := List.drop_eq_getElem_cons hlt
      rw [hd] at hl
      simp only [loopW] at hl
      have hwi : ws[i]? = some ws[i] := List.getElem?_eq_getElem hlt
      obtain ⟨g1, g2⟩ := it.go i _ hwi I1 H1 x1 S1.ext
      cases hA : A ws[i] e1 with
      | none => rw [hA] at hl; cases hl
      | some e2 =>
        rw [hA] at hl
        simp only at hl
        refine .inr ⟨g1, fun σ' H' => ∃ I2 e', Sat K I0 H0 I2 e' σ' H' ∧ Ex Ia I2 ∧ loopW A F (ws.drop (i + 1)) e' = some o, fun σ' H' ⟨I2, e', S2, x2, h2⟩ => ⟨ws.length - (i + 1), by omega, rfl, hlt, I2, e', S2, x2, h2⟩, fun x H2 y => ?_⟩
        obtain ⟨I2, x2, r2⟩ := g2 x H2 y
        refine ⟨I0, H0, I2, e1, _, e2, S1.mono x2, r2, hA, fun σ2 S2 _ => ?_⟩
        have xa2 : Ex Ia I2 := x1.trans x2.i
        cases hF : F e2 with
        | none => rw [hF] at hl; cases hl
        | some o2 =>
          rw [hF] at hl
          refine ⟨I0, H0, I2, e2, o2, S2, hF, ?_⟩
          cases o2 with
          | nx e3 => exact fun I3 σ3 H3 S3 x3 => ⟨I3, e3, S3, xa2.trans x3, hl⟩
          | ct e3 => exact fun I3 σ3 H3 S3 x3 => ⟨I3, e3, S3, xa2.trans x3, hl⟩
          | bk e3 =>
            cases hl
            exact fun I3 σ3 H3 S3 x3 => k I3 σ3 H3 S3 ((xa.i.trans xa2).trans x3)
          | rt sv =>
            cases hl
            exact k
          | ex x fn w e3 =>
            cases hl
            exact fun I3 σ3 H3 d u S3 x3 h3 h4 => k I3 σ3 H3 d u S3 ((xa.i.trans xa2).trans x3) h3 h4
    · have hi' : i = ws.length := by omega
      subst hi'
      refine .inl ⟨it.stop I1 H1 x1 S1.ext, ?_⟩
      rw [List.drop_length] at hl
      cases hl
      exact k I1 σ1 H1 S1 (xa.i.trans x1)
  next => cases hf
theorem qfor {tg it : Expr} {body : List Stmt} {f : En → Option (List W)} {A : W → En → Option En} {ts : List Nat} {F : En → Option Out} {pos : Pos} (hc : X.calm = true) (hi : PI X tg it (tI X.K f)) (hg : PG X tg (tG X.K A ts)) (hb : PSs X body (tS X.K (wxQ X) F))
    (hp : PassesOwn (model X.prog X.w) X.A X.env X.xe := by exact PassesOwn.never) (hs : ∀ x, foldedSetIterable it X.env x = pure x := by intro _; rfl) : PS X (.For tg it body [] pos) (tS X.K (wxQ X) (sFor f A F)) :=
  ps_imp (ps_for hp hc hi hg hb hs) fun _ _ _ => for_use
def whileN (t : En → Option Bool) (F : En → Option Out) : Nat → En → Option Out
  | 0, _ => none
  | n + 1, e => match t e with
    | some false => some (.nx e)
    | some true => (match F e with
      | some (.nx e2) => whileN t F n e2
      | some (.ct e2) => whileN t F n e2
      | some (.bk e2) => some (.nx e2)
      | r => r)
    | none => none
open Classical in
noncomputable def sWhile (t : En → Option Bool) (F : En → Option Out) : En → Option Out := fun e => if h : ∃ n o, whileN t F n e = some o then some (Classical.choose (Classical.choose_spec h)) else none
theorem sWhile_n {t : En → Option Bool} {F : En → Option Out} {e : En} {o : Out} (h : sWhile t F e = some o) : ∃ n, whileN t F n e = some o := by
  unfold sWhile at h
  split at h
  next q => cases h; exact ⟨_, Classical.choose_spec (Classical.choose_spec q)⟩
  next => cases h
theorem whileN_more {t : En → Option Bool} {F : En → Option Out} : ∀ {n m : Nat} {e : En} {o : Out}, n ≤ m → whileN t F n e = some o → whileN t F m e = some o
  | 0, _, _, _, _, h => by cases h
  | n + 1, 0, _, _, hm, _ => absurd hm (by omega)
  | n + 1, m + 1, e, o, hm, h => by
    simp only [whileN] at h ⊢
    split at h
    next ht => exact h
    next ht =>
      split at h
      next e2 hF => exact whileN_more (by omega) h
      next e2 hF => exact whileN_more (by omega) h
      next e2 hF => exact h
      next r h1 h2 h3 =>
        cases q : F e with
        | none => rw [q] at h; cases h
        | some o2 =>
          rw [q] at h
          cases o2 with
          | nx _ => exact absurd q (h1 _)
          | ct _ => exact absurd q (h2 _)
          | bk _ => exact absurd q (h3 _)
          | rt _ => exact h
          | ex _ _ _ _ => exact h
    next => cases h
theorem sWhile_of {t : En → Option Bool} {F : En → Option Out} {e : En} {o : Out} (n : Nat) (h : whileN t F n e = some o) : sWhile t F e = some o := by
  unfold sWhile
  have q : ∃ n o, whileN t F n e = some o := ⟨n, o, h⟩
  rw [dif_pos q]
  have h2 := Classical.choose_spec (Classical.choose_spec q)
  have h3 := whileN_more (Nat.le_max_left n (Classical.choose q)) h
  have h4 := whileN_more (Nat.le_max_right n (Classical.choose q)) h2
  rw [h3] at h4
  cases h4
  rfl
theorem while_use {t : En → Option Bool} {F : En → Option Out} {D : Ends} : tS K T (sWhile t F) D σ H → tWhile (tT K t) (tS K T F) D σ H := fun ⟨I0, H0, I, e, o, S, hf, k⟩ => by
  obtain ⟨n, hn⟩ := sWhile_n hf
  refine ⟨fun m σ' H' => ∃ I1 e', Sat K I0 H0 I1 e' σ' H' ∧ Ex I I1 ∧ whileN t F m e' = some o, ⟨n, I, e, S, Ex.refl _, hn⟩, ?_⟩
  rintro m σ1 H1 ⟨I1, e1, S1, x1, hl⟩
  cases m with
  | zero => cases hl
  | succ m =>
    simp only [whileN] at hl
    cases ht : t e1 with
    | none => rw [ht] at hl; cases hl
    | some b =>
      refine ⟨I0, H0, I1, e1, b, S1, ht, fun I2 H2 x2 => ?_⟩
      cases b with
      | false =>
        rw [ht] at hl
        cases hl
        exact iteF (k I2 σ1 H2 (S1.mono x2) (x1.trans x2.i))
      | true =>
        rw [ht] at hl
        simp only at hl
        refine iteT ⟨fun σ' H' => ∃ I1 e', Sat K I0 H0 I1 e' σ' H' ∧ Ex I I1 ∧ whileN t F m e' = some o, fun σ' H' h => ⟨m, Nat.lt_succ_self _, h⟩, ?_⟩
        cases hF : F e1 with
        | none => rw [hF] at hl; cases hl
        | some o2 =>
          rw [hF] at hl
          refine ⟨I0, H0, I2, e1, o2, S1.mono x2, hF, ?_⟩
          have xa2 : Ex I I2 := x1.trans x2.i
          cases o2 with
          | nx e3 => exact fun I3 σ3 H3 S3 x3 => ⟨I3, e3, S3, xa2.trans x3, hl⟩
          | ct e3 => exact fun I3 σ3 H3 S3 x3 => ⟨I3, e3, S3, xa2.trans x3, hl⟩
          | bk e3 =>
            cases hl
            exact fun I3 σ3 H3 S3 x3 => k I3 σ3 H3 S3 (xa2.trans x3)
          | rt sv =>
            cases hl
            exact k
          | ex x fn w e3 =>
            cases hl
            exact fun I3 σ3 H3 d u S3 x3 h3 h4 => k I3 σ3 H3 d u S3 (xa2.trans x3) h3 h4
theorem qwhile {c : Expr} {body : List Stmt} {t : En → Option Bool} {F : En → Option Out} {pos : Pos} (hc : PT X c (tT X.K t)) (hb : PSs X body (tS X.K (wxQ X) F)) (hp : PassesOwn (model X.prog X.w) X.A X.env X.xe := by exact PassesOwn.never) :
    PS X (.While c body [] pos) (tS X.K (wxQ X) (sWhile t F)) := ps_imp (ps_while hp hc hb) fun _ _ _ => while_use
end Qw
namespace Qw
open PySem PySem.Spec PyProof.Rows L2 Nz
open Evl (Ex)
variable {T : TQ} {X : Cx} {K : PySem.W.Frag} {I I' I1 I2 H H' H1 H2 I0 H0 : Hp} {e : En} {σ : L2.St}
/-! ### list comprehensions -/
def wipeE (e : En) : List Nat → En
  | [] => e
  | v :: vs => (wipeE e vs).set v none
theorem Sat.wipe (S : Sat K I0 H0 I e σ H) : ∀ vs, Sat K I0 H0 I (wipeE e vs) (L2.wipe σ vs) H
  | [] => S
  | v :: vs => (S.wipe vs).del v none
theorem wipe_wipe (σ : L2.St) (vs : List Nat) : L2.wipe (L2.wipe σ vs) vs = L2.wipe σ vs := by
  refine List.ext_getElem? fun j => ?_
  have g : ∀ (τ : L2.St) (us : List Nat) (j : Nat), (L2.wipe τ us)[j]? = if j ∈ us then (if j < τ.length then some none else none) else τ[j]? := fun τ us j => by
    induction us with
    | nil => rw [if_neg (by simp)]; rfl
    | cons u us ih =>
      show ((L2.wipe τ us).set u none)[j]? = _
      by_cases h : j = u
      · subst h
        rw [if_pos (List.mem_cons_self)]
        by_cases hl : j < τ.length
        · rw [if_pos hl, List.getElem?_set_self (by rw [wipe_length]; exact hl)]
        · rw [if_neg hl, List.getElem?_eq_none (by rw [List.length_set, wipe_length]; omega)]
      · rw [List.getElem?_set_ne (Ne.symm h), ih]
        by_cases hm : j ∈ us
        · rw [if_pos hm, if_pos (show j ∈ u :: us from List.mem_cons_of_mem _ hm)]
        · rw [if_neg hm, if_neg (show ¬ j ∈ u :: us from fun z => (List.mem_cons.mp z).elim h hm)]
  rw [g, g]
  by_cases hm : j ∈ vs
  · rw [if_pos hm, if_pos hm, wipe_length]
  · rw [if_neg hm, if_neg hm]
def lcW (A : W → En → Option En) (t : En → Option Bool) (g : En → Option W) (e : En) : List W → Option (List W)
  | [] => some []
  | w :: ws => match A w e with
    | none => none
    | some e1 => match t e1 with
      | some true => (match g e1 with
        | some u => (match lcW A t g e ws with
          | some us => some (u :: us)
          | none => none)
        | none => none)
      | some false => lcW A t g e ws
      | none => none
def fLc (f : En → Option (List W)) (A : W → En → Option En) (t : En → Option Bool) (g : En → Option W) (vs : List Nat) : En → Option SV := fun e => match f e with
  | some ws => (match lcW A t g (wipeE e vs) ws with
    | some us => if us.length ≤ sizeLine then some (.own (.lst us)) else none
    | none => none)
  | none => none
def fYes : En → Option Bool := fun _ => some true
theorem lc_use {f : En → Option (List W)} {A : W → En → Option En} {t : En → Option Bool} {g : En → Option W} {vs ts : List Nat} (hts : ∀ i ∈ ts, i ∈ vs) {Q : VK} :
    tR K (fLc f A t g vs) σ H Q → tLc (tI K f) (tG K A ts) (tT K t) (tW K g) vs σ H Q := fun ⟨I0, H0, I, e, sv, S, hf, k⟩ => by
  unfold fLc at hf
  split at hf
  next ws hw =>
    split at hf
    next us hus =>
      split at hf
      next hz =>
        cases hf
        refine ⟨I0, H0, I, e, ws, S, hw, fun Ia Ha J xa it => fun D hD => ?_⟩
        have SA := S.mono xa
        have hDa : Ia D = none := Evl.fresh_back xa.ih hD
        refine ⟨fun i m Hi => m = ws.length - i ∧ i ≤ ws.length ∧ ∃ Ii accV accW rest, Ext Ia Ha Ii Hi ∧ Ii D = none ∧ Hi D = some (.lst accV) ∧ IsWs K Ii accW accV ∧ lcW A t g (wipeE e vs) (ws.drop i) = some rest ∧ accW ++ rest = us,
          ⟨_, rfl, Nat.zero_le _, Ia, [], [], us, (Ext.refl xa.ih).newOwn hD, hDa, upd_same, IsWs.nil, by simpa using hus, rfl⟩, ?_⟩
        rintro i m Hi ⟨rfl, hi, Ii, accV, accW, rest, xi, hDi, hDv, racc, hl, hus'⟩
        by_cases hlt : i < ws.length
        · have hd : ws.drop i = ws[i] :: ws.drop (i + 1) := List.drop_eq_getElem_cons hlt
          rw [hd] at hl
          simp only [lcW] at hl
          obtain ⟨g1, g2⟩ := it.go i _ (List.getElem?_eq_getElem hlt) Ii Hi xi.i xi.ih
          cases hA : A ws[i] (wipeE e vs) with
          | none => rw [hA] at hl; cases hl
          | some e1 =>
            rw [hA] at hl
            simp only at hl
            refine .inr ⟨g1, fun Hn => ∃ Ii accV accW rest, Ext Ia Ha Ii Hn ∧ Ii D = none ∧ Hn D = some (.lst accV) ∧ IsWs K Ii accW accV ∧ lcW A t g (wipeE e vs) (ws.drop (i + 1)) = some rest ∧ accW ++ rest = us,
              fun Hn hn => ⟨ws.length - (i + 1), by omega, rfl, hlt, hn⟩, fun x H2 y => ?_⟩
            obtain ⟨I2, x2, r2⟩ := g2 x H2 y
            have keepD : ∀ {Ij Hj : Hp}, Ext Ii Hi Ij Hj → Ij D = none ∧ Hj D = some (.lst accV) := fun x => ⟨(x.k D (some_ne hDv)).trans hDi, x.h _ _ hDv⟩
            refine ⟨I0, H0, I2, _, _, e1, ((SA.mono xi).mono x2).wipe vs, r2, hA, fun σ2 S2 hwp => ⟨(hwp vs hts).trans (wipe_wipe σ vs), ?_⟩⟩
            cases ht : t e1 with
            | none => rw [ht] at hl; cases hl
            | some b =>
              refine ⟨I0, H0, I2, e1, b, S2, ht, fun I3 H3 x3 => ?_⟩
              have x23 := x2.trans x3
              cases b with
              | false =>
                rw [ht] at hl
                obtain ⟨d1, d2⟩ := keepD x23
                exact iteF ⟨I3, accV, accW, rest, xi.trans x23, d1, d2, racc.mono x23.i, hl, hus'⟩
              | true =>
                rw [ht] at hl
                simp only at hl
                split at hl
                next u hu =>
                  split at hl
                  next us2 hus2 =>
                    cases hl
                    refine iteT ⟨I0, H0, I3, e1, u, S2.mono x3, hu, fun I4 H4 yv x4 r4 => ?_⟩
                    have x24 := x23.trans x4
                    obtain ⟨d1, d2⟩ := keepD x24
                    refine ⟨accV, d2, ?_, I4, accV ++ [yv], accW ++ [u], us2, (xi.trans x24).chg hD d1, d1, upd_same, (racc.mono x24.i).append (IsWs.cons r4 IsWs.nil), hus2, by rw [List.append_assoc]; exact hus'⟩
                    have e1 := racc.len
                    have e2 : us.length = accW.length + (us2.length + 1) := by rw [← hus']; simp
                    omega
                  next => cases hl
                next => cases hl
        · have hi' : i = ws.length := by omega
          subst hi'
          rw [List.drop_length] at hl
          cases hl
          refine .inl ⟨it.stop Ii Hi xi.i xi.ih, ?_⟩
          have e0 : accW = us := by simpa using hus'
          subst e0
          exact k Ii Hi _ (xa.trans xi) ⟨D, rfl, hDi, Evl.fresh_back xa.h hD, accV, hDv, racc⟩
      next => cases hf
    next => cases hf
  next => cases hf
theorem pts_imp {ex : List Expr} {t t' : TT} (h : PTs X ex t) (k : ∀ σ H Q, t' σ H Q → t σ H Q) : PTs X ex t' := ⟨fun pins s σ H Q I q => h.run pins s σ H Q I (k σ H Q q)⟩
theorem qtsn : PTs X [] (tT X.K fYes) := pts_imp pts_nil fun σ H Q ⟨I0, H0, I, e, b, S, hf, k⟩ => by
  cases hf
  exact k _ _ S.ref
theorem qts1 {c : Expr} {t : En → Option Bool} (h : PT X c (tT X.K t)) : PTs X [c] (tT X.K t) := pts_one h
theorem qlc {elt tg iter : Expr} {ifs : List Expr} {scope : Scope} {own : List (Str × Nat)} {pos : Pos} {f : En → Option (List W)} {A : W → En → Option En} {t : En → Option Bool} {g : En → Option W} {ts : List Nat} (hc : X.calm = true) (hN : X.N.Nodup) (hi : PI X tg iter (tI X.K f)) (ok : BlkOk X.N X.env.scope scope own)
    (hg : ∀ (s : Shared) (H : Hp) (C : Addr) (cl : List (Str × Addr)) (fp : List Addr), PG (X.blk s H scope (compEnvC scope cl C X.env) fp) tg (tG X.K A ts)) (ht : ∀ (s : Shared) (H : Hp) (C : Addr) (cl : List (Str × Addr)) (fp : List Addr), PTs (X.blk s H scope (compEnvC scope cl C X.env) fp) ifs (tT X.K t))
    (he : ∀ (s : Shared) (H : Hp) (C : Addr) (cl : List (Str × Addr)) (fp : List Addr), PE (X.blk s H scope (compEnvC scope cl C X.env) fp) elt (tW X.K g)) (hts : ∀ i ∈ ts, i ∈ own.map (·.2) := by decide) (hs : ∀ x, foldedSetIterable iter X.env x = pure x := by intro _; rfl) :
    PE X (.ListComp elt [⟨tg, iter, ifs, 0⟩] scope pos) (tR X.K (fLc f A t g (own.map (·.2)))) := pe_imp (pe_lc hc hN hi ok hg ht he hs) fun _ _ _ => lc_use hts
theorem qsetLc {i : Nat} {y : Str} {py : Pos} {elt tg iter : Expr} {ifs : List Expr} {scope : Scope} {own : List (Str × Nat)} {pos spos : Pos} {f : En → Option (List W)} {A : W → En → Option En} {t : En → Option Bool} {g : En → Option W} {ts : List Nat} (hc : X.calm = true) (hN : X.N.Nodup) (hy : X.N[i]? = some y) (hyl : X.env.scope.names.lookup y = some .local)
    (hsw : swapsWith (.ListComp elt [⟨tg, iter, ifs, 0⟩] scope pos) (some (.Name y py)) spos.line X.env = pure true) (hi : PI X tg iter (tI X.K f)) (ok : BlkOk X.N X.env.scope scope own)
    (hg : ∀ (s : Shared) (H : Hp) (C : Addr) (cl : List (Str × Addr)) (fp : List Addr), PG (X.blk s H scope (compEnvC scope cl C X.env) fp) tg (tG X.K A ts)) (ht : ∀ (s : Shared) (H : Hp) (C : Addr) (cl : List (Str × Addr)) (fp : List Addr), PTs (X.blk s H scope (compEnvC scope cl C X.env) fp) ifs (tT X.K t))
    (he : ∀ (s : Shared) (H : Hp) (C : Addr) (cl : List (Str × Addr)) (fp : List Addr), PE (X.blk s H scope (compEnvC scope cl C X.env) fp) elt (tW X.K g)) (hts : ∀ i ∈ ts, i ∈ own.map (·.2) := by decide) (hs : ∀ x, foldedSetIterable iter X.env x = pure x := by intro _; rfl) :
    PS X (.Assign [.Name y py] (.ListComp elt [⟨tg, iter, ifs, 0⟩] scope pos) spos) (tS X.K (wxQ X) (sSet i (fLc f A t g (own.map (·.2))))) :=
  ps_imp (ps_setLc hc hN hy hyl hsw hi ok hg ht he hs) fun _ _ _ q => lc_use hts (set_use q)
theorem qsetLcF {i : Nat} {y : Str} {py : Pos} {elt tg iter : Expr} {ifs : List Expr} {scope : Scope} {own : List (Str × Nat)} {pos spos : Pos} {f : En → Option (List W)} {A : W → En → Option En} {t : En → Option Bool} {g : En → Option W} {ts : List Nat} (hc : X.calm = true) (hN : X.N.Nodup) (hy : X.N[i]? = some y) (hyl : X.env.scope.names.lookup y = some .local)
    (hsw : swapsWith (.ListComp elt [⟨tg, iter, ifs, 0⟩] scope pos) (some (.Name y py)) spos.line X.env = pure true) (hi : PI X tg iter (tI X.K f)) (ok : BlkOk X.N X.env.scope scope own)
    (hg : ∀ (s : Shared) (H : Hp) (C : Addr) (cl : List (Str × Addr)) (fp : List Addr), PG (X.blk s H scope (compEnvC scope cl C X.env) fp) tg (tG X.K A ts)) (ht : ∀ (s : Shared) (H : Hp) (C : Addr) (cl : List (Str × Addr)) (fp : List Addr), PTs (X.blk s H scope (compEnvC scope cl C X.env) fp) ifs (tT X.K t))
    (he : ∀ (s : Shared) (H : Hp) (C : Addr) (cl : List (Str × Addr)) (fp : List Addr), PE (X.blk s H scope (compEnvC scope cl C X.env) fp) elt (tW X.K g)) (hts : ∀ i ∈ ts, i ∈ own.map (·.2) := by decide) (hs : ∀ x, foldedSetIterable iter X.env x = pure x := by intro _; rfl) :
    PS X (.Assign [.Name y py] (.ListComp elt [⟨tg, iter, ifs, 0⟩] scope pos) spos) (tS X.K (wxQ X) (sSet i (fImm (fFrz (fLc f A t g (own.map (·.2))))))) :=
  ps_imp (ps_setLc hc hN hy hyl hsw hi ok hg ht he hs) fun _ _ _ q => lc_use hts (frz_use (imm_use (set_use q)))
/-! ### calls of defs -/
def spQ (K : PySem.W.Frag) (n : Nat) (F : List W → Option SV) : Sp := fun vs H Q _ => ∃ I ws sv, Ex I H ∧ IsWs K I ws vs ∧ ws.length = n ∧ F ws = some sv ∧ ∀ I' H' v, Ext I H I' H' → Res K I' H' H sv v → Q v H'
theorem calF_use {F : List W → Option SV} {f : En → Option (List W)} {n : Nat} (hn : ∀ ws sv, F ws = some sv → ws.length = n) {Q : VK} : tR K (fCall F f) σ H Q → tCall (spQ K n F) [] E0 (tA K f) σ H Q := fun ⟨I0, H0, I, e, sv, S, hf, k⟩ => by
  unfold fCall at hf
  split at hf
  next ws hws =>
    refine ⟨I0, H0, I, e, ws, S, hws, fun I1 H1 vs x1 r1 => ⟨I1, ws, sv, x1.ih, by rw [List.append_nil]; exact r1, hn _ _ hf, hf, fun I2 H2 v x2 r2 => k _ _ _ (x1.trans x2) (r2.weak x1.h)⟩⟩
  next => cases hf
theorem qcall {k : Nat} {f : Addr} {fd : FuncData} {ps : List Str} {F : List W → Option SV} {g : En → Option (List W)} {x : Str} {p pos : Pos} {a : Expr} {es : List Expr} {n : Nat} (G : FnOk X.prog X.w X.K X.mg X.base CX0 k f fd ps (spQ X.K n F)) (hr : Room k X.A) (hg : Gl X x) (hm : X.mg x = some (.ref f)) (hk : PySem.W.keepIn X.K (.ref f) = true) (hb : Binds X.K fd ps [])
    (hn : ∀ ws sv, F ws = some sv → ws.length = n) (ha : PA X (a :: es) (tA X.K g)) (hdb : (x == ("__debug__" : Str)) = false := by decide) (he : starEach (a :: es) X.env = (false, eval a X.env) :: starEach es X.env := by rfl) (hpl : (backTo pos (starEach es X.env)).any (·.1) = false := by rfl) :
    PE X (.Call (.Name x p) (a :: es) [] pos) (tR X.K (fCall F g)) := pe_imp (pe_call G hr hg hm hk hb .nil pass0 ha hdb he hpl) fun _ _ _ => calF_use hn
/-- a def from its body -/
def runF (n m : Nat) (B : En → Option Out) (ws : List W) : Option SV := if ws.length = n then (match B (ws.map (fun w => some (.imm w)) ++ List.replicate m none) with
  | some (.rt sv) => some sv
  | some (.nx _) => some (.imm .non)
  | _ => none) else none
theorem runF_len {n m : Nat} {B : En → Option Out} {ws : List W} {sv : SV} (h : runF n m B ws = some sv) : ws.length = n := by
  unfold runF at h
  split at h
  next q => exact q
  next => cases h
theorem sat_start {ws : List W} {vs : List V} {m : Nat} (ex : Ex I H) (r : IsWs K I ws vs) : Sat K I H I (ws.map (fun w => some (.imm w)) ++ List.replicate m none) (vs.map some ++ List.replicate m none) H := by
  refine ⟨Ext.refl ex, by simp [r.len], fun i sv h => ?_, fun i j w w' h => ?_⟩
  · by_cases hi : i < ws.length
    · rw [List.getElem?_append_left (by simpa using hi), List.getElem?_map] at h
      obtain ⟨v, hv, q⟩ := r.get (List.getElem?_eq_getElem hi)
      rw [List.getElem?_eq_getElem hi] at h
      cases h
      refine ⟨v, ?_, q⟩
      rw [List.getElem?_append_left (by rw [List.length_map, ← r.len]; exact hi), List.getElem?_map, hv]
      rfl
    · rw [List.getElem?_append_right (by simpa using hi)] at h
      have := List.mem_of_getElem? h
      simp at this
  · by_cases hi : i < ws.length
    · rw [List.getElem?_append_left (by simpa using hi), List.getElem?_map, List.getElem?_eq_getElem hi] at h
      cases h
    · rw [List.getElem?_append_right (by simpa using hi)] at h
      have := List.mem_of_getElem? h
      simp at this
theorem ok_of {P : Program} {w : World} {mg : Str → Option Value} {base : Heap} {x qual : Str} {st : Stmt} {f : Addr} {fd : FuncData} {N ps : List Str} {k n m : Nat} {B : En → Option Out} (Fn : Fun K x qual st f fd) (S : FnScope N ps (defScope st)) (hn : ps.length = n) (hm : N.length = n + m)
    (hbody : ∀ (cdv : Value) (A : Around) (outer : List Env) (s : Shared) (H : Hp) (E : XK), Room k (A.deeper (envOfC qual (defScope st) s.heap.objs.size f cdv)) → PQ (cxOf CX0 P w K mg base N qual (defScope st) f cdv A outer s H E).nox (defBody st) B) :
    FnOk P w K mg base CX0 (k + 1) f fd ps (spQ K n (runF n m B)) := by
  refine Fn.ok S (fun vs H Q E h => ?_) (fun cdv A outer s H vs Q E hr h => ?_)
  · obtain ⟨I, ws, sv, ex, r, hl, _⟩ := h
    rw [← r.len, hl, hn]
  · obtain ⟨I, ws, sv, ex, r, hl, hF, q⟩ := h
    refine ⟨_, hbody cdv A outer s H E hr, ?_⟩
    have hF' := hF
    unfold runF at hF
    rw [if_pos hl] at hF
    have hst : L2.start N vs = vs.map some ++ List.replicate m none := by
      unfold L2.start
      rw [← r.len, hl, hm]
      congr 2
      omega
    rw [hst]
    split at hF
    next sv' hB =>
      cases hF
      exact ⟨I, H, I, _, _, sat_start ex r, hB, fun I' H' v x rr => q I' H' v x rr⟩
    next e' hB =>
      cases hF
      exact ⟨I, H, I, _, _, sat_start ex r, hB, fun I' σ' H' S' _ => q I' H' _ S'.x (by simp [Res, IsW])⟩
    next => cases hF
end Qw
namespace Qw
open PySem PySem.Spec PyProof.Rows L2 Nz
open Evl (Ex)
variable {T : TQ} {X : Cx} {K : PySem.W.Frag} {I I' I1 I2 H H' H1 H2 I0 H0 : Hp} {e : En} {σ : L2.St}
/-! ### more forms -/
def negW : W → Option W
  | .int i => some (.int (-i))
  | _ => none
theorem qneg {a : Expr} {f : En → Option W} {pos : Pos} (ha : PE X a (tW X.K f)) : PE X (.UnaryOp .USub a pos) (tW X.K (fUn negW f)) := pe_imp (pe_un un_neg ha) fun σ H Q ⟨I0, H0, I, e, w, S, hf, k⟩ => by
  unfold fUn at hf
  split at hf
  next u hu =>
    cases u <;> try (cases hf; done)
    cases hf
    refine ⟨I0, H0, I, e, _, S, hu, fun I1 H1 v x1 r => ?_⟩
    rw [isInt] at r
    exact ⟨_, r, k _ _ _ x1 (isInt.mpr rfl)⟩
  next => cases hf
/-- a text n times -/
def repStr (s : Str) (n : Nat) : Str := ⟨(List.replicate n s.cps).foldl (· ++ ·) #[]⟩
theorem fold_nil : ∀ (n : Nat), (List.replicate n (#[] : Array Nat)).foldl (· ++ ·) #[] = #[]
  | 0 => rfl
  | n + 1 => by
    rw [List.replicate_succ, List.foldl_cons]
    exact fold_nil n
theorem fold_size (s : Array Nat) : ∀ (n : Nat) (acc : Array Nat), ((List.replicate n s).foldl (· ++ ·) acc).size = acc.size + s.size * n
  | 0, acc => by simp
  | n + 1, acc => by
    rw [List.replicate_succ, List.foldl_cons, fold_size s n, Array.size_append, Nat.mul_succ]
    omega
theorem repStr_len (s : Str) (n : Nat) : (repStr s n).length = s.length * n := by
  show ((List.replicate n s.cps).foldl (· ++ ·) #[]).size = s.cps.size * n
  rw [fold_size]
  simp
def rRepSt : R2 := fun x y H Q => ∃ s k, x = .str s ∧ y = .int k ∧ -(2 ^ 62) ≤ k ∧ k < 2 ^ 20 ∧ s.length ≤ 2 ^ 20 ∧ s.length * k.toNat ≤ sizeLine ∧ Q (.str (repStr s k.toNat)) H
theorem op_repSt : OpR X (binaryOp .Mult) rRepSt := by
  intro pins s σ H x y v u Q I rx ry h
  obtain ⟨z, k, rfl, rfl, h1, h2, h3, h4, q⟩ := h
  obtain ⟨t, rfl⟩ := rx
  obtain ⟨t', rfl⟩ := ry
  have fin : ∀ (z' : Str) (t : Tok) (n : Nat), z' = repStr z k.toNat → EP X pins σ Q (.str z' t) { s with toks := n } := fun z' t n e => by
    subst e
    exact ⟨.str _, H, I.tok _, ⟨_, rfl⟩, q⟩
  have e0 : (decide (k < -(2 ^ 63 : Int)) || decide (k ≥ 2 ^ 63)) = false := by
    rw [decide_eq_false (by omega), decide_eq_false (by omega)]
    rfl
  refine PySem.P.mul_str e0 (fun hk _ => ?_) (fun _ _ => ?_) ?_
  · have : (2 : Int) ^ 42 ≤ (2 ^ 63 - 1) / k := Int.le_ediv_of_mul_le (by omega) (by omega)
    have h5 : ((z.length : Nat) : Int) ≤ 2 ^ 20 := by omega
    omega
  · show decide (_ > sizeLine) = false
    exact decide_eq_false (by omega)
  · split
    next hk =>
      have e : k.toNat = 0 := by omega
      exact ⟨Nat.zero_le _, fin _ _ _ (by rw [e]; rfl)⟩
    next hk =>
      split
      next hz =>
        refine ⟨.str z, H, I, ⟨_, rfl⟩, ?_⟩
        have e : repStr z k.toNat = z := by
          rw [Bool.or_eq_true] at hz
          rcases hz with hz | hz
          · have : k.toNat = 1 := by have := eq_of_beq hz; omega
            rw [this]
            unfold repStr
            simp
          · have hl : z.cps.size = 0 := eq_of_beq hz
            have : z = ⟨#[]⟩ := by
              obtain ⟨cps⟩ := z
              have : cps = #[] := Array.eq_empty_of_size_eq_zero hl
              rw [this]
            rw [this]
            unfold repStr
            exact congrArg Str.mk (fold_nil _)
        rw [← e]
        exact q
      next hz => exact ⟨by rw [show (⟨(List.replicate k.toNat z.cps).foldl (· ++ ·) #[]⟩ : Str).length = _ from repStr_len z k.toNat]; omega, fin _ _ _ rfl⟩
def mulS : W → W → Option W
  | .str s, .int k => if -(2 ^ 62) ≤ k ∧ k < 2 ^ 20 ∧ s.length ≤ 2 ^ 20 ∧ s.length * k.toNat ≤ sizeLine then some (.str (repStr s k.toNat)) else none
  | _, _ => none
theorem bv_mulS : BinV K rRepSt mulS := by
  intro I H a b x y w Q ex ra rb ho k
  cases a <;> cases b <;> try (cases ho; done)
  simp only [mulS] at ho
  split at ho
  next h =>
    cases ho
    rw [isStr] at ra
    rw [isInt] at rb
    exact ⟨_, _, ra, rb, h.1, h.2.1, h.2.2.1, h.2.2.2, k _ _ _ (Ext.refl ex) (isStr.mpr rfl)⟩
  next => cases ho
/-! ### methods of texts and lists -/
def fMet (o : W → List W → Option W) (f : En → Option W) (g : En → Option (List W)) : En → Option W := fun e => match f e with
  | some a => (match g e with
    | some ws => o a ws
    | none => none)
  | none => none
def MetV (K : PySem.W.Frag) (T : String) (r : V → List V → Hp → VK → Prop) (o : W → List W → Option W) : Prop := ∀ (I H : Hp) (a : W) (ws : List W) (x : V) (vs : List V) (w : W) (Q : VK), Ex I H → IsW K I a x → IsWs K I ws vs → o a ws = some w → (∀ I' H' v, Ext I H I' H' → IsW K I' w v → Q v H') → r x vs H Q
def isT : String → W → Bool
  | "str", .str _ => true
  | "list", .lst _ => true
  | "list", .klst _ => true
  | _, _ => false
theorem isT_ty {T : String} {a : W} {x : V} (h : isT T a = true) (r : IsW K H a x) : tyV K T x H := by
  unfold isT at h
  split at h
  · rw [isStr] at r; subst r; rfl
  · simp only [IsW] at r
    obtain ⟨p, vs, rfl, hp, _⟩ := r
    exact .inl ⟨rfl, vs, sqL_of hp⟩
  · simp only [IsW] at r
    obtain ⟨p, vs, rfl, hp, _⟩ := r
    exact .inl ⟨rfl, vs, hp⟩
  · cases h
theorem met_use {T : String} {r : V → List V → Hp → VK → Prop} {o : W → List W → Option W} {f : En → Option W} {g : En → Option (List W)} (hT : ∀ a ws w, o a ws = some w → isT T a = true) (hw : MetV K T r o) {Q : VK} :
    tW K (fMet o f g) σ H Q → tBM K T r (tW K f) (tA K g) σ H Q := fun ⟨I0, H0, I, e, w, S, hf, k⟩ => by
  unfold fMet at hf
  split at hf
  next a ha =>
    split at hf
    next ws hws =>
      exact ⟨I0, H0, I, e, a, S, ha, fun I1 H1 x x1 r1 => ⟨isT_ty (hT _ _ _ hf) (IsW.mono x1.ih r1), I0, H0, I1, e, ws, S.mono x1, hws, fun I2 H2 vs x2 r2 => hw I2 H2 a ws x vs w Q x2.ih (IsW.mono x2.i r1) r2 hf fun I3 H3 v x3 r3 => k _ _ _ ((x1.trans x2).trans x3) r3⟩⟩
    next => cases hf
  next => cases hf
/-- sep.join(texts) -/
def txts : List W → Option (List Str)
  | [] => some []
  | .str b :: ws => (match txts ws with
    | some bs => some (b :: bs)
    | none => none)
  | _ => none
theorem txts_vs : ∀ {ws : List W} {vs : List V} {bs : List Str}, IsWs K I ws vs → txts ws = some bs → vs = bs.map V.str
  | [], _, _, h, e => by cases e; rw [isNil h]; rfl
  | w :: ws, _, bs, h, e => by
    cases w <;> try (cases e; done)
    simp only [txts] at e
    split at e
    next b bs hb =>
      cases e
      obtain ⟨v, r, rfl, h1, h2⟩ := one h
      rw [isStr] at h1
      rw [h1, txts_vs h2 hb]
      rfl
    next => cases e
def joinW : W → W → Option W
  | .str a, .lst ws => (match txts ws with
    | some ys => if (ys.map (·.length)).sum + ys.length * a.length ≤ 16777216 then some (.str (Txt.join a ys)) else none
    | none => none)
  | _, _ => none
theorem qjoin {o a : Expr} {f g : En → Option W} {apos pos : Pos} (ho : PE X o (tW X.K f)) (he : PE X a (tW X.K g)) (hs : starEach [a] X.env = [(false, eval a X.env)] := by rfl) (hbase : attributeBase o "join" X.env (eval o X.env) = eval o X.env := by rfl) (hline : (apos.endLine == pos.line) = true := by rfl) :
    PE X (.Call (.Attribute o "join" apos) [a] [] pos) (tW X.K (fBin joinW f g)) := pe_imp (pe_join ho he hs hbase hline) fun σ H Q ⟨I0, H0, I, e, w, S, hf, k⟩ => by
  unfold fBin at hf
  split at hf
  next u hu =>
    split at hf
    next z hz =>
      unfold joinW at hf
      split at hf
      next s ws =>
        split at hf
        next ys hys =>
          split at hf
          next hl =>
            cases hf
            refine ⟨I0, H0, I, e, _, S, hu, fun I1 H1 x x1 r1 => ?_⟩
            rw [isStr] at r1
            subst r1
            refine ⟨⟨_, rfl⟩, I0, H0, I1, e, _, S.mono x1, hz, fun I2 H2 y x2 r2 => ?_⟩
            simp only [IsW] at r2
            obtain ⟨p, vs, rfl, hp, r2⟩ := r2
            have e2 := txts_vs r2 hys
            subst e2
            exact ⟨_, p, ys, rfl, rfl, .inl (sqL_of (x2.ih _ _ hp)), hl, k _ _ _ (x1.trans x2) (isStr.mpr rfl)⟩
          next => cases hf
        next => cases hf
      next => cases hf
    next => cases hf
  next => cases hf
/-- text.startswith(t, i) -/
def stw3 : W → List W → Option W
  | .str a, [.str b, .int i] => some (.bl (Txt.startswith3 a b i))
  | _, _ => none
theorem mv_stw3 : MetV K "str" (fun x xs H Q => ∃ (a b : Str) (i : Int), x = .str a ∧ xs = [.str b, .int i] ∧ Q (.bl (Txt.startswith3 a b i)) H) stw3 := by
  intro I H a ws x vs w Q ex ra rs ho k
  unfold stw3 at ho
  split at ho
  · cases ho
    rw [isStr] at ra
    obtain ⟨v, r', rfl, h1, h2⟩ := one rs
    obtain ⟨v', r'', rfl, h3, h4⟩ := one h2
    rw [isNil h4]
    rw [isStr] at h1
    rw [isInt] at h3
    subst ra h1 h3
    exact ⟨_, _, _, rfl, rfl, k _ _ _ (Ext.refl ex) (isBl.mpr rfl)⟩
  · cases ho
theorem stw3_T (a : W) (ws : List W) (w : W) (h : stw3 a ws = some w) : isT "str" a = true := by
  unfold stw3 at h
  split at h
  · rfl
  · cases h
theorem pop_use {i : Nat} {D : Ends} : tS K T (sPop i) D σ H → tDrop (tBM0 K "list" rPop (tVar i)) D σ H := fun ⟨I0, H0, I, e, o, S, hf, k⟩ => by
  unfold sPop at hf
  split at hf
  next ws hs =>
    split at hf
    next => cases hf
    next hz =>
      cases hf
      obtain ⟨p, hp, hi, h0, vs, hv, r⟩ := own_at S hs
      have hl := r.len
      have hpos : vs.length - 1 < vs.length := by
        have : ws.length ≠ 0 := fun z => hz (List.length_eq_zero_iff.mp z)
        omega
      exact ⟨_, hp, .inl ⟨rfl, _, .inl (.inl hv)⟩, p, vs, vs[vs.length - 1], rfl, rfl, hv, List.getElem?_eq_getElem hpos, k I _ _ (S.chg hs hp ⟨_, upd_same, isWs_dropLast r⟩) (Ex.refl _)⟩
  next => cases hf
theorem okNone {P : Program} {w : World} {mg : Str → Option Value} {base : Heap} {k n : Nat} {f : Addr} {fd : FuncData} {ps : List Str} : FnOk P w K mg base CX0 k f fd ps (spQ K n fun _ => none) := by
  have no : ∀ vs H Q E, ¬ spQ K n (fun _ => none) vs H Q E := fun vs H Q E ⟨_, _, _, _, _, _, h, _⟩ => by cases h
  exact ⟨fun vs H Q E h => absurd h (no vs H Q E), fun A outer s H args us vs Q E _ _ _ _ h => absurd h (no vs H Q E)⟩
/-- a statement that is never come to -/
def sNo : En → Option Out := fun _ => none
theorem qno_st {st : Stmt} : PS X st (tS X.K (wxQ X) sNo) := ps_imp ps_never fun D σ H ⟨I0, H0, I, e, o, S, hf, k⟩ => by cases hf
/-! ### tuples of the module -/
def tupOk (o : Obj) (xs : List W) : Bool := match o.data with
  | .seq its _ => (match o.cls with
    | .type n => decide (n = "tuple")
    | _ => false) && decide (its.size ≤ sizeLine) && decide (its.toList.map absV = xs.map fun w => some (toV w)) && xs.all flatW
  | _ => false
theorem rel_abs {u : Value} {x : V} (h : absV u = some x) : RelV x u := by
  cases u <;> simp only [absV, Option.some.injEq] at h <;> first | (subst h; first | rfl | exact ⟨_, rfl⟩) | cases h
theorem vals_abs : ∀ {its : List Value} {xs : List V}, its.map absV = xs.map some → Vals xs its
  | [], [], _ => .nil
  | [], _ :: _, h => by cases h
  | _ :: _, [], h => by cases h
  | u :: us, x :: xs, h => by
    simp only [List.map_cons, List.cons.injEq] at h
    exact .cons (rel_abs h.1) (vals_abs h.2)
theorem isW_toV {w : W} (f : flatW w = true) : IsW K I w (toV w) := by
  cases w <;> first | exact absurd f Bool.false_ne_true | simp [IsW, toV]
theorem isWs_toV : ∀ {ws : List W}, ws.all flatW = true → IsWs K I ws (ws.map toV)
  | [], _ => IsWs.nil
  | w :: ws, f => by
    rw [List.all_cons, Bool.and_eq_true] at f
    exact IsWs.cons (isW_toV f.1) (isWs_toV f.2)
theorem tupOk_is {c : Addr} {o : Obj} {xs : List W} (l : K.lookup c = some o) (h : tupOk o xs = true) : IsW K H (.ktup xs) (.ref c) := by
  unfold tupOk at h
  split at h
  next its n hd =>
    simp only [Bool.and_eq_true, decide_eq_true_eq] at h
    obtain ⟨⟨⟨h1, h2⟩, h3⟩, h4⟩ := h
    simp only [IsW]
    refine ⟨c, xs.map toV, rfl, .inr ⟨o, its, n, l, ?_, hd, h2, vals_abs (by rw [h3, List.map_map]; rfl)⟩, isWs_toV h4⟩
    split at h1
    next m hm => rw [hm, of_decide_eq_true h1]
    next => cases h1
  next => cases h
end Qw
namespace Qw
open PySem PySem.Spec PyProof.Rows L2 Nz
/-! ### the functions, step by step: a row waits until what stands ahead of it is known -/
def bO (o : Option Out) (G : En → Option Out) : Option Out := match o with
  | some (.nx e') => G e'
  | r => r
def bT (b : Option Bool) (F G : En → Option Out) (e : En) : Option Out := match b with
  | some true => F e
  | some false => G e
  | none => none
def bI (b : Option Bool) (F G : En → Option W) (e : En) : Option W := match b with
  | some true => F e
  | some false => G e
  | none => none
def bTa (b : Option Bool) (G : En → Option Bool) (e : En) : Option Bool := match b with
  | some true => G e
  | r => r
def bTo (b : Option Bool) (G : En → Option Bool) (e : En) : Option Bool := match b with
  | some false => G e
  | r => r
def bVa (b : Option W) (G : En → Option W) (e : En) : Option W := match b with
  | some (.bl true) => G e
  | some (.bl false) => some (.bl false)
  | _ => none
def bVo (b : Option W) (G : En → Option W) (e : En) : Option W := match b with
  | some (.bl false) => G e
  | some (.bl true) => some (.bl true)
  | _ => none
def b2 {α : Type} (o : W → W → Option α) (a b : Option W) : Option α := match a, b with
  | some a, some b => o a b
  | _, _ => none
def b1 {α β : Type} (o : α → Option β) (a : Option α) : Option β := match a with
  | some a => o a
  | none => none
def bc {α : Type} (a : Option α) (b : Option (List α)) : Option (List α) := match a, b with
  | some a, some b => some (a :: b)
  | _, _ => none
def bL (a : Option (List W)) (A : W → En → Option En) (F : En → Option Out) (e : En) : Option Out := match a with
  | some ws => loopW A F ws e
  | none => none
def bC (a : Option (List W)) (A : W → En → Option En) (t : En → Option Bool) (g : En → Option W) (e : En) : Option SV := match a with
  | some ws => (match lcW A t g e ws with
    | some us => if us.length ≤ sizeLine then some (.own (.lst us)) else none
    | none => none)
  | none => none
def bF (o : Option Out) : Option SV := match o with
  | some (.rt sv) => some sv
  | some (.nx _) => some (.imm .non)
  | _ => none
def bSet (e : En) (i : Nat) (a : Option SV) : Option Out := match a with
  | some sv => some (.nx (e.set i (some sv)))
  | none => none
def bSlot (s : Option (Option SV)) : Option W := match s with
  | some (some (.imm w)) => some w
  | _ => none
def bAug (e : En) (i : Nat) (o : Int → Int → Int) (s : Option (Option SV)) (b : Option W) : Option Out := match s, b with
  | some (some (.imm (.int a))), some (.int b) => some (.nx (e.set i (some (.imm (.int (o a b))))))
  | _, _ => none
def bApp (e : En) (i : Nat) (s : Option (Option SV)) (b : Option W) : Option Out := match s, b with
  | some (some (.own (.lst ws))), some w => if ws.length < sizeLine then some (.nx (e.set i (some (.own (.lst (ws ++ [w])))))) else none
  | _, _ => none
def bExt (e : En) (i : Nat) (s : Option (Option SV)) (b : Option W) : Option Out := match s, b with
  | some (some (.own (.lst ws))), some (.lst us) => if ws.length + us.length ≤ sizeLine then some (.nx (e.set i (some (.own (.lst (ws ++ us)))))) else none
  | _, _ => none
def bPop (e : En) (i : Nat) (s : Option (Option SV)) : Option Out := match s with
  | some (some (.own (.lst ws))) => if ws = [] then none else some (.nx (e.set i (some (.own (.lst ws.dropLast)))))
  | _ => none
def bSetIx (e : En) (i : Nat) (b : Option W) (s : Option (Option SV)) (j : Option W) : Option Out := match b, s, j with
  | some w, some (some (.own (.lst ws))), some (.int j) => (match ixN ws.length j with
    | some n => some (.nx (e.set i (some (.own (.lst (ws.set n w))))))
    | none => none)
  | _, _, _ => none
def bIxO (s : Option (Option SV)) (j : Option W) : Option W := match s, j with
  | some (some (.own (.lst ws))), some (.int j) => atI ws j
  | some (some (.imm w)), some u => ixW w u
  | _, _ => none
def bFlat (a : Option W) : Option W := match a with
  | some w => if flatW w = true then some w else none
  | none => none
def bBl (a : Option W) : Option Bool := match a with
  | some (.bl b) => some b
  | _ => none
def bSome (a : Option W) : Option (Option Int) := match a with
  | some (.int i) => some (some i)
  | _ => none
def bSl (o : W → Option Int → Option Int → Option SV) (a : Option W) (l u : Option (Option Int)) : Option SV := match a, l, u with
  | some a, some l, some u => o a l u
  | _, _, _ => none
def bNotV (a : Option W) : Option W := match a with
  | some (.bl b) => some (.bl (!b))
  | _ => none
def bSeq (a : Option W) : Option (List W) := match a with
  | some (.lst ws) => some ws
  | some (.tup ws) => some ws
  | some (.klst ws) => some ws
  | some (.ktup ws) => some ws
  | some (.str s) => some (s.cps.toList.map fun c => .str ⟨#[c]⟩)
  | _ => none
def bR1 (a : Option W) : Option (List W) := match a with
  | some (.int n) => if inR n = true then some (rngW 0 n.toNat) else none
  | _ => none
def bR2 (a b : Option W) : Option (List W) := match a, b with
  | some (.int m), some (.int n) => if inR m = true ∧ inR n = true then some (rngW m (n - m).toNat) else none
  | _, _ => none
def bAsg (A : W → En → Option En) (a : Option W) (e : En) : Option Out := match a with
  | some w => (match A w e with
    | some e' => some (.nx e')
    | none => none)
  | none => none
def bLoop (A : W → En → Option En) (F : En → Option Out) (ws : List W) (o : Option Out) : Option Out := match o with
  | some (.nx e2) => loopW A F ws e2
  | some (.ct e2) => loopW A F ws e2
  | some (.bk e2) => some (.nx e2)
  | r => r
theorem nr {α : Type} {a b : α} (h : a = b) : a = b := h
section
variable {e : En} {f g : En → Option W} {F G : En → Option Out} {t u : En → Option Bool} {A : W → En → Option En} {fs : En → Option (List W)} {fr : En → Option SV} {i n m : Nat}
theorem q_seq : sSeq F G e = bO (F e) G := nr rfl
theorem q_if : sIf t F G e = bT (t e) F G e := nr rfl
theorem q_fif : fIf t f g e = bI (t e) f g e := nr rfl
theorem q_and : fAnd t u e = bTa (t e) u e := nr rfl
theorem q_or : fOr t u e = bTo (t e) u e := nr rfl
theorem q_andV : fAndV f g e = bVa (f e) g e := nr rfl
theorem q_orV : fOrV f g e = bVo (f e) g e := nr rfl
theorem q_bin {o : W → W → Option W} : fBin o f g e = b2 o (f e) (g e) := by
  unfold fBin b2
  cases f e <;> cases g e <;> rfl
theorem q_binR {o : W → W → Option SV} : fBinR o f g e = b2 o (f e) (g e) := by
  unfold fBinR b2
  cases f e <;> cases g e <;> rfl
theorem q_un {o : W → Option W} : fUn o f e = b1 o (f e) := by
  unfold fUn b1
  cases f e <;> rfl
theorem q_frz : fFrz fr e = b1 (fun sv => some sv.w) (fr e) := by
  unfold fFrz b1
  cases fr e <;> rfl
theorem q_imm : fImm f e = b1 (fun w => some (SV.imm w)) (f e) := by
  unfold fImm b1
  cases f e <;> rfl
theorem q_nil : fNil e = some [] := nr rfl
theorem q_cons : fCons f fs e = bc (f e) (fs e) := by
  unfold fCons bc
  cases f e <;> cases fs e <;> rfl
theorem q_call {o : List W → Option SV} : fCall o fs e = b1 o (fs e) := by
  unfold fCall b1
  cases fs e <;> rfl
theorem q_callW {o : List W → Option W} : fCallW o fs e = b1 o (fs e) := by
  unfold fCallW b1
  cases fs e <;> rfl
theorem q_c0 {w : W} : fC w e = some w := nr rfl
theorem q_var : fVar i e = bSlot e[i]? := nr rfl
theorem q_ret : sRet fr e = b1 (fun sv => some (Out.rt sv)) (fr e) := by
  unfold sRet b1
  cases fr e <;> rfl
theorem q_set : sSet i fr e = bSet e i (fr e) := nr rfl
theorem q_aug {o : Int → Int → Int} : sAug i o f e = bAug e i o e[i]? (f e) := by
  unfold sAug bAug
  split
  next a h =>
    rw [h]
    split
    next b h => rw [h]
    next h => split <;> simp_all
  next h => split <;> simp_all
theorem q_app : sApp i f e = bApp e i e[i]? (f e) := by
  unfold sApp bApp
  split
  next a h =>
    rw [h]
    split
    next b h => rw [h]
    next h => rw [h]
  next h => split <;> simp_all
theorem q_ext : sExt i f e = bExt e i e[i]? (f e) := by
  unfold sExt bExt
  split
  next a h =>
    rw [h]
    split
    next b h => rw [h]
    next h => split <;> simp_all
  next h => split <;> simp_all
theorem q_pop : sPop i e = bPop e i e[i]? := nr rfl
theorem q_setIx : sSetIx i g f e = bSetIx e i (f e) e[i]? (g e) := by
  unfold sSetIx bSetIx
  split
  next w h =>
    rw [h]
    split
    next ws h =>
      rw [h]
      split
      next j h => first | (rw [h]; done) | (rw [h]; rfl)
      next h => split <;> simp_all
    next h => split <;> simp_all
  next h => rw [h]
theorem q_ixo : fIxOwn i g e = bIxO e[i]? (g e) := by
  unfold fIxOwn bIxO
  split
  next ws h =>
    rw [h]
    split
    next j h => rw [h]
    next h => split <;> simp_all
  next w h =>
    rw [h]
    split
    next j h => rw [h]
    next h => rw [h]
  next h h2 => split <;> simp_all
theorem q_bor : fBor f e = bFlat (f (view e)) := nr rfl
theorem q_tru : fTru f e = b1 truW (f (view e)) := by
  unfold fTru b1
  cases f (view e) <;> rfl
theorem q_tst : fTst f e = bBl (f (view e)) := nr rfl
theorem q_not : fNot t e = b1 (fun b => some (!b)) (t e) := by
  unfold fNot b1
  cases t e <;> rfl
theorem q_notV : fNotV f e = bNotV (f e) := nr rfl
theorem q_no : fNone e = some none := nr rfl
theorem q_so : fSome f e = bSome (f e) := nr rfl
theorem q_sl {o : W → Option Int → Option Int → Option SV} {l h : En → Option (Option Int)} : fSl o f l h e = bSl o (f e) (l e) (h e) := by
  unfold fSl bSl
  cases f e <;> cases l e <;> cases h e <;> rfl
theorem q_sq : fSeq f e = bSeq (f e) := nr rfl
theorem q_r1 : fRng1 f e = bR1 (f e) := nr rfl
theorem q_r2 : fRng2 f g e = bR2 (f e) (g e) := by
  unfold fRng2 bR2
  split
  next a h =>
    rw [h]
    split
    next b h => rw [h]
    next h => split <;> simp_all
  next h => split <;> simp_all
theorem q_for : sFor fs A F e = bL (fs e) A F e := nr rfl
theorem q_lc {vs : List Nat} : fLc fs A t g vs e = bC (fs e) A t g (wipeE e vs) := nr rfl
theorem q_asg : sAsg A f e = bAsg A (f e) e := nr rfl
theorem q_yes : fYes e = some true := nr rfl
theorem q_next : sNext e = some (.nx e) := nr rfl
theorem q_fix : sFix i G e = G (fixSlot e i) := nr rfl
theorem q_slot : fSlot i e = b1 id e[i]? := by
  unfold fSlot b1
  cases e[i]? with
  | none => rfl
  | some o => cases o <;> rfl
theorem q_drop : sDrop f e = b1 (fun _ => some (.nx e)) (f e) := by
  unfold sDrop b1
  cases f e <;> rfl
theorem q_met {o : W → List W → Option W} : fMet o f fs e = (match f e, fs e with | some a, some ws => o a ws | _, _ => none) := by
  unfold fMet
  cases f e <;> cases fs e <;> rfl
theorem q_run {B : En → Option Out} {ws : List W} : runF n m B ws = if ws.length = n then bF (B (ws.map (fun w => some (.imm w)) ++ List.replicate m none)) else none := by
  unfold runF bF
  rfl
theorem q_loop {w : W} {ws : List W} : loopW A F (w :: ws) e = (match A w e with
    | some e1 => bLoop A F ws (F e1)
    | none => none) := by
  simp only [loopW]
  cases A w e with
  | none => rfl
  | some e1 => rfl
/-! the answers -/
variable {e' : En} {sv : SV} {w w' : W} {α β : Type}
theorem q1 : bO (some (.nx e')) G = G e' := nr rfl
theorem q2 : bO (some (.rt sv)) G = some (.rt sv) := nr rfl
theorem q2b : bO (some (.bk e')) G = some (.bk e') := nr rfl
theorem q2c : bO (some (.ct e')) G = some (.ct e') := nr rfl
theorem q3 : bT (some true) F G e = F e := nr rfl
theorem q4 : bT (some false) F G e = G e := nr rfl
theorem q5 : bI (some true) f g e = f e := nr rfl
theorem q6 : bI (some false) f g e = g e := nr rfl
theorem q7 : bTa (some true) t e = t e := nr rfl
theorem q8 : bTa (some false) t e = some false := nr rfl
theorem q9 : bTo (some true) t e = some true := nr rfl
theorem q10 : bTo (some false) t e = t e := nr rfl
theorem q11 : bVa (some (.bl true)) f e = f e := nr rfl
theorem q12 : bVa (some (.bl false)) f e = some (.bl false) := nr rfl
theorem q13 : bVo (some (.bl true)) f e = some (.bl true) := nr rfl
theorem q14 : bVo (some (.bl false)) f e = f e := nr rfl
theorem q15 {o : W → W → Option α} : b2 o (some w) (some w') = o w w' := nr rfl
theorem q16 {o : α → Option β} {a : α} : b1 o (some a) = o a := nr rfl
theorem q17 {a : α} {as : List α} : bc (some a) (some as) = some (a :: as) := nr rfl
theorem q18 {ws : List W} : bL (some ws) A F e = loopW A F ws e := nr rfl
theorem q19 : bF (some (.rt sv)) = some sv := nr rfl
theorem q20 : bF (some (.nx e)) = some (.imm .non) := nr rfl
theorem q21 : bSet e i (some sv) = some (.nx (e.set i (some sv))) := nr rfl
theorem q22 : bSlot (some (some (.imm w))) = some w := nr rfl
theorem q23 {o : Int → Int → Int} {a b : Int} : bAug e i o (some (some (.imm (.int a)))) (some (.int b)) = some (.nx (e.set i (some (.imm (.int (o a b)))))) := nr rfl
theorem q24 {ws : List W} (h : ws.length < 16777216) : bApp e i (some (some (.own (.lst ws)))) (some w) = some (.nx (e.set i (some (.own (.lst (ws ++ [w])))))) := if_pos h
theorem q25 {ws us : List W} (h : ws.length + us.length ≤ 16777216) : bExt e i (some (some (.own (.lst ws)))) (some (.lst us)) = some (.nx (e.set i (some (.own (.lst (ws ++ us)))))) := if_pos h
theorem q26 {ws : List W} : bPop e i (some (some (.own (.lst ws)))) = if ws = [] then none else some (.nx (e.set i (some (.own (.lst ws.dropLast))))) := nr rfl
theorem q27 {ws : List W} {j : Int} : bSetIx e i (some w) (some (some (.own (.lst ws)))) (some (.int j)) = (match ixN ws.length j with
    | some n => some (.nx (e.set i (some (.own (.lst (ws.set n w))))))
    | none => none) := nr rfl
theorem q28 {ws : List W} {j : Int} : bIxO (some (some (.own (.lst ws)))) (some (.int j)) = atI ws j := nr rfl
theorem q29 : bIxO (some (some (.imm w))) (some w') = ixW w w' := nr rfl
theorem q30 {i : Int} : bFlat (some (.int i)) = some (.int i) := nr rfl
theorem q31 {i : Bool} : bFlat (some (.bl i)) = some (.bl i) := nr rfl
theorem q32 {i : Str} : bFlat (some (.str i)) = some (.str i) := nr rfl
theorem q33 {b : Bool} : bBl (some (.bl b)) = some b := nr rfl
theorem q34 {i : Int} : bSome (some (.int i)) = some (some i) := nr rfl
theorem q35 {o : W → Option Int → Option Int → Option SV} {l h : Option Int} : bSl o (some w) (some l) (some h) = o w l h := nr rfl
theorem q36 {b : Bool} : bNotV (some (.bl b)) = some (.bl (!b)) := nr rfl
theorem q37 {ws : List W} : bSeq (some (.lst ws)) = some ws := nr rfl
theorem q38 {ws : List W} : bSeq (some (.tup ws)) = some ws := nr rfl
theorem q39 {ws : List W} : bSeq (some (.klst ws)) = some ws := nr rfl
theorem q39b {ws : List W} : bSeq (some (.ktup ws)) = some ws := nr rfl
theorem q40 {s : Str} : bSeq (some (.str s)) = some (s.cps.toList.map fun c => .str ⟨#[c]⟩) := nr rfl
theorem q41 {n : Int} (h : -4611686018427387904 ≤ n ∧ n < 4611686018427387904) : bR1 (some (.int n)) = some (rngW 0 n.toNat) := if_pos (decide_eq_true h)
theorem q42 {m n : Int} (h : -4611686018427387904 ≤ m ∧ m < 4611686018427387904) (h2 : -4611686018427387904 ≤ n ∧ n < 4611686018427387904) : bR2 (some (.int m)) (some (.int n)) = some (rngW m (n - m).toNat) := if_pos ⟨decide_eq_true h, decide_eq_true h2⟩
theorem q43 {ws us : List W} (h : lcW A t g e ws = some us) (h2 : us.length ≤ 16777216) : bC (some ws) A t g e = some (.own (.lst us)) := by
  unfold bC
  simp only [h]
  exact if_pos h2
theorem q44 {ws : List W} : bLoop A F ws (some (.nx e)) = loopW A F ws e := nr rfl
theorem q45 {ws : List W} : bLoop A F ws (some (.ct e)) = loopW A F ws e := nr rfl
theorem q46 {ws : List W} : bLoop A F ws (some (.bk e)) = some (.nx e) := nr rfl
theorem q47 {ws : List W} : bLoop A F ws (some (.rt sv)) = some (.rt sv) := nr rfl
theorem q48 : bAsg A (some w) e = (match A w e with
    | some e' => some (.nx e')
    | none => none) := nr rfl
theorem q_loop0 : loopW A F [] e = some (.nx e) := nr rfl
theorem q_sv1 : SV.w (.imm w) = w := nr rfl
theorem q_sv2 : SV.w (.own w) = w := nr rfl
/-! operations -/
theorem o_add {i j : Int} : addI (.int i) (.int j) = some (.int (i + j)) := nr rfl
theorem o_sub {i j : Int} : subW (.int i) (.int j) = some (.int (i - j)) := nr rfl
theorem o_mulR {i j : Int} (h : -18446744073709551616 < j ∧ j < 18446744073709551616) : mulW (.int i) (.int j) = some (.int (i * j)) := by
  unfold mulW
  exact if_pos (.inr (decide_eq_true h))
theorem o_mulL {i j : Int} (h : -18446744073709551616 < i ∧ i < 18446744073709551616) : mulW (.int i) (.int j) = some (.int (i * j)) := by
  unfold mulW
  exact if_pos (.inl (decide_eq_true h))
theorem o_mod {i j : Int} (h : 0 < j) : modW (.int i) (.int j) = some (.int (i % j)) := by
  unfold modW
  exact if_pos h
theorem o_div {i j : Int} (h : 0 < j) (h2 : j < 1606938044258990275541962092341162602522202993782792835301376) : divW (.int i) (.int j) = some (.int (i / j)) := by
  unfold divW
  exact if_pos ⟨h, Int.lt_trans h2 (by decide)⟩
theorem o_addS {a b : Str} (h : a.length + b.length ≤ 16777216) : addW (.str a) (.str b) = some (.imm (.str (a ++ b))) := by
  unfold addW
  exact if_pos h
theorem o_addI {i j : Int} : addW (.int i) (.int j) = some (.imm (.int (i + j))) := nr rfl
theorem o_addL {a b : List W} (h : a.length + b.length ≤ 16777216) : addW (.lst a) (.lst b) = some (.own (.lst (a ++ b))) := by
  unfold addW
  exact if_pos h
theorem o_addT {a b : List W} (h : a.length + b.length ≤ 16777216) : addW (.tup a) (.tup b) = some (.imm (.tup (a ++ b))) := by
  unfold addW
  exact if_pos h
theorem o_pow {i j : Int} (h : 0 ≤ j ∧ j ≤ 1000) (h2 : i.natAbs < 18446744073709551616) : powW (.int i) (.int j) = some (.int (i ^ j.toNat)) := by
  unfold powW
  exact if_pos ⟨h.1, h.2, h2⟩
theorem o_p18 : powW (.int 10) (.int 18) = some (.int 1000000000000000000) := by
  unfold powW
  exact if_pos (by decide)
theorem o_neg {i : Int} : negW (.int i) = some (.int (-i)) := nr rfl
theorem o_cmp {p : Int → Int → Bool} {i j : Int} : cmpI p (.int i) (.int j) = some (.bl (p i j)) := nr rfl
theorem o_eqI {i j : Int} : eqW (.int i) (.int j) = some (.bl (decide (i = j))) := nr rfl
theorem o_eqS {i j : Str} : eqW (.str i) (.str j) = some (.bl (decide (i = j))) := nr rfl
theorem o_eqB {i j : Bool} : eqW (.bl i) (.bl j) = some (.bl (decide (i = j))) := nr rfl
theorem o_neI {i j : Int} : neW (.int i) (.int j) = some (.bl (!decide (i = j))) := nr rfl
theorem o_neS {i j : Str} : neW (.str i) (.str j) = some (.bl (!decide (i = j))) := nr rfl
theorem o_len1 {ws : List W} : lenW [.lst ws] = some (.int ws.length) := nr rfl
theorem o_len2 {ws : List W} : lenW [.tup ws] = some (.int ws.length) := nr rfl
theorem o_len3 {ws : List W} : lenW [.klst ws] = some (.int ws.length) := nr rfl
theorem o_lenS {s : Str} (h : s.length ≤ 16777216) : lenW [.str s] = some (.int s.length) := by
  unfold lenW
  exact if_pos h
theorem o_int {i : Int} : intW [.int i] = some (.int i) := nr rfl
theorem o_ix1 {ws : List W} {i : Int} : ixW (.lst ws) (.int i) = atI ws i := nr rfl
theorem o_ix2 {ws : List W} {i : Int} : ixW (.tup ws) (.int i) = atI ws i := nr rfl
theorem o_ix3 {ws : List W} {i : Int} : ixW (.klst ws) (.int i) = atI ws i := nr rfl
theorem o_tup {ws : List W} (h : ws.length ≤ 16777216) : tupL ws = some (.tup ws) := if_pos h
theorem o_lst {ws : List W} (h : ws.length ≤ 16777216) : lstL ws = some (.own (.lst ws)) := if_pos h
theorem o_list1 {ws : List W} : listW [.lst ws] = some (.own (.lst ws)) := nr rfl
theorem o_list2 {ws : List W} : listW [.tup ws] = some (.own (.lst ws)) := nr rfl
theorem o_tuple1 {ws : List W} : tupleW [.lst ws] = some (.tup ws) := nr rfl
theorem o_tuple2 {ws : List W} : tupleW [.tup ws] = some (.tup ws) := nr rfl
theorem o_max {i j : Int} : max2W [.int i, .int j] = some (.int (if j > i then j else i)) := nr rfl
theorem o_min {i j : Int} : min2W [.int i, .int j] = some (.int (if j < i then j else i)) := nr rfl
theorem o_slL {ws : List W} {l h : Option Int} : slW (.lst ws) l h = some (.own (.lst (cutW ws l h))) := nr rfl
theorem o_slT {ws : List W} {l h : Option Int} : slW (.tup ws) l h = some (.imm (.tup (cutW ws l h))) := nr rfl
theorem o_slS {z : Str} {l h : Option Int} (q : z.length ≤ 16777216) : slW (.str z) l h = some (.imm (.str (cutS z l h))) := by
  unfold slW
  exact if_pos q
theorem o_mulSt {s : Str} {k : Int} (h : -4611686018427387904 ≤ k ∧ k < 1048576 ∧ s.length ≤ 1048576 ∧ s.length * k.toNat ≤ 16777216) : mulS (.str s) (.int k) = some (.str (repStr s k.toNat)) := by
  unfold mulS
  exact if_pos h
theorem o_isIint {i : Int} : isiW [(.int i), .opq (.ty "int")] = some (.bl true) := by simp [isiW, tyName, isTy]
theorem o_isIbool {i : Int} : isiW [(.int i), .opq (.ty "bool")] = some (.bl false) := by simp [isiW, tyName, isTy]
theorem o_isIstr {i : Int} : isiW [(.int i), .opq (.ty "str")] = some (.bl false) := by simp [isiW, tyName, isTy]
theorem o_isIlist {i : Int} : isiW [(.int i), .opq (.ty "list")] = some (.bl false) := by simp [isiW, tyName, isTy]
theorem o_isItuple {i : Int} : isiW [(.int i), .opq (.ty "tuple")] = some (.bl false) := by simp [isiW, tyName, isTy]
theorem o_isBint {b : Bool} : isiW [(.bl b), .opq (.ty "int")] = some (.bl true) := by simp [isiW, tyName, isTy]
theorem o_isBbool {b : Bool} : isiW [(.bl b), .opq (.ty "bool")] = some (.bl true) := by simp [isiW, tyName, isTy]
theorem o_isBstr {b : Bool} : isiW [(.bl b), .opq (.ty "str")] = some (.bl false) := by simp [isiW, tyName, isTy]
theorem o_isBlist {b : Bool} : isiW [(.bl b), .opq (.ty "list")] = some (.bl false) := by simp [isiW, tyName, isTy]
theorem o_isBtuple {b : Bool} : isiW [(.bl b), .opq (.ty "tuple")] = some (.bl false) := by simp [isiW, tyName, isTy]
theorem o_isSint {s : Str} : isiW [(.str s), .opq (.ty "int")] = some (.bl false) := by simp [isiW, tyName, isTy]
theorem o_isSbool {s : Str} : isiW [(.str s), .opq (.ty "bool")] = some (.bl false) := by simp [isiW, tyName, isTy]
theorem o_isSstr {s : Str} : isiW [(.str s), .opq (.ty "str")] = some (.bl true) := by simp [isiW, tyName, isTy]
theorem o_isSlist {s : Str} : isiW [(.str s), .opq (.ty "list")] = some (.bl false) := by simp [isiW, tyName, isTy]
theorem o_isStuple {s : Str} : isiW [(.str s), .opq (.ty "tuple")] = some (.bl false) := by simp [isiW, tyName, isTy]
theorem o_isLint {ws : List W} : isiW [(.lst ws), .opq (.ty "int")] = some (.bl false) := by simp [isiW, tyName, isTy]
theorem o_isLbool {ws : List W} : isiW [(.lst ws), .opq (.ty "bool")] = some (.bl false) := by simp [isiW, tyName, isTy]
theorem o_isLstr {ws : List W} : isiW [(.lst ws), .opq (.ty "str")] = some (.bl false) := by simp [isiW, tyName, isTy]
theorem o_isLlist {ws : List W} : isiW [(.lst ws), .opq (.ty "list")] = some (.bl true) := by simp [isiW, tyName, isTy]
theorem o_isLtuple {ws : List W} : isiW [(.lst ws), .opq (.ty "tuple")] = some (.bl false) := by simp [isiW, tyName, isTy]
theorem o_isTint {ws : List W} : isiW [(.tup ws), .opq (.ty "int")] = some (.bl false) := by simp [isiW, tyName, isTy]
theorem o_isTbool {ws : List W} : isiW [(.tup ws), .opq (.ty "bool")] = some (.bl false) := by simp [isiW, tyName, isTy]
theorem o_isTstr {ws : List W} : isiW [(.tup ws), .opq (.ty "str")] = some (.bl false) := by simp [isiW, tyName, isTy]
theorem o_isTlist {ws : List W} : isiW [(.tup ws), .opq (.ty "list")] = some (.bl false) := by simp [isiW, tyName, isTy]
theorem o_isTtuple {ws : List W} : isiW [(.tup ws), .opq (.ty "tuple")] = some (.bl true) := by simp [isiW, tyName, isTy]
theorem o_isNint  : isiW [.non, .opq (.ty "int")] = some (.bl false) := by simp [isiW, tyName, isTy]
theorem o_isNbool  : isiW [.non, .opq (.ty "bool")] = some (.bl false) := by simp [isiW, tyName, isTy]
theorem o_isNstr  : isiW [.non, .opq (.ty "str")] = some (.bl false) := by simp [isiW, tyName, isTy]
theorem o_isNlist  : isiW [.non, .opq (.ty "list")] = some (.bl false) := by simp [isiW, tyName, isTy]
theorem o_isNtuple  : isiW [.non, .opq (.ty "tuple")] = some (.bl false) := by simp [isiW, tyName, isTy]
theorem bools_rep : ∀ n : Nat, bools (List.replicate n (W.bl true)) = some (List.replicate n true)
  | 0 => rfl
  | n + 1 => by simp only [List.replicate_succ, bools, bools_rep n]
theorem o_allT {n : Nat} : allW [.lst (List.replicate n (W.bl true))] = some (.bl true) := by
  simp only [allW, bools_rep, List.all_replicate]
  cases n <;> rfl
theorem o_truB {b : Bool} : truW (.bl b) = some b := nr rfl
theorem o_truN : truW .non = some false := nr rfl
theorem o_truI {i : Int} : truW (.int i) = some (i != 0) := nr rfl
theorem o_truL {ws : List W} : truW (.lst ws) = some (!ws.isEmpty) := nr rfl
theorem o_truT {ws : List W} : truW (.tup ws) = some (!ws.isEmpty) := nr rfl
/-! walks -/
theorem lcW_map {A : W → En → Option En} {t : En → Option Bool} {g : En → Option W} {e : En} {h : W → W} : ∀ {ws : List W}, (∀ w ∈ ws, ∃ e1, A w e = some e1 ∧ t e1 = some true ∧ g e1 = some (h w)) → lcW A t g e ws = some (ws.map h)
  | [], _ => rfl
  | w :: ws, q => by
    obtain ⟨e1, h1, h2, h3⟩ := q w List.mem_cons_self
    simp only [lcW, h1, h2, h3, lcW_map fun w' hw => q w' (List.mem_cons_of_mem _ hw), List.map_cons]
theorem lcW_some {A : W → En → Option En} {t : En → Option Bool} {g : En → Option W} {e : En} {R : W → W → Prop} : ∀ {ws : List W}, (∀ w ∈ ws, ∃ e1 u, A w e = some e1 ∧ t e1 = some true ∧ g e1 = some u ∧ R w u) → ∃ us, lcW A t g e ws = some us ∧ us.length = ws.length ∧ ∀ (i : Nat) w u, ws[i]? = some w → us[i]? = some u → R w u
  | [], _ => ⟨[], rfl, rfl, fun i w u h => by simp at h⟩
  | w :: ws, q => by
    obtain ⟨e1, u, h1, h2, h3, h4⟩ := q w List.mem_cons_self
    obtain ⟨us, r1, r2, r3⟩ := lcW_some (ws := ws) fun w' hw => q w' (List.mem_cons_of_mem _ hw)
    refine ⟨u :: us, by simp only [lcW, h1, h2, h3, r1], by simp [r2], fun i w' u' a b => ?_⟩
    cases i with
    | zero =>
      simp at a b
      subst a b
      exact h4
    | succ i => exact r3 i w' u' (by simpa using a) (by simpa using b)
/-- a loop by its word: every turn goes on -/
theorem loop_inv {A : W → En → Option En} {F : En → Option Out} {ws : List W} (P : Nat → En → Prop) {e0 : En} (h0 : P 0 e0)
    (hs : ∀ (i : Nat) (w : W) (e : En), ws[i]? = some w → P i e → ∃ e1 e2, A w e = some e1 ∧ F e1 = some (.nx e2) ∧ P (i + 1) e2) : ∃ e', loopW A F ws e0 = some (.nx e') ∧ P ws.length e' := by
  have go : ∀ (us : List W) (k : Nat) (e : En), ws.drop k = us → P k e → ∃ e', loopW A F us e = some (.nx e') ∧ P (k + us.length) e' := fun us => by
    induction us with
    | nil => intro k e _ p; exact ⟨e, rfl, p⟩
    | cons u us ih =>
      intro k e hd p
      have hk : ws[k]? = some u := by
        have := congrArg (·[0]?) hd
        simpa using this
      obtain ⟨e1, e2, a, b, c⟩ := hs k u e hk p
      obtain ⟨e', r1, r2⟩ := ih (k + 1) e2 (by rw [← List.drop_drop, hd]; rfl) c
      refine ⟨e', ?_, by rw [List.length_cons, show k + (us.length + 1) = k + 1 + us.length by omega]; exact r2⟩
      simp only [loopW, a, b]
      exact r1
  obtain ⟨e', a, b⟩ := go ws 0 e0 rfl h0
  exact ⟨e', a, by simpa using b⟩
theorem loop_is {A : W → En → Option En} {F : En → Option Out} {ws : List W} {e0 : En} {L : Option Out} (hL : loopW A F ws e0 = L) (P : Nat → En → Prop) (h0 : P 0 e0)
    (hs : ∀ (i : Nat) (w : W) (e : En), ws[i]? = some w → P i e → ∃ e1, A w e = some e1 ∧ ∃ e2, F e1 = some (.nx e2) ∧ P (i + 1) e2) : ∃ e', L = some (.nx e') ∧ P ws.length e' := by
  subst hL
  exact loop_inv P h0 fun i w e hw p => by
    obtain ⟨e1, a, e2, b, c⟩ := hs i w e hw p
    exact ⟨e1, e2, a, b, c⟩
theorem rngW_get {lo : Int} {n i : Nat} {w : W} (h : (rngW lo n)[i]? = some w) : i < n ∧ w = .int (lo + (i : Nat)) := by
  unfold rngW at h
  rw [List.getElem?_map] at h
  by_cases hi : i < n
  · rw [List.getElem?_range hi] at h
    cases h
    exact ⟨hi, rfl⟩
  · rw [List.getElem?_eq_none (by simpa using hi)] at h
    cases h
theorem rngW_mem {lo : Int} {n : Nat} {w : W} (h : w ∈ rngW lo n) : ∃ i : Nat, i < n ∧ w = .int (lo + (i : Nat)) := by
  obtain ⟨i, hi⟩ := List.mem_iff_getElem?.mp h
  exact ⟨i, rngW_get hi⟩
theorem rngW_len {lo : Int} {n : Nat} : (rngW lo n).length = n := by simp [rngW]
theorem atI_at {ws : List W} {j : Nat} {w : W} (h : ws[j]? = some w) : atI ws (j : Int) = some w := atI_nat h
end
end Qw
namespace Qw
open PySem PySem.Spec PyProof.Rows L2 Nz
/-! ### texts as rows of code points -/
abbrev T (l : List Nat) : Str := ⟨l.toArray⟩
theorem t_eta (z : Str) : T z.cps.toList = z := by
  obtain ⟨⟨l⟩⟩ := z
  rfl
theorem t_len (l : List Nat) : (T l).length = l.length := by simp [T, Str.length]
theorem t_inj {a b : List Nat} : T a = T b ↔ a = b := ⟨fun h => congrArg (fun x : Str => x.cps.toList) h, fun h => by rw [h]⟩
theorem t_dec {a b : List Nat} : decide (T a = T b) = decide (a = b) := decide_eq_decide.mpr t_inj
theorem t_add (a b : List Nat) : T a ++ T b = T (a ++ b) := SX.S_cat a b
theorem t_toL (l : List Nat) : (T l).cps.toList = l := rfl
theorem t_ix {l : List Nat} {i : Nat} {c : Nat} (h : l.length ≤ 16777216) (hc : l[i]? = some c) : ixW (.str (T l)) (.int (i : Int)) = some (.str (T [c])) := by
  unfold ixW
  simp only
  rw [if_pos (by rw [t_len]; exact h)]
  show (atI l (i : Int)).map _ = _
  rw [atI_nat hc]
  rfl
theorem t_in1 {l : List Nat} {c : Nat} : inW (.str (T [c])) (.str (T l)) = some (.bl (decide (c ∈ l))) := by
  unfold inW inB inStr
  simp [t_toL]
theorem t_notIn1 {l : List Nat} {c : Nat} : notInW (.str (T [c])) (.str (T l)) = some (.bl (!decide (c ∈ l))) := by
  unfold notInW inB inStr
  simp [t_toL]
theorem inV_T {a : List Nat} : ∀ ls : List (List Nat), inV (.str (T a)) ((ls.map fun l => W.str (T l)).map toV) = decide (a ∈ ls)
  | [] => rfl
  | l :: ls => by
    have ih := inV_T (a := a) ls
    unfold inV at ih ⊢
    rw [List.map_cons, List.map_cons, List.any_cons, ih]
    show ((T l == T a) || decide (a ∈ ls)) = decide (a ∈ l :: ls)
    by_cases h : a = l
    · subst h
      simp
    · have h1 : (T l == T a) = false := by
        rw [beq_eq_false_iff_ne]
        exact fun z => h (t_inj.mp z).symm
      rw [h1, Bool.false_or]
      exact decide_eq_decide.mpr (by simp [h])
theorem flat_T (ls : List (List Nat)) : (ls.map fun l => W.str (T l)).all flatW = true := by
  rw [List.all_eq_true]
  intro w hw
  obtain ⟨l, _, rfl⟩ := List.mem_map.mp hw
  rfl
theorem t_inL {a : List Nat} {ls : List (List Nat)} : inW (.str (T a)) (.lst (ls.map fun l => W.str (T l))) = some (.bl (decide (a ∈ ls))) := by
  unfold inW inB inSeq
  simp only
  rw [if_pos ⟨rfl, flat_T ls⟩]
  show some (W.bl (inV (.str (T a)) _)) = _
  rw [inV_T]
theorem t_inT {a : List Nat} {ls : List (List Nat)} : inW (.str (T a)) (.tup (ls.map fun l => W.str (T l))) = some (.bl (decide (a ∈ ls))) := by
  unfold inW inB inSeq
  simp only
  rw [if_pos ⟨rfl, flat_T ls⟩]
  show some (W.bl (inV (.str (T a)) _)) = _
  rw [inV_T]
theorem t_inK {a : List Nat} {ls : List (List Nat)} : inW (.str (T a)) (.ktup (ls.map fun l => W.str (T l))) = some (.bl (decide (a ∈ ls))) := t_inT (a := a) (ls := ls)
theorem t_cut (l : List Nat) (i j : Nat) : cutS (T l) (some (i : Int)) (some (j : Int)) = T ((l.drop (min i l.length)).take (min j l.length - min i l.length)) := by
  unfold cutS
  rw [t_len, HT.sIx_nat, HT.sIx_nat]
theorem t_cutTo (l : List Nat) (j : Nat) : cutS (T l) none (some (j : Int)) = T (l.take j) := by
  unfold cutS
  rw [t_len, HT.sIx_nat, HT.sIx_none, List.drop_zero, Nat.sub_zero]
  show T _ = T _
  rw [t_inj]
  show l.take _ = l.take _
  exact (List.take_eq_take_iff.mpr (by omega))
theorem t_cutFrom (l : List Nat) (i : Nat) (h : i ≤ l.length) : cutS (T l) (some (i : Int)) none = T (l.drop i) := by
  unfold cutS
  rw [t_len, HT.sIx_nat, HT.sIx_none, Nat.min_eq_left h]
  show T _ = T _
  rw [t_inj, List.take_of_length_le (by rw [List.length_drop]; exact Nat.le_refl _)]
theorem fold_T (a : List Nat) : ∀ (n : Nat) (acc : Array Nat), ((List.replicate n a.toArray).foldl (· ++ ·) acc).toList = acc.toList ++ (List.replicate n a).flatten
  | 0, acc => by simp
  | n + 1, acc => by
    rw [List.replicate_succ, List.foldl_cons, fold_T a n, List.replicate_succ, List.flatten_cons, Array.toList_append, List.append_assoc]
theorem t_rep (l : List Nat) (n : Nat) : repStr (T l) n = T (List.replicate n l).flatten := by
  rw [← t_eta (repStr (T l) n)]
  rw [t_inj]
  exact (fold_T l n #[]).trans (by simp)
theorem joinL_nil : ∀ ls : List (List Nat), TL.joinL [] ls = ls.flatten
  | [] => rfl
  | [a] => by simp [TL.joinL]
  | a :: b :: ls => by
    have := joinL_nil (b :: ls)
    simp only [TL.joinL] at this ⊢
    rw [this]
    simp
theorem t_join (ls : List (List Nat)) : Txt.join (T []) (ls.map T) = T ls.flatten := by
  rw [SX.join_S [] ls, joinL_nil]
theorem t_sw {a b : List Nat} {i : Nat} (h : i ≤ a.length) : Txt.startswith3 (T a) (T b) (i : Int) = decide ((a.drop i).take b.length = b) := by
  have e0 : fromIndex (T a).length (i : Int) = i := by
    unfold fromIndex
    rw [if_neg (by omega)]
    omega
  unfold Txt.startswith3
  rw [e0, t_len, t_len]
  have e1 : Builtin.Str.subAt (T a) (T b) i = decide ((a.drop i).take b.length = b) := by
    unfold Builtin.Str.subAt
    rw [t_len]
    rw [Bool.eq_iff_iff, beq_iff_eq, decide_eq_true_iff]
    constructor
    · intro q
      have := congrArg Array.toList q
      simpa [List.extract_eq_drop_take] using this
    · intro q
      apply Array.ext'
      simp [List.extract_eq_drop_take, q]
  rw [e1]
  by_cases q : (a.drop i).take b.length = b
  · have : i + b.length ≤ a.length := by
      have := congrArg List.length q
      rw [List.length_take, List.length_drop] at this
      omega
    rw [decide_eq_true q, decide_eq_true this]
    rfl
  · rw [decide_eq_false q, Bool.and_false]
theorem txts_T : ∀ ls : List (List Nat), txts (ls.map fun l => W.str (T l)) = some (ls.map T)
  | [] => rfl
  | l :: ls => by simp only [List.map_cons, txts, txts_T ls]
theorem t_joinW {ls : List (List Nat)} (h : (ls.map List.length).sum ≤ 16777216) : joinW (.str (T [])) (.lst (ls.map fun l => W.str (T l))) = some (.str (T ls.flatten)) := by
  unfold joinW
  simp only [txts_T]
  rw [if_pos, t_join]
  rw [List.map_map]
  have : ((fun x : Str => x.length) ∘ T) = List.length := by
    funext l
    exact t_len l
  rw [this, t_len]
  simpa using h
end Qw
namespace Qw
open PySem PySem.Spec PyProof.Rows L2 Nz
open Evl (Ex)
variable {X : Cx} {K : PySem.W.Frag} {I I' I1 I2 H H' H1 H2 I0 H0 : Hp} {e : En} {σ : L2.St} {T : TQ}
/-! ### own exceptions with one field -/
/-- what the text says of an own error with the one field fn, raised -/
structure ErrQ (K : PySem.W.Frag) (mg : Str → Option Value) (x fn : Str) (C fI : Addr) : Prop where
  gC : mg x = some (.ref C)
  oex : OexC K C
  iC : PySem.W.findIn K (.ref C) "__init__" = some (some (.ref fI))
  tI : PySem.W.typeIn K (.ref fI) = some (.type "function")
  noF : PySem.W.findIn K (.ref C) fn = some none
def okFld : W → Bool
  | .int i => decide (i.natAbs < 1000000000)
  | .str z => decide (z.length ≤ 300000)
  | _ => false
def spErrQ (C : Addr) (fn : Str) : Sp := fun vs H Q _ => ∃ (a : Addr) (v : V), vs = [.ref a, v] ∧ ((∃ i : Int, v = .int i ∧ i.natAbs < 1000000000) ∨ ∃ z : Str, v = .str z ∧ z.length ≤ 300000) ∧ H a = some (exo a C none) ∧
  ∀ dx, H dx = none → dx ≠ a → Q .non (upd (upd H dx (exd dx [(fn, v)])) a (exo a C (some dx)))
theorem fld_v {w : W} {v : V} (h : okFld w = true) (r : IsW K I w v) : (∃ i : Int, v = .int i ∧ i.natAbs < 1000000000) ∨ ∃ z : Str, v = .str z ∧ z.length ≤ 300000 := by
  cases w <;> simp only [okFld] at h <;> try (cases h; done)
  · simp only [IsW] at r
    exact .inl ⟨_, r, of_decide_eq_true h⟩
  · simp only [IsW] at r
    exact .inr ⟨_, r, of_decide_eq_true h⟩
def sRaise (x fn : Str) (f : En → Option W) : En → Option Out := fun e => match f e with
  | some w => if okFld w then some (.ex x fn w e) else none
  | none => none
theorem raised_heap {a dx : Addr} {C : Addr} {fs : List (Str × V)} (na : H1 a = none) (ndx : H1 dx = none) (dne : dx ≠ a) :
    upd (del (upd (upd (upd H1 a (exo a C none)) dx (exd dx fs)) a (exo a C (some dx))) a) dx (.xd fs) = upd H1 dx (.xd fs) := by
  funext b
  by_cases h1 : b = dx
  · subst h1
    rw [upd_same, upd_same]
  · rw [upd_ne h1, upd_ne h1]
    by_cases h2 : b = a
    · subst h2
      rw [na]
      simp [del]
    · rw [del_ne h2, upd_ne h2, upd_ne h1, upd_ne h2]
theorem qraise {x fn : Str} {C fI : Addr} {k : Nat} {fd : FuncData} {a : Expr} {p pos rpos : Pos} {f : En → Option W} (hc : X.calm = true) (hg : Gl X x) (ET : ErrQ X.K X.mg x fn C fI) (G : FnOk X.prog X.w X.K X.mg X.base CX0 k fI fd ["self", fn] (spErrQ C fn))
    (hr : Room (k + 1) X.A) (hb : Binds X.K fd ["self", fn] []) (ha : PE X a (tW X.K f)) (hd : (x == ("__debug__" : Str)) = false := by decide) (hs : starEach [a] X.env = (false, eval a X.env) :: starEach [] X.env := by rfl) (hp : (backTo pos (starEach [] X.env)).any (·.1) = false := by rfl) :
    PS X (.Raise (some (.Call (.Name x p) [a] [] pos)) none rpos) (tS X.K (wxQ X) (sRaise x fn f)) :=
  ps_imp (ps_raise hc takes_wx (pmk_oex ET.oex ET.iC ET.tI G hr hb .nil pass0 hg ET.gC (pa_cons ha pa_nil hs) hd hs hp)) fun D σ H ⟨I0, H0, I, e, o, S, hf, k⟩ => by
  unfold sRaise at hf
  split at hf
  next w hw =>
    split at hf
    next hz =>
      cases hf
      refine ⟨I0, H0, I, e, w, S, hw, fun I1 H1 v x1 r1 => ⟨(by show 1 ≤ 1000; decide), fun a na => ⟨a, v, rfl, fld_v hz r1, upd_same, fun dx ndx dne => ⟨rfl, dx, [(fn, v)], upd_same, ?_, ?_, ?_⟩⟩⟩⟩
      · rw [upd_ne dne, upd_same]
      · have e2 := ndx
        rw [upd_ne dne] at e2
        exact e2
      · have nd : H1 dx = none := by
          have e2 := ndx
          rw [upd_ne dne] at e2
          exact e2
        rw [raised_heap na nd dne]
        have x2 := x1.new nd (o := .xd [(fn, v)])
        exact k _ σ _ dx v (S.mono x2) x2.i upd_same (IsW.mono (Ex.new (Evl.fresh_back x1.ih nd)) r1) C ET.gC
    next => cases hf
  next => cases hf
/-! ### defs that raise -/
inductive RX where
  | ret (sv : SV) | exc (x fn : Str) (w : W)
def RxOk (K : PySem.W.Frag) (mg : Str → Option Value) (I H : Hp) (Q : VK) (E : XK) : RX → Prop
  | .ret sv => ∀ I' H' v, Ext I H I' H' → Res K I' H' H sv v → Q v H'
  | .exc x fn w => ∀ C I' H' d u, mg x = some (.ref C) → Ext I H I' H' → I' d = some (.xd [(fn, u)]) → IsW K I' w u → E (.ref C) (some d) H'
def spX (K : PySem.W.Frag) (mg : Str → Option Value) (n : Nat) (F : List W → Option RX) : Sp := fun vs H Q E => ∃ I ws r, Ex I H ∧ IsWs K I ws vs ∧ ws.length = n ∧ F ws = some r ∧ RxOk K mg I H Q E r
def cX (F : List W → Option RX) (g : En → Option (List W)) (h : SV → En → Out) : En → Option Out := fun e => match g e with
  | some ws => (match F ws with
    | some (.ret sv) => some (h sv e)
    | some (.exc x fn w) => some (.ex x fn w e)
    | none => none)
  | none => none
theorem cX_use {F : List W → Option RX} {g : En → Option (List W)} {h : SV → En → Out} {n : Nat} (hn : ∀ ws r, F ws = some r → ws.length = n) {D : Ends} {Q : VK}
    (q : ∀ I0 H0 I e sv, Sat X.K I0 H0 I e σ H → OutOk X.K (wxQ X) I0 H0 I D (h sv e) → ∀ I1 H1 v, Ext I H I1 H1 → Res X.K I1 H1 H sv v → Q v H1) :
    tS X.K (wxQ X) (cX F g h) D σ H → tCallS (spX X.K X.mg n F) (fun σ => WE (wxW X) σ) (tA X.K g) σ H Q := fun ⟨I0, H0, I, e, o, S, hf, k⟩ => by
  unfold cX at hf
  split at hf
  next ws hws =>
    split at hf
    next sv hF =>
      cases hf
      exact ⟨I0, H0, I, e, ws, S, hws, fun I1 H1 vs x1 r1 => ⟨I1, ws, .ret sv, x1.ih, r1, hn _ _ hF, hF, fun I2 H2 v x2 r2 => q I0 H0 I e sv S k I2 H2 v (x1.trans x2) (r2.weak x1.h)⟩⟩
    next x fn w hF =>
      cases hf
      exact ⟨I0, H0, I, e, ws, S, hws, fun I1 H1 vs x1 r1 => ⟨I1, ws, .exc x fn w, x1.ih, r1, hn _ _ hF, hF, fun C I2 H2 d u hC x2 h3 h4 => k I2 σ H2 d u (S.mono (x1.trans x2)) (x1.trans x2).i h3 h4 C hC⟩⟩
    next => cases hf
  next => cases hf
section
variable {k : Nat} {f : Addr} {fd : FuncData} {ps : List Str} {F : List W → Option RX} {g : En → Option (List W)} {x : Str} {p pos : Pos} {a : Expr} {es : List Expr} {n : Nat}
theorem qcX_pe (G : FnOk X.prog X.w X.K X.mg X.base (L2.CX X.prog X.w) k f fd ps (spX X.K X.mg n F)) (hr : Room k X.A) (hg : Gl X x) (hm : X.mg x = some (.ref f)) (hk : PySem.W.keepIn X.K (.ref f) = true) (hb : Binds X.K fd ps [])
    (ha : PA X (a :: es) (tA X.K g)) (hdb : (x == ("__debug__" : Str)) = false := by decide) (he : starEach (a :: es) X.env = (false, eval a X.env) :: starEach es X.env := by rfl) (hpl : (backTo pos (starEach es X.env)).any (·.1) = false := by rfl) :
    PE X (.Call (.Name x p) (a :: es) [] pos) (tCallS (spX X.K X.mg n F) (fun σ => WE (wxW X) σ) (tA X.K g)) := pe_callS G hr hg hm hk hb (fun σ => passAt takes_wx σ) ha hdb he hpl
theorem qretX {rpos : Pos} {c : Expr} (hn : ∀ ws r, F ws = some r → ws.length = n) (h : PE X c (tCallS (spX X.K X.mg n F) (fun σ => WE (wxW X) σ) (tA X.K g))) : PS X (.Return (some c) rpos) (tS X.K (wxQ X) (cX F g fun sv _ => .rt sv)) :=
  ps_imp (ps_ret h) fun D σ H q => cX_use (D := D) (h := fun sv _ => .rt sv) hn (fun I0 H0 I e sv S k I1 H1 v x1 r1 => k I1 H1 v (S.x.trans x1) (r1.weak S.x.h)) q
theorem qsetX {i : Nat} {y : Str} {py spos : Pos} {c : Expr} (hn : ∀ ws r, F ws = some r → ws.length = n) (hN : X.N.Nodup) (hi : X.N[i]? = some y) (hx : Loc X.env.scope y) (h : PE X c (tCallS (spX X.K X.mg n F) (fun σ => WE (wxW X) σ) (tA X.K g)))
    (hs : swapsWith c (some (.Name y py)) spos.line X.env = pure false := by rfl) (hf : X.fn y = true ∨ X.env.scope.names.lookup y = some .local := by first | exact .inl rfl | exact .inr rfl | assumption) :
    PS X (.Assign [.Name y py] c spos) (tS X.K (wxQ X) (cX F g fun sv e => .nx (e.set i (some sv)))) :=
  ps_imp (ps_set hN hi hx h hs hf) fun D σ H q => cX_use (D := D) (h := fun sv e => .nx (e.set i (some sv))) hn (fun I0 H0 I e sv S k I1 H1 v x1 r1 => k I1 _ H1 (S.set x1 r1 i) x1.i) q
theorem qdropX {spos : Pos} {c : Expr} (hn : ∀ ws r, F ws = some r → ws.length = n) (h : PE X c (tCallS (spX X.K X.mg n F) (fun σ => WE (wxW X) σ) (tA X.K g))) (hs : swapsWith c none spos.line X.env = pure false := by rfl) :
    PS X (.Expr c spos) (tS X.K (wxQ X) (cX F g fun _ e => .nx e)) :=
  ps_imp (ps_expr h hs) fun D σ H q => cX_use (D := D) (h := fun _ e => .nx e) hn (fun I0 H0 I e sv S k I1 H1 v x1 r1 => k I1 σ H1 (S.mono x1) x1.i) q
end
def runX (n m : Nat) (B : En → Option Out) (ws : List W) : Option RX := if ws.length = n then (match B (ws.map (fun w => some (.imm w)) ++ List.replicate m none) with
  | some (.rt sv) => some (.ret sv)
  | some (.nx _) => some (.ret (.imm .non))
  | some (.ex x fn w _) => some (.exc x fn w)
  | _ => none) else none
theorem runX_len {n m : Nat} {B : En → Option Out} {ws : List W} {r : RX} (h : runX n m B ws = some r) : ws.length = n := by
  unfold runX at h
  split at h
  next q => exact q
  next => cases h
theorem ok_ofX {P : Program} {w : World} {mg : Str → Option Value} {base : Heap} {x qual : Str} {st : Stmt} {f : Addr} {fd : FuncData} {N ps : List Str} {k n m : Nat} {B : En → Option Out} (Fn : Fun K x qual st f fd) (S : FnScope N ps (defScope st)) (hn : ps.length = n) (hm : N.length = n + m)
    (hbody : ∀ (cdv : Value) (A : Around) (outer : List Env) (s : Shared) (H : Hp) (E : XK), Room k (A.deeper (envOfC qual (defScope st) s.heap.objs.size f cdv)) → PQ (cxOf (L2.CX P w) P w K mg base N qual (defScope st) f cdv A outer s H E) (defBody st) B) :
    FnOk P w K mg base (L2.CX P w) (k + 1) f fd ps (spX K mg n (runX n m B)) := by
  refine Fn.okX S (fun vs H Q E h => ?_) (fun cdv A outer s H vs Q E hr h => ?_)
  · obtain ⟨I, ws, r, ex, rr, hl, _⟩ := h
    rw [← rr.len, hl, hn]
  · obtain ⟨I, ws, r, ex, rr, hl, hF, q⟩ := h
    refine ⟨_, hbody cdv A outer s H E hr, ?_⟩
    have hF' := hF
    unfold runX at hF
    rw [if_pos hl] at hF
    have hst : L2.start N vs = vs.map some ++ List.replicate m none := by
      unfold L2.start
      rw [← rr.len, hl, hm]
      congr 2
      omega
    rw [hst]
    split at hF
    next sv' hB =>
      cases hF
      exact ⟨I, H, I, _, _, sat_start ex rr, hB, fun I' H' v x rr => q I' H' v x rr⟩
    next e' hB =>
      cases hF
      exact ⟨I, H, I, _, _, sat_start ex rr, hB, fun I' σ' H' S' _ => q I' H' _ S'.x (by simp [Res, IsW])⟩
    next y fn u e' hB =>
      cases hF
      exact ⟨I, H, I, _, _, sat_start ex rr, hB, fun I' σ' H' d v S' _ h3 h4 C hC => ⟨_, takes_of rfl rfl rfl rfl, q C I' H' d v hC S'.x h3 h4⟩⟩
    next => cases hF
/-! ### try, one clause with a name -/
def offO (i : Nat) : Out → Option Out
  | .nx e => some (.nx (e.set i none))
  | .bk e => some (.bk (e.set i none))
  | .ct e => some (.ct (e.set i none))
  | .rt sv => some (.rt sv)
  | .ex _ _ _ _ => none
def oB (o : Option Out) (g : Out → Option Out) : Option Out := match o with
  | some x => g x
  | none => none
open Classical in
noncomputable def hdl (G : Addr → Addr → En → Option Out) (i : Nat) (x fn : Str) (w : W) (e : En) : Option Out :=
  if h : ∃ o, ∀ a d, oB (G a d (e.set i (some (.imm (.exc a d x fn w))))) (offO i) = some o then some (Classical.choose h) else none
theorem hdl_of {G : Addr → Addr → En → Option Out} {i : Nat} {x fn : Str} {w : W} {e : En} {o : Out} (h : ∀ a d, oB (G a d (e.set i (some (.imm (.exc a d x fn w))))) (offO i) = some o) : hdl G i x fn w e = some o := by
  unfold hdl
  have q : ∃ o, ∀ a d, oB (G a d (e.set i (some (.imm (.exc a d x fn w))))) (offO i) = some o := ⟨o, h⟩
  rw [dif_pos q]
  have := (Classical.choose_spec q 0 0).symm.trans (h 0 0)
  exact this
theorem hdl_at {G : Addr → Addr → En → Option Out} {i : Nat} {x fn : Str} {w : W} {e : En} {o : Out} (h : hdl G i x fn w e = some o) (a d : Addr) : oB (G a d (e.set i (some (.imm (.exc a d x fn w))))) (offO i) = some o := by
  unfold hdl at h
  split at h
  next q => cases h; exact Classical.choose_spec q a d
  next => cases h
noncomputable def sTry (i : Nat) (x : Str) (B : En → Option Out) (G : Addr → Addr → En → Option Out) : En → Option Out := fun e => match B e with
  | some (.ex y fn w e') => if y = x then hdl G i y fn w e' else none
  | r => r
def TN : TQ := fun _ _ _ _ => False
theorem qtry {i : Nat} {n x : Str} {C : Addr} {body su : List Stmt} {b₁ : Stmt} {np hp2 pos : Pos} {B : En → Option Out} {G : Addr → Addr → En → Option Out} (st : X.stack = X.env :: X.outer) (fr : X.env.frame = some X.env.locals) (nd : X.N.Nodup) (at_ : X.N[i]? = some n) (lo : X.env.kindOf n = some .local)
    (hg : Gl X x) (hdb : (x == ("__debug__" : Str)) = false) (hC : X.mg x = some (.ref C)) (ex : PySem.W.exmOne X.K (.ref C) (.ref C) = some true)
    (hb : ∀ (pn : List (Addr × Obj)) (xe : Value → Shared → Prop), PassesOwn (model X.prog X.w) X.A X.env xe → PQ (X.tr pn xe) body B)
    (hu : ∀ (a d : Addr) (oe : Obj) (pn : List (Addr × Obj)), Zc (.ref C) (some d) oe → (∃ vs, oe.data = .fields vs) → PSs (X.suite a ((a, oe) :: pn)) (b₁ :: su) (tS X.K TN (G a d))) :
    PS X (.Try body [.ExceptHandler (some (.Name x np)) (some n) (b₁ :: su) hp2] [] [] pos) (tS X.K (wxQ X) (sTry i x B G)) :=
  ps_imp (ps_many_as (i := i) (W0 := wxW X) (tb := fun W => tS X.K (fun y d v G => ∀ C', X.mg y = some (.ref C') → W (.ref C') (some d) v G) B) st fr nd at_ lo takes_wx
    (fun W pn xe tk pa => pss_imp (hb pn xe pa) fun D σ H ⟨I0, H0, I, e, o, S, hf, k⟩ => ⟨I0, H0, I, e, o, S, hf, by
      cases o with
      | ex y fn w e => exact fun I' σ' H' d u S' x' h3 h4 C' hC' => ⟨W, tk, k I' σ' H' d u S' x' h3 h4 C' hC'⟩
      | nx e => exact k
      | bk e => exact k
      | ct e => exact k
      | rt sv => exact k⟩)
    (.cons (c := .ref C) (ts := fun a cls d D v G0 => ∃ dd, cls = .ref C ∧ d = some dd ∧ tS X.K TN (G a dd) D v G0) ⟨hg, hdb, .inl hC⟩ (fun a oe cls d pn hz hf => ⟨fun pins s v G0 D I0 ⟨dd, h1, h2, q⟩ => by
      subst h1
      subst h2
      exact (hu a dd oe pn hz hf).run pins s v G0 D I0 q⟩) .nil)) fun D σ H ⟨I0, H0, I, e, o, S, hf, k⟩ => by
  unfold sTry at hf
  split at hf
  next y fn w e' hB =>
    split at hf
    next hy =>
      subst hy
      refine ⟨I0, H0, I, e, _, S, hB, fun I' σ' H' d u S' x' h3 h4 C' hC' => ?_⟩
      rw [hC] at hC'
      cases hC'
      refine ⟨true, ex, fun _ a na => ⟨d, rfl, rfl, ?_⟩, fun z => nomatch z⟩
      have hh := hdl_at hf a d
      unfold oB at hh
      split at hh
      next o2 ho2 =>
        refine ⟨I0, H0, I', _, o2, S'.set S'.ref (sv := .imm (.exc a d y fn w)) (by simp only [Res, IsW]; exact ⟨trivial, u, h3, h4⟩) i, ho2, ?_⟩
        cases o2 with
        | nx e2 => cases hh; exact fun J σ2 H2 S2 x2 => k J _ H2 (S2.del i none) (x'.trans x2)
        | bk e2 => cases hh; exact fun J σ2 H2 S2 x2 => k J _ H2 (S2.del i none) (x'.trans x2)
        | ct e2 => cases hh; exact fun J σ2 H2 S2 x2 => k J _ H2 (S2.del i none) (x'.trans x2)
        | rt sv => cases hh; exact fun J H2 v x2 r2 => k J H2 v x2 r2
        | ex _ _ _ _ => cases hh
      next => cases hh
    next => cases hf
  next r hr =>
    refine ⟨I0, H0, I, e, o, S, hf, ?_⟩
    cases o with
    | ex y fn w e' => exact absurd hf (hr _ _ _ _)
    | nx e => exact k
    | bk e => exact k
    | ct e => exact k
    | rt sv => exact k
end Qw
set_option maxHeartbeats 2000000
namespace Nz
open PySem PySem.Spec PyProof.Rows L2
/-! ### zip of two sources of any kind -/
structure Src (it l : Addr) (items : Array Value) (At : Nat → Heap → Prop) : Prop where
  keep : ∀ i (h h' : Heap), At i h → (∀ o, h.get? it = some o → h'.get? it = some o) → (∀ o, h.get? l = some o → h'.get? l = some o) → At i h'
  item : ∀ {prog : Program} {w : World} {A : Around} {E : Value → Shared → Prop} {s : Shared} {i : Nat} {x : Value} {Q : Value → Shared → Prop}, At i s.heap → items[i]? = some x →
    (∀ h', At (i + 1) h' → Heap.SameBut it s.heap h' → Q x { s with heap := h' }) → wpAny (model prog w) A (Builtin.SmallTypes.nextOf (.ref it)) Q E s
  stop : ∀ {prog : Program} {w : World} {A : Around} {E : Value → Shared → Prop} {s : Shared} {i : Nat} {Q : Value → Shared → Prop}, A.handled = none → At i s.heap → items[i]? = none →
    (∀ h' e, Heap.ExtBut it s.heap h' → (∃ o, h'.get? e = some o ∧ o.cls = .type "StopIteration") → E (.ref e) { s with heap := h' }) → wpAny (model prog w) A (Builtin.SmallTypes.nextOf (.ref it)) Q E s
theorem src_list {it l : Addr} {items : Array Value} (ne : l ≠ it) : Src it l items (fun i h => h.IsListIter it l i ∧ h.IsList l items) where
  keep := fun i h h' ⟨a, b⟩ k1 k2 => ⟨a.at k1, b.at k2⟩
  item := fun ⟨a, b⟩ hx q => wpAny_nextOf_list_item a b hx fun h' a' sb => q h' ⟨a', b.extBut sb.extBut ne⟩ sb
  stop := fun hh ⟨a, b⟩ hx q => wpAny_nextOf_list_end hh a b hx q
theorem src_tup {it l : Addr} {items : Array Value} (ne : l ≠ it) : Src it l items (fun i h => h.IsTupleIter it l i ∧ h.IsTuple l items) where
  keep := fun i h h' ⟨a, ⟨o, h1, h2, n, h3⟩⟩ k1 k2 => ⟨a.at k1, ⟨o, k2 _ h1, h2, n, h3⟩⟩
  item := fun ⟨a, b⟩ hx q => RZ.nextOf_tuple_item a b hx fun h' a' sb => q h' ⟨a', b.extBut sb.extBut ne⟩ sb
  stop := fun hh ⟨a, b⟩ hx q => RZ.nextOf_tuple_end hh a b hx q
section
variable {prog : Program} {w : World} {A : Around} {E : Value → Shared → Prop} {s : Shared}
variable {z TI TO i1 i2 l1 l2 : Addr} {k1 k2 : Nat} {xs ys : Array Value} {x y a b : Value} {At1 At2 : Nat → Heap → Prop}
theorem zipS_item {Q : Value → Shared → Prop} (D : ZipApart z TI TO i1 i2 l1 l2) (S1 : Src i1 l1 xs At1) (S2 : Src i2 l2 ys At2) (hz : IsZip s.heap z TI TO .none) (hI : IsPair s.heap TI (.ref i1) (.ref i2)) (hO : IsPair s.heap TO a b)
    (a1 : At1 k1 s.heap) (a2 : At2 k2 s.heap) (hx : xs[k1]? = some x) (hy : ys[k2]? = some y) (li1 : ∃ o, s.heap.get? i1 = some o) (li2 : ∃ o, s.heap.get? i2 = some o)
    (hQ : ∀ h', IsZip h' z TI TO (rawInt s.heap.objs.size) → IsPair h' TO x y → At1 (k1 + 1) h' → At2 (k2 + 1) h' → IsPair h' s.heap.objs.size x y → (∀ c o, c ≠ z → c ≠ TO → c ≠ i1 → c ≠ i2 → s.heap.get? c = some o → h'.get? c = some o) → Q (.ref s.heap.objs.size) { s with heap := h' }) :
    wpAny (model prog w) A (Builtin.«zip.__next__» ⟨[.ref z], []⟩) (fun fin s' => ∃ v, fin = .done (.ret v) ∧ Q v s') E s := by
  show wpAny _ _ (field (.ref z) 2 >>= _) _ _ _
  refine wpAny_bind (wpAny_field hz rfl (x := .bool false) rfl ?_)
  show wpAny _ _ (field (.ref z) 3 >>= _) _ _ _
  refine wpAny_bind (wpAny_field hz rfl (x := .ref TI) rfl (wpAny_bind (wpAny_seqItems hI rfl ?_)))
  show wpAny _ _ (Builtin.SmallTypes.ownedTupleIsFree (.ref z) >>= _) _ _ _
  unfold Builtin.SmallTypes.ownedTupleIsFree
  refine wpAny_bind (wpAny_bind (wpAny_field hz rfl (x := .none) rfl (wpAny_pure ?_)))
  simp only [if_true]
  refine wpAny_bind (wpAny_rule (wpAny_bind (wpAny_field hz rfl (x := .ref TO) rfl (wpAny_bind (wpAny_setField_rec hz (by simp) fun g1 z1 b1 => wpAny_bind ?_)))))
  replace z1 : IsZip g1 z TI TO .ellipsis := z1
  simp only [List.zipIdx_cons, List.zipIdx_nil, List.forIn_cons, List.forIn_nil]
  refine wpAny_bind (wpAny_bind (wpAny_onRaise ?_))
  show wpAny _ _ (Builtin.SmallTypes.nextOf (.ref i1) >>= _) _ _ _
  refine wpAny_bind (S1.item (S1.keep _ _ _ a1 (fun o e => (b1.2 _ D.i1z).trans e) fun o e => (b1.2 _ D.l1z).trans e) hx fun g2 c1 b2 => wpAny_pure ?_)
  have O2 : IsPair g2 TO a b := (b2.2 _ D.TOi1).trans ((b1.2 _ D.TOz).trans hO)
  refine wpAny_bind (wpAny_seqItems O2 rfl (wpAny_bind (wpAny_updateSeq_pair O2 fun g3 O3 b3 => wpAny_bind (wpAny_letGo (wpAny_pure ?_)))))
  replace O3 : IsPair g3 TO x b := O3
  refine wpAny_bind (wpAny_bind (wpAny_onRaise ?_))
  show wpAny _ _ (Builtin.SmallTypes.nextOf (.ref i2) >>= _) _ _ _
  refine wpAny_bind (S2.item (S2.keep _ _ _ a2 (fun o e => (b3.2 _ D.TOi2.symm).trans ((b2.2 _ D.i12.symm).trans ((b1.2 _ D.i2z).trans e))) fun o e => (b3.2 _ D.l2TO).trans ((b2.2 _ D.l2i1).trans ((b1.2 _ D.l2z).trans e))) hy fun g4 c2 b4 => wpAny_pure ?_)
  have O4 : IsPair g4 TO x b := (b4.2 _ D.TOi2).trans O3
  refine wpAny_bind (wpAny_seqItems O4 rfl (wpAny_bind (wpAny_updateSeq_pair O4 fun g5 O5 b5 => wpAny_bind (wpAny_letGo (wpAny_pure (wpAny_pure ?_))))))
  replace O5 : IsPair g5 TO x y := O5
  refine wpAny_bind (wpAny_seqItems O5 rfl (wpAny_bind (wpAny_newTuple ?_)))
  have sz : g5.objs.size = s.heap.objs.size := by rw [b5.1, b4.1, b3.1, b2.1, b1.1]
  have z5 : IsZip g5 z TI TO .ellipsis := (b5.2 _ D.TOz.symm).trans ((b4.2 _ D.i2z.symm).trans ((b3.2 _ D.TOz.symm).trans ((b2.2 _ D.i1z.symm).trans z1)))
  have old : ∀ c o, c ≠ z → c ≠ TO → c ≠ i1 → c ≠ i2 → s.heap.get? c = some o → g5.get? c = some o := fun c o n1 n2 n3 n4 e => (b5.2 _ n2).trans ((b4.2 _ n4).trans ((b3.2 _ n2).trans ((b2.2 _ n3).trans ((b1.2 _ n1).trans e))))
  have zl : z < g5.objs.size := Heap.lt_size z5
  show wpAny _ _ (Builtin.SmallTypes.ownedTupleHandOut (.ref z) (.ref g5.objs.size) >>= _) _ _ _
  unfold Builtin.SmallTypes.ownedTupleHandOut
  have z6 : IsZip (g5.push { cls := .type "tuple", data := .seq #[x, y] }) z TI TO .ellipsis := Heap.get?_push_of_some _ z5
  refine wpAny_bind (wpAny_bind (wpAny_setField_rec z6 (by simp) fun g7 z7 b7 => ?_))
  replace z7 : IsZip g7 z TI TO (rawInt g5.objs.size) := z7
  refine wpAny_setField_rec z7 (by simp) fun g8 z8 b8 => ?_
  replace z8 : IsZip g8 z TI TO (rawInt g5.objs.size) := z8
  have up : ∀ c o, c ≠ z → g5.get? c = some o → g8.get? c = some o := fun c o n e => (b8.2 _ n).trans ((b7.2 _ n).trans (Heap.get?_push_of_some _ e))
  have T8 : IsPair g8 g5.objs.size x y := (b8.2 _ (Nat.ne_of_gt zl)).trans ((b7.2 _ (Nat.ne_of_gt zl)).trans (Heap.get?_push_size _ rfl))
  rw [sz] at z8 T8
  refine wpAny_pure ⟨_, rfl, ?_⟩
  show Q (.ref g5.objs.size) _
  rw [sz]
  refine hQ g8 z8 (up _ _ D.TOz O5) (S1.keep _ _ _ c1 (fun o e => up _ o D.i1z ((b5.2 _ D.TOi1.symm).trans ((b4.2 _ D.i12).trans ((b3.2 _ D.TOi1.symm).trans e)))) fun o e => up _ o D.l1z ((b5.2 _ D.l1TO).trans ((b4.2 _ D.l1i2).trans ((b3.2 _ D.l1TO).trans e))))
    (S2.keep _ _ _ c2 (fun o e => up _ o D.i2z ((b5.2 _ D.TOi2.symm).trans e)) fun o e => up _ o D.l2z ((b5.2 _ D.l2TO).trans e)) T8 fun c o n1 n2 n3 n4 e => up c o n1 (old c o n1 n2 n3 n4 e)
theorem zipS_end {Q : PySem.Fin → Shared → Prop} (hh : A.handled = none) (D : ZipApart z TI TO i1 i2 l1 l2) (S1 : Src i1 l1 xs At1) (S2 : Src i2 l2 ys At2) (hz : IsZip s.heap z TI TO .none) (hI : IsPair s.heap TI (.ref i1) (.ref i2)) (hO : IsPair s.heap TO a b)
    (a1 : At1 k1 s.heap) (a2 : At2 k2 s.heap) (hend : xs[k1]? = none ∨ ys[k2]? = none)
    (hE : ∀ h' e, (∀ c o, c ≠ z → c ≠ TO → c ≠ i1 → c ≠ i2 → s.heap.get? c = some o → h'.get? c = some o) → (∃ o, h'.get? e = some o ∧ o.cls = .type "StopIteration") → E (.ref e) { s with heap := h' }) :
    wpAny (model prog w) A (Builtin.«zip.__next__» ⟨[.ref z], []⟩) Q E s := by
  show wpAny _ _ (field (.ref z) 2 >>= _) _ _ _
  refine wpAny_bind (wpAny_field hz rfl (x := .bool false) rfl ?_)
  show wpAny _ _ (field (.ref z) 3 >>= _) _ _ _
  refine wpAny_bind (wpAny_field hz rfl (x := .ref TI) rfl (wpAny_bind (wpAny_seqItems hI rfl ?_)))
  show wpAny _ _ (Builtin.SmallTypes.ownedTupleIsFree (.ref z) >>= _) _ _ _
  unfold Builtin.SmallTypes.ownedTupleIsFree
  refine wpAny_bind (wpAny_bind (wpAny_field hz rfl (x := .none) rfl (wpAny_pure ?_)))
  simp only [if_true]
  refine wpAny_bind (wpAny_rule (wpAny_bind (wpAny_field hz rfl (x := .ref TO) rfl (wpAny_bind (wpAny_setField_rec hz (by simp) fun g1 z1 b1 => wpAny_bind ?_)))))
  replace z1 : IsZip g1 z TI TO .ellipsis := z1
  simp only [List.zipIdx_cons, List.zipIdx_nil, List.forIn_cons, List.forIn_nil]
  refine wpAny_bind (wpAny_bind (wpAny_onRaise ?_))
  show wpAny _ _ (Builtin.SmallTypes.nextOf (.ref i1) >>= _) _ _ _
  have a1' := S1.keep _ _ g1 a1 (fun o e => (b1.2 _ D.i1z).trans e) fun o e => (b1.2 _ D.l1z).trans e
  have notz : ∀ {g : Heap} {f0 : Value} {e : Addr} {o : Obj}, IsZip g z TI TO f0 → g.get? e = some o → o.cls = .type "StopIteration" → e ≠ z := fun hg he hc x => by
    subst x
    rw [hg] at he
    cases he
    simp at hc
  cases hx : xs[k1]? with
  | none =>
    refine wpAny_bind (S1.stop hh a1' hx fun g2 e b2 ⟨oe, he, hc⟩ => ?_)
    have z2 : IsZip g2 z TI TO .ellipsis := b2 _ _ D.i1z.symm z1
    exact wpAny_setField_rec z2 (by simp) fun g3 _ b3 => hE g3 e (fun c o n1 _ n3 _ q => (b3.2 _ n1).trans (b2 _ _ n3 ((b1.2 _ n1).trans q))) ⟨oe, (b3.2 _ (notz z2 he hc)).trans he, hc⟩
  | some x =>
    have hy : ys[k2]? = none := hend.resolve_left (by rw [hx]; exact fun q => nomatch q)
    refine wpAny_bind (S1.item a1' hx fun g2 _ b2 => wpAny_pure ?_)
    have O2 : IsPair g2 TO a b := (b2.2 _ D.TOi1).trans ((b1.2 _ D.TOz).trans hO)
    refine wpAny_bind (wpAny_seqItems O2 rfl (wpAny_bind (wpAny_updateSeq_pair O2 fun g3 _ b3 => wpAny_bind (wpAny_letGo (wpAny_pure ?_)))))
    refine wpAny_bind (wpAny_bind (wpAny_onRaise ?_))
    show wpAny _ _ (Builtin.SmallTypes.nextOf (.ref i2) >>= _) _ _ _
    refine wpAny_bind (S2.stop hh (S2.keep _ _ _ a2 (fun o e => (b3.2 _ D.TOi2.symm).trans ((b2.2 _ D.i12.symm).trans ((b1.2 _ D.i2z).trans e))) fun o e => (b3.2 _ D.l2TO).trans ((b2.2 _ D.l2i1).trans ((b1.2 _ D.l2z).trans e))) hy fun g4 e b4 ⟨oe, he, hc⟩ => ?_)
    have z4 : IsZip g4 z TI TO .ellipsis := b4 _ _ D.i2z.symm ((b3.2 _ D.TOz.symm).trans ((b2.2 _ D.i1z.symm).trans z1))
    exact wpAny_setField_rec z4 (by simp) fun g5 _ b5 => hE g5 e (fun c o n1 n2 n3 n4 q => (b5.2 _ n1).trans (b4 _ _ n4 ((b3.2 _ n2).trans ((b2.2 _ n3).trans ((b1.2 _ n1).trans q))))) ⟨oe, (b5.2 _ (notz z4 he hc)).trans he, hc⟩
end
end Nz
set_option maxHeartbeats 2000000
namespace Nz
open PySem PySem.Spec PyProof.Rows L2
/-! ### pyNext of a mixed zip; making one -/
section
variable {prog : Program} {w : World} {A : Around} {E : Value → Shared → Prop} {s : Shared}
variable {z TI TO i1 i2 l1 l2 : Addr} {k1 k2 : Nat} {xs ys : Array Value} {x y a b : Value} {At1 At2 : Nat → Heap → Prop}
theorem pyNext_zipS_item {Q : Option Value → Shared → Prop} (D : ZipApart z TI TO i1 i2 l1 l2) (S1 : Src i1 l1 xs At1) (S2 : Src i2 l2 ys At2) (hz : IsZip s.heap z TI TO .none) (hI : IsPair s.heap TI (.ref i1) (.ref i2)) (hO : IsPair s.heap TO a b)
    (a1 : At1 k1 s.heap) (a2 : At2 k2 s.heap) (hx : xs[k1]? = some x) (hy : ys[k2]? = some y) (li1 : ∃ o, s.heap.get? i1 = some o) (li2 : ∃ o, s.heap.get? i2 = some o)
    (go : ∀ h', IsZip h' z TI TO (rawInt s.heap.objs.size) → IsPair h' TO x y → At1 (k1 + 1) h' → At2 (k2 + 1) h' → IsPair h' s.heap.objs.size x y → (∀ c o, c ≠ z → c ≠ TO → c ≠ i1 → c ≠ i2 → s.heap.get? c = some o → h'.get? c = some o) → Q (some (.ref s.heap.objs.size)) { s with heap := h' }) :
    wpAny (model prog w) A (pyNext (.ref z)) Q E s := by
  have T : s.TypeIs (.ref z) "zip" := ⟨_, hz, rfl⟩
  unfold pyNext
  refine wpAny_bind (wpAny_attempt (wpAny_callSpecial?_slot (name := Str.ofString "__next__") T F.slot_zip_next (wpAny_call_entry F.slot_zip_next T F.entry_zip_next ?_ (F.args_zip_next_1 _))))
  exact zipS_item D S1 S2 hz hI hO a1 a2 hx hy li1 li2 fun h' b1 b2 b3 b4 b5 b6 => wpAny_pure (go h' b1 b2 b3 b4 b5 b6)
theorem pyNext_zipS_end {Q : Option Value → Shared → Prop} (hh : A.handled = none) (D : ZipApart z TI TO i1 i2 l1 l2) (S1 : Src i1 l1 xs At1) (S2 : Src i2 l2 ys At2) (hz : IsZip s.heap z TI TO .none) (hI : IsPair s.heap TI (.ref i1) (.ref i2)) (hO : IsPair s.heap TO a b)
    (a1 : At1 k1 s.heap) (a2 : At2 k2 s.heap) (hend : xs[k1]? = none ∨ ys[k2]? = none)
    (go : ∀ h', (∀ c o, c ≠ z → c ≠ TO → c ≠ i1 → c ≠ i2 → s.heap.get? c = some o → h'.get? c = some o) → Q none { s with heap := h' }) :
    wpAny (model prog w) A (pyNext (.ref z)) Q E s := by
  have T : s.TypeIs (.ref z) "zip" := ⟨_, hz, rfl⟩
  unfold pyNext
  refine wpAny_bind (wpAny_attempt (wpAny_callSpecial?_slot (name := Str.ofString "__next__") T F.slot_zip_next (wpAny_call_entry F.slot_zip_next T F.entry_zip_next ?_ (F.args_zip_next_1 _))))
  exact zipS_end hh D S1 S2 hz hI hO a1 a2 hend fun h' e k ⟨o, ho, hc⟩ => wpAny_bind (wpAny_isInstance (T := "StopIteration") (b := true) ⟨o, ho, hc⟩ isSubtype_stop (wpAny_pure (go _ k)))
end
/-- the heap after the two iterators of a mixed zip -/
abbrev zipM2 (h : Heap) (l1 l2 : Addr) : Heap := (h.push { cls := .type "list_iterator", data := .fields #[.ref l1, .int 0 0] }).push { cls := .type "tuple_iterator", data := .fields #[.ref l2, .int 0 0] }
abbrev zipM4 (h : Heap) (l1 l2 : Addr) : Heap := ((zipM2 h l1 l2).push { cls := .type "tuple", data := .seq #[.ref h.objs.size, .ref (h.push { cls := .type "list_iterator", data := .fields #[.ref l1, .int 0 0] }).objs.size] }).push { cls := .type "tuple", data := .seq #[.none, .none] }
abbrev zipM5 (h : Heap) (l1 l2 : Addr) : Heap := (zipM4 h l1 l2).push { cls := .type "zip", data := .fields #[.none, .bool false, .bool false, .ref (zipM2 h l1 l2).objs.size, .ref ((zipM2 h l1 l2).push { cls := .type "tuple", data := .seq #[.ref h.objs.size, .ref (h.push { cls := .type "list_iterator", data := .fields #[.ref l1, .int 0 0] }).objs.size] }).objs.size] }
theorem meets_zipM_new (l1 l2 : Addr) (xs ys : Array Value) :
    Meets (Builtin.«zip.__new__» ⟨[.type "zip", .ref l1, .ref l2], []⟩) (fun _ R s => s.heap.IsList l1 xs ∧ s.heap.IsTuple l2 ys ∧ R (.ok (.ret (.ref (zipM4 s.heap l1 l2).objs.size))) { s with heap := zipM5 s.heap l1 l2 }) :=
  .of_wp fun prog w A R s q => by
    obtain ⟨hp, g, d, tk, os⟩ := s
    obtain ⟨e1, e2, q⟩ := q
    have sub := sub_zip
    have L1 : Heap.IsList (Shared.heap ⟨hp, g, d, tk, os⟩) l1 xs := e1
    have L2 : Heap.IsTuple (Shared.heap ⟨hp.push { cls := .type "list_iterator", data := .fields #[.ref l1, .int 0 0] }, g, d, tk, os⟩) l2 ys := Heap.IsTuple.push e2 _
    wp_walk using wpAny_pyIter_list L1, wpAny_pyIter_tuple L2
    exact ⟨_, rfl, q⟩
end Nz
set_option maxHeartbeats 2000000
namespace Nz
open PySem PySem.Spec PyProof.Rows L2
section
variable {prog : Program} {w : World} {A : Around} {E : Value → Shared → Prop} {s : Shared}
/-- zip(list, tuple): five new objects -/
theorem call_zipM {l1 l2 : Addr} {xs ys : Array Value} {Q : Value → Shared → Prop} (e1 : s.heap.IsList l1 xs) (e2 : s.heap.IsTuple l2 ys)
    (q : ∀ h', IsZip h' (s.heap.objs.size + 4) (s.heap.objs.size + 2) (s.heap.objs.size + 3) .none → IsPair h' (s.heap.objs.size + 2) (.ref s.heap.objs.size) (.ref (s.heap.objs.size + 1)) →
      IsPair h' (s.heap.objs.size + 3) .none .none → h'.IsListIter s.heap.objs.size l1 0 → h'.IsTupleIter (s.heap.objs.size + 1) l2 0 →
      (∀ c o, s.heap.get? c = some o → h'.get? c = some o) → Q (.ref (s.heap.objs.size + 4)) { s with heap := h' }) :
    wpAny (model prog w) A (call (.type "zip") [.ref l1, .ref l2]) Q E s := by
  refine callType_new F.called_zip (by decide) (F.typeCall_zip_2 _ _) (F.newCall_zip_2 _ _) (fun obj => F.args_object_init_3 obj _ _) F.entry_zip_new (meets_zipM_new l1 l2 xs ys) ⟨e1, e2, ?_⟩
  have P : ∀ {h : Heap} {o o' : Obj} {c : Addr}, h.get? c = some o → (h.push o').get? c = some o := fun e => Heap.get?_push_of_some _ e
  generalize hA : s.heap.push { cls := .type "list_iterator", data := .fields #[.ref l1, .int 0 0] } = hpA
  have zA : hpA.objs.size = s.heap.objs.size + 1 := by rw [← hA]; exact Heap.size_push ..
  have gA : hpA.get? s.heap.objs.size = some { cls := .type "list_iterator", data := .fields #[.ref l1, .int 0 0] } := by rw [← hA]; exact Heap.get?_push_size _ rfl
  have kA : ∀ c o, s.heap.get? c = some o → hpA.get? c = some o := fun c o e => by rw [← hA]; exact P e
  unfold zipM5 zipM4 zipM2
  rw [hA]
  generalize hB : hpA.push { cls := .type "tuple_iterator", data := .fields #[.ref l2, .int 0 0] } = hpB
  have zB : hpB.objs.size = s.heap.objs.size + 2 := by rw [← hB, Heap.size_push, zA]
  have gB : hpB.get? (s.heap.objs.size + 1) = some { cls := .type "tuple_iterator", data := .fields #[.ref l2, .int 0 0] } := by rw [← hB, ← zA]; exact Heap.get?_push_size _ rfl
  have kB : ∀ c o, hpA.get? c = some o → hpB.get? c = some o := fun c o e => by rw [← hB]; exact P e
  rw [zA]
  generalize hC : hpB.push { cls := .type "tuple", data := .seq #[.ref s.heap.objs.size, .ref (s.heap.objs.size + 1)] } = hpC
  have zC : hpC.objs.size = s.heap.objs.size + 3 := by rw [← hC, Heap.size_push, zB]
  have gC : hpC.get? (s.heap.objs.size + 2) = some { cls := .type "tuple", data := .seq #[.ref s.heap.objs.size, .ref (s.heap.objs.size + 1)] } := by rw [← hC, ← zB]; exact Heap.get?_push_size _ rfl
  have kC : ∀ c o, hpB.get? c = some o → hpC.get? c = some o := fun c o e => by rw [← hC]; exact P e
  rw [zB, zC]
  generalize hD : hpC.push { cls := .type "tuple", data := .seq #[.none, .none] } = hpD
  have zD : hpD.objs.size = s.heap.objs.size + 4 := by rw [← hD, Heap.size_push, zC]
  have gD : hpD.get? (s.heap.objs.size + 3) = some { cls := .type "tuple", data := .seq #[.none, .none] } := by rw [← hD, ← zC]; exact Heap.get?_push_size _ rfl
  have kD : ∀ c o, hpC.get? c = some o → hpD.get? c = some o := fun c o e => by rw [← hD]; exact P e
  rw [zD]
  generalize hF : hpD.push { cls := .type "zip", data := .fields #[.none, .bool false, .bool false, .ref (s.heap.objs.size + 2), .ref (s.heap.objs.size + 3)] } = hpF
  have gF : hpF.get? (s.heap.objs.size + 4) = some { cls := .type "zip", data := .fields #[.none, .bool false, .bool false, .ref (s.heap.objs.size + 2), .ref (s.heap.objs.size + 3)] } := by rw [← hF, ← zD]; exact Heap.get?_push_size _ rfl
  have kF : ∀ c o, hpD.get? c = some o → hpF.get? c = some o := fun c o e => by rw [← hF]; exact P e
  exact ⟨⟨_, gF, rfl⟩, q _ gF (kF _ _ (kD _ _ gC)) (kF _ _ gD) ⟨_, kF _ _ (kD _ _ (kC _ _ (kB _ _ gA))), rfl, rfl⟩ ⟨_, kF _ _ (kD _ _ (kC _ _ gB)), rfl, rfl⟩ fun c o e => kF _ _ (kD _ _ (kC _ _ (kB _ _ (kA _ _ e))))⟩
end
/-- the list at a and the tuple at b as they stand at each turn, the items in new pairs -/
def ItzM (K : PySem.W.Frag) (a b : Addr) : It where
  go := fun i H => ∃ (xs ys : List V) (x y : V), SqL K H a xs ∧ SqT K H b ys ∧ xs[i]? = some x ∧ ys[i]? = some y
  yld := fun i H v H' => ∃ T x y, v = .ref T ∧ H T = none ∧ H' = upd H T (.tup [x, y]) ∧ (∀ xs, SqL K H a xs → xs[i]? = some x) ∧ ∀ ys, SqT K H b ys → ys[i]? = some y
  stop := fun i H => ∃ xs ys : List V, SqL K H a xs ∧ SqT K H b ys ∧ (xs.length ≤ i ∨ ys.length ≤ i)
end Nz
set_option maxHeartbeats 2000000
namespace Nz
open PySem PySem.Spec PyProof.Rows L2
theorem five {P : Nat → Prop} {z TI TO i1 i2 : Addr} (a : P z) (b : P TI) (c : P TO) (d : P i1) (e : P i2) : ∀ q, q ∈ [z, TI, TO, i1, i2] → P q := by
  intro q hq
  simp only [List.mem_cons, List.not_mem_nil, or_false] at hq
  rcases hq with r | r | r | r | r <;> (subst r; assumption)
theorem turn_zipM {P : Program} {w : World} {K : PySem.W.Frag} {elts : List Expr} {kk : Nat} {tpos : Pos} {a b z TI TO i1 i2 : Addr} (D : ZipApart z TI TO i1 i2 a b) (n1 : a ≠ i1) (n2 : b ≠ i2) :
    Turn P w K (.Tuple elts kk tpos) (ItzM K a b) [z, TI, TO, i1, i2] z
      (fun i h => IsZip h z TI TO .none ∧ IsPair h TI (.ref i1) (.ref i2) ∧ (∃ x y, IsPair h TO x y) ∧ h.IsListIter i1 a i ∧ h.IsTupleIter i2 b i) where
  mem := List.mem_cons_self
  obj := fun i h ⟨z0, I0, ⟨x, y, O0⟩, ⟨o1, e1, _, d1⟩, ⟨o2, e2, _, d2⟩⟩ =>
    five ⟨_, z0, fun v q => nomatch q⟩ ⟨_, I0, fun v q => nomatch q⟩ ⟨_, O0, fun v q => nomatch q⟩ ⟨o1, e1, fun v q => by rw [d1] at q; cases q⟩ ⟨o2, e2, fun v q => by rw [d2] at q; cases q⟩
  keep := fun i h h' ⟨z0, I0, ⟨x, y, O0⟩, j1, j2⟩ k =>
    ⟨k _ (by simp) _ z0, k _ (by simp) _ I0, ⟨x, y, k _ (by simp) _ O0⟩, j1.at fun o q => k _ (by simp) o q, j2.at fun o q => k _ (by simp) o q⟩
  item := by
    intro X hP hw hK hc i pins s σ H E I hf ⟨z0, I0, ⟨x0, y0, O0⟩, j1, j2⟩ ⟨xs, ys, x, y, qx, qy, hx, hy⟩
    subst hP hw hK
    obtain ⟨us, rx, px, _⟩ := I.list qx
    obtain ⟨us2, ry, py, _⟩ := I.tuple qy
    obtain ⟨u, hu, ru⟩ := rx.get hx
    obtain ⟨v, hv, rv⟩ := ry.get hy
    have old : ∀ c ∈ [z, TI, TO, i1, i2], c < s.heap.objs.size := five (P := fun c => c < s.heap.objs.size) (Heap.lt_size z0) (Heap.lt_size I0) (Heap.lt_size O0) (j1.elim fun _ e => Heap.lt_size e.1) (j2.elim fun _ e => Heap.lt_size e.1)
    refine pyNext_zipS_item D (src_list n1) (src_tup n2) z0 I0 O0 ⟨j1, px.isList⟩ ⟨j2, py⟩ (x := u) (y := v) (by simpa using hu) (by simpa using hv) (j1.elim fun o e => ⟨o, e.1⟩) (j2.elim fun o e => ⟨o, e.1⟩) fun g Z T ⟨k1, _⟩ ⟨k2, _⟩ N k => ?_
    refine ⟨_, rfl, wpAny_letOwnedTupleGo_zip (s := { s with heap := g }) Z fun g' Z' sb => ?_⟩
    have N' : g'.get? s.heap.objs.size = some { cls := .type "tuple", data := .seq #[u, v] } := (sb.2 _ (Nat.ne_of_gt (Heap.lt_size z0))).trans N
    have ok : ObjOk X.prog X.w (upd H s.heap.objs.size (.tup [x, y])) g' s.heap.objs.size (.tup [x, y]) := ⟨by show 2 ≤ sizeLine; decide, [u, v], .cons ru (.cons rv .nil), ⟨_, N', rfl, _, rfl⟩⟩
    have J : Inv X pins σ (upd H s.heap.objs.size (.tup [x, y])) { s with heap := g' } := by
      refine I.turnedNew (t' := s.toks) (ch := [z, TI, TO, i1, i2]) (fun c o hb q => ?_) hf (Nat.le_refl _) ok
      simp only [List.mem_cons, List.not_mem_nil, or_false, not_or] at hb
      exact (sb.2 c hb.1).trans (k c o hb.1 hb.2.2.1 hb.2.2.2.1 hb.2.2.2.2 q)
    refine ⟨.ref s.heap.objs.size, _, J, rfl, ⟨_, x, y, rfl, I.hok.fresh (Nat.le_refl _), rfl, fun l hl => ?_, fun l hl => ?_⟩, ⟨Z', (sb.2 _ D.TIz).trans (k _ _ D.TIz D.TITO D.TIi1 D.TIi2 I0), ⟨u, v, (sb.2 _ D.TOz).trans T⟩, k1.at fun o q => (sb.2 _ D.i1z).trans q, k2.at fun o q => (sb.2 _ D.i2z).trans q⟩, fun c hcm => ?_⟩
    · rw [I.list_inj hl qx]; exact hx
    · rw [I.tuple_inj hl qy]; exact hy
    · rw [upd_ne (Nat.ne_of_lt (old c hcm))]
      exact (hf c hcm).1
  done := by
    intro X hP hw hK hc i pins s σ H E I hf ⟨z0, I0, ⟨x0, y0, O0⟩, j1, j2⟩ ⟨xs, ys, qx, qy, he⟩
    subst hP hw hK
    obtain ⟨us, rx, px, _⟩ := I.list qx
    obtain ⟨us2, ry, py, _⟩ := I.tuple qy
    have lx := rx.length
    have ly := ry.length
    have none : us.toArray[i]? = none ∨ us2.toArray[i]? = none := he.imp (fun q => by simp; omega) fun q => by simp; omega
    refine pyNext_zipS_end (I.ok.hd hc) D (src_list n1) (src_tup n2) z0 I0 O0 ⟨j1, px.isList⟩ ⟨j2, py⟩ none fun g k => ⟨rfl, I.turnedL (t' := s.toks) (ch := [z, TI, TO, i1, i2]) (fun c o hb q => ?_) hf⟩
    simp only [List.mem_cons, List.not_mem_nil, or_false, not_or] at hb
    exact k c o hb.1 hb.2.2.1 hb.2.2.2.1 hb.2.2.2.2 q
  self := fun _ _ _ _ _ st h => wpAny_pyIter_zip st.1 h
end Nz
set_option maxHeartbeats 2000000
namespace Nz
open PySem PySem.Spec PyProof.Rows L2
/-- the room that a dict's rules ask for -/
theorem hu3 {n : Nat} (h : n + 64 < cLine) : n + 3 < cLine := by omega
def iZipM (K : PySem.W.Frag) (ta : TA) : L2.TI := fun σ H R => ta σ H fun vs H1 => ∃ a b xs ys, vs = [.ref a, .ref b] ∧ SqL K H1 a xs ∧ SqT K H1 b ys ∧ R (ItzM K a b) H1
/-- zip(list, tuple) as what a loop runs over -/
theorem pi_zipM {X : Cx} {e e2 : Expr} {ta : TA} {p pos tpos : Pos} {elts : List Expr} {kk : Nat} (hg : Gl X "zip") (hm : X.mg "zip" = none) (ha : PA X [e, e2] ta)
    (hs : starEach [e, e2] X.env = (false, eval e X.env) :: starEach [e2] X.env := by rfl) (hpl : (backTo pos (starEach [e2] X.env)).any (·.1) = false := by rfl) :
    PI X (.Tuple elts kk tpos) (.Call (.Name "zip" p) [e, e2] [] pos) (iZipM X.K ta) := by
  refine ⟨fun pins s σ H R I h => Call_ (ld_blt I hg hm PyProof.Rows.boot_zip (PyProof.Rows.callWith_type1 (thn (ha.run pos pins s σ H _ I h) fun us s1 ⟨vs, H1, J, rs, a, b, xs, ys, ex, qx, qy, q⟩ => ?_) hs hpl))⟩
  subst ex
  obtain _ | ⟨r, _ | ⟨r', _ | _⟩⟩ := rs
  cases r
  cases r'
  obtain ⟨us1, _, px, _⟩ := J.list qx
  obtain ⟨us2, _, py, _⟩ := J.tuple qy
  have la : a < s1.heap.objs.size := px.lt
  have lb : b < s1.heap.objs.size := py.elim fun _ e => Heap.lt_size e.1
  have new : ∀ c, s1.heap.objs.size ≤ c → FpOk X pins H1 c := fun c hle => J.fpOk hle (J.hok.fresh hle)
  refine call_zipM px.isList py fun g z0 I0 O0 j1 j2 k => wpAny_pyIter_zip z0 ?_
  exact ⟨s1.heap.objs.size + 4, _, _, _, H1, rfl, J.kept (t' := s1.toks) k, turn_zipM (PySem.W.ktu_apart s1.heap.objs.size a b la lb) (Nat.ne_of_lt la) (Nat.ne_of_lt (Nat.lt_succ_of_lt lb)), ⟨z0, I0, ⟨_, _, O0⟩, j1, j2⟩,
    five (new _ (Nat.le_add_right _ _)) (new _ (Nat.le_add_right _ _)) (new _ (Nat.le_add_right _ _)) (new _ (Nat.le_refl _)) (new _ (Nat.le_add_right _ _)), q⟩
/-- the reading of a loop over zip of a list and a tuple of one length -/
theorem for_zipM {K : PySem.W.Frag} {a b : Addr} {xs ys : List V} {g : TG} {tb : TS} {D : Ends} {σ : L2.St} {H : Hp} (hl : xs.length = ys.length) (Pv : Nat → L2.St → Hp → Prop)
    (h0 : Pv 0 σ H) (hq : ∀ i σ H, Pv i σ H → SqL K H a xs ∧ SqT K H b ys)
    (hs : ∀ (i : Nat) (x y : V) (T : Addr) (σ : L2.St) (H : Hp), xs[i]? = some x → ys[i]? = some y → Pv i σ H → H T = none →
      g (.ref T) σ (upd H T (.tup [x, y])) fun σ2 H2 => tb { D with nx := Pv (i + 1), ct := Pv (i + 1), bk := D.nx } σ2 H2)
    (hd : ∀ σ H, Pv xs.length σ H → D.nx σ H) :
    ∃ W : Nat → Nat → L2.St → Hp → Prop, (∃ m, W 0 m σ H) ∧ ∀ i m σ H, W i m σ H →
      ((ItzM K a b).stop i H ∧ D.nx σ H) ∨ ((ItzM K a b).go i H ∧ ∃ N : L2.St → Hp → Prop, (∀ σ' H', N σ' H' → ∃ m', m' < m ∧ W (i + 1) m' σ' H') ∧
        ∀ v H', (ItzM K a b).yld i H v H' → g v σ H' fun σ2 H2 => tb { D with nx := N, ct := N, bk := D.nx } σ2 H2) := by
  refine ⟨fun i m σ H => m + i = xs.length ∧ Pv i σ H, ⟨xs.length, rfl, h0⟩, fun i m σ H ⟨e, p⟩ => ?_⟩
  have ⟨qx, qy⟩ := hq i σ H p
  cases m with
  | zero =>
    have e' : i = xs.length := by omega
    exact .inl ⟨⟨xs, ys, qx, qy, .inl (Nat.le_of_eq e'.symm)⟩, hd σ H (e' ▸ p)⟩
  | succ m =>
    have hx : xs[i]? = some (xs[i]'(by omega)) := List.getElem?_eq_getElem _
    have hy : ys[i]? = some (ys[i]'(by omega)) := List.getElem?_eq_getElem _
    refine .inr ⟨⟨xs, ys, _, _, qx, qy, hx, hy⟩, Pv (i + 1), fun σ' H' p' => ⟨m, Nat.lt_succ_self m, by omega, p'⟩, ?_⟩
    rintro v H' ⟨T, x', y', rfl, hT, rfl, f1, f2⟩
    exact hs i x' y' T σ H (f1 xs qx) (f2 ys qy) p hT
end Nz
set_option maxHeartbeats 2000000
namespace Nz
open PySem PySem.Spec
open Sem (wp)
/-! ### facts about itertools.permutations -/
theorem mro_pm : mroOf (.type "itertools.permutations") = pure [.type "itertools.permutations", .type "object"] := by
  rw [mroOf_type]
  kernel_rfl
theorem sub_pm : isSubtype (.type "itertools.permutations") (.type "itertools.permutations") = pure true := by
  rw [isSubtype_type]
  kernel_rfl
theorem new_pm : typeLookup (.type "itertools.permutations") "__new__" = pure (some (.builtin "itertools.permutations.__new__")) := by
  rw [typeLookup_type, builtinLookup_eq_fast]
  kernel_rfl
theorem init_pm : Slot "itertools.permutations" "__init__" "object.__init__" := .of (owner := "object") (n := "__init__")
  (by rw [typeLookup_type, builtinLookup_eq_fast]; kernel_rfl) (by decide +kernel) (by decide +kernel) (by decide +kernel)
  (by first | exact .inl (by decide +kernel) | exact .inr (by decide +kernel)) (by rw [isSubtype_type]; kernel_rfl)
theorem called_pm : TypeCalled "itertools.permutations" "itertools.permutations.__new__" "object.__init__" := ⟨by decide +kernel, by decide +kernel,
  ⟨_, _, mro_pm⟩, madeBy_type mro_pm new_pm (by decide +kernel), by decide +kernel, sub_pm, init_pm⟩
theorem tcall1_pm (a : Value) : checkTypeCall "itertools.permutations" ⟨[a], []⟩ = pure () := by kernel_rfl
theorem tcall2_pm (a b : Value) : checkTypeCall "itertools.permutations" ⟨[a, b], []⟩ = pure () := by kernel_rfl
theorem ncall1_pm (a : Value) : checkBuiltinCall "itertools.permutations.__new__" ⟨[.type "itertools.permutations", a], []⟩ = pure () := by kernel_rfl
theorem ncall2_pm (a b : Value) : checkBuiltinCall "itertools.permutations.__new__" ⟨[.type "itertools.permutations", a, b], []⟩ = pure () := by kernel_rfl
theorem enew_pm : entryFor table "itertools.permutations.__new__" = some Builtin.«itertools.permutations.__new__» := entryFor_of_tree (by kernel_rfl)
theorem iter_pm : Slot "itertools.permutations" "__iter__" "itertools.permutations.__iter__" := .of (owner := "itertools.permutations") (n := "__iter__")
  (by rw [typeLookup_type, builtinLookup_eq_fast]; kernel_rfl) (by decide +kernel) (by decide +kernel) (by decide +kernel)
  (by first | exact .inl (by decide +kernel) | exact .inr (by decide +kernel)) sub_pm
theorem next_pm : Slot "itertools.permutations" "__next__" "itertools.permutations.__next__" := .of (owner := "itertools.permutations") (n := "__next__")
  (by rw [typeLookup_type, builtinLookup_eq_fast]; kernel_rfl) (by decide +kernel) (by decide +kernel) (by decide +kernel)
  (by first | exact .inl (by decide +kernel) | exact .inr (by decide +kernel)) sub_pm
theorem eiter_pm : entryFor table "itertools.permutations.__iter__" = some Builtin.«dict_keyiterator.__iter__» := entryFor_alias (id' := "dict_keyiterator.__iter__")
  (by kernel_rfl) (by first | rfl | decide +kernel | (unfold String.splitOn; simp +decide [String.splitOnAux])) (by decide +kernel) (by kernel_rfl)
theorem enext_pm : entryFor table "itertools.permutations.__next__" = some Builtin.«itertools.permutations.__next__» := entryFor_of_tree (by kernel_rfl)
theorem own_pm : Manifest.owners.lookup (String.ofList ['s', 'n', 'o', 'i', 't', 'a', 't', 'u', 'm', 'r', 'e', 'p', '.', 's', 'l', 'o', 'o', 't', 'r', 'e', 't', 'i'].reverse) = some Manifest.sig_itertools_permutations := by kernel_rfl
theorem aiter_pm (a : Value) : argsOk "itertools.permutations.__iter__" ⟨[a], []⟩ := by
  unfold argsOk
  rw [signature?_of (id := "itertools.permutations.__iter__") (n := ['_', '_', 'r', 'e', 't', 'i', '_', '_']) (o := ['s', 'n', 'o', 'i', 't', 'a', 't', 'u', 'm', 'r', 'e', 'p', '.', 's', 'l', 'o', 'o', 't', 'r', 'e', 't', 'i']) (by kernel_rfl) own_pm]
  kernel_rfl
theorem anext_pm (a : Value) : argsOk "itertools.permutations.__next__" ⟨[a], []⟩ := by
  unfold argsOk
  rw [signature?_of (id := "itertools.permutations.__next__") (n := ['_', '_', 't', 'x', 'e', 'n', '_', '_']) (o := ['s', 'n', 'o', 'i', 't', 'a', 't', 'u', 'm', 'r', 'e', 'p', '.', 's', 'l', 'o', 'o', 't', 'r', 'e', 't', 'i']) (by kernel_rfl) own_pm]
  kernel_rfl
theorem nodict_pm : typeHasDict (.type "itertools.permutations") = false := by decide +kernel

/-! ### facts about itertools.combinations -/
theorem mro_cb : mroOf (.type "itertools.combinations") = pure [.type "itertools.combinations", .type "object"] := by
  rw [mroOf_type]
  kernel_rfl
theorem sub_cb : isSubtype (.type "itertools.combinations") (.type "itertools.combinations") = pure true := by
  rw [isSubtype_type]
  kernel_rfl
theorem new_cb : typeLookup (.type "itertools.combinations") "__new__" = pure (some (.builtin "itertools.combinations.__new__")) := by
  rw [typeLookup_type, builtinLookup_eq_fast]
  kernel_rfl
theorem init_cb : Slot "itertools.combinations" "__init__" "object.__init__" := .of (owner := "object") (n := "__init__")
  (by rw [typeLookup_type, builtinLookup_eq_fast]; kernel_rfl) (by decide +kernel) (by decide +kernel) (by decide +kernel)
  (by first | exact .inl (by decide +kernel) | exact .inr (by decide +kernel)) (by rw [isSubtype_type]; kernel_rfl)
theorem called_cb : TypeCalled "itertools.combinations" "itertools.combinations.__new__" "object.__init__" := ⟨by decide +kernel, by decide +kernel,
  ⟨_, _, mro_cb⟩, madeBy_type mro_cb new_cb (by decide +kernel), by decide +kernel, sub_cb, init_cb⟩
theorem tcall2_cb (a b : Value) : checkTypeCall "itertools.combinations" ⟨[a, b], []⟩ = pure () := by kernel_rfl
theorem ncall2_cb (a b : Value) : checkBuiltinCall "itertools.combinations.__new__" ⟨[.type "itertools.combinations", a, b], []⟩ = pure () := by kernel_rfl
theorem enew_cb : entryFor table "itertools.combinations.__new__" = some Builtin.«itertools.combinations.__new__» := entryFor_of_tree (by kernel_rfl)
theorem iter_cb : Slot "itertools.combinations" "__iter__" "itertools.combinations.__iter__" := .of (owner := "itertools.combinations") (n := "__iter__")
  (by rw [typeLookup_type, builtinLookup_eq_fast]; kernel_rfl) (by decide +kernel) (by decide +kernel) (by decide +kernel)
  (by first | exact .inl (by decide +kernel) | exact .inr (by decide +kernel)) sub_cb
theorem next_cb : Slot "itertools.combinations" "__next__" "itertools.combinations.__next__" := .of (owner := "itertools.combinations") (n := "__next__")
  (by rw [typeLookup_type, builtinLookup_eq_fast]; kernel_rfl) (by decide +kernel) (by decide +kernel) (by decide +kernel)
  (by first | exact .inl (by decide +kernel) | exact .inr (by decide +kernel)) sub_cb
theorem eiter_cb : entryFor table "itertools.combinations.__iter__" = some Builtin.«dict_keyiterator.__iter__» := entryFor_alias (id' := "dict_keyiterator.__iter__")
  (by kernel_rfl) (by first | rfl | decide +kernel | (unfold String.splitOn; simp +decide [String.splitOnAux])) (by decide +kernel) (by kernel_rfl)
theorem enext_cb : entryFor table "itertools.combinations.__next__" = some Builtin.«itertools.combinations.__next__» := entryFor_of_tree (by kernel_rfl)
theorem own_cb : Manifest.owners.lookup (String.ofList ['s', 'n', 'o', 'i', 't', 'a', 'n', 'i', 'b', 'm', 'o', 'c', '.', 's', 'l', 'o', 'o', 't', 'r', 'e', 't', 'i'].reverse) = some Manifest.sig_itertools_combinations := by kernel_rfl
theorem aiter_cb (a : Value) : argsOk "itertools.combinations.__iter__" ⟨[a], []⟩ := by
  unfold argsOk
  rw [signature?_of (id := "itertools.combinations.__iter__") (n := ['_', '_', 'r', 'e', 't', 'i', '_', '_']) (o := ['s', 'n', 'o', 'i', 't', 'a', 'n', 'i', 'b', 'm', 'o', 'c', '.', 's', 'l', 'o', 'o', 't', 'r', 'e', 't', 'i']) (by kernel_rfl) own_cb]
  kernel_rfl
theorem anext_cb (a : Value) : argsOk "itertools.combinations.__next__" ⟨[a], []⟩ := by
  unfold argsOk
  rw [signature?_of (id := "itertools.combinations.__next__") (n := ['_', '_', 't', 'x', 'e', 'n', '_', '_']) (o := ['s', 'n', 'o', 'i', 't', 'a', 'n', 'i', 'b', 'm', 'o', 'c', '.', 's', 'l', 'o', 'o', 't', 'r', 'e', 't', 'i']) (by kernel_rfl) own_cb]
  kernel_rfl
theorem nodict_cb : typeHasDict (.type "itertools.combinations") = false := by decide +kernel

end Nz
set_option maxHeartbeats 4000000
namespace Nz
open PySem PySem.Spec
/-! ### itertools.permutations: the record and its steps -/
/-- the successor of an arrangement ix whose counters cs stand at the places below k -/
def succP (n : Nat) : (k : Nat) → (ix cs : List Nat) → Option (List Nat × List Nat)
  | 0, _, _ => none
  | k + 1, ix, cs =>
    let c := cs.getD k 0 - 1
    if c == 0 then succP n k (ix.take k ++ ix.drop (k + 1) ++ [ix.getD k 0]) (cs.set k (n - k))
    else some ((ix.set k (ix.getD (n - c) 0)).set (n - c) (ix.getD k 0), cs.set k c)
/-- any function with these equations is succP -/
theorem agreeP (f : Nat → Nat → List Nat → List Nat → Option (List Nat × List Nat)) (h0 : ∀ n a b, f n 0 a b = none)
    (h1 : ∀ n k a b, f n (k + 1) a b = if (b.getD k 0 - 1 == 0) = true then f n k (a.take k ++ a.drop (k + 1) ++ [a.getD k 0]) (b.set k (n - k))
      else some ((a.set k (a.getD (n - (b.getD k 0 - 1)) 0)).set (n - (b.getD k 0 - 1)) (a.getD k 0), b.set k (b.getD k 0 - 1))) : ∀ n k a b, f n k a b = succP n k a b := by
  intro n k
  induction k with
  | zero => exact fun a b => h0 n a b
  | succ k ih =>
    intro a b
    rw [h1, ih]
    rfl
/-- the record: the pool's tuple, the state, how many, the last one handed out, the numbers -/
abbrev pmL (pool : Addr) (st : Int) (r : Nat) (last : Value) (nums : List Nat) : List Value := .ref pool :: rawInt st :: rawInt r :: last :: nums.map fun k => rawInt (k : Nat)
abbrev pmO (pool : Addr) (st : Int) (r : Nat) (last : Value) (nums : List Nat) : Obj :=
  { cls := .type "itertools.permutations", dict := none, data := .fields (pmL pool st r last nums).toArray, slots := #[] }
theorem pm_nums {pool : Addr} {st : Int} {r : Nat} {last : Value} {nums : List Nat} {f : Value → Nat} (hf : ∀ k : Nat, f (rawInt (k : Nat)) = k) : ((pmL pool st r last nums).toArray.toList.drop 4).map f = nums := by
  show (nums.map fun k => rawInt (k : Nat)).map f = nums
  rw [List.map_map]
  conv => rhs; rw [← List.map_id nums]
  exact List.map_congr_left fun k _ => hf k
/-- the arrangement that is handed out -/
def outP (its : Array Value) (r : Nat) (nums : List Nat) : List Value := (nums.take r).map fun i => its.getD i .none
section
variable {prog : Program} {w : World} {A : Around} {E : Value → Shared → Prop} {s : Shared}
theorem self_pm {it pool : Addr} {st : Int} {r : Nat} {last : Value} {nums : List Nat} {Q : Value → Shared → Prop} (hit : s.heap.get? it = some (pmO pool st r last nums)) (h : Q (.ref it) s) : wpAny (model prog w) A (pyIter (.ref it)) Q E s := by
  have hT : s.TypeIs (.ref it) "itertools.permutations" := ⟨_, hit, rfl⟩
  refine wpAny_pyIter_slot hT iter_pm (wpAny_call_entry iter_pm hT eiter_pm ?_ (aiter_pm _))
  exact wpAny_pure ⟨_, rfl, "itertools.permutations", _, hT, next_pm.lookup, h⟩
/-- the tuple is made and handed out -/
theorem give_pm {it pool : Addr} {r : Nat} {st : Int} {last : Value} {nums idx : List Nat} {its : Array Value} {G : PySem.Fin → Shared → Prop} (hit : s.heap.get? it = some (pmO pool st r last nums))
    (hQ : ∀ h' T, h'.get? it = some (pmO pool st r (.ref T) nums) → (∀ b o, b ≠ it → s.heap.get? b = some o → h'.get? b = some o) → s.heap.objs.size ≤ T → T ≠ it → h'.get? T = some { cls := .type "tuple", data := .seq (outP its r idx).toArray } → G (.done (.ret (.ref T))) { s with heap := h' })
    (hz : (outP its r idx).length ≤ 1000) :
    wpAny (model prog w) A (do
      let t ← newTuple (outP its r idx)
      let before ← field (.ref it) 3
      setField (.ref it) 3 t
      letGo [before] [t]
      ret t) G E s := by
  have lt := Heap.lt_size hit
  refine wpAny_bind (wpAny_newObj_type ?_ (by show (outP its r idx).toArray.size ≤ _; rw [List.size_toArray]; have := sizeLine_eq; omega))
  have hit2 : (s.heap.push { cls := .type "tuple", data := .seq (outP its r idx).toArray }).get? it = some (pmO pool st r last nums) := Heap.get?_push_of_some _ hit
  refine wpAny_bind (wpAny_field hit2 rfl (x := last) rfl ?_)
  refine wpAny_bind (wpAny_setField hit2 rfl (by show 3 < _; simp) ?_)
  refine wpAny_bind (wpAny_letGo (wpAny_pure ?_))
  have ne : s.heap.objs.size ≠ it := Nat.ne_of_gt lt
  refine hQ _ s.heap.objs.size ?_ (fun b o hb ho => ?_) (Nat.le_refl _) ne ?_
  · refine (Heap.get?_update_self _ hit2 rfl).trans ?_
    simp [Obj.mapFields, pmL]
  · exact (Heap.get?_update_other _ _ (Ne.symm hb)).trans (Heap.get?_push_of_some _ ho)
  · exact (Heap.get?_update_other _ _ (Ne.symm ne)).trans (Heap.get?_push_size _ rfl)
theorem upd1_pm {h : Heap} {it pool : Addr} {st st' : Int} {r : Nat} {last : Value} {nums : List Nat} (hit : h.get? it = some (pmO pool st r last nums)) :
    (h.update it (Obj.mapFields (·.setIfInBounds 1 (rawInt st')))).get? it = some (pmO pool st' r last nums) := by
  refine (Heap.get?_update_self _ hit rfl).trans ?_
  simp [Obj.mapFields, pmL]
theorem updN_pm {h : Heap} {it pool : Addr} {st : Int} {r : Nat} {last : Value} {nums ns : List Nat} (hit : h.get? it = some (pmO pool st r last nums)) :
    (h.update it (Obj.mapFields fun fs => fs.extract 0 4 ++ (ns.map fun (n : Nat) => rawInt n).toArray)).get? it = some (pmO pool st r last ns) := by
  refine (Heap.get?_update_self _ hit rfl).trans ?_
  simp [Obj.mapFields, pmL]
/-- what the next step does: k from the state and the successor -/
theorem next_pm_go {it pool : Addr} {st : Int} {r : Nat} {last : Value} {nums : List Nat} {its : Array Value} {op : Obj} {cnt : Nat} {Q : Option Value → Shared → Prop} (hit : s.heap.get? it = some (pmO pool st r last nums)) (hp : s.heap.get? pool = some op) (hc : op.cls = .type "tuple") (hd : op.data = .seq its cnt)
    (h0 : st = 0 → wpAny (model prog w) A.in1 (do
      setField (.ref it) 1 (rawInt 1)
      let t ← newTuple (outP its r nums)
      let before ← field (.ref it) 3
      setField (.ref it) 3 t
      letGo [before] [t]
      ret t) (fun fin s' => ∃ v, fin = Fin.done (Flow.ret v) ∧ Q (some v) s') E s)
    (h1 : st = 1 → ∀ ix cs, succP its.size r (nums.take its.size) (nums.drop its.size) = some (ix, cs) → wpAny (model prog w) A.in1 (do
      Builtin.Itertools.itSetNumbersFrom (.ref it) 4 (ix ++ cs)
      let t ← newTuple (outP its r ix)
      let before ← field (.ref it) 3
      setField (.ref it) 3 t
      letGo [before] [t]
      ret t) (fun fin s' => ∃ v, fin = Fin.done (Flow.ret v) ∧ Q (some v) s') E s)
    (h2 : st = 1 → succP its.size r (nums.take its.size) (nums.drop its.size) = none → wpAny (model prog w) A.in1 (do
      setField (.ref it) 1 (rawInt 2)
      (Builtin.Itertools.itStop : Sem PySem.Fin)) (fun fin s' => ∃ v, fin = Fin.done (Flow.ret v) ∧ Q (some v) s') E s)
    (h3 : st = 2 → wpAny (model prog w) A.in1 (Builtin.Itertools.itStop : Sem PySem.Fin) (fun fin s' => ∃ v, fin = Fin.done (Flow.ret v) ∧ Q (some v) s') E s)
    (hst : st = 0 ∨ st = 1 ∨ st = 2) : wpAny (model prog w) A (callSpecial? (.ref it) "__next__") Q E s := by
  have hT : s.TypeIs (.ref it) "itertools.permutations" := ⟨_, hit, rfl⟩
  refine wpAny_callSpecial?_slot (name := Str.ofString "__next__") hT next_pm (wpAny_call_entry next_pm hT enext_pm ?_ (anext_pm _))
  show wpAny _ _ (field (.ref it) 0 >>= _) _ _ s
  refine wpAny_bind (wpAny_field hit rfl (x := .ref pool) rfl ?_)
  unfold Builtin.Itertools.itPoolItems Builtin.Itertools.itIntField Builtin.Itertools.itNumbersFrom
  refine wpAny_bind (wpAny_bind (wpAny_seqItems hp hd (wpAny_pure ?_)))
  refine wpAny_bind (wpAny_bind (wpAny_field hit rfl (x := rawInt r) rfl (wpAny_pure ?_)))
  refine wpAny_bind (wpAny_bind (wpAny_load hit (wpAny_pure ?_)))
  refine wpAny_bind (wpAny_bind (wpAny_field hit rfl (x := rawInt st) rfl (wpAny_pure ?_)))
  rw [pm_nums, Int.toNat_natCast]
  · rcases hst with rfl | rfl | rfl
    · exact h0 rfl
    · split
      · rename_i bad
        exact absurd bad (by decide)
      · split
        · rename_i ix cs heq
          exact h1 rfl ix cs ((agreeP _ (fun _ _ _ => rfl) (fun _ _ _ _ => rfl) _ _ _ _).symm.trans heq)
        · rename_i heq
          exact h2 rfl ((agreeP _ (fun _ _ _ => rfl) (fun _ _ _ _ => rfl) _ _ _ _).symm.trans heq)
      · rename_i b0 b1
        exact absurd rfl b1
    · exact wpAny_bind (wpAny_rule (h3 rfl))
  · exact fun k => Int.toNat_natCast k
end
end Nz
set_option maxHeartbeats 4000000
namespace Nz
open PySem PySem.Spec PyProof.Rows L2
/-- what is still handed out behind the numbers -/
inductive RestP (n r : Nat) : List Nat → List (List Nat) → Prop where
  | stop {nums : List Nat} : succP n r (nums.take n) (nums.drop n) = none → RestP n r nums []
  | step {nums ix cs : List Nat} {tl : List (List Nat)} : succP n r (nums.take n) (nums.drop n) = some (ix, cs) → (ix ++ cs).length ≤ 1000 → RestP n r (ix ++ cs) tl → RestP n r nums (ix.take r :: tl)
/-- the record's state, and what is still to come -/
def StateP (n r : Nat) (st : Int) (nums : List Nat) (rest : List (List Nat)) : Prop :=
  (st = 0 ∧ nums.length ≤ 1000 ∧ ∃ tl, rest = nums.take r :: tl ∧ RestP n r nums tl) ∨ (st = 1 ∧ RestP n r nums rest) ∨ (st = 2 ∧ rest = [])
section
variable {prog : Program} {w : World} {A : Around} {E : Value → Shared → Prop} {s : Shared}
theorem stop_any {Q : PySem.Fin → Shared → Prop} (hh : A.handled = none)
    (hQ : ∀ e h', CpRep.StopE e h' → (∀ b o, s.heap.get? b = some o → h'.get? b = some o) → E e { s with heap := h' }) : wpAny (model prog w) A (Builtin.Itertools.itStop : Sem PySem.Fin) Q E s := by
  unfold Builtin.Itertools.itStop
  refine wpAny_bind ?_
  simp only [newExc, newTuple]
  refine wpAny_bind (wpAny_newObj_type ?_ (by size_fits))
  refine wpAny_bind (m := firstArgMember _ _) (wpAny_of_eq (a := Value.none) (by first | rfl | (simp only [firstArgMember]; rfl)) (wpAny_newObj_type ?_ (by size_fits)))
  simp only [raiseNew]
  refine wpAny_bind (wpAny_handled ?_)
  rw [hh]
  refine wpAny_bind (wpAny_pure (wpAny_throw ?_))
  exact hQ _ _ ⟨_, _, _, rfl, Heap.get?_push_size _ rfl, rfl, rfl, rfl⟩ fun b o q => Heap.get?_push_of_some _ (Heap.get?_push_of_some _ q)
/-- one more is handed out -/
theorem item_pm {it pool : Addr} {st : Int} {r : Nat} {last : Value} {nums : List Nat} {its : Array Value} {op : Obj} {cnt : Nat} {ks : List Nat} {tl : List (List Nat)} {Q : Option Value → Shared → Prop} (hit : s.heap.get? it = some (pmO pool st r last nums)) (hp : s.heap.get? pool = some op) (hc : op.cls = .type "tuple") (hd : op.data = .seq its cnt)
    (hS : StateP its.size r st nums (ks :: tl)) (hr : r ≤ 1000)
    (hQ : ∀ h' T st' nums', h'.get? it = some (pmO pool st' r (.ref T) nums') → StateP its.size r st' nums' tl → (∀ b o, b ≠ it → s.heap.get? b = some o → h'.get? b = some o) → s.heap.objs.size ≤ T → h'.get? T = some { cls := .type "tuple", data := .seq (ks.map fun i => its.getD i .none).toArray } → ks.length ≤ r → Q (some (.ref T)) { s with heap := h' }) :
    wpAny (model prog w) A (callSpecial? (.ref it) "__next__") Q E s := by
  have short : ∀ l : List Nat, (outP its r l).length ≤ 1000 := fun l => by
    unfold outP
    rw [List.length_map, List.length_take]
    omega
  rcases hS with ⟨rfl, ln, tl', e, R⟩ | ⟨rfl, R⟩ | ⟨_, e⟩
  · cases e
    refine next_pm_go hit hp hc hd (fun _ => ?_) (fun z => absurd z (by decide)) (fun z => absurd z (by decide)) (fun z => absurd z (by decide)) (.inl rfl)
    refine wpAny_bind (wpAny_setField hit rfl (by show 1 < _; simp) ?_)
    have h2 := upd1_pm (st' := 1) hit
    refine give_pm (s := { s with heap := s.heap.update it (Obj.mapFields (·.setIfInBounds 1 (rawInt 1))) }) h2 (fun h' T g1 g2 g3 g4 g5 => ⟨_, rfl, hQ h' T 1 nums g1 (.inr (.inl ⟨rfl, R⟩)) (fun b o hb ho => g2 b o hb ((Heap.get?_update_other _ _ (Ne.symm hb)).trans ho)) ?_ g5 (by rw [List.length_take]; omega)⟩) (short _)
    have sz : (s.heap.update it (Obj.mapFields (·.setIfInBounds 1 (rawInt 1)))).objs.size = s.heap.objs.size := by simp
    rw [← sz]
    exact g3
  · rcases R with _ | ⟨hs, lz, R⟩
    rename_i ix cs
    refine next_pm_go hit hp hc hd (fun z => absurd z (by decide)) (fun _ ix' cs' e => ?_) (fun _ e => ?_) (fun z => absurd z (by decide)) (.inr (.inl rfl))
    · rw [hs] at e
      cases e
      unfold Builtin.Itertools.itSetNumbersFrom
      have h2 := updN_pm (ns := ix ++ cs) hit
      refine wpAny_bind (wpAny_updateFields hit rfl ?_ ?_)
      · refine give_pm (s := { s with heap := s.heap.update it (Obj.mapFields fun fs => fs.extract 0 4 ++ ((ix ++ cs).map fun (n : Nat) => rawInt n).toArray) }) h2 (fun h' T g1 g2 g3 g4 g5 => ⟨_, rfl, hQ h' T 1 _ g1 (.inr (.inl ⟨rfl, R⟩)) (fun b o hb ho => g2 b o hb ((Heap.get?_update_other _ _ (Ne.symm hb)).trans ho)) ?_ g5 (by rw [List.length_take]; omega)⟩) (short _)
        have sz : (s.heap.update it (Obj.mapFields fun fs => fs.extract 0 4 ++ ((ix ++ cs).map fun (n : Nat) => rawInt n).toArray)).objs.size = s.heap.objs.size := by simp
        rw [← sz]
        exact g3
      · have := sizeLine_eq
        simp only [Array.size_append, Array.size_extract, List.size_toArray, List.length_map]
        omega
    · rw [hs] at e
      cases e
  · cases e
/-- the end -/
theorem end_pm {it pool : Addr} {st : Int} {r : Nat} {last : Value} {nums : List Nat} {its : Array Value} {op : Obj} {cnt : Nat} {Q : Option Value → Shared → Prop} (hh : A.handled = none) (hit : s.heap.get? it = some (pmO pool st r last nums)) (hp : s.heap.get? pool = some op) (hc : op.cls = .type "tuple") (hd : op.data = .seq its cnt)
    (hS : StateP its.size r st nums []) (hQ : ∀ e h', CpRep.StopE e h' → (∀ b o, b ≠ it → s.heap.get? b = some o → h'.get? b = some o) → E e { s with heap := h' }) :
    wpAny (model prog w) A (callSpecial? (.ref it) "__next__") Q E s := by
  have hh' : A.in1.handled = none := hh
  rcases hS with ⟨_, _, tl', e, _⟩ | ⟨rfl, R⟩ | ⟨rfl, _⟩
  · cases e
  · rcases R with hs | _
    refine next_pm_go hit hp hc hd (fun z => absurd z (by decide)) (fun _ ix' cs' e => ?_) (fun _ e => ?_) (fun z => absurd z (by decide)) (.inr (.inl rfl))
    · rw [hs] at e
      cases e
    · refine wpAny_bind (wpAny_setField hit rfl (by show 1 < _; simp) ?_)
      exact stop_any hh' fun e h' he hk => hQ e h' he fun b o hb ho => hk b o ((Heap.get?_update_other _ _ (Ne.symm hb)).trans ho)
  · refine next_pm_go hit hp hc hd (fun z => absurd z (by decide)) (fun z => absurd z (by decide)) (fun z => absurd z (by decide)) (fun _ => ?_) (.inr (.inr rfl))
    exact stop_any hh' fun e h' he hk => hQ e h' he fun b o _ ho => hk b o ho
end
end Nz
set_option maxHeartbeats 4000000
namespace Nz
open PySem PySem.Spec PyProof.Rows L2
/-- the tuples of L (places in xs), one after the other, each new -/
def ItP (xs : List V) (L : List (List Nat)) : It :=
  ⟨fun i _ => i < L.length,
   fun i H v H' => ∃ T ks, v = .ref T ∧ H T = none ∧ L[i]? = some ks ∧ H' = upd H T (.tup (ks.map fun k => xs.getD k .non)),
   fun i _ => L.length ≤ i⟩
theorem vals_pick {xs : List V} {us : List Value} (r : Vals xs us) (ks : List Nat) : Vals (ks.map fun k => xs.getD k .non) (ks.map fun i => us.toArray.getD i .none) := by
  induction ks with
  | nil => exact .nil
  | cons k ks ih =>
    refine .cons ?_ ih
    have e : us.toArray.getD k .none = us.getD k .none := by simp [Array.getD_eq_getD_getElem?, List.getD_eq_getElem?_getD]
    show L2.RelV (xs.getD k .non) (us.toArray.getD k .none)
    rw [e, List.getD_eq_getElem?_getD, List.getD_eq_getElem?_getD]
    cases h : xs[k]? with
    | some x =>
      obtain ⟨u, hu, ru⟩ := r.get h
      rw [hu]
      exact ru
    | none =>
      have l := r.length
      have h2 : us[k]? = none := by
        rw [List.getElem?_eq_none_iff] at h ⊢
        omega
      rw [h2]
      rfl
/-- the pool's tuple stands at pool -/
def PoolAt (h : Heap) (pool : Addr) (us : List Value) : Prop := ∃ op cnt, h.get? pool = some op ∧ op.cls = .type "tuple" ∧ op.data = .seq us.toArray cnt
theorem turn_pm {P : Program} {w : World} {K : PySem.W.Frag} {tg : Expr} {xs : List V} {us : List Value} {r : Nat} {L : List (List Nat)} (it pool : Addr) (rv : Vals xs us) (hr : r ≤ 1000) (ne : pool ≠ it) :
    Turn P w K tg (ItP xs L) [it, pool] it (fun i h => (∃ st last nums, h.get? it = some (pmO pool st r last nums) ∧ StateP us.length r st nums (L.drop i)) ∧ PoolAt h pool us) where
  mem := by simp
  obj := fun i h ⟨⟨st, last, nums, h1, _⟩, op, cnt, h2, _, hd⟩ b hb => by
    rcases (show b = it ∨ b = pool by simpa using hb) with rfl | rfl
    · exact ⟨_, h1, fun v q => nomatch q⟩
    · exact ⟨op, h2, fun v q => by rw [hd] at q; cases q⟩
  keep := fun i h h' ⟨⟨st, last, nums, h1, h3⟩, op, cnt, h2, hc, hd⟩ k => ⟨⟨st, last, nums, k it (by simp) _ h1, h3⟩, op, cnt, k pool (by simp) _ h2, hc, hd⟩
  self := fun A i s Q E ⟨⟨st, last, nums, h1, _⟩, _⟩ h => self_pm h1 h
  item := by
    intro X hP hw hK hcalm i pins s σ H E I hf st go
    subst hP hw hK
    obtain ⟨⟨st, last, nums, hit, hS⟩, op, cnt, hp, hc, hd⟩ := st
    have go' : i < L.length := go
    obtain ⟨ks, hk⟩ : ∃ ks, L[i]? = some ks := ⟨_, List.getElem?_eq_getElem go'⟩
    have dr : L.drop i = ks :: L.drop (i + 1) := by
      rw [List.drop_eq_getElem_cons go']
      rw [List.getElem?_eq_getElem go'] at hk
      rw [Option.some.inj hk]
    rw [dr] at hS
    have len : us.toArray.size = us.length := by simp
    unfold pyNext
    refine wpAny_bind (wpAny_attempt (item_pm hit hp hc hd (by rw [len]; exact hS) hr fun h' T st' nums' g1 g2 g3 g4 g5 g6 => ?_))
    refine wpAny_pure ⟨_, rfl, go_of (s := { s with heap := h' }) g1 rfl rfl (by decide) ?_⟩
    have new : ObjOk X.prog X.w (upd H T (.tup (ks.map fun k => xs.getD k .non))) h' T (.tup (ks.map fun k => xs.getD k .non)) :=
      ⟨by rw [List.length_map]; have := sizeLine_eq; omega, _, vals_pick rv ks, ⟨_, g5, rfl, _, rfl⟩⟩
    have I1 : Inv X pins σ (upd H T (.tup (ks.map fun k => xs.getD k .non))) { s with heap := h', toks := s.toks } :=
      I.turnedNew (ch := [it, pool]) (fun b ob hb q => g3 b ob (fun z => hb (by simp [z])) q) hf g4 new
    refine ⟨.ref T, _, I1, rfl, ⟨T, ks, rfl, I.hok.fresh g4, hk, rfl⟩, ⟨⟨st', _, nums', g1, by rw [← len]; exact g2⟩, op, cnt, g3 pool op ne hp, hc, hd⟩, fun b hb => ?_⟩
    have lt : b < s.heap.objs.size := by
      rcases (show b = it ∨ b = pool by simpa using hb) with rfl | rfl
      · exact Heap.lt_size hit
      · exact Heap.lt_size hp
    rw [upd_ne (Nat.ne_of_lt (Nat.lt_of_lt_of_le lt g4))]
    exact (hf b hb).1
  done := by
    intro X hP hw hK hcalm i pins s σ H E I hf st go
    subst hP hw hK
    obtain ⟨⟨st, last, nums, hit, hS⟩, op, cnt, hp, hc, hd⟩ := st
    have go' : L.length ≤ i := go
    rw [List.drop_eq_nil_of_le go'] at hS
    obtain ⟨f0, f1, f2, f3, f4, f5⟩ := hf it (by simp)
    have len : us.toArray.size = us.length := by simp
    unfold pyNext
    refine wpAny_bind (wpAny_attempt (end_pm (I.ok.hd hcalm) hit hp hc hd (by rw [len]; exact hS) fun e h' he hk => ?_))
    obtain ⟨a, o, vs, rfl, ho, hcl, _, _⟩ := he
    refine wpAny_bind (wpAny_isInstance (T := "StopIteration") (b := true) ⟨o, ho, hcl⟩ isSubtype_stop (wpAny_pure ⟨rfl, ?_⟩))
    exact I.turned (t' := s.toks) (fun b o hb q => hk b o hb q) f0 f1 f3 f4 f5
end Nz
set_option maxHeartbeats 4000000
namespace Nz
open PySem PySem.Spec PyProof.Rows L2
/-- the numbers at the start -/
def startP (n r : Nat) : List Nat := (List.range n).map (fun i => i) ++ (List.range r).map fun i => n - i
/-- the record's fields as they are laid -/
def rawP (n r : Nat) (pool : Addr) : List Value := .ref pool :: rawInt (if r > n then 2 else 0) :: rawInt (r : Nat) :: .none :: ((List.range n).map (fun (i : Nat) => rawInt (i : Nat)) ++ (List.range r).map fun (i : Nat) => rawInt (((n : Nat) : Int) - (i : Nat)))
abbrev rawO (n r : Nat) (pool : Addr) : Obj := { cls := .type "itertools.permutations", dict := none, data := .fields (rawP n r pool).toArray, slots := #[] }
theorem rawP_le {n r : Nat} {pool : Addr} (h : r ≤ n) : rawO n r pool = pmO pool 0 r .none (startP n r) := by
  have e : rawP n r pool = pmL pool 0 r .none (startP n r) := by
    unfold rawP startP
    rw [if_neg (by omega)]
    refine congrArg (fun l => Value.ref pool :: rawInt 0 :: rawInt ((r : Nat) : Int) :: Value.none :: l) ?_
    rw [List.map_append, List.map_map, List.map_map]
    refine congrArg (List.map (fun (i : Nat) => rawInt (i : Nat)) (List.range n) ++ ·) ?_
    refine List.map_congr_left fun i hi => ?_
    have li := List.mem_range.mp hi
    show rawInt (((n : Nat) : Int) - (i : Nat)) = rawInt ((n - i : Nat) : Int)
    congr 1
    omega
  unfold rawO
  rw [e]
theorem meets_pm_new {prog : Program} {w : World} {x : Value} {r : Nat} {tr : Tok} (h30 : r ≤ 1000) :
    MeetsIn prog w (Builtin.«itertools.permutations.__new__» ⟨[.type "itertools.permutations", x, .int (r : Nat) tr], []⟩) (fun A R s =>
      ∀ (E : Value → Shared → Prop), wpAny (model prog w) A.in1 (collect x) (fun items s1 => items.length ≤ 1000 ∧
        R (.ok (.ret (.ref (s1.heap.push { cls := .type "tuple", data := .seq items.toArray }).objs.size))) { s1 with heap := (s1.heap.push { cls := .type "tuple", data := .seq items.toArray }).push (rawO items.length r s1.heap.objs.size) }) E s) :=
  .of_wp fun A R s h => by
    have hsub := sub_pm
    unfold Builtin.«itertools.permutations.__new__»
    have h1 := h (fun e s' => R (.error e) s')
    have e1 : ∀ {A' : Around} {Q : Value × List Value → Shared → Prop} {E : Value → Shared → Prop}, Q (.type "itertools.permutations", [x, .int (r : Nat) tr]) s →
        wpAny (model prog w) A' (Builtin.Itertools.itClassAndRest "permutations" ⟨[.type "itertools.permutations", x, .int (r : Nat) tr], []⟩) Q E s := fun q => by
      unfold Builtin.Itertools.itClassAndRest
      have es : ("itertools." ++ "permutations" : String) = "itertools.permutations" := by decide +kernel
      rw [es]
      repeat (first | exact q | exact wpAny_of_eq sub_pm (wpAny_pure q) | wp_step)
    have e2 : ∀ {A' : Around} {Q : List (Option Value) → Shared → Prop} {E : Value → Shared → Prop}, Q [some x, some (.int (r : Nat) tr)] s →
        wpAny (model prog w) A' (Builtin.Itertools.itBindNamed "permutations" ["iterable", "r"] 1 2 [x, .int (r : Nat) tr] []) Q E s := fun q => by
      unfold Builtin.Itertools.itBindNamed
      repeat (first | exact q | wp_step)
    refine wpAny_bind (e1 ?_)
    refine wpAny_bind (e2 ?_)
    refine wpAny_bind (wpAny_mono h1 (fun items s1 ⟨hn, q⟩ => ?_) fun _ _ z => z)
    have b1 : ¬ ((decide (((r : Nat) : Int) < -2 ^ 63) || decide (((r : Nat) : Int) ≥ 2 ^ 63)) = true) := by
      have u1 : decide (((r : Nat) : Int) < -2 ^ 63) = false := decide_eq_false (by omega)
      have u2 : decide (((r : Nat) : Int) ≥ 2 ^ 63) = false := decide_eq_false (by omega)
      rw [u1, u2]
      decide
    have b2 : ¬ (((r : Nat) : Int) < 0) := by omega
    have b3 : ¬ (Builtin.Itertools.itTooMany ((r : Nat) : Int) = true) := by
      unfold Builtin.Itertools.itTooMany
      intro z
      have z2 := of_decide_eq_true z
      omega
    dsimp only [Option.getD]
    refine wpAny_bind (wpAny_holding (wpAny_bind (wpAny_of_eq (a := some ((r : Nat) : Int)) (by rfl) ?_)))
    dsimp only
    rw [if_neg b1]
    refine wpAny_pure ?_
    rw [if_neg b2, if_neg b3]
    have sz := sizeLine_eq
    refine wpAny_bind (wpAny_newObj_type ?_ (by show items.toArray.size ≤ _; rw [List.size_toArray]; omega))
    unfold Builtin.Itertools.itNewRecord
    rw [nodict_pm]
    have el : [Value.ref s1.heap.objs.size, rawInt (if (((r : Nat) : Int)).toNat > items.length then 2 else 0), rawInt ((((r : Nat) : Int)).toNat : Nat), Value.none] ++ List.map (fun (i : Nat) => rawInt (i : Nat)) (List.range items.length) ++
        List.map (fun (i : Nat) => rawInt (((items.length : Nat) : Int) - (i : Nat))) (List.range (((r : Nat) : Int)).toNat) = rawP items.length r s1.heap.objs.size := by
      rw [Int.toNat_natCast]
      rfl
    refine wpAny_bind ?_
    rw [if_pos (by rfl)]
    refine wpAny_newObj_type ?_ ?_
    · rw [el]
      exact wpAny_pure ⟨_, rfl, q⟩
    · rw [el]
      show (rawP items.length r s1.heap.objs.size).toArray.size ≤ _
      rw [List.size_toArray]
      unfold rawP
      simp only [List.length_cons, List.length_map, List.length_append, List.length_range]
      omega
section
variable {prog : Program} {w : World} {A : Around} {E : Value → Shared → Prop} {s : Shared}
/-- a record that has ended hands out nothing -/
theorem end_two {it pool : Addr} {r : Nat} {last : Value} {tail : List Value} {its : Array Value} {op : Obj} {cnt : Nat} {Q : Option Value → Shared → Prop} (hh : A.handled = none)
    (hit : s.heap.get? it = some { cls := .type "itertools.permutations", dict := none, data := .fields (Value.ref pool :: rawInt 2 :: rawInt (r : Nat) :: last :: tail).toArray, slots := #[] }) (hp : s.heap.get? pool = some op) (hd : op.data = .seq its cnt)
    (hQ : ∀ e h', CpRep.StopE e h' → (∀ b o, s.heap.get? b = some o → h'.get? b = some o) → E e { s with heap := h' }) : wpAny (model prog w) A (callSpecial? (.ref it) "__next__") Q E s := by
  have hT : s.TypeIs (.ref it) "itertools.permutations" := ⟨_, hit, rfl⟩
  refine wpAny_callSpecial?_slot (name := Str.ofString "__next__") hT next_pm (wpAny_call_entry next_pm hT enext_pm ?_ (anext_pm _))
  show wpAny _ _ (field (.ref it) 0 >>= _) _ _ s
  refine wpAny_bind (wpAny_field hit rfl (x := .ref pool) rfl ?_)
  unfold Builtin.Itertools.itPoolItems Builtin.Itertools.itIntField Builtin.Itertools.itNumbersFrom
  refine wpAny_bind (wpAny_bind (wpAny_seqItems hp hd (wpAny_pure ?_)))
  refine wpAny_bind (wpAny_bind (wpAny_field hit rfl (x := rawInt r) rfl (wpAny_pure ?_)))
  refine wpAny_bind (wpAny_bind (wpAny_load hit (wpAny_pure ?_)))
  refine wpAny_bind (wpAny_bind (wpAny_field hit rfl (x := rawInt 2) rfl (wpAny_pure ?_)))
  exact wpAny_bind (wpAny_rule (stop_any (show A.in1.handled = none from hh) fun e h' he hk => hQ e h' he hk))
theorem self_two {it : Addr} {fs : Array Value} {Q : Value → Shared → Prop} (hit : s.heap.get? it = some { cls := .type "itertools.permutations", dict := none, data := .fields fs, slots := #[] }) (h : Q (.ref it) s) : wpAny (model prog w) A (pyIter (.ref it)) Q E s := by
  have hT : s.TypeIs (.ref it) "itertools.permutations" := ⟨_, hit, rfl⟩
  refine wpAny_pyIter_slot hT iter_pm (wpAny_call_entry iter_pm hT eiter_pm ?_ (aiter_pm _))
  exact wpAny_pure ⟨_, rfl, "itertools.permutations", _, hT, next_pm.lookup, h⟩
/-- permutations(x, r) -/
theorem call_pm {x : Value} {r : Nat} {tr : Tok} {Q : Value → Shared → Prop} (h30 : r ≤ 1000)
    (h : ∀ (E' : Value → Shared → Prop), wpAny (model prog w) A.in1.in1 (collect x) (fun items s1 => items.length ≤ 1000 ∧ ∀ h' it, it = s1.heap.objs.size + 1 → h'.get? it = some (rawO items.length r s1.heap.objs.size) → PoolAt h' s1.heap.objs.size items → (∀ b o, s1.heap.get? b = some o → h'.get? b = some o) → Q (.ref it) { s1 with heap := h' }) E' s) :
    wpAny (model prog w) A (call (.type "itertools.permutations") [x, .int (r : Nat) tr]) Q E s := by
  refine callType_newIn called_pm (by decide) (tcall2_pm _ _) (ncall2_pm _ _) (fun obj => F.args_object_init_3 obj _ _) enew_pm (meets_pm_new h30) fun E' => ?_
  refine wpAny_mono (h E') (fun items s1 ⟨hl, q⟩ => ⟨hl, ?_⟩) fun _ _ z => z
  have hz : (s1.heap.push { cls := .type "tuple", data := .seq items.toArray }).objs.size = s1.heap.objs.size + 1 := Heap.size_push ..
  have new := Heap.get?_push_size (s1.heap.push { cls := .type "tuple", data := .seq items.toArray }) (o := rawO items.length r s1.heap.objs.size) rfl
  refine (?g : _ ∧ _)
  exact ⟨⟨_, new, rfl⟩, q _ _ hz new ⟨_, _, Heap.get?_push_of_some _ (Heap.get?_push_size _ rfl), rfl, rfl⟩ fun b o e => Heap.get?_push_of_some _ (Heap.get?_push_of_some _ e)⟩
end
end Nz
set_option maxHeartbeats 4000000
namespace Nz
open PySem PySem.Spec PyProof.Rows L2
/-- L: the places of r of n, in the order in which they are handed out -/
def PermsOf (n r : Nat) (L : List (List Nat)) : Prop := (r ≤ n ∧ ∃ tl, L = (startP n r).take r :: tl ∧ RestP n r (startP n r) tl) ∨ (n < r ∧ L = [])
/-- an ended record -/
theorem turn_two {P : Program} {w : World} {K : PySem.W.Frag} {tg : Expr} {xs : List V} {us : List Value} {r : Nat} (it pool : Addr) (ne : pool ≠ it) :
    Turn P w K tg (ItP xs []) [it, pool] it (fun _ h => (∃ last tail, h.get? it = some { cls := .type "itertools.permutations", dict := none, data := .fields (Value.ref pool :: rawInt 2 :: rawInt (r : Nat) :: last :: tail).toArray, slots := #[] }) ∧ PoolAt h pool us) where
  mem := by simp
  obj := fun i h ⟨⟨last, tail, h1⟩, op, cnt, h2, _, hd⟩ b hb => by
    rcases (show b = it ∨ b = pool by simpa using hb) with rfl | rfl
    · exact ⟨_, h1, fun v q => nomatch q⟩
    · exact ⟨op, h2, fun v q => by rw [hd] at q; cases q⟩
  keep := fun i h h' ⟨⟨last, tail, h1⟩, op, cnt, h2, hc, hd⟩ k => ⟨⟨last, tail, k it (by simp) _ h1⟩, op, cnt, k pool (by simp) _ h2, hc, hd⟩
  self := fun A i s Q E ⟨⟨last, tail, h1⟩, _⟩ h => self_two h1 h
  item := by
    intro X hP hw hK hcalm i pins s σ H E I hf st go
    exact absurd (show i < ([] : List (List Nat)).length from go) (Nat.not_lt_zero _)
  done := by
    intro X hP hw hK hcalm i pins s σ H E I hf st go
    subst hP hw hK
    obtain ⟨⟨last, tail, hit⟩, op, cnt, hp, hc, hd⟩ := st
    obtain ⟨f0, f1, f2, f3, f4, f5⟩ := hf it (by simp)
    unfold pyNext
    refine wpAny_bind (wpAny_attempt (end_two (I.ok.hd hcalm) hit hp hd fun e h' he hk => ?_))
    obtain ⟨a, o, vs, rfl, ho, hcl, _, _⟩ := he
    refine wpAny_bind (wpAny_isInstance (T := "StopIteration") (b := true) ⟨o, ho, hcl⟩ isSubtype_stop (wpAny_pure ⟨rfl, ?_⟩))
    exact I.turned (t' := s.toks) (fun b o _ q => hk b o q) f0 f1 f3 f4 f5
theorem c_range1 {X : Cx} : CallR X (.type "range") (fun vs H Q => ∃ j, vs = [V.int j] ∧ ∀ p, H p = none → Q (.ref p) (upd H p (.rng 0 j))) := by
  intro pins s σ H vs us Q I r h
  obtain ⟨j, rfl, q⟩ := h
  rcases r with _ | ⟨rx, rr⟩
  cases rr
  obtain ⟨t, rfl⟩ := rx
  refine call_range_1 ⟨.ref s.heap.objs.size, upd H s.heap.objs.size (.rng 0 j), I.laid (t' := s.toks + 1 + 1) (fun b o e => Heap.get?_push_of_some _ e) (Nat.le_refl _) ?_, rfl, q _ (I.hok.fresh (Nat.le_refl _))⟩
  exact ⟨_, _, _, Heap.get?_push_size _ rfl⟩
/-- permutations(range, r) -/
def iPm (ta : TA) : TI := fun σ H R => ta σ H fun vs H1 => ∃ (a : Addr) (r : Nat) (lo hi : Int) (L : List (List Nat)), vs = [.ref a, .int (r : Nat)] ∧ r ≤ 100 ∧ H1 a = some (.rng lo hi) ∧ -(2 ^ 62) ≤ lo ∧ lo < 2 ^ 62 ∧ -(2 ^ 62) ≤ hi ∧ hi < 2 ^ 62 ∧ (hi - lo).toNat ≤ 100 ∧
  PermsOf (hi - lo).toNat r L ∧ R (ItP (rgV lo hi) L) H1
theorem pi_pm {X : Cx} {nm : Str} {e b : Expr} {ta : TA} {p pos : Pos} {tg : Expr} (hc : X.calm = true) (hg : Gl X nm) (hm : X.mg nm = some (.type "itertools.permutations")) (ha : PA X [e, b] ta)
    (hd : (nm == ("__debug__" : Str)) = false := by decide) (hs : starEach [e, b] X.env = (false, eval e X.env) :: starEach [b] X.env := by rfl) (hp : (backTo pos (starEach [b] X.env)).any (·.1) = false := by rfl) :
    PI X tg (.Call (.Name nm p) [e, b] [] pos) (iPm ta) := by
  constructor
  intro pins s σ H R I h
  refine Call_ (ld_glob I hg hm (PyProof.Rows.callWith_type1 (thn (ha.run pos pins s σ H _ I h) fun us s1 ⟨vs, H1, I1, rr, a, r, lo, hi, L, ev, hr, hrg, b1, b2, b3, b4, bn, hL, q⟩ => ?_) hs hp) hd)
  subst ev
  rcases rr with _ | ⟨rx, _ | ⟨ry, rn⟩⟩
  cases rn
  cases rx
  obtain ⟨tr, rfl⟩ := ry
  have ho : ObjOk X.prog X.w H1 s1.heap a (.rng lo hi) := I1.hok a _ hrg
  obtain ⟨t, u, v, hra⟩ := ho
  refine call_pm (by omega) fun E' => collect_range (n := (hi - lo).toNat) (a := lo) (b := hi) (c := 1) (t := t) (u := u) (v := v) (I1.ok.hd hc) hra (small_one b1 b2 b3 b4) (rangeSize_nat lo hi) (by omega) fun h1 tk acc hk hi1 => ?_
  have rv := vals_rg hi1
  have ln : acc.toList.length = (hi - lo).toNat := by rw [← rv.length, rgV_length]
  refine ⟨by omega, fun h2 it hit hraw hpool hk2 => ?_⟩
  have I2 : Inv X pins σ H1 { s1 with heap := h2, toks := tk } := I1.kept (t' := tk) fun b o e => hk2 b o (hk b o e)
  obtain ⟨op, cnt, hop, hoc, hod⟩ := hpool
  have pl : PoolAt h2 h1.objs.size acc.toList := ⟨op, cnt, hop, hoc, hod⟩
  have I1' : Inv X pins σ H1 { s1 with heap := h1, toks := tk } := I1.kept (t' := tk) hk
  have itn : it = h1.objs.size + 1 := hit
  have ne : h1.objs.size ≠ it := by omega
  have fps : ∀ b ∈ [it, h1.objs.size], FpOk X pins H1 b := fun b hb => by
    have le : h1.objs.size ≤ b := by
      rcases (show b = it ∨ b = h1.objs.size by simpa using hb) with rfl | rfl
      · omega
      · exact Nat.le_refl _
    exact I1'.fpOk le (I1'.hok.fresh le)
  rcases hL with ⟨hle, tl, rfl, hR⟩ | ⟨hlt, rfl⟩
  · rw [ln, rawP_le hle] at hraw
    refine self_pm hraw ⟨it, [it, h1.objs.size], _, _, H1, rfl, I2, turn_pm it h1.objs.size rv (by omega) ne, ⟨⟨0, _, _, hraw, .inl ⟨rfl, ?_, tl, rfl, by rw [ln]; exact hR⟩⟩, pl⟩, fps, q⟩
    unfold startP
    rw [List.length_append, List.length_map, List.length_map, List.length_range, List.length_range]
    omega
  · have hraw2 : h2.get? it = some { cls := .type "itertools.permutations", dict := none, data := .fields (Value.ref h1.objs.size :: rawInt 2 :: rawInt (r : Nat) :: .none :: ((List.range acc.toList.length).map (fun (i : Nat) => rawInt (i : Nat)) ++ (List.range r).map fun (i : Nat) => rawInt (((acc.toList.length : Nat) : Int) - (i : Nat)))).toArray, slots := #[] } := by
      rw [hraw]
      unfold rawO rawP
      rw [if_pos (by omega)]
    exact self_two hraw2 ⟨it, [it, h1.objs.size], _, _, H1, rfl, I2, turn_two (r := r) (us := acc.toList) it h1.objs.size ne, ⟨⟨_, _, hraw2⟩, pl⟩, fps, q⟩
end Nz
set_option maxHeartbeats 4000000
namespace Nz
open PySem PySem.Spec PyProof.Rows L2
abbrev lstO (acc : Array Value) (c : Nat) : Obj := { cls := .type "list", dict := none, data := .seq acc c, slots := #[] }
/-- acc: tuples that are new from base on, with the places of ks from us -/
def DoneP (h : Heap) (base : Nat) (us : List Value) (acc : List Value) (ks : List (List Nat)) : Prop := Paired (fun (l : List Nat) (v : Value) => ∃ T, v = .ref T ∧ base ≤ T ∧ h.get? T = some { cls := .type "tuple", data := .seq (l.map fun i => us.toArray.getD i .none).toArray }) ks acc
theorem DoneP.keep {h h' : Heap} {base : Nat} {us acc : List Value} {ks : List (List Nat)} (k : ∀ b o, base ≤ b → h.get? b = some o → h'.get? b = some o) (d : DoneP h base us acc ks) : DoneP h' base us acc ks := by
  induction d with
  | nil => exact .nil
  | cons h1 _ ih =>
    obtain ⟨T, e, l, g⟩ := h1
    exact .cons ⟨T, e, l, k _ _ l g⟩ ih
theorem DoneP.snoc {h : Heap} {base : Nat} {us acc : List Value} {ks : List (List Nat)} (d : DoneP h base us acc ks) {l : List Nat} {v : Value} (g : ∃ T, v = .ref T ∧ base ≤ T ∧ h.get? T = some { cls := .type "tuple", data := .seq (l.map fun i => us.toArray.getD i .none).toArray }) :
    DoneP h base us (acc ++ [v]) (ks ++ [l]) := by
  induction d with
  | nil => exact .cons g .nil
  | cons h1 _ ih => exact .cons h1 ih
section
variable {prog : Program} {w : World} {A : Around} {R : Result → Shared → Prop}
theorem loop_pm {it pool S base : Nat} {us : List Value} {r : Nat} {res : Value} (hh : A.handled = none) (hr : r ≤ 1000) (nSi : S ≠ it) (npi : pool ≠ it) (nps : pool ≠ S) (lS : S < base) (li : it < base) (lp : pool < base) :
    ∀ (rest done : List (List Nat)) (s : Shared) (acc : Array Value) (c : Nat) (st : Int) (last : Value) (nums : List Nat), s.heap.get? it = some (pmO pool st r last nums) → StateP us.length r st nums rest → PoolAt s.heap pool us → base ≤ s.heap.objs.size →
      s.heap.get? S = some (lstO acc c) → DoneP s.heap base us acc.toList done → (done ++ rest).length ≤ 1000000 →
      (∀ h' acc' c', (∀ b o, b ≠ S → b ≠ it → s.heap.get? b = some o → h'.get? b = some o) → h'.get? S = some (lstO acc' c') → DoneP h' base us acc'.toList (done ++ rest) → R (.ok (.ret res)) { s with heap := h' }) →
      codeAny (model prog w) A (.builtin "list.extend.loop" ⟨[.ref S, .ref it, res], []⟩) R s := by
  have len : us.toArray.size = us.length := by simp
  intro rest
  induction rest with
  | nil =>
    intro done s acc c st last nums hit hS hp hb hl hd hn hR
    obtain ⟨op, cnt, hop, hoc, hod⟩ := hp
    refine codeAny_builtin F.entry_extend_loop ?_
    rw [Around.under_plainId F.plain_extend_loop _]
    show wpAny _ A.in1 (pyNext (.ref it) >>= _) _ _ s
    unfold pyNext
    refine wpAny_bind (wpAny_bind (wpAny_attempt (end_pm (show A.in1.handled = none from hh) hit hop hoc hod (by rw [len]; exact hS) fun e h' he hk => ?_)))
    obtain ⟨a, o, vs, rfl, ho, hcl, _, _⟩ := he
    refine wpAny_bind (wpAny_isInstance (T := "StopIteration") (b := true) ⟨o, ho, hcl⟩ isSubtype_stop (wpAny_pure (wpAny_pure ?_)))
    refine hR h' acc c (fun b o _ hb ho => hk b o hb ho) (hk S _ nSi hl) ?_
    rw [List.append_nil]
    exact hd.keep fun b o lb ho => hk b o (Nat.ne_of_gt (Nat.lt_of_lt_of_le li lb)) ho
  | cons ks tl ih =>
    intro done s acc c st last nums hit hS hp hb hl hd hn hR
    obtain ⟨op, cnt, hop, hoc, hod⟩ := id hp
    refine codeAny_builtin F.entry_extend_loop ?_
    rw [Around.under_plainId F.plain_extend_loop _]
    show wpAny _ A.in1 (pyNext (.ref it) >>= _) _ _ s
    unfold pyNext
    refine wpAny_bind (wpAny_bind (wpAny_attempt (item_pm hit hop hoc hod (by rw [len]; exact hS) hr fun h' T st' nums' g1 g2 g3 g4 g5 g6 => wpAny_pure ?_)))
    have hl' := g3 S _ nSi hl
    have szs : acc.size ≤ 1000000 := by
      have e1 := Paired.length hd
      rw [List.length_append] at hn
      rw [← Array.length_toList, ← e1]
      omega
    have sle := sizeLine_eq
    show wpAny _ A.in1 (updateSeq S (·.push (.ref T)) >>= _) _ _ _
    refine wpAny_bind (wpAny_updateSeq hl' rfl (wpAny_pure ⟨plainId_quiet F.plain_extend_loop _, ?_⟩) (by omega) (by show (acc.push (.ref T)).size ≤ _; rw [Array.size_push]; omega))
    have other : ∀ b o, b ≠ S → h'.get? b = some o → (h'.update S (Obj.mapSeq (·.push (.ref T)))).get? b = some o := fun b o hb ho => (Heap.get?_update_other _ _ (Ne.symm hb)).trans ho
    have lT := Heap.lt_size g5
    refine ih (done ++ [ks]) { s with heap := h'.update S (Obj.mapSeq (·.push (.ref T))) } (acc.push (.ref T)) _ st' (.ref T) nums' (other it _ (Ne.symm nSi) g1) (by rw [← len]; exact g2) ⟨op, cnt, other pool _ nps (g3 pool _ npi hop), hoc, hod⟩ ?_ (Heap.get?_update_self _ hl' rfl) ?_ (by simpa using hn) fun h2 acc' c' k2 e2 d2 => ?_
    · have sz : (h'.update S (Obj.mapSeq (·.push (.ref T)))).objs.size = h'.objs.size := by simp
      show base ≤ (h'.update S (Obj.mapSeq (·.push (.ref T)))).objs.size
      rw [sz]
      exact Nat.le_trans hb (Nat.le_trans g4 (Nat.le_of_lt lT))
    · rw [Array.toList_push]
      exact (hd.keep fun b o lb ho => other b o (Nat.ne_of_gt (Nat.lt_of_lt_of_le lS lb)) (g3 b o (Nat.ne_of_gt (Nat.lt_of_lt_of_le li lb)) ho)).snoc ⟨T, rfl, Nat.le_trans hb g4, other T _ (Nat.ne_of_gt (Nat.lt_of_lt_of_le lS (Nat.le_trans hb g4))) g5⟩
    · refine hR h2 acc' c' (fun b o h1 h3 ho => k2 b o h1 h3 (other b o h1 (g3 b o h3 ho))) e2 ?_
      rw [List.append_assoc] at d2
      exact d2
end
end Nz
set_option maxHeartbeats 4000000
namespace Nz
open PySem PySem.Spec PyProof.Rows L2
theorem nolen_pm : typeLookup (.type "itertools.permutations") "__len__" = pure none := by
  rw [typeLookup_type, builtinLookup_eq_fast]
  kernel_rfl
theorem nohint_pm : typeLookup (.type "itertools.permutations") "__length_hint__" = pure none := by
  rw [typeLookup_type, builtinLookup_eq_fast]
  kernel_rfl
section
variable {prog : Program} {w : World} {A : Around} {E : Value → Shared → Prop} {s : Shared} {R : Result → Shared → Prop}
/-- what list(..) over a record leaves -/
abbrev EndX (s : Shared) (S it : Addr) (us : List Value) (base : Nat) (L : List (List Nat)) (K : Heap → Array Value → Nat → Prop) : Prop :=
  ∀ h' acc' c', (∀ b o, b ≠ S → b ≠ it → s.heap.get? b = some o → h'.get? b = some o) → h'.get? S = some (lstO acc' c') → DoneP h' base us acc'.toList L → K h' acc' c'
theorem ext_pm {it pool S base : Nat} {us : List Value} {r : Nat} {res : Value} {st : Int} {last : Value} {nums : List Nat} {L : List (List Nat)} {c : Nat} (hh : A.handled = none) (hr : r ≤ 1000) (nSi : S ≠ it) (npi : pool ≠ it) (nps : pool ≠ S) (lS : S < base) (li : it < base) (lp : pool < base)
    (hit : s.heap.get? it = some (pmO pool st r last nums)) (hS : StateP us.length r st nums L) (hp : PoolAt s.heap pool us) (hb : base ≤ s.heap.objs.size) (hl : s.heap.get? S = some (lstO #[] c)) (hn : L.length ≤ 1000000)
    (hR : EndX s S it us base L fun h' _ _ => R (.ok (.ret res)) { s with heap := h' }) :
    wpAny (model prog w) A.in1 (Builtin.List.listExtendWith (.ref S) (.ref it) res)
      (fun fin s' => match fin with | .done f => R (.ok f) s' | .again c' => c'.quiet = true ∧ codeAny (model prog w) A c' R s') (fun e s' => R (.error e) s') s := by
  have hT : s.TypeIs (.ref it) "itertools.permutations" := ⟨_, hit, rfl⟩
  unfold Builtin.List.listExtendWith
  refine wpAny_bind (wpAny_typeOf hT ?_)
  have h1 : Builtin.List.listSameRef (.ref S) (.ref it) = false := by simp [Builtin.List.listSameRef, nSi]
  have h2 : (Value.type "itertools.permutations" == Value.type "list") = false := by decide
  have h3 : (Value.type "itertools.permutations" == Value.type "tuple") = false := by decide
  simp only [h1, h2, h3, Bool.or_false, Bool.false_eq_true, if_false]
  refine wpAny_bind (self_pm hit ?_)
  refine wpAny_bind (wpAny_holding ?_)
  unfold Builtin.List.listLengthHint
  refine wpAny_bind (wpAny_specialOf hT nolen_pm ?_)
  show wpAny _ _ (specialOf (Value.ref it) (Str.ofString "__length_hint__") >>= _) _ _ _
  refine wpAny_bind (wpAny_specialOf hT nohint_pm (wpAny_pure ?_))
  rw [if_pos (by simp)]
  refine wpAny_bind (wpAny_rule (wpAny_bind ?_))
  show wpAny _ _ (updateSeq S (·.push .none) >>= fun _ => updateSeq S (·.pop)) _ _ _
  refine wpAny_bind (wpAny_updateSeq hl rfl ?_)
  have l2 := Heap.get?_update_self (Obj.mapSeq (·.push Value.none)) hl rfl
  refine wpAny_updateSeq (hz := by seq_fits) l2 rfl ?_
  have l3 := Heap.get?_update_self (Obj.mapSeq (·.pop)) l2 rfl
  refine wpAny_pure ⟨plainId_quiet F.plain_extend_loop _, ?_⟩
  generalize hg : (s.heap.update S (Obj.mapSeq (·.push Value.none))).update S (Obj.mapSeq (·.pop)) = g at l3 ⊢
  have oth : ∀ b o, b ≠ S → s.heap.get? b = some o → g.get? b = some o := fun b o h ho => by
    rw [← hg]
    exact (Heap.get?_update_other _ _ (Ne.symm h)).trans ((Heap.get?_update_other _ _ (Ne.symm h)).trans ho)
  have sz : g.objs.size = s.heap.objs.size := by
    rw [← hg]
    simp
  obtain ⟨op, cnt, hop, hoc, hod⟩ := hp
  refine loop_pm hh hr nSi npi nps lS li lp L [] { s with heap := g } #[] _ st last nums (oth it _ (Ne.symm nSi) hit) hS ⟨op, cnt, oth pool _ nps hop, hoc, hod⟩ (by show base ≤ g.objs.size; rw [sz]; exact hb) l3 .nil (by simpa using hn) fun h' acc' c' k e d => ?_
  exact hR h' acc' c' (fun b o x1 x2 ho => k b o x1 x2 (oth b o x1 ho)) e d
/-- list(record) -/
theorem call_list_pm {it pool : Addr} {us : List Value} {r : Nat} {st : Int} {last : Value} {nums : List Nat} {L : List (List Nat)} {Q : Value → Shared → Prop} (hh : A.handled = none) (hr : r ≤ 1000) (npi : pool ≠ it)
    (hit : s.heap.get? it = some (pmO pool st r last nums)) (hS : StateP us.length r st nums L) (hp : PoolAt s.heap pool us) (hn : L.length ≤ 1000000)
    (hQ : ∀ h' acc' c', (∀ b o, b ≠ it → s.heap.get? b = some o → h'.get? b = some o) → h'.get? s.heap.objs.size = some (lstO acc' c') → DoneP h' (s.heap.objs.size + 1) us acc'.toList L → Q (.ref s.heap.objs.size) { s with heap := h' }) :
    wpAny (model prog w) A (call (.type "list") [.ref it]) Q E s := by
  have li := Heap.lt_size hit
  obtain ⟨op, cnt, hop, hoc, hod⟩ := id hp
  have lp := Heap.lt_size hop
  refine callType_codes (Q₁ := fun obj s₁ => obj = .ref s.heap.objs.size ∧ s₁ = { s with heap := s.heap.push { cls := .type "list", data := .seq #[] } }) F.called_list (F.typeCall_list_1 _) F.entry_list_init (code_list_new _ ⟨rfl, rfl⟩) fun obj s₁ h₁ => ?_
  obtain ⟨rfl, rfl⟩ := h₁
  have hS0 : (s.heap.push { cls := .type "list", data := .seq #[] }).get? s.heap.objs.size = some (lstO #[] 0) := Heap.get?_push_size _ rfl
  have nSi : s.heap.objs.size ≠ it := Nat.ne_of_gt li
  have nps : pool ≠ s.heap.objs.size := Nat.ne_of_lt lp
  refine ⟨⟨_, hS0, rfl⟩, F.args_list_init_2 _ _, ?_⟩
  show wpAny _ _ (do let old ← Builtin.List.listItems (.ref s.heap.objs.size); Builtin.List.listUpdate (.ref s.heap.objs.size) (fun _ => #[]); letGo old.toList.reverse; Builtin.List.listExtendWith (.ref s.heap.objs.size) (.ref it) .none) _ _ _
  unfold Builtin.List.listItems
  refine wpAny_bind (wpAny_bind (wpAny_seqItems hS0 rfl (wpAny_pure ?_)))
  show wpAny _ _ (updateSeq s.heap.objs.size (fun _ => #[]) >>= fun _ => letGo (#[] : Array Value).toList.reverse >>= fun _ => Builtin.List.listExtendWith (.ref s.heap.objs.size) (.ref it) .none) _ _ _
  refine wpAny_bind (wpAny_updateSeq hS0 rfl (wpAny_bind (wpAny_letGo ?_)))
  have l2 := Heap.get?_update_self (Obj.mapSeq (fun _ => (#[] : Array Value))) hS0 rfl
  generalize hg : (s.heap.push { cls := .type "list", data := .seq #[] }).update s.heap.objs.size (Obj.mapSeq (fun _ => (#[] : Array Value))) = g at l2 ⊢
  have oth : ∀ b o, s.heap.get? b = some o → g.get? b = some o := fun b o ho => by
    rw [← hg]
    exact (Heap.get?_update_other _ _ (Nat.ne_of_gt (Heap.lt_size ho))).trans (Heap.get?_push_of_some _ ho)
  have sz : g.objs.size = s.heap.objs.size + 1 := by
    rw [← hg]
    simp
  refine ext_pm (base := s.heap.objs.size + 1) (s := { s with heap := g }) (A := A.in1) hh hr nSi npi nps (Nat.lt_succ_self _) (Nat.lt_succ_of_lt li) (Nat.lt_succ_of_lt lp) (oth it _ hit) hS ⟨op, cnt, oth pool _ hop, hoc, hod⟩ (by show s.heap.objs.size + 1 ≤ g.objs.size; rw [sz]; exact Nat.le_refl _) l2 hn fun h' acc' c' k e d => ?_
  exact ⟨rfl, hQ h' acc' c' (fun b o x1 ho => k b o (Nat.ne_of_lt (Heap.lt_size ho)) x1 (oth b o ho)) e d⟩
end
end Nz
set_option maxHeartbeats 4000000
namespace Nz
open PySem PySem.Spec PyProof.Rows L2
theorem meets_pm_new1 {prog : Program} {w : World} {x : Value} :
    MeetsIn prog w (Builtin.«itertools.permutations.__new__» ⟨[.type "itertools.permutations", x], []⟩) (fun A R s =>
      ∀ (E : Value → Shared → Prop), wpAny (model prog w) A.in1 (collect x) (fun items s1 => items.length ≤ 1000 ∧
        R (.ok (.ret (.ref (s1.heap.push { cls := .type "tuple", data := .seq items.toArray }).objs.size)))
          { s1 with heap := (s1.heap.push { cls := .type "tuple", data := .seq items.toArray }).push (rawO items.length items.length s1.heap.objs.size) }) E s) :=
  .of_wp fun A R s h => by
    have hsub := sub_pm
    unfold Builtin.«itertools.permutations.__new__»
    have h1 := h (fun e s' => R (.error e) s')
    have e1 : ∀ {A' : Around} {Q : Value × List Value → Shared → Prop} {E : Value → Shared → Prop}, Q (.type "itertools.permutations", [x]) s →
        wpAny (model prog w) A' (Builtin.Itertools.itClassAndRest "permutations" ⟨[.type "itertools.permutations", x], []⟩) Q E s := fun q => by
      unfold Builtin.Itertools.itClassAndRest
      have es : ("itertools." ++ "permutations" : String) = "itertools.permutations" := by decide +kernel
      rw [es]
      repeat (first | exact q | exact wpAny_of_eq sub_pm (wpAny_pure q) | wp_step)
    have e2 : ∀ {A' : Around} {Q : List (Option Value) → Shared → Prop} {E : Value → Shared → Prop}, Q [some x, none] s →
        wpAny (model prog w) A' (Builtin.Itertools.itBindNamed "permutations" ["iterable", "r"] 1 2 [x] []) Q E s := fun q => by
      unfold Builtin.Itertools.itBindNamed
      repeat (first | exact q | wp_step)
    refine wpAny_bind (e1 ?_)
    refine wpAny_bind (e2 ?_)
    refine wpAny_bind (wpAny_mono h1 (fun items s1 ⟨hn, q⟩ => ?_) fun _ _ z => z)
    have sz := sizeLine_eq
    have b2 : ¬ (((items.length : Nat) : Int) < 0) := by omega
    have b3 : ¬ (Builtin.Itertools.itTooMany ((items.length : Nat) : Int) = true) := by
      unfold Builtin.Itertools.itTooMany
      intro z
      have z2 := of_decide_eq_true z
      omega
    dsimp only [Option.getD]
    refine wpAny_bind (wpAny_pure ?_)
    rw [if_neg b2, if_neg b3]
    refine wpAny_bind (wpAny_newObj_type ?_ (by show items.toArray.size ≤ _; rw [List.size_toArray]; omega))
    unfold Builtin.Itertools.itNewRecord
    rw [nodict_pm]
    have el : [Value.ref s1.heap.objs.size, rawInt (if (((items.length : Nat) : Int)).toNat > items.length then 2 else 0), rawInt ((((items.length : Nat) : Int)).toNat : Nat), Value.none] ++ List.map (fun (i : Nat) => rawInt (i : Nat)) (List.range items.length) ++
        List.map (fun (i : Nat) => rawInt (((items.length : Nat) : Int) - (i : Nat))) (List.range (((items.length : Nat) : Int)).toNat) = rawP items.length items.length s1.heap.objs.size := by
      rw [Int.toNat_natCast]
      rfl
    refine wpAny_bind ?_
    rw [if_pos (by rfl)]
    refine wpAny_newObj_type ?_ ?_
    · rw [el]
      exact wpAny_pure ⟨_, rfl, q⟩
    · rw [el]
      show (rawP items.length items.length s1.heap.objs.size).toArray.size ≤ _
      rw [List.size_toArray]
      unfold rawP
      simp only [List.length_cons, List.length_map, List.length_append, List.length_range]
      omega
theorem call_pm1 {prog : Program} {w : World} {A : Around} {E : Value → Shared → Prop} {s : Shared} {x : Value} {Q : Value → Shared → Prop}
    (h : ∀ (E' : Value → Shared → Prop), wpAny (model prog w) A.in1.in1 (collect x) (fun items s1 => items.length ≤ 1000 ∧ ∀ h' it, it = s1.heap.objs.size + 1 → h'.get? it = some (rawO items.length items.length s1.heap.objs.size) → PoolAt h' s1.heap.objs.size items → (∀ b o, s1.heap.get? b = some o → h'.get? b = some o) → Q (.ref it) { s1 with heap := h' }) E' s) :
    wpAny (model prog w) A (call (.type "itertools.permutations") [x]) Q E s := by
  refine callType_newIn called_pm (by decide) (tcall1_pm _) (ncall1_pm _) (fun obj => F.args_object_init_2 obj _) enew_pm meets_pm_new1 fun E' => ?_
  refine wpAny_mono (h E') (fun items s1 ⟨hl, q⟩ => ⟨hl, ?_⟩) fun _ _ z => z
  have hz : (s1.heap.push { cls := .type "tuple", data := .seq items.toArray }).objs.size = s1.heap.objs.size + 1 := Heap.size_push ..
  have new := Heap.get?_push_size (s1.heap.push { cls := .type "tuple", data := .seq items.toArray }) (o := rawO items.length items.length s1.heap.objs.size) rfl
  refine (?g : _ ∧ _)
  exact ⟨⟨_, new, rfl⟩, q _ _ hz new ⟨_, _, Heap.get?_push_of_some _ (Heap.get?_push_size _ rfl), rfl, rfl⟩ fun b o e => Heap.get?_push_of_some _ (Heap.get?_push_of_some _ e)⟩
end Nz
set_option maxHeartbeats 4000000
namespace Nz
open PySem PySem.Spec PyProof.Rows L2
/-- list(permutations(x)), x a list or a tuple -/
def tListPm (K : PySem.W.Frag) (te : TE) : TE := fun σ H Q => te σ H fun x H1 => ∃ a xs L, x = .ref a ∧ (SqL K H1 a xs ∨ SqT K H1 a xs) ∧ xs.length ≤ 100 ∧ PermsOf xs.length xs.length L ∧ L.length ≤ 100000 ∧
  ∀ (qs : List Addr) (p : Addr) (H' : Hp), Same H1 H' → H1 p = none → H' p = some (.lst (qs.map V.ref)) → Paired (fun (l : List Nat) (q : Addr) => H1 q = none ∧ H' q = some (.tup (l.map fun k => xs.getD k .non))) L qs → Q (.ref p) H'
/-- the addresses of the tuples -/
theorem done_addrs {h : Heap} {base : Nat} {us acc : List Value} {L : List (List Nat)} (d : DoneP h base us acc L) : ∃ qs : List Addr, acc = qs.map Value.ref ∧ Paired (fun (l : List Nat) (q : Addr) => base ≤ q ∧ h.get? q = some { cls := .type "tuple", data := .seq (l.map fun i => us.toArray.getD i .none).toArray }) L qs := by
  induction d with
  | nil => exact ⟨[], rfl, .nil⟩
  | cons h1 _ ih =>
    obtain ⟨T, rfl, l, g⟩ := h1
    obtain ⟨qs, rfl, ih⟩ := ih
    exact ⟨T :: qs, rfl, .cons ⟨l, g⟩ ih⟩
theorem paired_at {α β : Type} {r : α → β → Prop} {xs : List α} {ys : List β} (p : Paired r xs ys) : ∀ y ∈ ys, ∃ x ∈ xs, r x y := by
  induction p with
  | nil => exact fun y h => nomatch h
  | cons h _ ih =>
    intro y hy
    rcases List.mem_cons.mp hy with rfl | hy
    · exact ⟨_, List.mem_cons_self, h⟩
    · obtain ⟨x, hx, r⟩ := ih y hy
      exact ⟨x, List.mem_cons_of_mem _ hx, r⟩
theorem paired_mono {α β : Type} {r r' : α → β → Prop} {xs : List α} {ys : List β} (k : ∀ x y, r x y → r' x y) (p : Paired r xs ys) : Paired r' xs ys := by
  induction p with
  | nil => exact .nil
  | cons h _ ih => exact .cons (k _ _ h) ih
theorem paired_zip {α β : Type} {r : α → β → Prop} {xs : List α} {ys : List β} (p : Paired r xs ys) : ∀ z ∈ xs.zip ys, r z.1 z.2 := by
  induction p with
  | nil => exact fun z h => nomatch h
  | cons h _ ih =>
    intro z hz
    rw [List.zip_cons_cons] at hz
    rcases List.mem_cons.mp hz with rfl | hz
    · exact h
    · exact ih z hz
theorem paired_of_zip {α β : Type} {r r' : α → β → Prop} {xs : List α} {ys : List β} (p : Paired r xs ys) (k : ∀ z ∈ xs.zip ys, r' z.1 z.2) : Paired r' xs ys := by
  induction p with
  | nil => exact .nil
  | @cons x y xs ys h _ ih =>
    rw [List.zip_cons_cons] at k
    exact .cons (k (x, y) List.mem_cons_self) (ih fun z hz => k z (List.mem_cons_of_mem _ hz))
theorem rest_len {n r : Nat} {nums : List Nat} {L : List (List Nat)} (h : RestP n r nums L) : ∀ l ∈ L, l.length ≤ r := by
  induction h with
  | stop _ => exact fun l h => nomatch h
  | step _ _ _ ih =>
    intro l hl
    rcases List.mem_cons.mp hl with rfl | hl
    · rw [List.length_take]
      omega
    · exact ih l hl
theorem perms_len {n r : Nat} {L : List (List Nat)} (h : PermsOf n r L) : ∀ l ∈ L, l.length ≤ r := by
  rcases h with ⟨_, tl, rfl, hR⟩ | ⟨_, rfl⟩
  · intro l hl
    rcases List.mem_cons.mp hl with rfl | hl
    · rw [List.length_take]
      omega
    · exact rest_len hR l hl
  · exact fun l h => nomatch h
/-- H below n, N from n on -/
def mixH (H N : Hp) (n : Nat) : Hp := fun b => if b < n then H b else N b
theorem mix_lo {H N : Hp} {n : Nat} {b : Addr} (h : b < n) : mixH H N n b = H b := if_pos h
theorem mix_hi {H N : Hp} {n : Nat} {b : Addr} (h : n ≤ b) : mixH H N n b = N b := if_neg (Nat.not_lt.mpr h)
section
variable {X : Cx} {pins : List (Addr × Obj)} {σ : L2.St} {H N : Hp} {s : Shared}
theorem mix_same (I : Inv X pins σ H s) {b : Addr} {o : HO} (e : H b = some o) : mixH H N s.heap.objs.size b = some o := by
  rcases Nat.lt_or_ge b s.heap.objs.size with lt | ge
  · rw [mix_lo lt]
    exact e
  · rw [I.hok.fresh ge] at e
    cases e
/-- many new objects at once -/
theorem lay_many {h' : Heap} {t' : Nat} (I : Inv X pins σ H s) (k : ∀ b o, s.heap.get? b = some o → h'.get? b = some o) (hN : ∀ b o, s.heap.objs.size ≤ b → N b = some o → ObjOk X.prog X.w (mixH H N s.heap.objs.size) h' b o) :
    Inv X pins σ (mixH H N s.heap.objs.size) { s with heap := h', toks := t' } := by
  have un : Un X.fs [] H (mixH H N s.heap.objs.size) s.heap h' := {
    keep := fun b o q _ _ _ => k b o q
    slot := fun b o q _ _ _ => ⟨o.slots, k b o q⟩
    free := fun b o q n _ => by rw [mix_lo (Heap.lt_size q)]; exact n
    there := fun b o q _ => ⟨o, k b o q⟩
    tups := fun b xs e => mix_same I e
    frzs := fun b o u e => mix_same I e
    tbls := fun b ps e => ⟨#[], by rw [mix_same I e]; simp⟩ }
  refine I.un (t' := t') un fun b o e => ?_
  rcases Nat.lt_or_ge b s.heap.objs.size with lt | ge
  · rw [mix_lo lt] at e
    exact (I.hok b o e).stay (fun c v _ z => k c v z) (fun c e => mix_same I e) fun c xs e => mix_same I e
  · rw [mix_hi ge] at e
    exact hN b o ge e
end
section
variable {X : Cx} {e : Expr} {te : TE} {nm : Str} {p1 p2 q1 q2 : Pos}
theorem pe_listPm (hc : X.calm = true) (hgl : Gl X "list") (hml : X.mg "list" = none) (hg : Gl X nm) (hm : X.mg nm = some (.type "itertools.permutations")) (he : PE X e te)
    (hd : (nm == ("__debug__" : Str)) = false := by decide) (n1 : starEach [e] X.env = (false, eval e X.env) :: starEach [] X.env := by rfl)
    (n2 : starEach [.Call (.Name nm p2) [e] [] q2] X.env = (false, eval (.Call (.Name nm p2) [e] [] q2) X.env) :: starEach [] X.env := by rfl) :
    PE X (.Call (.Name "list" p1) [.Call (.Name nm p2) [e] [] q2] [] q1) (tListPm X.K te) := by
  constructor
  intro pins s σ H Q I h
  refine Call_ (ld_blt I hgl hml boot_list (PyProof.Rows.callWith_type1 (args_cons ?_ n2) n2))
  refine Call_ (ld_glob I hg hm (PyProof.Rows.callWith_type1 (one_arg he I h (fun v s0 x H1 I0 rx q => ?_) n1) n1) hd)
  obtain ⟨a, xs, L, rfl, hseq, h100, hL, hlen, q⟩ := q
  obtain rfl : v = Value.ref a := rx
  have hseq' : ∃ its : List Value, Vals xs its ∧ ∃ T o n, (T = "list" ∨ T = "tuple") ∧ s0.heap.get? a = some o ∧ o.cls = .type T ∧ o.data = .seq its.toArray n := by
    rcases hseq with hq | hq
    · obtain ⟨its, r', pl, _⟩ := I0.list hq
      obtain ⟨o, ho, hcl, n, hd⟩ := pl.isList
      exact ⟨its, r', "list", o, n, .inl rfl, ho, hcl, hd⟩
    · obtain ⟨its, r', ⟨o, ho, hcl, n, hd⟩, _⟩ := I0.tuple hq
      exact ⟨its, r', "tuple", o, n, .inr rfl, ho, hcl, hd⟩
  obtain ⟨us, rv, T0, oT, nT, hT0, hoT, hcT, hdT⟩ := hseq'
  have lu : us.length = xs.length := rv.length.symm
  have sle := sizeLine_eq
  refine call_pm1 fun E' => wpAny_collect_seq a hT0 hoT hcT hdT (fun h1 k1 => ?_) (by rw [List.size_toArray]; omega)
  refine ⟨by simp; omega, fun h2 it hit hraw hpool k2 => args_nil ?_⟩
  have et : us.toArray.toList = us := by simp
  rw [et] at hraw hpool
  rw [rawP_le (Nat.le_refl _)] at hraw
  have itn : it = h1.objs.size + 1 := hit
  have ne : h1.objs.size ≠ it := by omega
  have hst : StateP us.length us.length 0 (startP us.length us.length) L := by
    rcases hL with ⟨_, tl, rfl, hR⟩ | ⟨z, _⟩
    · rw [← lu] at hR ⊢
      refine .inl ⟨rfl, ?_, tl, rfl, hR⟩
      unfold startP
      rw [List.length_append, List.length_map, List.length_map, List.length_range]
      omega
    · omega
  refine call_list_pm (s := { s0 with heap := h2 }) (r := us.length) (I.ok.hd hc) (by omega) ne hraw hst hpool (by omega) fun h3 acc c k3 e3 d3 => ?_
  obtain ⟨qs, eacc, pq⟩ := done_addrs d3
  have I1 : Inv X pins σ H1 { s0 with heap := h1, toks := s0.toks } := I0.kept (t' := s0.toks) k1
  have lit : it < h2.objs.size := Heap.lt_size hraw
  generalize hS : h2.objs.size = S at *
  have bigS : h1.objs.size ≤ S := Nat.le_of_lt (Nat.lt_trans (by rw [itn]; exact Nat.lt_succ_self _) lit)
  have k13 : ∀ b o, h1.get? b = some o → h3.get? b = some o := fun b o ho => k3 b o (fun z => by
    have l1 := Heap.lt_size ho
    rw [z, itn] at l1
    exact absurd l1 (Nat.not_lt.mpr (Nat.le_succ _))) (k2 b o ho)
  have zipr := paired_zip pq
  have plen := perms_len hL
  have N0 : ∃ N : Hp, N = fun b => if b = S then some (HO.lst (qs.map V.ref)) else ((L.zip qs).find? fun z => decide (z.2 = b)).map fun z => HO.tup (z.1.map fun k => xs.getD k .non) := ⟨_, rfl⟩
  obtain ⟨N, eN⟩ := N0
  have atS : N S = some (.lst (qs.map V.ref)) := by
    rw [eN]
    exact if_pos rfl
  have found : ∀ z ∈ L.zip qs, N z.2 = some (.tup (z.1.map fun k => xs.getD k .non)) := fun z hz => by
    obtain ⟨b1, g1⟩ := zipr z hz
    have nS : z.2 ≠ S := Nat.ne_of_gt b1
    rw [eN]
    show (if z.2 = S then _ else _) = _
    rw [if_neg nS]
    cases hf : (L.zip qs).find? fun y => decide (y.2 = z.2) with
    | none => exact absurd (List.find?_eq_none.mp hf z hz) (by simp)
    | some y =>
      have ym := List.mem_of_find?_eq_some hf
      have y2 : y.2 = z.2 := by simpa using List.find?_some hf
      obtain ⟨_, g2⟩ := zipr y ym
      rw [y2, g1] at g2
      simp only [Option.some.injEq, Obj.mk.injEq, Data.seq.injEq, true_and, and_true] at g2
      have e5 := congrArg Array.toList g2
      have v1 := vals_pick rv z.1
      have v2 := vals_pick rv y.1
      have e6 : (z.1.map fun i => us.toArray.getD i .none) = y.1.map fun i => us.toArray.getD i .none := by simpa using e5
      rw [← e6] at v2
      show some (HO.tup _) = some (HO.tup _)
      rw [v1.inj v2]
  refine ⟨.ref S, mixH H1 N h1.objs.size, lay_many (s := { s0 with heap := h1 }) (h' := h3) (t' := s0.toks) I1 k13 (fun b o ge e => ?_), rfl, q qs S _ (fun b o e => mix_same (s := { s0 with heap := h1 }) I1 e) (I1.hok.fresh bigS) ((mix_hi bigS).trans atS) (paired_of_zip pq fun z hz => ?_)⟩
  · by_cases hb : b = S
    · subst hb
      rw [atS] at e
      cases e
      have vq : ∀ l : List Addr, Vals (l.map V.ref) (l.map Value.ref) := fun l => by
        induction l with
        | nil => exact .nil
        | cons y l ih => exact .cons rfl ih
      have lq := Paired.length pq
      refine ⟨by rw [List.length_map]; omega, acc.toList, c, by rw [eacc]; exact vq qs, ?_⟩
      rw [e3]
    · rw [eN] at e
      have e' : (if b = S then some (HO.lst (qs.map V.ref)) else ((L.zip qs).find? fun z => decide (z.2 = b)).map fun z => HO.tup (z.1.map fun k => xs.getD k .non)) = some o := e
      rw [if_neg hb] at e'
      obtain ⟨z, hf, rfl⟩ := Option.map_eq_some_iff.mp e'
      have zm := List.mem_of_find?_eq_some hf
      have z2 : z.2 = b := by simpa using List.find?_some hf
      obtain ⟨_, g⟩ := zipr z zm
      rw [z2] at g
      have lz := plen z.1 (List.of_mem_zip zm).1
      exact ⟨by rw [List.length_map]; omega, _, vals_pick rv z.1, ⟨_, g, rfl, _, rfl⟩⟩
  · obtain ⟨b1, _⟩ := zipr z hz
    exact ⟨I1.hok.fresh (Nat.le_trans bigS (Nat.le_of_lt b1)), (mix_hi (Nat.le_trans bigS (Nat.le_of_lt b1))).trans (found z hz)⟩
end
end Nz
set_option maxHeartbeats 4000000
namespace Nz
open PySem PySem.Spec PyProof.Rows L2
/-- the arrangements of k different ones of n, in ascending order -/
def permsL (n : Nat) : Nat → List (List Nat)
  | 0 => [[]]
  | k + 1 => (permsL n k).flatMap fun c => ((List.range n).filter fun p => !c.contains p).map fun p => c ++ [p]
def restB (n r : Nat) : List Nat → List (List Nat) → Bool
  | nums, [] => (succP n r (nums.take n) (nums.drop n)).isNone
  | nums, ks :: tl => match succP n r (nums.take n) (nums.drop n) with
    | some (ix, cs) => (ix.take r == ks) && (decide ((ix ++ cs).length ≤ 1000) && restB n r (ix ++ cs) tl)
    | none => false
theorem restB_ok {n r : Nat} : ∀ {rest : List (List Nat)} {nums : List Nat}, restB n r nums rest = true → RestP n r nums rest
  | [], nums, h => .stop (Option.isNone_iff_eq_none.mp h)
  | ks :: tl, nums, h => by
    unfold restB at h
    cases e : succP n r (nums.take n) (nums.drop n) with
    | none =>
      rw [e] at h
      cases h
    | some p =>
      obtain ⟨ix, cs⟩ := p
      rw [e] at h
      obtain ⟨h1, h2⟩ := Bool.and_eq_true_iff.mp h
      obtain ⟨h2, h3⟩ := Bool.and_eq_true_iff.mp h2
      rw [← beq_iff_eq.mp h1]
      exact .step e (of_decide_eq_true h2) (restB_ok h3)
def permsB (n r : Nat) : Bool := match permsL n r with
  | [] => false
  | ks :: tl => ((startP n r).take r == ks) && restB n r (startP n r) tl
theorem permsB_ok {n r : Nat} (h : r ≤ n) (b : permsB n r = true) : PermsOf n r (permsL n r) := by
  unfold permsB at b
  split at b
  · cases b
  · rename_i ks tl e
    obtain ⟨h1, h2⟩ := Bool.and_eq_true_iff.mp b
    exact .inl ⟨h, tl, by rw [e, beq_iff_eq.mp h1], restB_ok h2⟩
theorem perms_few : ∀ n, n < 9 → ∀ r, r < 5 → r ≤ n → permsB n r = true := by decide +kernel
theorem perms_none : ∀ n, n < 5 → ∀ r, r < 5 → n < r → permsL n r = [] := by decide +kernel
theorem perms_full : ∀ n, n < 7 → permsB n n = true := by decide +kernel
/-- up to four of up to eight -/
theorem permsOf_few {n r : Nat} (hn : n ≤ 8) (hr : r ≤ 4) : PermsOf n r (permsL n r) := by
  rcases Nat.lt_or_ge n r with lt | ge
  · exact .inr ⟨lt, perms_none n (by omega) r (by omega) lt⟩
  · exact permsB_ok ge (perms_few n (by omega) r (by omega) ge)
theorem permsOf_full {n : Nat} (hn : n ≤ 6) : PermsOf n n (permsL n n) := permsB_ok (Nat.le_refl n) (perms_full n (by omega))
end Nz
set_option maxHeartbeats 4000000
namespace Nz
open PySem PySem.Spec PyProof.Rows L2
/-! ### itertools.combinations -/
/-- the next choice of as many of n -/
def succC (n : Nat) (ix : List Nat) : Option (List Nat) :=
  let r := ix.length
  match (List.range r).reverse.find? fun k => ix.getD k 0 != k + n - r with
  | none => none
  | some k => some (ix.take k ++ (List.range (r - k)).map (ix.getD k 0 + 1 + ·))
abbrev cbL (pool : Addr) (st : Int) (last : Value) (nums : List Nat) : List Value := .ref pool :: rawInt st :: last :: nums.map fun k => rawInt (k : Nat)
abbrev cbO (pool : Addr) (st : Int) (last : Value) (nums : List Nat) : Obj :=
  { cls := .type "itertools.combinations", dict := none, data := .fields (cbL pool st last nums).toArray, slots := #[] }
theorem cb_nums {pool : Addr} {st : Int} {last : Value} {nums : List Nat} {f : Value → Nat} (hf : ∀ k : Nat, f (rawInt (k : Nat)) = k) : ((cbL pool st last nums).toArray.toList.drop 3).map f = nums := by
  show (nums.map fun k => rawInt (k : Nat)).map f = nums
  rw [List.map_map]
  conv => rhs; rw [← List.map_id nums]
  exact List.map_congr_left fun k _ => hf k
def outC (its : Array Value) (nums : List Nat) : List Value := nums.map fun i => its.getD i .none
inductive RestC (n : Nat) : List Nat → List (List Nat) → Prop where
  | stop {nums : List Nat} : succC n nums = none → RestC n nums []
  | step {nums ix : List Nat} {tl : List (List Nat)} : succC n nums = some ix → ix.length ≤ 1000 → RestC n ix tl → RestC n nums (ix :: tl)
def StateC (n : Nat) (st : Int) (nums : List Nat) (rest : List (List Nat)) : Prop :=
  (st = 0 ∧ nums.length ≤ 1000 ∧ ∃ tl, rest = nums :: tl ∧ RestC n nums tl) ∨ (st = 1 ∧ RestC n nums rest) ∨ (st = 2 ∧ rest = [])
section
variable {prog : Program} {w : World} {A : Around} {E : Value → Shared → Prop} {s : Shared}
theorem self_cb {it : Addr} {fs : Array Value} {Q : Value → Shared → Prop} (hit : s.heap.get? it = some { cls := .type "itertools.combinations", dict := none, data := .fields fs, slots := #[] }) (h : Q (.ref it) s) : wpAny (model prog w) A (pyIter (.ref it)) Q E s := by
  have hT : s.TypeIs (.ref it) "itertools.combinations" := ⟨_, hit, rfl⟩
  refine wpAny_pyIter_slot hT iter_cb (wpAny_call_entry iter_cb hT eiter_cb ?_ (aiter_cb _))
  exact wpAny_pure ⟨_, rfl, "itertools.combinations", _, hT, next_cb.lookup, h⟩
theorem give_cb {it pool : Addr} {st : Int} {last : Value} {nums idx : List Nat} {its : Array Value} {op : Obj} {cnt : Nat} {G : PySem.Fin → Shared → Prop} (hit : s.heap.get? it = some (cbO pool st last nums)) (hp : s.heap.get? pool = some op) (hd : op.data = .seq its cnt)
    (hQ : ∀ h' T, h'.get? it = some (cbO pool st (.ref T) nums) → (∀ b o, b ≠ it → s.heap.get? b = some o → h'.get? b = some o) → s.heap.objs.size ≤ T → h'.get? T = some { cls := .type "tuple", data := .seq (outC its idx).toArray } → G (.done (.ret (.ref T))) { s with heap := h' })
    (hz : idx.length ≤ 1000) :
    wpAny (model prog w) A (do
      let result ← (do
        let items ← Builtin.Itertools.itPoolItems (.ref pool)
        newTuple (outC items idx))
      let before ← field (.ref it) 2
      setField (.ref it) 2 result
      letGo [before] [result]
      ret result) G E s := by
  have lt := Heap.lt_size hit
  unfold Builtin.Itertools.itPoolItems
  refine wpAny_bind (wpAny_bind (wpAny_bind (wpAny_seqItems hp hd (wpAny_pure ?_))))
  refine wpAny_newObj_type ?_ (by show (outC its idx).toArray.size ≤ _; rw [List.size_toArray]; unfold outC; rw [List.length_map]; have := sizeLine_eq; omega)
  have hit2 : (s.heap.push { cls := .type "tuple", data := .seq (outC its idx).toArray }).get? it = some (cbO pool st last nums) := Heap.get?_push_of_some _ hit
  refine wpAny_bind (wpAny_field hit2 rfl (x := last) rfl ?_)
  refine wpAny_bind (wpAny_setField hit2 rfl (by show 2 < _; simp) ?_)
  refine wpAny_bind (wpAny_letGo (wpAny_pure ?_))
  have ne : s.heap.objs.size ≠ it := Nat.ne_of_gt lt
  refine hQ _ s.heap.objs.size ?_ (fun b o hb ho => ?_) (Nat.le_refl _) ?_
  · refine (Heap.get?_update_self _ hit2 rfl).trans ?_
    simp [Obj.mapFields, cbL]
  · exact (Heap.get?_update_other _ _ (Ne.symm hb)).trans (Heap.get?_push_of_some _ ho)
  · exact (Heap.get?_update_other _ _ (Ne.symm ne)).trans (Heap.get?_push_size _ rfl)
theorem upd1_cb {h : Heap} {it pool : Addr} {st st' : Int} {last : Value} {nums : List Nat} (hit : h.get? it = some (cbO pool st last nums)) :
    (h.update it (Obj.mapFields (·.setIfInBounds 1 (rawInt st')))).get? it = some (cbO pool st' last nums) := by
  refine (Heap.get?_update_self _ hit rfl).trans ?_
  simp [Obj.mapFields, cbL]
theorem updN_cb {h : Heap} {it pool : Addr} {st : Int} {last : Value} {nums ns : List Nat} (hit : h.get? it = some (cbO pool st last nums)) :
    (h.update it (Obj.mapFields fun fs => fs.extract 0 3 ++ (ns.map fun (n : Nat) => rawInt n).toArray)).get? it = some (cbO pool st last ns) := by
  refine (Heap.get?_update_self _ hit rfl).trans ?_
  simp [Obj.mapFields, cbL]
theorem next_cb_go {it pool : Addr} {st : Int} {last : Value} {nums : List Nat} {its : Array Value} {op : Obj} {cnt : Nat} {Q : Option Value → Shared → Prop} (hit : s.heap.get? it = some (cbO pool st last nums)) (hp : s.heap.get? pool = some op) (hd : op.data = .seq its cnt)
    (h0 : st = 0 → wpAny (model prog w) A.in1 (do
      setField (.ref it) 1 (rawInt 1)
      let result ← (do
        let items ← Builtin.Itertools.itPoolItems (.ref pool)
        newTuple (outC items nums))
      let before ← field (.ref it) 2
      setField (.ref it) 2 result
      letGo [before] [result]
      ret result) (fun fin s' => ∃ v, fin = Fin.done (Flow.ret v) ∧ Q (some v) s') E s)
    (h1 : st = 1 → ∀ ix, succC its.size nums = some ix → wpAny (model prog w) A.in1 (do
      Builtin.Itertools.itSetNumbersFrom (.ref it) 3 ix
      let result ← (do
        let items ← Builtin.Itertools.itPoolItems (.ref pool)
        newTuple (outC items ix))
      let before ← field (.ref it) 2
      setField (.ref it) 2 result
      letGo [before] [result]
      ret result) (fun fin s' => ∃ v, fin = Fin.done (Flow.ret v) ∧ Q (some v) s') E s)
    (h2 : st = 1 → succC its.size nums = none → wpAny (model prog w) A.in1 (do
      setField (.ref it) 1 (rawInt 2)
      (Builtin.Itertools.itStop : Sem PySem.Fin)) (fun fin s' => ∃ v, fin = Fin.done (Flow.ret v) ∧ Q (some v) s') E s)
    (h3 : st = 2 → wpAny (model prog w) A.in1 (Builtin.Itertools.itStop : Sem PySem.Fin) (fun fin s' => ∃ v, fin = Fin.done (Flow.ret v) ∧ Q (some v) s') E s)
    (hst : st = 0 ∨ st = 1 ∨ st = 2) : wpAny (model prog w) A (callSpecial? (.ref it) "__next__") Q E s := by
  have hT : s.TypeIs (.ref it) "itertools.combinations" := ⟨_, hit, rfl⟩
  refine wpAny_callSpecial?_slot (name := Str.ofString "__next__") hT next_cb (wpAny_call_entry next_cb hT enext_cb ?_ (anext_cb _))
  show wpAny _ _ (field (.ref it) 0 >>= _) _ _ s
  refine wpAny_bind (wpAny_field hit rfl (x := .ref pool) rfl ?_)
  unfold Builtin.Itertools.itIntField Builtin.Itertools.itNumbersFrom
  refine wpAny_bind (wpAny_bind (wpAny_load hit (wpAny_pure ?_)))
  refine wpAny_bind (wpAny_bind (wpAny_field hit rfl (x := rawInt st) rfl (wpAny_pure ?_)))
  rw [cb_nums]
  · rcases hst with rfl | rfl | rfl
    · exact h0 rfl
    · split
      · rename_i bad
        exact absurd bad (by decide)
      · have e2 : ∀ {A' : Around} {R : Array Value → Shared → Prop} {E' : Value → Shared → Prop}, R its s → wpAny (model prog w) A' (Builtin.Itertools.itPoolItems (.ref pool)) R E' s := fun q => by
          unfold Builtin.Itertools.itPoolItems
          exact wpAny_bind (wpAny_seqItems hp hd (wpAny_pure q))
        refine wpAny_bind (e2 ?_)
        split
        · rename_i ix heq
          exact h1 rfl ix heq
        · rename_i heq
          exact h2 rfl heq
      · rename_i b0 b1
        exact absurd rfl b1
    · exact wpAny_bind (wpAny_rule (h3 rfl))
  · exact fun k => Int.toNat_natCast k
end
end Nz
set_option maxHeartbeats 4000000
namespace Nz
open PySem PySem.Spec PyProof.Rows L2
section
variable {prog : Program} {w : World} {A : Around} {E : Value → Shared → Prop} {s : Shared}
theorem item_cb {it pool : Addr} {st : Int} {last : Value} {nums : List Nat} {its : Array Value} {op : Obj} {cnt : Nat} {ks : List Nat} {tl : List (List Nat)} {Q : Option Value → Shared → Prop} (hit : s.heap.get? it = some (cbO pool st last nums)) (hne : pool ≠ it) (hp : s.heap.get? pool = some op) (hd : op.data = .seq its cnt)
    (hS : StateC its.size st nums (ks :: tl))
    (hQ : ∀ h' T st' nums', h'.get? it = some (cbO pool st' (.ref T) nums') → StateC its.size st' nums' tl → (∀ b o, b ≠ it → s.heap.get? b = some o → h'.get? b = some o) → s.heap.objs.size ≤ T → h'.get? T = some { cls := .type "tuple", data := .seq (ks.map fun i => its.getD i .none).toArray } → ks.length ≤ 1000 → Q (some (.ref T)) { s with heap := h' }) :
    wpAny (model prog w) A (callSpecial? (.ref it) "__next__") Q E s := by
  rcases hS with ⟨rfl, ln, tl', e, R⟩ | ⟨rfl, R⟩ | ⟨_, e⟩
  · cases e
    refine next_cb_go hit hp hd (fun _ => ?_) (fun z => absurd z (by decide)) (fun z => absurd z (by decide)) (fun z => absurd z (by decide)) (.inl rfl)
    refine wpAny_bind (wpAny_setField hit rfl (by show 1 < _; simp) ?_)
    have h2 := upd1_cb (st' := 1) hit
    have hp2 : (s.heap.update it (Obj.mapFields (·.setIfInBounds 1 (rawInt 1)))).get? pool = some op := (Heap.get?_update_other _ _ (Ne.symm hne)).trans hp
    refine give_cb (s := { s with heap := s.heap.update it (Obj.mapFields (·.setIfInBounds 1 (rawInt 1))) }) h2 hp2 hd (fun h' T g1 g2 g3 g5 => ⟨_, rfl, hQ h' T 1 nums g1 (.inr (.inl ⟨rfl, R⟩)) (fun b o hb ho => g2 b o hb ((Heap.get?_update_other _ _ (Ne.symm hb)).trans ho)) ?_ g5 ln⟩) ln
    have sz : (s.heap.update it (Obj.mapFields (·.setIfInBounds 1 (rawInt 1)))).objs.size = s.heap.objs.size := by simp
    rw [← sz]
    exact g3
  · rcases R with _ | ⟨hs, lz, R⟩
    refine next_cb_go hit hp hd (fun z => absurd z (by decide)) (fun _ ix' e => ?_) (fun _ e => ?_) (fun z => absurd z (by decide)) (.inr (.inl rfl))
    · rw [hs] at e
      cases e
      unfold Builtin.Itertools.itSetNumbersFrom
      have h2 := updN_cb (ns := ks) hit
      have hp2 : (s.heap.update it (Obj.mapFields fun fs => fs.extract 0 3 ++ (ks.map fun (n : Nat) => rawInt n).toArray)).get? pool = some op := (Heap.get?_update_other _ _ (Ne.symm hne)).trans hp
      refine wpAny_bind (wpAny_updateFields hit rfl ?_ ?_)
      · refine give_cb (s := { s with heap := s.heap.update it (Obj.mapFields fun fs => fs.extract 0 3 ++ (ks.map fun (n : Nat) => rawInt n).toArray) }) h2 hp2 hd (fun h' T g1 g2 g3 g5 => ⟨_, rfl, hQ h' T 1 _ g1 (.inr (.inl ⟨rfl, R⟩)) (fun b o hb ho => g2 b o hb ((Heap.get?_update_other _ _ (Ne.symm hb)).trans ho)) ?_ g5 lz⟩) lz
        have sz : (s.heap.update it (Obj.mapFields fun fs => fs.extract 0 3 ++ (ks.map fun (n : Nat) => rawInt n).toArray)).objs.size = s.heap.objs.size := by simp
        rw [← sz]
        exact g3
      · have := sizeLine_eq
        simp only [Array.size_append, Array.size_extract, List.size_toArray, List.length_map]
        omega
    · rw [hs] at e
      cases e
  · cases e
theorem end_cb {it pool : Addr} {st : Int} {last : Value} {nums : List Nat} {its : Array Value} {op : Obj} {cnt : Nat} {Q : Option Value → Shared → Prop} (hh : A.handled = none) (hit : s.heap.get? it = some (cbO pool st last nums)) (hp : s.heap.get? pool = some op) (hd : op.data = .seq its cnt)
    (hS : StateC its.size st nums []) (hQ : ∀ e h', CpRep.StopE e h' → (∀ b o, b ≠ it → s.heap.get? b = some o → h'.get? b = some o) → E e { s with heap := h' }) :
    wpAny (model prog w) A (callSpecial? (.ref it) "__next__") Q E s := by
  have hh' : A.in1.handled = none := hh
  rcases hS with ⟨_, _, tl', e, _⟩ | ⟨rfl, R⟩ | ⟨rfl, _⟩
  · cases e
  · rcases R with hs | _
    refine next_cb_go hit hp hd (fun z => absurd z (by decide)) (fun _ ix' e => ?_) (fun _ e => ?_) (fun z => absurd z (by decide)) (.inr (.inl rfl))
    · rw [hs] at e
      cases e
    · refine wpAny_bind (wpAny_setField hit rfl (by show 1 < _; simp) ?_)
      exact stop_any hh' fun e h' he hk => hQ e h' he fun b o hb ho => hk b o ((Heap.get?_update_other _ _ (Ne.symm hb)).trans ho)
  · refine next_cb_go hit hp hd (fun z => absurd z (by decide)) (fun z => absurd z (by decide)) (fun z => absurd z (by decide)) (fun _ => ?_) (.inr (.inr rfl))
    exact stop_any hh' fun e h' he hk => hQ e h' he fun b o _ ho => hk b o ho
end
theorem turn_cb {P : Program} {w : World} {K : PySem.W.Frag} {tg : Expr} {xs : List V} {us : List Value} {L : List (List Nat)} (it pool : Addr) (rv : Vals xs us) (ne : pool ≠ it) :
    Turn P w K tg (ItP xs L) [it, pool] it (fun i h => (∃ st last nums, h.get? it = some (cbO pool st last nums) ∧ StateC us.length st nums (L.drop i)) ∧ PoolAt h pool us) where
  mem := by simp
  obj := fun i h ⟨⟨st, last, nums, h1, _⟩, op, cnt, h2, _, hd⟩ b hb => by
    rcases (show b = it ∨ b = pool by simpa using hb) with rfl | rfl
    · exact ⟨_, h1, fun v q => nomatch q⟩
    · exact ⟨op, h2, fun v q => by rw [hd] at q; cases q⟩
  keep := fun i h h' ⟨⟨st, last, nums, h1, h3⟩, op, cnt, h2, hc, hd⟩ k => ⟨⟨st, last, nums, k it (by simp) _ h1, h3⟩, op, cnt, k pool (by simp) _ h2, hc, hd⟩
  self := fun A i s Q E ⟨⟨st, last, nums, h1, _⟩, _⟩ h => self_cb h1 h
  item := by
    intro X hP hw hK hcalm i pins s σ H E I hf st go
    subst hP hw hK
    obtain ⟨⟨st, last, nums, hit, hS⟩, op, cnt, hp, hc, hd⟩ := st
    have go' : i < L.length := go
    obtain ⟨ks, hk⟩ : ∃ ks, L[i]? = some ks := ⟨_, List.getElem?_eq_getElem go'⟩
    have dr : L.drop i = ks :: L.drop (i + 1) := by
      rw [List.drop_eq_getElem_cons go']
      rw [List.getElem?_eq_getElem go'] at hk
      rw [Option.some.inj hk]
    rw [dr] at hS
    have len : us.toArray.size = us.length := by simp
    unfold pyNext
    refine wpAny_bind (wpAny_attempt (item_cb hit ne hp hd (by rw [len]; exact hS) fun h' T st' nums' g1 g2 g3 g4 g5 g6 => ?_))
    refine wpAny_pure ⟨_, rfl, go_of (s := { s with heap := h' }) g1 rfl rfl (by decide) ?_⟩
    have new : ObjOk X.prog X.w (upd H T (.tup (ks.map fun k => xs.getD k .non))) h' T (.tup (ks.map fun k => xs.getD k .non)) :=
      ⟨by rw [List.length_map]; have := sizeLine_eq; omega, _, vals_pick rv ks, ⟨_, g5, rfl, _, rfl⟩⟩
    have I1 : Inv X pins σ (upd H T (.tup (ks.map fun k => xs.getD k .non))) { s with heap := h', toks := s.toks } :=
      I.turnedNew (ch := [it, pool]) (fun b ob hb q => g3 b ob (fun z => hb (by simp [z])) q) hf g4 new
    refine ⟨.ref T, _, I1, rfl, ⟨T, ks, rfl, I.hok.fresh g4, hk, rfl⟩, ⟨⟨st', _, nums', g1, by rw [← len]; exact g2⟩, op, cnt, g3 pool op ne hp, hc, hd⟩, fun b hb => ?_⟩
    have lt : b < s.heap.objs.size := by
      rcases (show b = it ∨ b = pool by simpa using hb) with rfl | rfl
      · exact Heap.lt_size hit
      · exact Heap.lt_size hp
    rw [upd_ne (Nat.ne_of_lt (Nat.lt_of_lt_of_le lt g4))]
    exact (hf b hb).1
  done := by
    intro X hP hw hK hcalm i pins s σ H E I hf st go
    subst hP hw hK
    obtain ⟨⟨st, last, nums, hit, hS⟩, op, cnt, hp, hc, hd⟩ := st
    have go' : L.length ≤ i := go
    rw [List.drop_eq_nil_of_le go'] at hS
    obtain ⟨f0, f1, f2, f3, f4, f5⟩ := hf it (by simp)
    have len : us.toArray.size = us.length := by simp
    unfold pyNext
    refine wpAny_bind (wpAny_attempt (end_cb (I.ok.hd hcalm) hit hp hd (by rw [len]; exact hS) fun e h' he hk => ?_))
    obtain ⟨a, o, vs, rfl, ho, hcl, _, _⟩ := he
    refine wpAny_bind (wpAny_isInstance (T := "StopIteration") (b := true) ⟨o, ho, hcl⟩ isSubtype_stop (wpAny_pure ⟨rfl, ?_⟩))
    exact I.turned (t' := s.toks) (fun b o hb q => hk b o hb q) f0 f1 f3 f4 f5
end Nz
set_option maxHeartbeats 4000000
namespace Nz
open PySem PySem.Spec PyProof.Rows L2
theorem meets_cb_new {prog : Program} {w : World} {x : Value} {r : Nat} {tr : Tok} (h30 : r ≤ 1000) :
    MeetsIn prog w (Builtin.«itertools.combinations.__new__» ⟨[.type "itertools.combinations", x, .int (r : Nat) tr], []⟩) (fun A R s =>
      ∀ (E : Value → Shared → Prop), wpAny (model prog w) A.in1 (collect x) (fun items s1 => items.length ≤ 1000 ∧
        R (.ok (.ret (.ref (s1.heap.push { cls := .type "tuple", data := .seq items.toArray }).objs.size)))
          { s1 with heap := (s1.heap.push { cls := .type "tuple", data := .seq items.toArray }).push (cbO s1.heap.objs.size (if r > items.length then 2 else 0) .none (List.range r)) }) E s) :=
  .of_wp fun A R s h => by
    have hsub := sub_cb
    unfold Builtin.«itertools.combinations.__new__»
    have h1 := h (fun e s' => R (.error e) s')
    have e1 : ∀ {A' : Around} {Q : Value × List Value → Shared → Prop} {E : Value → Shared → Prop}, Q (.type "itertools.combinations", [x, .int (r : Nat) tr]) s →
        wpAny (model prog w) A' (Builtin.Itertools.itClassAndRest "combinations" ⟨[.type "itertools.combinations", x, .int (r : Nat) tr], []⟩) Q E s := fun q => by
      unfold Builtin.Itertools.itClassAndRest
      have es : ("itertools." ++ "combinations" : String) = "itertools.combinations" := by decide +kernel
      rw [es]
      repeat (first | exact q | exact wpAny_of_eq sub_cb (wpAny_pure q) | wp_step)
    have e2 : ∀ {A' : Around} {Q : List (Option Value) → Shared → Prop} {E : Value → Shared → Prop}, Q [some x, some (.int (r : Nat) tr)] s →
        wpAny (model prog w) A' (Builtin.Itertools.itBindNamed "combinations" ["iterable", "r"] 2 2 [x, .int (r : Nat) tr] []) Q E s := fun q => by
      unfold Builtin.Itertools.itBindNamed
      repeat (first | exact q | wp_step)
    have b1 : ¬ ((decide (((r : Nat) : Int) < -2 ^ 63) || decide (((r : Nat) : Int) ≥ 2 ^ 63)) = true) := by
      have u1 : decide (((r : Nat) : Int) < -2 ^ 63) = false := decide_eq_false (by omega)
      have u2 : decide (((r : Nat) : Int) ≥ 2 ^ 63) = false := decide_eq_false (by omega)
      rw [u1, u2]
      decide
    have b2 : ¬ (((r : Nat) : Int) < 0) := by omega
    have b3 : ¬ (Builtin.Itertools.itTooMany ((r : Nat) : Int) = true) := by
      unfold Builtin.Itertools.itTooMany
      intro z
      have z2 := of_decide_eq_true z
      omega
    have e3 : ∀ {A' : Around} {Q : Int → Shared → Prop} {E : Value → Shared → Prop}, Q ((r : Nat) : Int) s →
        wpAny (model prog w) A' (Builtin.Itertools.itSsizeArg (.int (r : Nat) tr)) Q E s := fun q => by
      unfold Builtin.Itertools.itSsizeArg
      refine wpAny_bind (wpAny_of_eq (a := ((r : Nat) : Int)) (by rfl) ?_)
      rw [if_neg b1]
      exact wpAny_pure q
    refine wpAny_bind ?_
    show wpAny _ _ (Builtin.Itertools.itClassAndRest "combinations" ⟨[.type "itertools.combinations", x, .int (r : Nat) tr], []⟩ >>= _) _ _ _
    refine wpAny_bind (e1 ?_)
    refine wpAny_bind (e2 ?_)
    refine wpAny_bind (e3 ?_)
    refine wpAny_bind (wpAny_mono h1 (fun items s1 ⟨hn, q⟩ => ?_) fun _ _ z => z)
    have sz := sizeLine_eq
    dsimp only
    rw [if_neg b2, if_neg b3]
    refine wpAny_bind (wpAny_newObj_type ?_ (by show items.toArray.size ≤ _; rw [List.size_toArray]; omega))
    refine wpAny_pure ?_
    unfold Builtin.Itertools.itNewRecord
    rw [nodict_cb]
    refine wpAny_bind ?_
    rw [if_pos (by rfl)]
    have el : [Value.ref s1.heap.objs.size, rawInt (if (((r : Nat) : Int)).toNat > items.length then 2 else 0), Value.none] ++ List.map (fun (i : Nat) => rawInt (i : Nat)) (List.range (((r : Nat) : Int)).toNat) = cbL s1.heap.objs.size (if r > items.length then 2 else 0) .none (List.range r) := by
      rw [Int.toNat_natCast]
      rfl
    refine wpAny_newObj_type ?_ ?_
    · rw [el]
      exact wpAny_pure ⟨_, rfl, q⟩
    · rw [el]
      show (cbL s1.heap.objs.size (if r > items.length then 2 else 0) .none (List.range r)).toArray.size ≤ _
      rw [List.size_toArray]
      simp only [List.length_cons, List.length_map, List.length_range]
      omega
/-- combinations(x, r) -/
theorem call_cb {prog : Program} {w : World} {A : Around} {E : Value → Shared → Prop} {s : Shared} {x : Value} {r : Nat} {tr : Tok} {Q : Value → Shared → Prop} (h30 : r ≤ 1000)
    (h : ∀ (E' : Value → Shared → Prop), wpAny (model prog w) A.in1.in1 (collect x) (fun items s1 => items.length ≤ 1000 ∧ ∀ h' it, it = s1.heap.objs.size + 1 → h'.get? it = some (cbO s1.heap.objs.size (if r > items.length then 2 else 0) .none (List.range r)) →
      PoolAt h' s1.heap.objs.size items → (∀ b o, s1.heap.get? b = some o → h'.get? b = some o) → Q (.ref it) { s1 with heap := h' }) E' s) :
    wpAny (model prog w) A (call (.type "itertools.combinations") [x, .int (r : Nat) tr]) Q E s := by
  refine callType_newIn called_cb (by decide) (tcall2_cb _ _) (ncall2_cb _ _) (fun obj => F.args_object_init_3 obj _ _) enew_cb (meets_cb_new h30) fun E' => ?_
  refine wpAny_mono (h E') (fun items s1 ⟨hl, q⟩ => ⟨hl, ?_⟩) fun _ _ z => z
  have hz : (s1.heap.push { cls := .type "tuple", data := .seq items.toArray }).objs.size = s1.heap.objs.size + 1 := Heap.size_push ..
  have new := Heap.get?_push_size (s1.heap.push { cls := .type "tuple", data := .seq items.toArray }) (o := cbO s1.heap.objs.size (if r > items.length then 2 else 0) .none (List.range r)) rfl
  refine (?g : _ ∧ _)
  exact ⟨⟨_, new, rfl⟩, q _ _ hz new ⟨_, _, Heap.get?_push_of_some _ (Heap.get?_push_size _ rfl), rfl, rfl⟩ fun b o e => Heap.get?_push_of_some _ (Heap.get?_push_of_some _ e)⟩
/-- what combinations hands out -/
def CombsOf (n r : Nat) (L : List (List Nat)) : Prop := (r ≤ n ∧ ∃ tl, L = List.range r :: tl ∧ RestC n (List.range r) tl) ∨ (n < r ∧ L = [])
def iCb (ta : TA) : TI := fun σ H R => ta σ H fun vs H1 => ∃ (a : Addr) (r : Nat) (lo hi : Int) (L : List (List Nat)), vs = [.ref a, .int (r : Nat)] ∧ r ≤ 100 ∧ H1 a = some (.rng lo hi) ∧ -(2 ^ 62) ≤ lo ∧ lo < 2 ^ 62 ∧ -(2 ^ 62) ≤ hi ∧ hi < 2 ^ 62 ∧ (hi - lo).toNat ≤ 100 ∧
  CombsOf (hi - lo).toNat r L ∧ R (ItP (rgV lo hi) L) H1
theorem pi_cb {X : Cx} {nm : Str} {e b : Expr} {ta : TA} {p pos : Pos} {tg : Expr} (hc : X.calm = true) (hg : Gl X nm) (hm : X.mg nm = some (.type "itertools.combinations")) (ha : PA X [e, b] ta)
    (hd : (nm == ("__debug__" : Str)) = false := by decide) (hs : starEach [e, b] X.env = (false, eval e X.env) :: starEach [b] X.env := by rfl) (hp : (backTo pos (starEach [b] X.env)).any (·.1) = false := by rfl) :
    PI X tg (.Call (.Name nm p) [e, b] [] pos) (iCb ta) := by
  constructor
  intro pins s σ H R I h
  refine Call_ (ld_glob I hg hm (PyProof.Rows.callWith_type1 (thn (ha.run pos pins s σ H _ I h) fun us s1 ⟨vs, H1, I1, rr, a, r, lo, hi, L, ev, hr, hrg, b1, b2, b3, b4, bn, hL, q⟩ => ?_) hs hp) hd)
  subst ev
  rcases rr with _ | ⟨rx, _ | ⟨ry, rn⟩⟩
  cases rn
  cases rx
  obtain ⟨tr, rfl⟩ := ry
  have ho : ObjOk X.prog X.w H1 s1.heap a (.rng lo hi) := I1.hok a _ hrg
  obtain ⟨t, u, v, hra⟩ := ho
  refine call_cb (by omega) fun E' => collect_range (n := (hi - lo).toNat) (a := lo) (b := hi) (c := 1) (t := t) (u := u) (v := v) (I1.ok.hd hc) hra (small_one b1 b2 b3 b4) (rangeSize_nat lo hi) (by omega) fun h1 tk acc hk hi1 => ?_
  have rv := vals_rg hi1
  have ln : acc.toList.length = (hi - lo).toNat := by rw [← rv.length, rgV_length]
  refine ⟨by omega, fun h2 it hit hraw hpool hk2 => ?_⟩
  have I2 : Inv X pins σ H1 { s1 with heap := h2, toks := tk } := I1.kept (t' := tk) fun b o e => hk2 b o (hk b o e)
  have I1' : Inv X pins σ H1 { s1 with heap := h1, toks := tk } := I1.kept (t' := tk) hk
  have itn : it = h1.objs.size + 1 := hit
  have ne : h1.objs.size ≠ it := by omega
  have fps : ∀ b ∈ [it, h1.objs.size], FpOk X pins H1 b := fun b hb => by
    have le : h1.objs.size ≤ b := by
      rcases (show b = it ∨ b = h1.objs.size by simpa using hb) with rfl | rfl
      · omega
      · exact Nat.le_refl _
    exact I1'.fpOk le (I1'.hok.fresh le)
  refine self_cb hraw ⟨it, [it, h1.objs.size], _, _, H1, rfl, I2, turn_cb it h1.objs.size rv ne, ⟨⟨_, _, _, hraw, ?_⟩, hpool⟩, fps, q⟩
  rcases hL with ⟨hle, tl, rfl, hR⟩ | ⟨hlt, rfl⟩
  · rw [ln, if_neg (by omega)]
    exact .inl ⟨rfl, by rw [List.length_range]; omega, tl, rfl, hR⟩
  · rw [ln, if_pos (by omega)]
    exact .inr (.inr ⟨rfl, rfl⟩)
/-- the choices of k of n, each ascending, in ascending order -/
def combsL (n : Nat) : Nat → List (List Nat)
  | 0 => [[]]
  | k + 1 => (combsL n k).flatMap fun c => ((List.range n).filter fun p => c.all fun q => decide (q < p)).map fun p => c ++ [p]
def restBC (n : Nat) : List Nat → List (List Nat) → Bool
  | nums, [] => (succC n nums).isNone
  | nums, ks :: tl => (succC n nums == some ks) && (decide (ks.length ≤ 1000) && restBC n ks tl)
theorem restBC_ok {n : Nat} : ∀ {rest : List (List Nat)} {nums : List Nat}, restBC n nums rest = true → RestC n nums rest
  | [], nums, h => .stop (Option.isNone_iff_eq_none.mp h)
  | ks :: tl, nums, h => by
    unfold restBC at h
    obtain ⟨h1, h2⟩ := Bool.and_eq_true_iff.mp h
    obtain ⟨h2, h3⟩ := Bool.and_eq_true_iff.mp h2
    exact .step (beq_iff_eq.mp h1) (of_decide_eq_true h2) (restBC_ok h3)
def combsB (n r : Nat) : Bool := match combsL n r with
  | [] => false
  | ks :: tl => (List.range r == ks) && restBC n (List.range r) tl
theorem combsB_ok {n r : Nat} (h : r ≤ n) (b : combsB n r = true) : CombsOf n r (combsL n r) := by
  unfold combsB at b
  split at b
  · cases b
  · rename_i ks tl e
    obtain ⟨h1, h2⟩ := Bool.and_eq_true_iff.mp b
    exact .inl ⟨h, tl, by rw [e, beq_iff_eq.mp h1], restBC_ok h2⟩
theorem combs_few : ∀ n, n < 9 → ∀ r, r < 5 → r ≤ n → combsB n r = true := by decide +kernel
theorem combs_none : ∀ n, n < 5 → ∀ r, r < 5 → n < r → combsL n r = [] := by decide +kernel
theorem combsOf_few {n r : Nat} (hn : n ≤ 8) (hr : r ≤ 4) : CombsOf n r (combsL n r) := by
  rcases Nat.lt_or_ge n r with lt | ge
  · exact .inr ⟨lt, combs_none n (by omega) r (by omega) lt⟩
  · exact combsB_ok ge (combs_few n (by omega) r (by omega) ge)
end Nz
namespace Nz
open PySem PySem.Spec PyProof.Rows L2
/-! ### readings: for .. in, [.. for .. in] over what permutations and combinations hand out -/
/-- for x in permutations(..): each turn's x is a new tuple -/
theorem for_itp {xs : List V} {L : List (List Nat)} {g : TG} {tb : TS} {D : Ends} {σ : L2.St} {G : Hp} (J : Nat → L2.St → Hp → Prop) (h0 : J 0 σ G)
    (hs : ∀ i ks σ F T, L[i]? = some ks → J i σ F → F T = none → g (.ref T) σ (upd F T (.tup (ks.map fun k => xs.getD k .non))) fun σ2 F2 => tb { D with nx := J (i + 1), ct := J (i + 1), bk := D.nx } σ2 F2)
    (hd : ∀ σ F, J L.length σ F → D.nx σ F) : ∃ W : Nat → Nat → L2.St → Hp → Prop, (∃ m, W 0 m σ G) ∧ ∀ i m σ F, W i m σ F →
      ((ItP xs L).stop i F ∧ D.nx σ F) ∨ ((ItP xs L).go i F ∧ ∃ N : L2.St → Hp → Prop, (∀ σ' F', N σ' F' → ∃ m', m' < m ∧ W (i + 1) m' σ' F') ∧ ∀ x F', (ItP xs L).yld i F x F' → g x σ F' fun σ2 F2 => tb { D with nx := N, ct := N, bk := D.nx } σ2 F2) := by
  refine ⟨fun i m σ F => (m = L.length - i ∧ i ≤ L.length) ∧ J i σ F, ⟨L.length, ⟨by simp, Nat.zero_le _⟩, h0⟩, ?_⟩
  rintro i m σ F ⟨⟨rfl, hi⟩, p⟩
  rcases Nat.lt_or_ge i L.length with lt | ge
  · refine .inr ⟨lt, J (i + 1), fun σ' F' p' => ⟨L.length - (i + 1), by omega, ⟨rfl, lt⟩, p'⟩, ?_⟩
    rintro x F' ⟨T, ks, rfl, nT, hk, rfl⟩
    exact hs i ks σ F T hk p nT
  · obtain rfl : i = L.length := Nat.le_antisymm hi ge
    exact .inl ⟨Nat.le_refl _, hd σ F p⟩
/-- [e for x in permutations(..) if t] -/
theorem lc_itp {xs : List V} {L : List (List Nat)} {g : TG} {tt : TT} {te : TE} {vs : List Nat} {σ : L2.St} {G : Hp} {D : Addr} {Qd : Hp → Prop} (J : Nat → Hp → Prop) (h0 : J 0 (upd G D (.lst [])))
    (hs : ∀ i ks F T, L[i]? = some ks → J i F → F T = none → g (.ref T) (wipe σ vs) (upd F T (.tup (ks.map fun k => xs.getD k .non))) fun σ2 F2 => wipe σ2 vs = wipe σ vs ∧ tt σ2 F2 fun b F3 =>
      if b = true then te σ2 F3 fun y F4 => ∃ acc, F4 D = some (.lst acc) ∧ acc.length < sizeLine ∧ J (i + 1) (upd F4 D (.lst (acc ++ [y]))) else J (i + 1) F3)
    (hd : ∀ F, J L.length F → Qd F) : ∃ W : Nat → Nat → Hp → Prop, (∃ m, W 0 m (upd G D (.lst []))) ∧ ∀ i m F, W i m F → ((ItP xs L).stop i F ∧ Qd F) ∨
      ((ItP xs L).go i F ∧ ∃ Nx : Hp → Prop, (∀ F', Nx F' → ∃ m', m' < m ∧ W (i + 1) m' F') ∧ ∀ x F', (ItP xs L).yld i F x F' → g x (wipe σ vs) F' fun σ2 F2 => wipe σ2 vs = wipe σ vs ∧ tt σ2 F2 fun b F3 =>
        if b = true then te σ2 F3 fun y F4 => ∃ acc, F4 D = some (.lst acc) ∧ acc.length < sizeLine ∧ Nx (upd F4 D (.lst (acc ++ [y]))) else Nx F3) := by
  refine ⟨fun i m F => (m = L.length - i ∧ i ≤ L.length) ∧ J i F, ⟨L.length, ⟨by simp, Nat.zero_le _⟩, h0⟩, ?_⟩
  rintro i m F ⟨⟨rfl, hi⟩, p⟩
  rcases Nat.lt_or_ge i L.length with lt | ge
  · refine .inr ⟨lt, J (i + 1), fun F' p' => ⟨L.length - (i + 1), by omega, ⟨rfl, lt⟩, p'⟩, ?_⟩
    rintro x F' ⟨T, ks, rfl, nT, hk, rfl⟩
    exact hs i ks F T hk p nT
  · obtain rfl : i = L.length := Nat.le_antisymm hi ge
    exact .inl ⟨Nat.le_refl _, hd F p⟩
end Nz
namespace Qw
open PySem PySem.Spec PyProof.Rows L2 Nz
open Evl (Ex)
variable {X : Cx} {K : PySem.W.Frag} {I I' I1 I2 H H' H1 H2 I0 H0 : Hp} {e : En} {σ : L2.St}
/-! ### enumerate, zip, reversed -/
theorem pair_new {T : Addr} {a b : W} {x y : V} (ex : Ex I H) (hT : H T = none) (ra : IsW K I a x) (rb : IsW K I b y) : ∃ I2, Ext I H I2 (upd H T (.tup [x, y])) ∧ IsW K I2 (.tup [a, b]) (.ref T) := by
  refine ⟨upd I T (.tup [x, y]), (Ext.refl ex).new hT, ?_⟩
  have hi := Evl.fresh_back ex hT
  simp only [IsW]
  exact ⟨T, _, rfl, upd_same, (IsWs.cons ra (IsWs.cons rb IsWs.nil)).mono (Ex.new hi)⟩
def enumW (ws : List W) : List W := (List.range ws.length).map fun i => .tup [.int (i : Nat), ws.getD i .non]
theorem enumW_len (ws : List W) : (enumW ws).length = ws.length := by simp [enumW]
theorem enumW_get {ws : List W} {i : Nat} {w : W} (h : (enumW ws)[i]? = some w) : ∃ u, ws[i]? = some u ∧ w = .tup [.int (i : Nat), u] := by
  unfold enumW at h
  rw [List.getElem?_map] at h
  by_cases hi : i < ws.length
  · rw [List.getElem?_range hi] at h
    cases h
    exact ⟨ws[i], List.getElem?_eq_getElem hi, by show W.tup [_, ws.getD i W.non] = _; rw [List.getD_eq_getElem?_getD, List.getElem?_eq_getElem hi]; rfl⟩
  · rw [List.getElem?_eq_none (by simpa using hi)] at h
    cases h
theorem it_enumL {a : Addr} {vs : List V} {ws : List W} (h : SqL K I a vs) (r : IsWs K I ws vs) : ItW K I (Ite K a) (enumW ws) where
  go := fun i w hw I1 H1 x1 x2 => by
    obtain ⟨u, hu, rfl⟩ := enumW_get hw
    obtain ⟨v, hv, rv⟩ := r.get hu
    have hq : SqL K H1 a vs := Evl.ex_l (x1.trans x2) h
    refine ⟨⟨vs, v, hq, hv⟩, fun x H2 y => ?_⟩
    obtain ⟨T, z, rfl, hT, rfl, q⟩ := y
    have := q vs hq
    rw [hv] at this
    cases this
    exact pair_new x2 hT (isInt.mpr rfl) (IsW.mono x1 rv)
  stop := fun I1 H1 x1 x2 => ⟨vs, Evl.ex_l (x1.trans x2) h, by rw [enumW_len, r.len]; exact Nat.le_refl _⟩
theorem it_enumT {a : Addr} {vs : List V} {ws : List W} (h : SqT K I a vs) (r : IsWs K I ws vs) : ItW K I (IteT K a) (enumW ws) where
  go := fun i w hw I1 H1 x1 x2 => by
    obtain ⟨u, hu, rfl⟩ := enumW_get hw
    obtain ⟨v, hv, rv⟩ := r.get hu
    have hq : SqT K H1 a vs := Evl.ex_t (x1.trans x2) h
    refine ⟨⟨vs, v, hq, hv⟩, fun x H2 y => ?_⟩
    obtain ⟨T, z, rfl, hT, rfl, q⟩ := y
    have := q vs hq
    rw [hv] at this
    cases this
    exact pair_new x2 hT (isInt.mpr rfl) (IsW.mono x1 rv)
  stop := fun I1 H1 x1 x2 => ⟨vs, Evl.ex_t (x1.trans x2) h, by rw [enumW_len, r.len]; exact Nat.le_refl _⟩
def fEnum (f : En → Option W) : En → Option (List W) := fun e => match f e with
  | some (.lst ws) => some (enumW ws)
  | some (.tup ws) => some (enumW ws)
  | some (.klst ws) => some (enumW ws)
  | _ => none
theorem qenum {a : Expr} {f : En → Option W} {p pos tpos : Pos} {elts : List Expr} {kk : Nat} (hg : Gl X "enumerate") (hm : X.mg "enumerate" = none) (ha : PE X a (tW X.K f)) (hs : starEach [a] X.env = [(false, eval a X.env)] := by rfl) :
    PI X (.Tuple elts kk tpos) (.Call (.Name "enumerate" p) [a] [] pos) (tI X.K (fEnum f)) :=
  pi_imp (or_iter (pi_enum hg hm (pa_cons ha pa_nil hs) hs) (pi_enumT hg hm (pa_cons ha pa_nil hs) hs)) fun σ H R ⟨I0, H0, I, e, ws, S, hf, k⟩ => by
    unfold fEnum at hf
    split at hf
    next us hw =>
      cases hf
      refine .inl ⟨I0, H0, I, e, _, S, hw, fun I1 H1 v x1 r => ?_⟩
      simp only [IsW] at r
      obtain ⟨p, vs, rfl, hp, r⟩ := r
      exact ⟨p, vs, rfl, sqL_of (x1.ih _ _ hp), k I1 H1 _ x1 (it_enumL (sqL_of hp) r)⟩
    next us hw =>
      cases hf
      refine .inr ⟨I0, H0, I, e, _, S, hw, fun I1 H1 v x1 r => ?_⟩
      simp only [IsW] at r
      obtain ⟨p, vs, rfl, hp, r⟩ := r
      exact ⟨p, vs, rfl, sqT_of (x1.ih _ _ hp), k I1 H1 _ x1 (it_enumT (sqT_of hp) r)⟩
    next us hw =>
      cases hf
      refine .inl ⟨I0, H0, I, e, _, S, hw, fun I1 H1 v x1 r => ?_⟩
      simp only [IsW] at r
      obtain ⟨p, vs, rfl, hp, r⟩ := r
      exact ⟨p, vs, rfl, Evl.ex_l x1.ih hp, k I1 H1 _ x1 (it_enumL hp r)⟩
    next => cases hf
def zipW (ws us : List W) : List W := List.zipWith (fun a b => .tup [a, b]) ws us
theorem zipW_get {ws us : List W} {i : Nat} {w : W} (h : (zipW ws us)[i]? = some w) : ∃ a b, ws[i]? = some a ∧ us[i]? = some b ∧ w = .tup [a, b] := by
  unfold zipW at h
  rw [List.getElem?_zipWith] at h
  split at h
  next a b h1 h2 => cases h; exact ⟨a, b, h1, h2, rfl⟩
  next => cases h
theorem it_zip {J : It} {ws us : List W} {vs xs : List V} (r : IsWs K I ws vs) (q : IsWs K I us xs) {PA PB : Hp → List V → Prop} (ha : ∀ H, Ex I H → PA H vs) (hb : ∀ H, Ex I H → PB H xs)
    (hgo : ∀ i H x y, PA H vs → PB H xs → vs[i]? = some x → xs[i]? = some y → J.go i H) (hy : ∀ i H v H', J.yld i H v H' → ∃ T x y, v = .ref T ∧ H T = none ∧ H' = upd H T (.tup [x, y]) ∧ (∀ zs, PA H zs → zs[i]? = some x) ∧ ∀ zs, PB H zs → zs[i]? = some y)
    (hst : ∀ i H, PA H vs → PB H xs → (vs.length ≤ i ∨ xs.length ≤ i) → J.stop i H) : ItW K I J (zipW ws us) where
  go := fun i w hw I1 H1 x1 x2 => by
    obtain ⟨a, b, h1, h2, rfl⟩ := zipW_get hw
    obtain ⟨x, hx, rx⟩ := r.get h1
    obtain ⟨y, hy', ry⟩ := q.get h2
    have A := ha H1 (x1.trans x2)
    have B := hb H1 (x1.trans x2)
    refine ⟨hgo i H1 x y A B hx hy', fun z H2 yy => ?_⟩
    obtain ⟨T, x', y', rfl, hT, rfl, q1, q2⟩ := hy i H1 z H2 yy
    have e1 := q1 vs A
    have e2 := q2 xs B
    rw [hx] at e1
    rw [hy'] at e2
    cases e1
    cases e2
    exact pair_new x2 hT (IsW.mono x1 rx) (IsW.mono x1 ry)
  stop := fun I1 H1 x1 x2 => hst _ H1 (ha H1 (x1.trans x2)) (hb H1 (x1.trans x2)) (by
    unfold zipW
    rw [List.length_zipWith, r.len, q.len]
    omega)
def seqOf : W → Option (Bool × List W)
  | .lst ws => some (true, ws)
  | .klst ws => some (true, ws)
  | .tup ws => some (false, ws)
  | _ => none
theorem seqL {w : W} {ws : List W} {v : V} (h : seqOf w = some (true, ws)) (r : IsW K I w v) : ∃ p vs, v = .ref p ∧ SqL K I p vs ∧ IsWs K I ws vs := by
  cases w <;> simp only [seqOf, Option.some.injEq, Prod.mk.injEq, reduceCtorEq, false_and] at h
  · obtain ⟨_, rfl⟩ := h
    simp only [IsW] at r
    obtain ⟨p, vs, rfl, hp, r⟩ := r
    exact ⟨p, vs, rfl, sqL_of hp, r⟩
  · obtain ⟨_, rfl⟩ := h
    simp only [IsW] at r
    exact r
theorem seqT {w : W} {ws : List W} {v : V} (h : seqOf w = some (false, ws)) (r : IsW K I w v) : ∃ p vs, v = .ref p ∧ SqT K I p vs ∧ IsWs K I ws vs := by
  cases w <;> simp only [seqOf, Option.some.injEq, Prod.mk.injEq, reduceCtorEq, false_and] at h
  obtain ⟨_, rfl⟩ := h
  simp only [IsW] at r
  obtain ⟨p, vs, h1, h2, h3⟩ := r
  exact ⟨p, vs, h1, sqT_of h2, h3⟩
def fZip (f g : En → Option W) : En → Option (List W) := fun e => match f e with
  | some a => (match g e with
    | some b => (match seqOf a with
      | some (true, ws) => (match seqOf b with
        | some (_, us) => some (zipW ws us)
        | none => none)
      | some (false, ws) => (match seqOf b with
        | some (false, us) => some (zipW ws us)
        | _ => none)
      | none => none)
    | none => none)
  | none => none
theorem qzip {a b : Expr} {f g : En → Option W} {p pos tpos : Pos} {elts : List Expr} {kk : Nat} (hg : Gl X "zip") (hm : X.mg "zip" = none) (ha : PE X a (tW X.K f)) (hb : PE X b (tW X.K g))
    (hs : starEach [a, b] X.env = (false, eval a X.env) :: starEach [b] X.env := by rfl) (hs2 : starEach [b] X.env = [(false, eval b X.env)] := by rfl)
    (hpl : (backTo pos (starEach [b] X.env)).any (·.1) = false := by rfl) :
    PI X (.Tuple elts kk tpos) (.Call (.Name "zip" p) [a, b] [] pos) (tI X.K (fZip f g)) :=
  pi_imp (or_iter (RZ.pi_zipA hg hm (pa_cons ha (pa_cons hb pa_nil hs2) hs) hs hpl) (pi_zipM hg hm (pa_cons ha (pa_cons hb pa_nil hs2) hs) hs hpl)) fun σ H R ⟨I0, H0, I, e, ws, S, hf, k⟩ => by
    unfold fZip at hf
    split at hf
    next wa hwa =>
      split at hf
      next wb hwb =>
        have use : ∀ (Q : List V → Hp → Prop), (∀ I2 H2 x y, Ext I H I2 H2 → IsW X.K I2 wa x → IsW X.K I2 wb y → Q [x, y] H2) → tCons (tW X.K f) (tCons (tW X.K g) tNil) σ H Q := fun Q q =>
          ⟨I0, H0, I, e, wa, S, hwa, fun I1 H1 x x1 r1 => ⟨I0, H0, I1, e, wb, S.mono x1, hwb, fun I2 H2 y x2 r2 => q I2 H2 x y (x1.trans x2) (IsW.mono x2.i r1) r2⟩⟩
        split at hf
        next us1 hq1 =>
          split at hf
          next bb us2 hq2 =>
            cases hf
            cases bb with
            | true =>
              refine .inl (use _ fun I2 H2 x y x2 r1 r2 => ?_)
              obtain ⟨p1, vs, rfl, s1, q1⟩ := seqL hq1 r1
              obtain ⟨p2, xs, rfl, s2, q2⟩ := seqL hq2 r2
              exact ⟨p1, p2, vs, xs, rfl, .inl ⟨Evl.ex_l x2.ih s1, Evl.ex_l x2.ih s2, k I2 H2 _ x2 (it_zip q1 q2 (PA := fun H zs => SqL X.K H p1 zs) (PB := fun H zs => SqL X.K H p2 zs) (fun H x => Evl.ex_l x s1) (fun H x => Evl.ex_l x s2) (fun i H x y a b c d => ⟨vs, xs, x, y, a, b, c, d⟩) (fun i H v H' y => y) (fun i H a b c => ⟨vs, xs, a, b, c⟩))⟩⟩
            | false =>
              refine .inr (use _ fun I2 H2 x y x2 r1 r2 => ?_)
              obtain ⟨p1, vs, rfl, s1, q1⟩ := seqL hq1 r1
              obtain ⟨p2, xs, rfl, s2, q2⟩ := seqT hq2 r2
              exact ⟨p1, p2, vs, xs, rfl, Evl.ex_l x2.ih s1, Evl.ex_t x2.ih s2, k I2 H2 _ x2 (it_zip q1 q2 (PA := fun H zs => SqL X.K H p1 zs) (PB := fun H zs => SqT X.K H p2 zs) (fun H x => Evl.ex_l x s1) (fun H x => Evl.ex_t x s2) (fun i H x y a b c d => ⟨vs, xs, x, y, a, b, c, d⟩) (fun i H v H' y => y) (fun i H a b c => ⟨vs, xs, a, b, c⟩))⟩
          next => cases hf
        next us1 hq1 =>
          split at hf
          next us2 hq2 =>
            cases hf
            refine .inl (use _ fun I2 H2 x y x2 r1 r2 => ?_)
            obtain ⟨p1, vs, rfl, s1, q1⟩ := seqT hq1 r1
            obtain ⟨p2, xs, rfl, s2, q2⟩ := seqT hq2 r2
            exact ⟨p1, p2, vs, xs, rfl, .inr ⟨Evl.ex_t x2.ih s1, Evl.ex_t x2.ih s2, k I2 H2 _ x2 (it_zip q1 q2 (PA := fun H zs => SqT X.K H p1 zs) (PB := fun H zs => SqT X.K H p2 zs) (fun H x => Evl.ex_t x s1) (fun H x => Evl.ex_t x s2) (fun i H x y a b c d => ⟨vs, xs, x, y, a, b, c, d⟩) (fun i H v H' y => y) (fun i H a b c => ⟨vs, xs, a, b, c⟩))⟩⟩
          next => cases hf
        next => cases hf
      next => cases hf
    next => cases hf
/-! ### list(range(..)) -/
theorem rg_ws {lo hi : Int} : IsWs K I (rngW lo (hi - lo).toNat) (rgV lo hi) := by
  have e : rngW lo (hi - lo).toNat = ((List.range (hi - lo).toNat).map fun i => lo + (i : Nat)).map W.int := by
    unfold rngW
    rw [List.map_map]
    rfl
  have e2 : rgV lo hi = ((List.range (hi - lo).toNat).map fun i => lo + (i : Nat)).map V.int := by
    unfold rgV
    rw [List.map_map]
    rfl
  rw [e, e2]
  exact IsWs.ofInts
def fLRg1 (f : En → Option W) : En → Option SV := fun e => match f e with
  | some (.int n) => if -1000000 ≤ n ∧ n ≤ 16777216 then some (.own (.lst (rngW 0 (n - 0).toNat))) else none
  | _ => none
def fLRg2 (f g : En → Option W) : En → Option SV := fun e => match f e with
  | some (.int m) => (match g e with
    | some (.int n) => if (n - m ≤ 16777216 ∧ -1000000 ≤ m ∧ m ≤ 20000000) ∧ -1000000 ≤ n ∧ n ≤ 20000000 then some (.own (.lst (rngW m (n - m).toNat))) else none
    | _ => none)
  | _ => none
theorem lrg_use {a b : Int} {Q : VK} {I H I1 H1 : Hp} (x1 : Ext I H I1 H1) (k : ∀ I' H' v, Ext I H I' H' → Res K I' H' H (.own (.lst (rngW a (b - a).toNat))) v → Q v H') : ∀ q, H1 q = none → Q (.ref q) (upd H1 q (.lst (rgV a b))) := fun q hq =>
  k _ _ _ (x1.newOwn hq) ⟨q, rfl, Evl.fresh_back x1.ih hq, Evl.fresh_back x1.h hq, _, upd_same, rg_ws⟩
theorem qlrg1 {a : Expr} {f : En → Option W} {p pos rp rpos : Pos} (hc : X.calm = true) (hg : Gl X "list") (hm : X.mg "list" = none) (hg2 : Gl X "range") (hm2 : X.mg "range" = none) (ha : PE X a (tW X.K f)) (na : starEach [a] X.env = (false, eval a X.env) :: starEach [] X.env := by rfl)
    (na2 : starEach [.Call (.Name "range" rp) [a] [] rpos] X.env = (false, eval (.Call (.Name "range" rp) [a] [] rpos) X.env) :: starEach [] X.env := by rfl) :
    PE X (.Call (.Name "list" p) [.Call (.Name "range" rp) [a] [] rpos] [] pos) (tR X.K (fLRg1 f)) := pe_imp (pe_listRg hc hg hm (prg_1 hg2 hm2 ha na) na2) fun σ H Q ⟨I0, H0, I, e, w, S, hf, k⟩ => by
  unfold fLRg1 at hf
  split at hf
  next n hn =>
    split at hf
    next hz =>
      cases hf
      refine ⟨I0, H0, I, e, _, S, hn, fun I1 H1 v x1 r => ?_⟩
      rw [isInt] at r
      exact ⟨n, r, ⟨by omega, by omega, by omega, by omega, by omega⟩, lrg_use x1 k⟩
    next => cases hf
  next => cases hf
theorem qlrg2 {a b : Expr} {f g : En → Option W} {p pos rp rpos : Pos} (hc : X.calm = true) (hg : Gl X "list") (hm : X.mg "list" = none) (hg2 : Gl X "range") (hm2 : X.mg "range" = none) (ha : PE X a (tW X.K f)) (hb : PE X b (tW X.K g)) (na : starEach [a, b] X.env = (false, eval a X.env) :: starEach [b] X.env := by rfl)
    (nb : starEach [b] X.env = (false, eval b X.env) :: starEach [] X.env := by rfl) (hp : (backTo rpos (starEach [b] X.env)).any (·.1) = false := by rfl)
    (na2 : starEach [.Call (.Name "range" rp) [a, b] [] rpos] X.env = (false, eval (.Call (.Name "range" rp) [a, b] [] rpos) X.env) :: starEach [] X.env := by rfl) :
    PE X (.Call (.Name "list" p) [.Call (.Name "range" rp) [a, b] [] rpos] [] pos) (tR X.K (fLRg2 f g)) := pe_imp (pe_listRg hc hg hm (prg_2 hg2 hm2 ha hb na nb hp) na2) fun σ H Q ⟨I0, H0, I, e, w, S, hf, k⟩ => by
  unfold fLRg2 at hf
  split at hf
  next m hm' =>
    split at hf
    next n hn =>
      split at hf
      next hz =>
        cases hf
        refine ⟨I0, H0, I, e, _, S, hm', fun I1 H1 v x1 r => ⟨I0, H0, I1, e, _, S.mono x1, hn, fun I2 H2 u x2 r2 => ?_⟩⟩
        rw [isInt] at r r2
        exact ⟨m, n, r, r2, ⟨by omega, by omega, by omega, by omega, by omega⟩, lrg_use (x1.trans x2) k⟩
      next => cases hf
    next => cases hf
  next => cases hf
/-! ### reversed -/
def fRev (f : En → Option W) : En → Option (List W) := fun e => match f e with
  | some a => (match seqOf a with
    | some (_, ws) => some ws.reverse
    | none => none)
  | none => none
theorem it_rev {J : It} {vs : List V} {ws : List W} (r : IsWs K I ws vs) {PA : Hp → List V → Prop} (ha : ∀ H, Ex I H → PA H vs) (hgo : ∀ i H x, PA H vs → i < vs.length → vs[vs.length - 1 - i]? = some x → J.go i H)
    (hy : ∀ i H v H', J.yld i H v H' → H' = H ∧ ∀ zs, PA H zs → zs[vs.length - 1 - i]? = some v) (hst : ∀ i H, vs.length ≤ i → J.stop i H) : ItW K I J ws.reverse where
  go := fun i w hw I1 H1 x1 x2 => by
    have hi : i < ws.length := by simpa using (List.getElem?_eq_some_iff.mp hw).1
    rw [List.getElem?_reverse hi, r.len] at hw
    obtain ⟨v, hv, rv⟩ := r.get hw
    have A := ha H1 (x1.trans x2)
    refine ⟨hgo i H1 v A (by rw [← r.len]; exact hi) hv, fun x H2 y => ?_⟩
    obtain ⟨rfl, q⟩ := hy i H1 x H2 y
    have := q vs A
    rw [hv] at this
    cases this
    exact ⟨I1, Ext.refl x2, IsW.mono x1 rv⟩
  stop := fun I1 H1 x1 x2 => hst _ _ (by rw [List.length_reverse, r.len]; exact Nat.le_refl _)
theorem qrev {tg a : Expr} {f : En → Option W} {p pos : Pos} (hg : Gl X "reversed") (hm : X.mg "reversed" = none) (ha : PE X a (tW X.K f)) (hs : starEach [a] X.env = (false, eval a X.env) :: starEach [] X.env := by rfl) :
    PI X tg (.Call (.Name "reversed" p) [a] [] pos) (tI X.K (fRev f)) := pi_imp (RT.pi_revA hg hm ha hs) fun σ H R ⟨I0, H0, I, e, ws, S, hf, k⟩ => by
  unfold fRev at hf
  split at hf
  next w hw =>
    split at hf
    next bb us hq =>
      cases hf
      refine ⟨I0, H0, I, e, w, S, hw, fun I1 H1 v x1 r => ?_⟩
      cases bb with
      | true =>
        obtain ⟨p, vs, rfl, s1, q1⟩ := seqL hq r
        exact ⟨p, vs, rfl, .inl ⟨Evl.ex_l x1.ih s1, k I1 H1 _ x1 (it_rev q1 (PA := fun H zs => SqL X.K H p zs) (fun H x => Evl.ex_l x s1) (fun i H x a b c => ⟨b, vs, x, a, c⟩) (fun i H v H' y => y) (fun i H h => h))⟩⟩
      | false =>
        obtain ⟨p, vs, rfl, s1, q1⟩ := seqT hq r
        exact ⟨p, vs, rfl, .inr ⟨Evl.ex_t x1.ih s1, k I1 H1 _ x1 (it_rev q1 (PA := fun H zs => SqT X.K H p zs) (fun H x => Evl.ex_t x s1) (fun i H x a b c => ⟨b, vs, x, a, c⟩) (fun i H v H' y => y) (fun i H h => h))⟩⟩
    next => cases hf
  next => cases hf
/-- n - 1, .., 0 -/
def fRevR (f : En → Option W) : En → Option (List W) := fun e => match f e with
  | some (.int n) => if inR n = true then some ((rngW 0 n.toNat).reverse) else none
  | _ => none
theorem qrevR {tg a : Expr} {f : En → Option W} {p pos rp rpos : Pos} (hg : Gl X "reversed") (hm : X.mg "reversed" = none) (hg2 : Gl X "range") (hm2 : X.mg "range" = none) (ha : PE X a (tW X.K f)) (na : starEach [a] X.env = (false, eval a X.env) :: starEach [] X.env := by rfl)
    (na2 : starEach [.Call (.Name "range" rp) [a] [] rpos] X.env = (false, eval (.Call (.Name "range" rp) [a] [] rpos) X.env) :: starEach [] X.env := by rfl) :
    PI X tg (.Call (.Name "reversed" p) [.Call (.Name "range" rp) [a] [] rpos] [] pos) (tI X.K (fRevR f)) := pi_imp (pi_revR hg hm (prg_1 hg2 hm2 ha na) na2) fun σ H R ⟨I0, H0, I, e, ws, S, hf, k⟩ => by
  unfold fRevR at hf
  split at hf
  next n hn =>
    split at hf
    next hz =>
      cases hf
      have hz' := of_decide_eq_true hz
      refine ⟨I0, H0, I, e, _, S, hn, fun I1 H1 v x1 r => ?_⟩
      rw [isInt] at r
      refine ⟨n, r, by omega, by omega, hz'.1, hz'.2, k I1 H1 _ x1 ⟨fun i w hw I2 H2 y1 y2 => ?_, fun I2 H2 y1 y2 => ?_⟩⟩
      · have hi : i < n.toNat := by simpa [rngW] using (List.getElem?_eq_some_iff.mp hw).1
        rw [List.getElem?_reverse (by simpa [rngW] using hi)] at hw
        obtain ⟨h1, rfl⟩ := rngW_get hw
        refine ⟨?_, fun x H3 y => ?_⟩
        · show i < (n - 0).toNat
          omega
        · obtain ⟨rfl, rfl⟩ := y
          refine ⟨I2, Ext.refl y2, isInt.mpr ?_⟩
          rw [rngW_len]
          congr 1
          omega
      · show (n - 0).toNat ≤ _
        simp [rngW]
    next => cases hf
  next => cases hf
end Qw
namespace Qw
open PySem PySem.Spec PyProof.Rows L2 Nz
open Evl (Ex)
variable {X : Cx} {K : PySem.W.Frag} {I I' I1 I2 H H' H1 H2 I0 H0 : Hp} {e : En} {σ : L2.St}
/-! ### permutations, combinations -/
def pickW (ws : List W) (L : List (List Nat)) : List W := L.map fun ks => .tup (ks.map fun k => ws.getD k .non)
theorem isWs_pick {ws : List W} {vs : List V} (r : IsWs K I ws vs) : ∀ {ks : List Nat}, (∀ k ∈ ks, k < ws.length) → IsWs K I (ks.map fun k => ws.getD k .non) (ks.map fun k => vs.getD k .non)
  | [], _ => IsWs.nil
  | k :: ks, h => by
    have hk := h k List.mem_cons_self
    obtain ⟨v, hv, q⟩ := r.get (List.getElem?_eq_getElem hk)
    refine IsWs.cons ?_ (isWs_pick r fun j hj => h j (List.mem_cons_of_mem _ hj))
    show IsW K I (ws.getD k .non) (vs.getD k .non)
    rw [List.getD_eq_getElem?_getD, List.getD_eq_getElem?_getD, hv, List.getElem?_eq_getElem hk]
    exact q
theorem it_pick {vs : List V} {ws : List W} {L : List (List Nat)} (r : IsWs K I ws vs) (hL : ∀ ks ∈ L, ∀ k ∈ ks, k < ws.length) : ItW K I (ItP vs L) (pickW ws L) where
  go := fun i w hw I1 H1 x1 x2 => by
    unfold pickW at hw
    rw [List.getElem?_map] at hw
    cases q : L[i]? with
    | none => rw [q] at hw; cases hw
    | some ks =>
      rw [q] at hw
      cases hw
      refine ⟨(List.getElem?_eq_some_iff.mp q).1, fun x H2 y => ?_⟩
      obtain ⟨T, ks', rfl, hT, h2, rfl⟩ := y
      rw [q] at h2
      cases h2
      refine ⟨upd I1 T (.tup (ks.map fun k => vs.getD k .non)), (Ext.refl x2).new hT, ?_⟩
      simp only [IsW]
      exact ⟨T, _, rfl, upd_same, ((isWs_pick r (hL ks (List.mem_of_getElem? q))).mono x1).mono (Ex.new (Evl.fresh_back x2 hT))⟩
  stop := fun I1 H1 x1 x2 => by
    show L.length ≤ _
    simp [pickW]
theorem perms_lt (n : Nat) : ∀ (r : Nat), ∀ ks ∈ permsL n r, ∀ k ∈ ks, k < n
  | 0, ks, h, k, hk => by
    simp only [permsL, List.mem_singleton] at h
    subst h
    simp at hk
  | r + 1, ks, h, k, hk => by
    simp only [permsL, List.mem_flatMap, List.mem_map, List.mem_filter, List.mem_range] at h
    obtain ⟨c, hc, p, ⟨hp, _⟩, rfl⟩ := h
    rcases List.mem_append.mp hk with z | z
    · exact perms_lt n r c hc k z
    · rw [List.mem_singleton.mp z]
      exact hp
theorem combs_lt (n : Nat) : ∀ (r : Nat), ∀ ks ∈ combsL n r, ∀ k ∈ ks, k < n
  | 0, ks, h, k, hk => by
    simp only [combsL, List.mem_singleton] at h
    subst h
    simp at hk
  | r + 1, ks, h, k, hk => by
    simp only [combsL, List.mem_flatMap, List.mem_map, List.mem_filter, List.mem_range] at h
    obtain ⟨c, hc, p, ⟨hp, _⟩, rfl⟩ := h
    rcases List.mem_append.mp hk with z | z
    · exact combs_lt n r c hc k z
    · rw [List.mem_singleton.mp z]
      exact hp
abbrev rR1 : List V → Hp → VK → Prop := fun vs H Q => ∃ j, vs = [V.int j] ∧ ∀ p, H p = none → Q (.ref p) (upd H p (.rng 0 j))
def fPm (f g : En → Option W) : En → Option (List W) := fun e => match f e with
  | some (.int n) => (match g e with
    | some (.int r) => if (0 ≤ r ∧ n ≤ 8 ∧ -1000 ≤ n ∧ r ≤ 4) ∨ (n = r ∧ 0 ≤ n ∧ n ≤ 6) then some (pickW (rngW 0 n.toNat) (permsL n.toNat r.toNat)) else none
    | _ => none)
  | _ => none
def fCb (f g : En → Option W) : En → Option (List W) := fun e => match f e with
  | some (.int n) => (match g e with
    | some (.int r) => if 0 ≤ r ∧ n ≤ 8 ∧ -1000 ≤ n ∧ r ≤ 4 then some (pickW (rngW 0 n.toNat) (combsL n.toNat r.toNat)) else none
    | _ => none)
  | _ => none
theorem rng_arg {f : En → Option W} {n : Int} {R : V → Hp → Prop} (S : Sat K I0 H0 I e σ H) (hf : f e = some (.int n)) (k : ∀ I1 H1 p, Ext I H I1 H1 → H1 p = some (.rng 0 n) → R (.ref p) H1) : tCB rR1 (tCons (tW K f) tNil) σ H R :=
  ⟨I0, H0, I, e, _, S, hf, fun I1 H1 v x1 r1 => ⟨n, by rw [isInt] at r1; rw [r1], fun p hp => k I1 _ p (x1.newOwn hp) upd_same⟩⟩
theorem qpm {nm : Str} {tg a b : Expr} {f g : En → Option W} {p pos rp rpos : Pos} (hc : X.calm = true) (hg : Gl X nm) (hm : X.mg nm = some (.type "itertools.permutations"))
    (hr : PE X (.Call (.Name "range" rp) [a] [] rpos) (tCB rR1 (tCons (tW X.K f) tNil))) (hb : PE X b (tW X.K g)) (hd : (nm == ("__debug__" : Str)) = false := by decide)
    (hs : starEach [.Call (.Name "range" rp) [a] [] rpos, b] X.env = (false, eval (.Call (.Name "range" rp) [a] [] rpos) X.env) :: starEach [b] X.env := by rfl) (hs2 : starEach [b] X.env = (false, eval b X.env) :: starEach [] X.env := by rfl) (hp : (backTo pos (starEach [b] X.env)).any (·.1) = false := by rfl) :
    PI X tg (.Call (.Name nm p) [.Call (.Name "range" rp) [a] [] rpos, b] [] pos) (tI X.K (fPm f g)) := pi_imp (pi_pm hc hg hm (pa_cons hr (pa_cons hb pa_nil hs2) hs) hd hs hp) fun σ H R ⟨I0, H0, I, e, ws, S, hf, k⟩ => by
  unfold fPm at hf
  split at hf
  next n hn =>
    split at hf
    next r hr' =>
      split at hf
      next hz =>
        cases hf
        refine rng_arg S hn fun I1 H1 p x1 hp => ⟨I0, H0, I1, e, _, S.mono x1, hr', fun I2 H2 v x2 r2 => ?_⟩
        rw [isInt] at r2
        refine ⟨p, r.toNat, 0, n, permsL n.toNat r.toNat, ?_, by omega, x2.h _ _ hp, by omega, by omega, by omega, by omega, by omega, ?_, ?_⟩
        · rw [r2, show ((r.toNat : Nat) : Int) = r by omega]
        · rw [Int.sub_zero]
          rcases hz with ⟨z1, z2, z3, z4⟩ | ⟨rfl, z1, z2⟩
          · exact permsOf_few (by omega) (by omega)
          · exact permsOf_full (by omega)
        · have hrg : IsWs X.K I2 (rngW 0 n.toNat) (rgV 0 n) := by
            have := rg_ws (K := X.K) (I := I2) (lo := 0) (hi := n)
            rw [Int.sub_zero] at this
            exact this
          exact k I2 H2 _ (x1.trans x2) (it_pick hrg fun ks hks j hj => by rw [rngW_len]; exact perms_lt _ _ ks hks j hj)
      next => cases hf
    next => cases hf
  next => cases hf
theorem qcb {nm : Str} {tg a b : Expr} {f g : En → Option W} {p pos rp rpos : Pos} (hc : X.calm = true) (hg : Gl X nm) (hm : X.mg nm = some (.type "itertools.combinations"))
    (hr : PE X (.Call (.Name "range" rp) [a] [] rpos) (tCB rR1 (tCons (tW X.K f) tNil))) (hb : PE X b (tW X.K g)) (hd : (nm == ("__debug__" : Str)) = false := by decide)
    (hs : starEach [.Call (.Name "range" rp) [a] [] rpos, b] X.env = (false, eval (.Call (.Name "range" rp) [a] [] rpos) X.env) :: starEach [b] X.env := by rfl) (hs2 : starEach [b] X.env = (false, eval b X.env) :: starEach [] X.env := by rfl) (hp : (backTo pos (starEach [b] X.env)).any (·.1) = false := by rfl) :
    PI X tg (.Call (.Name nm p) [.Call (.Name "range" rp) [a] [] rpos, b] [] pos) (tI X.K (fCb f g)) := pi_imp (pi_cb hc hg hm (pa_cons hr (pa_cons hb pa_nil hs2) hs) hd hs hp) fun σ H R ⟨I0, H0, I, e, ws, S, hf, k⟩ => by
  unfold fCb at hf
  split at hf
  next n hn =>
    split at hf
    next r hr' =>
      split at hf
      next hz =>
        cases hf
        refine rng_arg S hn fun I1 H1 p x1 hp => ⟨I0, H0, I1, e, _, S.mono x1, hr', fun I2 H2 v x2 r2 => ?_⟩
        rw [isInt] at r2
        refine ⟨p, r.toNat, 0, n, combsL n.toNat r.toNat, ?_, by omega, x2.h _ _ hp, by omega, by omega, by omega, by omega, by omega, ?_, ?_⟩
        · rw [r2, show ((r.toNat : Nat) : Int) = r by omega]
        · rw [Int.sub_zero]
          exact combsOf_few (by omega) (by omega)
        · have hrg : IsWs X.K I2 (rngW 0 n.toNat) (rgV 0 n) := by
            have := rg_ws (K := X.K) (I := I2) (lo := 0) (hi := n)
            rw [Int.sub_zero] at this
            exact this
          exact k I2 H2 _ (x1.trans x2) (it_pick hrg fun ks hks j hj => by rw [rngW_len]; exact combs_lt _ _ ks hks j hj)
      next => cases hf
    next => cases hf
  next => cases hf
/-- permutations(range(n)) -/
def iPm1 (te : TE) : TI := fun σ H R => te σ H fun v H1 => ∃ (a : Addr) (lo hi : Int) (L : List (List Nat)), v = .ref a ∧ H1 a = some (.rng lo hi) ∧ -(2 ^ 62) ≤ lo ∧ lo < 2 ^ 62 ∧ -(2 ^ 62) ≤ hi ∧ hi < 2 ^ 62 ∧ (hi - lo).toNat ≤ 100 ∧
  PermsOf (hi - lo).toNat (hi - lo).toNat L ∧ R (ItP (rgV lo hi) L) H1
theorem pi_pm1 {nm : Str} {ex : Expr} {te : TE} {p pos : Pos} {tg : Expr} (hc : X.calm = true) (hg : Gl X nm) (hm : X.mg nm = some (.type "itertools.permutations")) (he : PE X ex te)
    (hd : (nm == ("__debug__" : Str)) = false := by decide) (n1 : starEach [ex] X.env = (false, eval ex X.env) :: starEach [] X.env := by rfl) :
    PI X tg (.Call (.Name nm p) [ex] [] pos) (iPm1 te) := by
  constructor
  intro pins s σ H R I h
  refine Call_ (ld_glob I hg hm (PyProof.Rows.callWith_type1 (one_arg he I h (fun u s1 x H1 I1 rx q => ?_) n1) n1) hd)
  obtain ⟨a, lo, hi, L, rfl, hrg, b1, b2, b3, b4, bn, hL, q⟩ := q
  obtain rfl : u = Value.ref a := rx
  have ho : ObjOk X.prog X.w H1 s1.heap a (.rng lo hi) := I1.hok a _ hrg
  obtain ⟨t, u, v, hra⟩ := ho
  refine call_pm1 fun E' => collect_range (n := (hi - lo).toNat) (a := lo) (b := hi) (c := 1) (t := t) (u := u) (v := v) (I1.ok.hd hc) hra (small_one b1 b2 b3 b4) (rangeSize_nat lo hi) (by omega) fun h1 tk acc hk hi1 => ?_
  have rv := vals_rg hi1
  have ln : acc.toList.length = (hi - lo).toNat := by rw [← rv.length, rgV_length]
  refine ⟨by omega, fun h2 it hit hraw hpool hk2 => ?_⟩
  have I2 : Inv X pins σ H1 { s1 with heap := h2, toks := tk } := I1.kept (t' := tk) fun b o e => hk2 b o (hk b o e)
  obtain ⟨op, cnt, hop, hoc, hod⟩ := hpool
  have pl : PoolAt h2 h1.objs.size acc.toList := ⟨op, cnt, hop, hoc, hod⟩
  have I1' : Inv X pins σ H1 { s1 with heap := h1, toks := tk } := I1.kept (t' := tk) hk
  have itn : it = h1.objs.size + 1 := hit
  have ne : h1.objs.size ≠ it := by omega
  have fps : ∀ b ∈ [it, h1.objs.size], FpOk X pins H1 b := fun b hb => by
    have le : h1.objs.size ≤ b := by
      rcases (show b = it ∨ b = h1.objs.size by simpa using hb) with rfl | rfl
      · omega
      · exact Nat.le_refl _
    exact I1'.fpOk le (I1'.hok.fresh le)
  rcases hL with ⟨hle, tl, rfl, hR⟩ | ⟨hlt, rfl⟩
  · rw [ln, rawP_le hle] at hraw
    refine self_pm hraw ⟨it, [it, h1.objs.size], _, _, H1, rfl, I2, turn_pm it h1.objs.size rv (by omega) ne, ⟨⟨0, _, _, hraw, .inl ⟨rfl, ?_, tl, rfl, by rw [ln]; exact hR⟩⟩, pl⟩, fps, q⟩
    unfold startP
    simp only [List.length_append, List.length_map, List.length_range]
    omega
  · omega
def fPm1 (f : En → Option W) : En → Option (List W) := fun e => match f e with
  | some (.int n) => if 0 ≤ n ∧ n ≤ 6 then some (pickW (rngW 0 n.toNat) (permsL n.toNat n.toNat)) else none
  | _ => none
theorem qpm1 {nm : Str} {tg a : Expr} {f : En → Option W} {p pos rp rpos : Pos} (hc : X.calm = true) (hg : Gl X nm) (hm : X.mg nm = some (.type "itertools.permutations"))
    (hr : PE X (.Call (.Name "range" rp) [a] [] rpos) (tCB rR1 (tCons (tW X.K f) tNil))) (hd : (nm == ("__debug__" : Str)) = false := by decide)
    (hs : starEach [.Call (.Name "range" rp) [a] [] rpos] X.env = (false, eval (.Call (.Name "range" rp) [a] [] rpos) X.env) :: starEach [] X.env := by rfl) :
    PI X tg (.Call (.Name nm p) [.Call (.Name "range" rp) [a] [] rpos] [] pos) (tI X.K (fPm1 f)) := pi_imp (pi_pm1 hc hg hm hr hd hs) fun σ H R ⟨I0, H0, I, e, ws, S, hf, k⟩ => by
  unfold fPm1 at hf
  split at hf
  next n hn =>
    split at hf
    next hz =>
      cases hf
      refine rng_arg S hn fun I1 H1 p x1 hp => ?_
      refine ⟨p, 0, n, permsL n.toNat n.toNat, rfl, hp, by omega, by omega, by omega, by omega, by omega, ?_, ?_⟩
      · rw [Int.sub_zero]
        exact permsOf_full (by omega)
      · have hrg : IsWs X.K I1 (rngW 0 n.toNat) (rgV 0 n) := by
          have := rg_ws (K := X.K) (I := I1) (lo := 0) (hi := n)
          rw [Int.sub_zero] at this
          exact this
        exact k I1 H1 _ x1 (it_pick hrg fun ks hks j hj => by rw [rngW_len]; exact perms_lt _ _ ks hks j hj)
    next => cases hf
  next => cases hf
/-- list(permutations(xs)) -/
def fLPm (f : En → Option W) : En → Option SV := fun e => match f e with
  | some a => (match seqOf a with
    | some (_, ws) => if ws.length ≤ 6 then some (.own (.lst (pickW ws (permsL ws.length ws.length)))) else none
    | none => none)
  | none => none
theorem perms_small : ∀ n, n < 7 → (permsL n n).length ≤ 100000 := by decide +kernel
theorem qlpm {nm : Str} {a : Expr} {f : En → Option W} {p1 p2 q1 q2 : Pos} (hc : X.calm = true) (hgl : Gl X "list") (hml : X.mg "list" = none) (hg : Gl X nm) (hm : X.mg nm = some (.type "itertools.permutations")) (he : PE X a (tW X.K f))
    (hd : (nm == ("__debug__" : Str)) = false := by decide) (n1 : starEach [a] X.env = (false, eval a X.env) :: starEach [] X.env := by rfl)
    (n2 : starEach [.Call (.Name nm p2) [a] [] q2] X.env = (false, eval (.Call (.Name nm p2) [a] [] q2) X.env) :: starEach [] X.env := by rfl) :
    PE X (.Call (.Name "list" p1) [.Call (.Name nm p2) [a] [] q2] [] q1) (tR X.K (fLPm f)) := pe_imp (pe_listPm hc hgl hml hg hm he hd n1 n2) fun σ H Q ⟨I0, H0, I, e, sv, S, hf, k⟩ => by
  unfold fLPm at hf
  split at hf
  next w hw =>
    split at hf
    next bb ws hq =>
      split at hf
      next hz =>
        cases hf
        refine ⟨I0, H0, I, e, w, S, hw, fun I1 H1 v x1 r => ?_⟩
        obtain ⟨p, vs, rfl, s1, q1⟩ : ∃ p vs, v = .ref p ∧ (SqL X.K I1 p vs ∨ SqT X.K I1 p vs) ∧ IsWs X.K I1 ws vs := by
          cases bb with
          | true => obtain ⟨p, vs, h1, h2, h3⟩ := seqL hq r; exact ⟨p, vs, h1, .inl h2, h3⟩
          | false => obtain ⟨p, vs, h1, h2, h3⟩ := seqT hq r; exact ⟨p, vs, h1, .inr h2, h3⟩
        have hl := q1.len
        refine ⟨p, vs, permsL vs.length vs.length, rfl, s1.imp (Evl.ex_l x1.ih) (Evl.ex_t x1.ih), by omega, permsOf_full (by omega), perms_small _ (by omega), fun qs l H' sm hl0 hl1 pr => ?_⟩
        have exh : Ex H1 H' := fun b o z => sm b o z
        have hll : H' l = some (.lst (qs.map V.ref)) := hl1
        have new : ∀ q ∈ qs, H1 q = none := fun q hq => let ⟨_, _, z, _⟩ := paired_at pr q hq; z
        have tup : ∀ q ∈ qs, ∃ us, H' q = some (.tup us) := fun q hq => let ⟨_, _, _, z⟩ := paired_at pr q hq; ⟨_, z⟩
        have lno : l ∉ qs := fun z => by obtain ⟨us, h⟩ := tup l z; rw [hll] at h; cases h
        have hl' : I1 l = none := Evl.fresh_back x1.ih hl0
        have ex2 : Ext I H (fun b => if b ∈ qs then H' b else I1 b) H' := by
          refine ⟨x1.h.trans exh, fun b o z => ?_, fun b o z => ?_, fun b z => ?_⟩
          · have z1 := x1.i b o z
            show (if b ∈ qs then H' b else I1 b) = some o
            by_cases hb : b ∈ qs
            · rw [if_pos hb]; exact exh _ _ (x1.ih _ _ z1)
            · rw [if_neg hb]; exact z1
          · have z' : (if b ∈ qs then H' b else I1 b) = some o := z
            by_cases hb : b ∈ qs
            · rw [if_pos hb] at z'; exact z'
            · rw [if_neg hb] at z'; exact exh _ _ (x1.ih _ _ z')
          · show (if b ∈ qs then H' b else I1 b) = I b
            have z1 := ne_some x1.h z
            rw [if_neg fun hb => z1 (new b hb)]
            exact x1.k b z
        have i12 : Ex I1 (fun b => if b ∈ qs then H' b else I1 b) := fun b o z => by
          show (if b ∈ qs then H' b else I1 b) = some o
          by_cases hb : b ∈ qs
          · rw [if_pos hb]; exact exh _ _ (x1.ih _ _ z)
          · rw [if_neg hb]; exact z
        refine k _ H' _ ex2 ⟨l, rfl, (by show (if l ∈ qs then H' l else I1 l) = none; rw [if_neg lno]; exact hl'), Evl.fresh_back x1.h hl0, qs.map V.ref, hll, ?_⟩
        have lt : ∀ ks ∈ permsL vs.length vs.length, ∀ j ∈ ks, j < ws.length := fun ks hk j hj => by rw [q1.len]; exact perms_lt _ _ ks hk j hj
        rw [q1.len]
        have q2 := q1.mono i12
        have : ∀ {L : List (List Nat)} {rs : List Addr}, Paired (fun (m : List Nat) (q : Addr) => H1 q = none ∧ H' q = some (.tup (m.map fun k => vs.getD k .non))) L rs → (∀ ks ∈ L, ∀ j ∈ ks, j < ws.length) → (∀ r ∈ rs, r ∈ qs) →
            IsWs X.K (fun b => if b ∈ qs then H' b else I1 b) (pickW ws L) (rs.map V.ref) := fun {L rs} p => by
          induction p with
          | nil => exact fun _ _ => IsWs.nil
          | @cons m r L rs h1 _ ih =>
            intro hj hr
            have hrq := hr r List.mem_cons_self
            refine IsWs.cons ?_ (ih (fun ks hk => hj ks (List.mem_cons_of_mem _ hk)) fun y hy => hr y (List.mem_cons_of_mem _ hy))
            simp only [IsW]
            refine ⟨r, _, rfl, ?_, isWs_pick q2 (hj m List.mem_cons_self)⟩
            show (if r ∈ qs then H' r else I1 r) = _
            rw [if_pos hrq]
            exact h1.2
        exact this pr lt fun r h => h
      next => cases hf
    next => cases hf
  next => cases hf
end Qw
namespace Qw
open PySem PySem.Spec PyProof.Rows L2 Nz
open Evl (Ex)
variable {T : TQ} {X : Cx} {K : PySem.W.Frag} {I I' I1 I2 H H' H1 H2 I0 H0 : Hp} {e : En} {σ : L2.St}
/-! ### rows of ints -/
def intsW : List W → Option (List Int)
  | [] => some []
  | .int i :: ws => (match intsW ws with
    | some is => some (i :: is)
    | none => none)
  | _ :: _ => none
theorem intsW_is : ∀ {ws : List W} {is : List Int}, intsW ws = some is → ws = is.map W.int
  | [], is, h => by cases h; rfl
  | w :: ws, is, h => by
    cases w <;> simp only [intsW] at h <;> try (cases h; done)
    split at h
    next js hj => cases h; rw [intsW_is hj]; rfl
    next => cases h
theorem intsW_map : ∀ {is : List Int}, intsW (is.map W.int) = some is
  | [] => rfl
  | i :: is => by simp only [List.map_cons, intsW]; rw [intsW_map]
/-- a list of ints, its values -/
theorem list_ints {w : W} {ws : List W} {is : List Int} {v : V} (hs : w = .lst ws ∨ w = .klst ws) (hi : intsW ws = some is) (r : IsW K I w v) : ∃ p, v = .ref p ∧ SqL K I p (is.map V.int) := by
  rw [intsW_is hi] at hs
  rcases hs with rfl | rfl
  · simp only [IsW] at r
    obtain ⟨p, vs, rfl, h, q⟩ := r
    rw [q.ints] at h
    exact ⟨p, rfl, sqL_of h⟩
  · simp only [IsW] at r
    obtain ⟨p, vs, rfl, h, q⟩ := r
    rw [q.ints] at h
    exact ⟨p, rfl, h⟩
def sumW : List W → Option W
  | [.lst ws] => (match intsW ws with
    | some is => some (.int is.sum)
    | none => none)
  | _ => none
theorem cv_sum : CalV K (rSum K) sumW := by
  intro I H ws vs w Q ex r ho k
  unfold sumW at ho
  split at ho
  · split at ho
    next us is hi =>
      cases ho
      obtain ⟨v, r', rfl, h1, h2⟩ := one r
      rw [isNil h2]
      obtain ⟨p, rfl, hp⟩ := list_ints (.inl rfl) hi h1
      exact ⟨p, is, rfl, Evl.ex_l ex hp, k _ _ _ (Ext.refl ex) (isInt.mpr rfl)⟩
    next => cases ho
  · cases ho
def maxI : List Int → Option Int
  | [] => none
  | [i] => some i
  | i :: is => (match maxI is with
    | some m => some (if i ≤ m then m else i)
    | none => none)
def minI : List Int → Option Int
  | [] => none
  | [i] => some i
  | i :: is => (match minI is with
    | some m => some (if m ≤ i then m else i)
    | none => none)
theorem maxI_is : ∀ {is : List Int} {m : Int}, maxI is = some m → m ∈ is ∧ ∀ y ∈ is, y ≤ m
  | [], m, h => by cases h
  | [i], m, h => by cases h; exact ⟨List.mem_singleton.mpr rfl, fun y hy => by rw [List.mem_singleton.mp hy]; exact Int.le_refl _⟩
  | i :: j :: is, m, h => by
    simp only [maxI] at h
    split at h
    next n hn =>
      obtain ⟨h1, h2⟩ := maxI_is (is := j :: is) hn
      cases h
      split
      next c => exact ⟨List.mem_cons_of_mem _ h1, fun y hy => (List.mem_cons.mp hy).elim (fun z => z ▸ c) (h2 y)⟩
      next c => exact ⟨List.mem_cons_self, fun y hy => (List.mem_cons.mp hy).elim (fun z => z ▸ Int.le_refl _) fun z => Int.le_trans (h2 y z) (by omega)⟩
    next => cases h
theorem minI_is : ∀ {is : List Int} {m : Int}, minI is = some m → m ∈ is ∧ ∀ y ∈ is, m ≤ y
  | [], m, h => by cases h
  | [i], m, h => by cases h; exact ⟨List.mem_singleton.mpr rfl, fun y hy => by rw [List.mem_singleton.mp hy]; exact Int.le_refl _⟩
  | i :: j :: is, m, h => by
    simp only [minI] at h
    split at h
    next n hn =>
      obtain ⟨h1, h2⟩ := minI_is (is := j :: is) hn
      cases h
      split
      next c => exact ⟨List.mem_cons_of_mem _ h1, fun y hy => (List.mem_cons.mp hy).elim (fun z => z ▸ c) (h2 y)⟩
      next c => exact ⟨List.mem_cons_self, fun y hy => (List.mem_cons.mp hy).elim (fun z => z ▸ Int.le_refl _) fun z => Int.le_trans (by omega) (h2 y z)⟩
    next => cases h
def maxW : List W → Option W
  | [.lst ws] => (match intsW ws with
    | some is => (match maxI is with
      | some m => some (.int m)
      | none => none)
    | none => none)
  | _ => none
def minW : List W → Option W
  | [.lst ws] => (match intsW ws with
    | some is => (match minI is with
      | some m => some (.int m)
      | none => none)
    | none => none)
  | _ => none
theorem cv_max : CalV K (rMax K) maxW := by
  intro I H ws vs w Q ex r ho k
  unfold maxW at ho
  split at ho
  · split at ho
    next us is hi =>
      split at ho
      next m hm =>
        cases ho
        obtain ⟨v, r', rfl, h1, h2⟩ := one r
        rw [isNil h2]
        obtain ⟨p, rfl, hp⟩ := list_ints (.inl rfl) hi h1
        obtain ⟨m1, m2⟩ := maxI_is hm
        refine ⟨p, is, rfl, Evl.ex_l ex hp, List.length_pos_of_mem m1, fun n n1 n2 => k _ _ _ (Ext.refl ex) (isInt.mpr ?_)⟩
        rw [Int.le_antisymm (m2 n n1) (n2 m m1)]
      next => cases ho
    next => cases ho
  · cases ho
theorem cv_min : CalV K (rMin K) minW := by
  intro I H ws vs w Q ex r ho k
  unfold minW at ho
  split at ho
  · split at ho
    next us is hi =>
      split at ho
      next m hm =>
        cases ho
        obtain ⟨v, r', rfl, h1, h2⟩ := one r
        rw [isNil h2]
        obtain ⟨p, rfl, hp⟩ := list_ints (.inl rfl) hi h1
        obtain ⟨m1, m2⟩ := minI_is hm
        refine ⟨p, is, rfl, Evl.ex_l ex hp, List.length_pos_of_mem m1, fun n n1 n2 => k _ _ _ (Ext.refl ex) (isInt.mpr ?_)⟩
        rw [Int.le_antisymm (n2 m m1) (m2 n n1)]
      next => cases ho
    next => cases ho
  · cases ho
/-! ### sorted -/
def insI (x : Int) : List Int → List Int
  | [] => [x]
  | y :: ys => if x ≤ y then x :: y :: ys else y :: insI x ys
def sortI : List Int → List Int
  | [] => []
  | x :: xs => insI x (sortI xs)
theorem insI_perm (x : Int) : ∀ ys, (insI x ys).Perm (x :: ys)
  | [] => .refl _
  | y :: ys => by
    unfold insI
    split
    · exact .refl _
    · exact ((insI_perm x ys).cons y).trans (.swap x y ys)
theorem sortI_perm : ∀ xs, (sortI xs).Perm xs
  | [] => .refl _
  | x :: xs => (insI_perm x _).trans ((sortI_perm xs).cons x)
theorem insI_srt (x : Int) : ∀ {ys : List Int}, ys.Pairwise (· ≤ ·) → (insI x ys).Pairwise (· ≤ ·)
  | [], _ => List.pairwise_singleton _ _
  | y :: ys, h => by
    unfold insI
    have h' := List.pairwise_cons.mp h
    split
    next c => exact List.pairwise_cons.mpr ⟨fun z hz => (List.mem_cons.mp hz).elim (fun q => q ▸ c) fun q => Int.le_trans c (h'.1 z q), h⟩
    next c =>
      refine List.pairwise_cons.mpr ⟨fun z hz => ?_, insI_srt x h'.2⟩
      rcases List.mem_cons.mp ((insI_perm x ys).mem_iff.mp hz) with rfl | q
      · omega
      · exact h'.1 z q
theorem sortI_srt : ∀ xs, (sortI xs).Pairwise (· ≤ ·)
  | [] => .nil
  | x :: xs => insI_srt x (sortI_srt xs)
theorem sortI_of {xs ys : List Int} (p : ys.Perm xs) (s : ys.Pairwise (· ≤ ·)) : ys = sortI xs :=
  List.Perm.eq_of_pairwise (fun a b _ _ => Int.le_antisymm) s (sortI_srt xs) (p.trans (sortI_perm xs).symm)
def rSrt (K : PySem.W.Frag) : List V → Hp → VK → Prop := fun vs H Q => rSortedI K vs H Q ∨ rSortT K vs H Q
theorem c_srt : CallR X (.builtin "sorted") (rSrt X.K) := or_call cr_sortedI cr_sortTup
def sortedW : List W → Option SV
  | [.lst ws] => (match intsW ws with
    | some is => some (.own (.lst ((sortI is).map W.int)))
    | none => none)
  | [.tup ws] => (match intsW ws with
    | some is => if is.length < 64 then some (.own (.lst ((sortI is).map W.int))) else none
    | none => none)
  | _ => none
theorem cr_srt : CalR K (rSrt K) sortedW := by
  intro I H ws vs w Q ex r ho k
  unfold sortedW at ho
  split at ho
  · split at ho
    next us is hi =>
      cases ho
      obtain ⟨v, r', rfl, h1, h2⟩ := one r
      rw [isNil h2]
      obtain ⟨p, rfl, hp⟩ := list_ints (.inl rfl) hi h1
      refine .inl ⟨p, is, rfl, Evl.ex_l ex hp, fun ns q h3 h4 h5 => ?_⟩
      rw [sortI_of h3 h4]
      exact k _ _ _ ((Ext.refl ex).newOwn h5) ⟨q, rfl, Evl.fresh_back ex h5, h5, _, upd_same, IsWs.ofInts⟩
    next => cases ho
  · split at ho
    next us is hi =>
      split at ho
      next hl =>
        cases ho
        obtain ⟨v, r', rfl, h1, h2⟩ := one r
        rw [isNil h2]
        simp only [IsW] at h1
        obtain ⟨p, ys, rfl, hp, q⟩ := h1
        rw [intsW_is hi] at q
        rw [q.ints] at hp
        refine .inr ⟨p, is, rfl, sqT_of (ex _ _ hp), hl, fun ns q h3 h4 h5 => ?_⟩
        rw [sortI_of h3 h4]
        exact k _ _ _ ((Ext.refl ex).newOwn h5) ⟨q, rfl, Evl.fresh_back ex h5, h5, _, upd_same, IsWs.ofInts⟩
      next => cases ho
    next => cases ho
  · cases ho
/-! ### an own class's field -/
def fldW : List Str → List W → Str → Option W
  | n :: ns, w :: ws, f => if f = n then some w else fldW ns ws f
  | _, _, _ => none
theorem fldW_is {f : Str} {w : W} : ∀ {ns : List Str} {ws : List W} {vs : List V}, fldW ns ws f = some w → IsWs K I ws vs → f ∈ ns ∧ ∃ v, (ns.zip vs).lookup f = some v ∧ IsW K I w v
  | [], _, _, h, _ => by simp [fldW] at h
  | _ :: _, [], _, h, _ => by simp [fldW] at h
  | n :: ns, u :: ws, vs, h, r => by
    obtain ⟨v, vs', rfl, h1, h2⟩ := one r
    simp only [fldW] at h
    split at h
    next c =>
      cases h
      subst c
      exact ⟨List.mem_cons_self, v, by simp [List.zip_cons_cons, List.lookup], h1⟩
    next c =>
      obtain ⟨m, x, h3, h4⟩ := fldW_is h h2
      refine ⟨List.mem_cons_of_mem _ m, x, ?_, h4⟩
      rw [List.zip_cons_cons, List.lookup]
      rw [show (f == n) = false by simpa using c]
      exact h3
def fFld (f : En → Option W) (nm : Str) : En → Option W := fun e => match f e with
  | some (.ins _ ns ws) => fldW ns ws nm
  | _ => none
theorem qfld {a : Expr} {nm : Str} {f : En → Option W} {pos : Pos} (ha : PE X a (tW X.K f)) (hb : attributeBase a nm X.env (eval a X.env) = eval a X.env := by rfl) : PE X (.Attribute a nm pos) (tW X.K (fFld f nm)) :=
  pe_imp (pe_fld ha hb) fun σ H Q ⟨I0, H0, I, e, w, S, hf, k⟩ => by
    unfold fFld at hf
    split at hf
    next l ns ws hw =>
      refine ⟨I0, H0, I, e, _, S, hw, fun I1 H1 v x1 r => ?_⟩
      simp only [IsW] at r
      obtain ⟨p, C, dx, vs, rfl, h1, h2, ⟨h3, h4⟩, h5⟩ := r
      obtain ⟨m, x, h6, h7⟩ := fldW_is hf h5
      exact ⟨p, C, dx, _, x, rfl, x1.ih _ _ h1, h3, h4 _ m, h6, k I1 H1 x x1 h7⟩
    next => cases hf
/-! ### xs.index(y), xs.count(y), of flat values -/
def flV : W → Option V
  | .non => some .non
  | .bl b => some (.bl b)
  | .int i => some (.int i)
  | .str s => some (.str s)
  | _ => none
theorem flV_is {w : W} {v u : V} (h : flV w = some u) (r : IsW K I w v) : v = u ∧ flatV u = true := by
  cases w <;> simp only [flV] at h <;> try (cases h; done)
  all_goals (cases h; simp only [IsW] at r; exact ⟨r, rfl⟩)
def flVs : List W → Option (List V)
  | [] => some []
  | w :: ws => (match flV w, flVs ws with
    | some v, some vs => some (v :: vs)
    | _, _ => none)
theorem flVs_is : ∀ {ws : List W} {vs us : List V}, flVs ws = some us → IsWs K I ws vs → vs = us ∧ us.all flatV = true
  | [], vs, us, h, r => by cases h; exact ⟨by simpa only [IsWs] using r, rfl⟩
  | w :: ws, vs, us, h, r => by
    obtain ⟨v, vs', rfl, h1, h2⟩ := one r
    simp only [flVs] at h
    split at h
    next a b ha hb =>
      cases h
      obtain ⟨rfl, q1⟩ := flV_is ha h1
      obtain ⟨rfl, q2⟩ := flVs_is hb h2
      exact ⟨rfl, by rw [List.all_cons, q1, q2]; rfl⟩
    next => cases h
def idxV (y : V) : List V → Option Nat
  | [] => none
  | x :: xs => if eqV x y then some 0 else (match idxV y xs with
    | some n => some (n + 1)
    | none => none)
theorem idxV_is {y : V} : ∀ {xs : List V} {j : Nat}, idxV y xs = some j → (∃ z, xs[j]? = some z ∧ eqV z y = true) ∧ ∀ m z, m < j → xs[m]? = some z → eqV z y = false
  | [], j, h => by cases h
  | x :: xs, j, h => by
    simp only [idxV] at h
    split at h
    next c => cases h; exact ⟨⟨x, rfl, c⟩, fun m z hm => absurd hm (Nat.not_lt_zero _)⟩
    next c =>
      split at h
      next n hn =>
        cases h
        obtain ⟨⟨z, h1, h2⟩, h3⟩ := idxV_is hn
        refine ⟨⟨z, by simpa using h1, h2⟩, fun m z hm hz => ?_⟩
        cases m with
        | zero => simp at hz; subst hz; simpa using c
        | succ m => exact h3 m z (by omega) (by simpa using hz)
      next => cases h
def indexW (a : W) (ws : List W) : Option W := match a, ws with
  | .lst us, [y] => (match flVs us, flV y with
    | some vs, some v => (match idxV v vs with
      | some n => some (.int (n : Nat))
      | none => none)
    | _, _ => none)
  | _, _ => none
theorem index_T : ∀ a ws w, indexW a ws = some w → isT "list" a = true := by
  intro a ws w h
  unfold indexW at h
  split at h
  · rfl
  · cases h
theorem mv_index : MetV K "list" (rIndex K) indexW := by
  intro I H a ws x vs w Q ex ra rs ho k
  unfold indexW at ho
  split at ho
  next us y =>
    split at ho
    next xs v hx hv =>
      split at ho
      next n hn =>
        cases ho
        obtain ⟨v', r', rfl, h1, h2⟩ := one rs
        rw [isNil h2]
        obtain ⟨rfl, f1⟩ := flV_is hv h1
        simp only [IsW] at ra
        obtain ⟨p, ys, rfl, hp, q⟩ := ra
        obtain ⟨rfl, f2⟩ := flVs_is hx q
        obtain ⟨⟨z, h3, h4⟩, h5⟩ := idxV_is hn
        exact ⟨p, ys, v', n, z, rfl, rfl, sqL_of (ex _ _ hp), f1, f2, h3, h4, h5, k _ _ _ (Ext.refl ex) (isInt.mpr rfl)⟩
      next => cases ho
    next => cases ho
  next => cases ho
def countW (a : W) (ws : List W) : Option W := match a, ws with
  | .lst us, [.int k] => (match intsW us with
    | some is => some (.int (is.count k : Nat))
    | none => none)
  | _, _ => none
theorem count_T : ∀ a ws w, countW a ws = some w → isT "list" a = true := by
  intro a ws w h
  unfold countW at h
  split at h
  · rfl
  · cases h
theorem mv_count : MetV K "list" (rCntI K) countW := by
  intro I H a ws x vs w Q ex ra rs ho k
  unfold countW at ho
  split at ho
  next us y =>
    split at ho
    next is hi =>
      cases ho
      obtain ⟨v', r', rfl, h1, h2⟩ := one rs
      rw [isNil h2]
      rw [isInt] at h1
      subst h1
      obtain ⟨p, rfl, hp⟩ := list_ints (.inl rfl) hi ra
      exact ⟨p, is, y, rfl, rfl, Evl.ex_l ex hp, k _ _ _ (Ext.refl ex) (isInt.mpr rfl)⟩
    next => cases ho
  next => cases ho
end Qw
namespace Qw
open PySem PySem.Spec PyProof.Rows L2 Nz
open Evl (Ex)
variable {T : TQ} {X : Cx} {K : PySem.W.Frag} {I I' I1 I2 H H' H1 H2 I0 H0 : Hp} {e : En} {σ : L2.St}
/-! ### self.f = e, while self is made -/
theorem putF_new {f : Str} {v : V} : ∀ {ns : List Str} {vs : List V}, ns[vs.length]? = some f → f ∉ ns.take vs.length → putF f v (ns.zip vs) = ns.zip (vs ++ [v])
  | [], _, h, _ => by simp at h
  | n :: ns, [], h, _ => by
    simp at h
    subst h
    simp [putF]
  | n :: ns, x :: vs, h, h2 => by
    have h' : ns[vs.length]? = some f := by simpa using h
    rw [List.length_cons, List.take_succ_cons, List.mem_cons, not_or] at h2
    rw [List.zip_cons_cons, List.cons_append, List.zip_cons_cons]
    show (if n = f then _ else _) = _
    rw [if_neg (Ne.symm h2.1), putF_new h' h2.2]
def sFldI (i : Nat) (f : Str) (g : En → Option W) : En → Option Out := fun e => match e[i]? with
  | some (some (.own (.ins t ns ws))) => (match g e with
    | some w => if ns[ws.length]? = some f ∧ f ∉ ns.take ws.length ∧ ns.length < 900 then some (.nx (e.set i (some (.own (.ins t ns (ws ++ [w])))))) else none
    | none => none)
  | _ => none
theorem fld_use {i : Nat} {f : Str} {g : En → Option W} {D : Ends} : tS K T (sFldI i f g) D σ H → sFld K (tVar i) (tW K g) f D σ H := fun ⟨I0, H0, I, e, o, S, hf, k⟩ => by
  unfold sFldI at hf
  split at hf
  next t ns ws hs =>
    split at hf
    next w hw =>
      split at hf
      next hz =>
        cases hf
        refine ⟨I0, H0, I, e, w, S, hw, fun I1 H1 y x1 r1 => ?_⟩
        have S1 := S.mono x1
        obtain ⟨p, hp, hi, h0, hn, C, dx, vs, hv, hl, ⟨hc, hna⟩, r⟩ := own_at S1 hs
        have hlen := r.len
        rw [hlen] at hz
        refine ⟨_, hp, p, C, dx, _, rfl, hv, hc, hna f (List.mem_of_getElem? hz.1), ?_, ?_⟩
        · rw [List.length_zip]
          omega
        · rw [putF_new hz.1 hz.2.1]
          have hlt := (List.getElem?_eq_some_iff.mp hz.1).1
          refine k I1 _ _ (S1.chg hs hp ⟨hn, C, dx, vs ++ [y], upd_same, by simp; omega, ⟨hc, hna⟩, r.append (IsWs.cons r1 IsWs.nil)⟩) x1.i
      next => cases hf
    next => cases hf
  next => cases hf
theorem qsfld (i : Nat) {x f : Str} {p pos pos' : Pos} {value : Expr} {g : En → Option W} (hv : PE X value (tW X.K g)) (hN : X.N[i]? = some x := by rfl) (hvs : Vis X.env.scope x := by first | exact Or.inl rfl | exact Or.inr (Or.inl rfl) | exact Or.inr (Or.inr rfl))
    (hd : (x == ("__debug__" : Str)) = false := by decide) (hcd : (x == ("__classdict__" : Str)) = false := by decide) (hs : swapsWith value (some (.Attribute (.Name x p) f pos')) pos.line X.env = pure false := by rfl) :
    PS X (.Assign [.Attribute (.Name x p) f pos'] value pos) (tS X.K (wxQ X) (sFldI i f g)) := ps_imp (ps_fld (pv i hN hvs hd hcd) hv hs) fun _ _ _ => fld_use
/-! ### C(..) -/
/-- what __init__ makes, for every address of the new object -/
def runI (n m : Nat) (ns : List Str) (B : En → Option Out) (x : Addr) (ws : List W) : Option W := if ws.length = n then (match B (some (.own (.ins ⟨#[x]⟩ ns [])) :: (ws.map (fun w => some (.imm w)) ++ List.replicate m none)) with
  | some (.nx e') => (match (e' : En)[0]? with
    | some (some (SV.own (W.ins t ns' us))) => if t = ⟨#[x]⟩ ∧ ns' = ns ∧ us.length = ns.length then some (.ins ⟨#[]⟩ ns us) else none
    | _ => none)
  | _ => none) else none
def spI (K : PySem.W.Frag) (C : Addr) (ns : List Str) (n : Nat) (F : Addr → List W → Option W) : Sp := fun vs H Q _ => ∃ I H0 x dx us ws w, vs = .ref x :: us ∧ H0 x = none ∧ H0 dx = none ∧ dx ≠ x ∧ H = upd (upd H0 dx (.own x)) x (.ins C dx []) ∧ Ex I H0 ∧ IsWs K I ws us ∧ ws.length = n ∧
  (Cls K C ∧ ∀ f ∈ ns, NoAttr K C f) ∧ (∀ x, F x ws = some w) ∧ ∀ I' H', Ext I H0 I' H' → IsW K I' w (.ref x) → Q .non H'
theorem ok_ofI {P : Program} {w : World} {mg : Str → Option Value} {base : Heap} {x qual : Str} {st : Stmt} {f C : Addr} {fd : FuncData} {N ps : List Str} {k n m : Nat} {ns : List Str} {B : En → Option Out} (Fn : Fun K x qual st f fd) (S : FnScope N ps (defScope st)) (hn : ps.length = n + 1) (hm : N.length = n + 1 + m)
    (hbody : ∀ (cdv : Value) (A : Around) (outer : List Env) (s : Shared) (H : Hp) (E : XK), Room k (A.deeper (envOfC qual (defScope st) s.heap.objs.size f cdv)) → PQ (cxOf CX0 P w K mg base N qual (defScope st) f cdv A outer s H E).nox (defBody st) B) :
    FnOk P w K mg base CX0 (k + 1) f fd ps (spI K C ns n (runI n m ns B)) := by
  refine Fn.ok S (fun vs H Q E h => ?_) (fun cdv A outer s H vs Q E hr h => ?_)
  · obtain ⟨I, H0, x, dx, us, ws, w', rfl, _, _, _, _, _, r, hl, _⟩ := h
    rw [List.length_cons, ← r.len, hl, hn]
  · obtain ⟨I, H0, x, dx, us, ws, w', rfl, nx, ndx, hne, rfl, ex, r, hl, hcl, hF, q⟩ := h
    refine ⟨_, hbody cdv A outer s _ E hr, ?_⟩
    have hF := hF x
    unfold runI at hF
    rw [if_pos hl] at hF
    have hst : L2.start N (.ref x :: us) = some (.ref x) :: (us.map some ++ List.replicate m none) := by
      unfold L2.start
      rw [List.map_cons, List.length_cons, ← r.len, hl, hm, List.cons_append]
      congr 3
      omega
    rw [hst]
    have old : Ex H0 (upd (upd H0 dx (.own x)) x (.ins C dx [])) := fun c o q => by
      have c1 : c ≠ x := fun z => by rw [z, nx] at q; cases q
      have c2 : c ≠ dx := fun z => by rw [z, ndx] at q; cases q
      rw [upd_ne c1, upd_ne c2]
      exact q
    have hI : I x = none := Evl.fresh_back ex nx
    have S0 := sat_start (m := m) (K := K) (ex.trans old) r
    have XT : Ext I H0 I (upd (upd H0 dx (.own x)) x (.ins C dx [])) := ⟨old, Ex.refl _, ex.trans old, fun _ _ => rfl⟩
    have noOwn : ∀ (j : Nat) (u : W), (ws.map (fun w => some (SV.imm w)) ++ List.replicate m none)[j]? ≠ some (some (SV.own u)) := fun j u hj => by
      rcases List.mem_append.mp (List.mem_of_getElem? hj) with z | z
      · obtain ⟨_, _, z⟩ := List.mem_map.mp z
        cases z
      · have := (List.mem_replicate.mp z).2
        cases this
    have SS : Sat K I H0 I (some (SV.own (.ins ⟨#[x]⟩ ns [])) :: (ws.map (fun w => some (SV.imm w)) ++ List.replicate m none)) (some (.ref x) :: (us.map some ++ List.replicate m none)) (upd (upd H0 dx (.own x)) x (.ins C dx [])) := by
      refine ⟨XT, by have := S0.len; simpa using this, fun i sv h => ?_, fun i j u u' h1 h2 hij => ?_⟩
      · cases i with
        | zero =>
          simp at h
          subst h
          refine ⟨_, rfl, x, rfl, hI, nx, rfl, C, dx, [], ?_, Nat.zero_le _, hcl, IsWs.nil⟩
          rw [upd_same]
          simp
        | succ i =>
          have h' : (ws.map (fun w => some (SV.imm w)) ++ List.replicate m none)[i]? = some (some sv) := by simpa using h
          obtain ⟨v, a, b⟩ := S0.slot i sv h'
          cases sv with
          | own u => exact absurd h' (noOwn i u)
          | imm u => exact ⟨v, by simpa using a, b⟩
      · cases i with
        | zero =>
          cases j with
          | zero => exact absurd rfl hij
          | succ j => exact absurd (by simpa using h2) (noOwn j u')
        | succ i => exact absurd (by simpa using h1) (noOwn i u)
    split at hF
    next e' hB =>
      split at hF
      next t ns' us' he =>
        split at hF
        next hz =>
          cases hF
          refine ⟨I, H0, I, _, _, SS, hB, fun I' σ' H' S' _ => ?_⟩
          obtain ⟨ht, rfl, hlen⟩ := hz
          obtain ⟨p, _, hi, h0, hn', C', dx', vs, hv, hl', hc, rr⟩ := own_at S' he
          have hpx : p = x := by
            rw [ht] at hn'
            have := congrArg (fun s : Str => s.cps) hn'
            simpa using this.symm
          subst hpx
          refine q (upd I' p (.ins C' dx' (ns'.zip vs))) H' (S'.x.fix h0 hi hv) ?_
          simp only [IsW]
          exact ⟨p, C', dx', vs, rfl, upd_same, hl', hc, rr.mono (Ex.new hi)⟩
        next => cases hF
      next => cases hF
    next => cases hF
open Classical in
noncomputable def fMk (F : Addr → List W → Option W) (g : En → Option (List W)) : En → Option W := fun e => match g e with
  | some ws => if ∀ x, F x ws = F 0 ws then F 0 ws else none
  | none => none
theorem fMk_is {F : Addr → List W → Option W} {g : En → Option (List W)} {ws : List W} {w : W} (h : g e = some ws) (hF : ∀ x, F x ws = some w) : fMk F g e = some w := by
  unfold fMk
  rw [h]
  simp only
  rw [if_pos (fun x => by rw [hF x, hF 0]), hF 0]
theorem runI_len {n m : Nat} {ns : List Str} {B : En → Option Out} {x : Addr} {ws : List W} {w : W} (h : runI n m ns B x ws = some w) : ws.length = n := by
  unfold runI at h
  split at h
  next q => exact q
  next => cases h
theorem qmake {k n m : Nat} {C fI : Addr} {fd : FuncData} {ps ns : List Str} {B : En → Option Out} {g : En → Option (List W)} {x : Str} {p pos : Pos} {a : Expr} {es : List Expr} (M : Mk X.K C fI) (G : FnOk X.prog X.w X.K X.mg X.base CX0 k fI fd ps (spI X.K C ns n (runI n m ns B)))
    (hr : Room (k + 1) X.A) (hg : Gl X x) (hm : X.mg x = some (.ref C)) (hb : Binds X.K fd ps []) (cl : Cls X.K C ∧ ∀ f ∈ ns, NoAttr X.K C f) (ha : PA X (a :: es) (tA X.K g))
    (hd : (x == ("__debug__" : Str)) = false := by decide) (hs : starEach (a :: es) X.env = (false, eval a X.env) :: starEach es X.env := by rfl) (hp : (backTo pos (starEach es X.env)).any (·.1) = false := by rfl) :
    PE X (.Call (.Name x p) (a :: es) [] pos) (tW X.K (fMk (runI n m ns B) g)) :=
  pe_imp (pe_makeS (E := fun _ => E0) M G hr hg hm hb (fun v _ _ _ _ _ _ h => h.elim) ha hd hs hp) fun σ H Q ⟨I0, H0, I, e, w, S, hf, kk⟩ => by
    unfold fMk at hf
    split at hf
    next ws hws =>
      split at hf
      next hall =>
        refine ⟨I0, H0, I, e, ws, S, hws, fun I1 H1 vs x1 r1 x dx nx ndx hne => ?_⟩
        refine ⟨I1, H1, x, dx, vs, ws, w, rfl, nx, ndx, hne, rfl, x1.ih, r1, runI_len hf, cl, fun y => (hall y).trans hf, fun I2 H2 x2 r2 => ⟨rfl, kk _ _ _ (x1.trans x2) r2⟩⟩
      next => cases hf
    next => cases hf
end Qw
namespace Qw
open PySem PySem.Spec PyProof.Rows L2 Nz
open Evl (Ex)
variable {X : Cx} {K : PySem.W.Frag} {I I' I1 I2 H H' H1 H2 I0 H0 : Hp} {e : En} {σ : L2.St}
/-! ### factorial of a small number -/
def facN : Nat → Nat
  | 0 => 1
  | n + 1 => facN n * (n + 1)
theorem facN_is : ∀ n, Builtin.Math.factorialNat n = facN n
  | 0 => rfl
  | n + 1 => by rw [PySem.W.mc_fac_succ, facN_is n]; rfl
def rFac : List V → Hp → VK → Prop := fun xs H Q => ∃ i : Int, xs = [.int i] ∧ 0 ≤ i ∧ i ≤ 20000 ∧ Q (.int ((facN i.toNat : Nat) : Int)) H
theorem c_fac : CallR X (.builtin "math.factorial") rFac := by
  intro pins s σ H xs us Q I r h
  obtain ⟨i, rfl, h0, h1, q⟩ := h
  obtain ⟨u, rfl, t, rfl⟩ := vals1 r
  refine PySem.W.mc_factorial h0 h1 fun _ => ⟨.int ((facN i.toNat : Nat) : Int), H, I.tok _, ⟨_, by rw [facN_is]⟩, q⟩
def facW : List W → Option W
  | [.int i] => if 0 ≤ i ∧ i ≤ 20000 then some (.int ((facN i.toNat : Nat) : Int)) else none
  | _ => none
theorem fac_use {f : En → Option (List W)} {Q : VK} : tW K (fCallW facW f) σ H Q → tCB rFac (tA K f) σ H Q := calV_use (by
  intro I H ws vs w Q ex r hf k
  unfold facW at hf
  split at hf
  next i =>
    split at hf
    next hz =>
      cases hf
      obtain ⟨v, r', rfl, h1, h2⟩ := one r
      rw [isNil h2]
      rw [isInt] at h1
      subst h1
      exact ⟨i, rfl, hz.1, hz.2, k _ _ _ (Ext.refl ex) (isInt.mpr rfl)⟩
    next => cases hf
  next => cases hf)
theorem qfac {f : En → Option (List W)} {a : Expr} {es : List Expr} {x : Str} {p pos : Pos} (hg : Gl X x) (hm : X.mg x = some (.builtin "math.factorial")) (ha : PA X (a :: es) (tA X.K f)) (hdb : (x == ("__debug__" : Str)) = false := by decide)
    (hs : starEach (a :: es) X.env = (false, eval a X.env) :: starEach es X.env := by rfl) (hpl : (backTo pos (starEach es X.env)).any (·.1) = false := by rfl) :
    PE X (.Call (.Name x p) (a :: es) [] pos) (tW X.K (fCallW facW f)) := pe_imp (pe_callBfun c_fac hg hm ha hdb hs hpl) fun _ _ _ => fac_use
end Qw
namespace Qw
open PySem PySem.Spec PyProof.Rows L2 Nz
open Evl (Ex)
variable {T : TQ} {X : Cx} {K : PySem.W.Frag} {I I' I1 I2 H H' H1 H2 I0 H0 : Hp} {e : En} {σ : L2.St}
/-! ### dicts: keys ints, texts, or tuples of them -/
def keysW : List W → Option (List Key)
  | [] => some []
  | w :: ws => (match w, keysW ws with
    | .int i, some ks => some (.inl i :: ks)
    | .str s, some ks => some (.inr s :: ks)
    | _, _ => none)
def dkey : W → Option (Bool × List Key)
  | .int i => some (false, [.inl i])
  | .str s => some (false, [.inr s])
  | .tup ws => (match keysW ws with
    | some ks => some (true, ks)
    | none => none)
  | _ => none
theorem keysW_is : ∀ {ws : List W} {ks : List Key} {vs : List V}, keysW ws = some ks → IsWs K I ws vs → vs = ks.map kV
  | [], ks, vs, h, r => by
    cases h
    have : vs = [] := by simpa only [IsWs] using r
    rw [this]
    rfl
  | w :: ws, ks, vs, h, r => by
    obtain ⟨v, vs', rfl, h1, h2⟩ := one r
    simp only [keysW] at h
    split at h
    next i q hq => cases h; rw [isInt] at h1; rw [h1, keysW_is hq h2]; rfl
    next s q hq => cases h; rw [isStr] at h1; rw [h1, keysW_is hq h2]; rfl
    next => cases h
def getL {α : Type} : List (List Key) → List α → List Key → Option α
  | k' :: ks, w :: ws, k => if k' = k then some w else getL ks ws k
  | _, _, _ => none
def replL {α : Type} : List (List Key) → List α → List Key → α → List α
  | k' :: ks, w' :: ws, k, w => (if k' = k then w else w') :: replL ks ws k w
  | _, _, _, _ => []
theorem getL_is {k : List Key} : ∀ {ks : List (List Key)} {ws : List W} {vs : List V}, IsWs K I ws vs → (∀ w, getL ks ws k = some w → ∃ v, getL ks vs k = some v ∧ IsW K I w v) ∧ (getL ks ws k = none → getL ks vs k = none)
  | [], ws, vs, r => ⟨fun w h => by simp [getL] at h, fun _ => by simp [getL]⟩
  | _ :: _, [], vs, r => by
    simp only [IsWs] at r
    subst r
    exact ⟨fun w h => by simp [getL] at h, fun _ => by simp [getL]⟩
  | k' :: ks, w :: ws, vs, r => by
    obtain ⟨v, vs', rfl, h1, h2⟩ := one r
    simp only [getL]
    by_cases c : k' = k
    · rw [if_pos c, if_pos c]
      exact ⟨fun u h => by cases h; exact ⟨v, rfl, h1⟩, fun h => nomatch h⟩
    · rw [if_neg c, if_neg c]
      exact getL_is h2
theorem replL_is {k : List Key} {w : W} {v : V} (q : IsW K I w v) : ∀ {ks : List (List Key)} {ws : List W} {vs : List V}, IsWs K I ws vs → IsWs K I (replL ks ws k w) (replL ks vs k v)
  | [], ws, vs, r => by simp only [replL]; exact IsWs.nil
  | _ :: _, [], vs, r => by
    simp only [IsWs] at r
    subst r
    simp only [replL]
    exact IsWs.nil
  | k' :: ks, u :: ws, vs, r => by
    obtain ⟨v', vs', rfl, h1, h2⟩ := one r
    simp only [replL]
    refine IsWs.cons ?_ (replL_is q h2)
    by_cases c : k' = k
    · rw [if_pos c, if_pos c]; exact q
    · rw [if_neg c, if_neg c]; exact h1
theorem replL_len {α : Type} {k : List Key} {w : α} : ∀ {ks : List (List Key)} {ws : List α}, ks.length = ws.length → (replL ks ws k w).length = ks.length
  | [], ws, h => rfl
  | _ :: _, [], h => by cases h
  | k' :: ks, u :: ws, h => by
    simp only [replL, List.length_cons]
    rw [replL_len (by simpa using h)]
section
variable {κ : Type} [DecidableEq κ] (f : κ → List Key) (hf : ∀ a b, f a = f b → a = b)
theorem val_zip (hf : ∀ a b, f a = f b → a = b) (k : κ) : ∀ (ls : List κ) (vs : List V), valV (ls.zip vs) k = getL (ls.map f) vs (f k)
  | [], vs => by simp [valV, getL]
  | _ :: _, [] => by simp [valV, getL]
  | l :: ls, v :: vs => by
    simp only [List.map_cons, getL]
    unfold valV
    rw [List.zip_cons_cons]
    by_cases c : l = k
    · rw [List.find?_cons_of_pos (by simpa using c), if_pos (by rw [c])]
      rfl
    · rw [List.find?_cons_of_neg (by simpa using c), if_neg fun z => c (hf _ _ z)]
      exact val_zip hf k ls vs
theorem any_zip (hf : ∀ a b, f a = f b → a = b) (k : κ) : ∀ (ls : List κ) (vs : List V), ls.length = vs.length → ((ls.zip vs).any fun kv => decide (kv.1 = k)) = (ls.map f).any fun x => decide (x = f k)
  | [], vs, _ => by simp
  | _ :: _, [], h => by cases h
  | l :: ls, v :: vs, h => by
    rw [List.zip_cons_cons, List.any_cons, any_zip hf k ls vs (by simpa using h), List.map_cons]
    rw [List.any_cons]
    congr 1
    exact decide_eq_decide.mpr ⟨fun c => congrArg f c, hf _ _⟩
theorem map_zip (hf : ∀ a b, f a = f b → a = b) (k : κ) (v : V) : ∀ (ls : List κ) (vs : List V), ((ls.zip vs).map fun kv => if kv.1 = k then (kv.1, v) else kv) = ls.zip (replL (ls.map f) vs (f k) v)
  | [], vs => by simp
  | _ :: _, [] => by simp [replL]
  | l :: ls, u :: vs => by
    simp only [List.map_cons, replL, List.zip_cons_cons]
    rw [map_zip hf k v ls vs]
    by_cases c : l = k
    · subst c; simp
    · have c' : f l ≠ f k := fun z => c (hf _ _ z)
      simp [c, c']
theorem zip_app (ls : List κ) (k : κ) (vs : List V) (v : V) (h : ls.length = vs.length) : ls.zip vs ++ [(k, v)] = (ls ++ [k]).zip (vs ++ [v]) := by
  rw [List.zip_append h]
  rfl
end
theorem one_inj (a b : Key) (h : [a] = [b]) : a = b := by simpa using h
def dput (ks : List (List Key)) (ws : List W) (k : List Key) (w : W) : List (List Key) × List W := if (ks.any fun x => decide (x = k)) = true then (ks, replL ks ws k w) else (ks ++ [k], ws ++ [w])
/-- what is read at a key -/
theorem dget_at {a : Addr} {t : Bool} {ks : List (List Key)} {ws : List W} {vs : List V} {k : List Key} {u : W} {y : V} (ex : Ex I H) (d : DctAt H a t ks vs) (r : IsWs K I ws vs) (hk : dkey u = some (t, k)) (hy : IsW K I u y) :
    DGet H a y (getL ks vs k) := by
  obtain ⟨hl, d⟩ := d
  unfold dkey at hk
  split at hk
  · next i =>
    cases hk
    rw [isInt] at hy
    subst hy
    rcases d with ⟨z, _⟩ | ⟨_, ls, rfl, d⟩
    · cases z
    · have := DGet.k (k := .inl i) d
      rw [val_zip (fun k => [k]) one_inj] at this
      exact this
  · next i =>
    cases hk
    rw [isStr] at hy
    subst hy
    rcases d with ⟨z, _⟩ | ⟨_, ls, rfl, d⟩
    · cases z
    · have := DGet.k (k := .inr i) d
      rw [val_zip (fun k => [k]) one_inj] at this
      exact this
  · split at hk
    next q hq =>
      cases hk
      simp only [IsW] at hy
      obtain ⟨b, us, rfl, hb, r2⟩ := hy
      rw [keysW_is hq r2] at hb
      rcases d with ⟨_, d⟩ | ⟨z, _⟩
      · have := DGet.t d (ex _ _ hb)
        rw [val_zip id fun _ _ z => z, List.map_id] at this
        exact this
      · cases z
    next => cases hk
  · cases hk
theorem dput_at {a : Addr} {t : Bool} {ks : List (List Key)} {ws : List W} {vs : List V} {k : List Key} {u w : W} {y v : V} (ex : Ex I H) (d : DctAt H a t ks vs) (r : IsWs K I ws vs) (hk : dkey u = some (t, k)) (hy : IsW K I u y) (hv : IsW K I w v) (hz : ks.length < sizeLine) :
    ∃ o, DPut H a y v (upd H a o) ∧ OwnAt K I (upd H a o) a (.dct t (dput ks ws k w).1 (dput ks ws k w).2) := by
  obtain ⟨hl, d⟩ := d
  have simple : ∀ k0 : Key, t = false → k = [k0] → y = kV k0 → ∃ o, DPut H a y v (upd H a o) ∧ OwnAt K I (upd H a o) a (.dct t (dput ks ws k w).1 (dput ks ws k w).2) := by
    intro k0 ht hk0 hy0
    subst hk0
    rcases d with ⟨z, _⟩ | ⟨_, ls, rfl, d⟩
    · rw [ht] at z; cases z
    · have hl' : ls.length = vs.length := by simpa using hl
      refine ⟨.dK (putK (ls.zip vs) k0 v), .inl ⟨_, k0, d, hy0, by rw [List.length_zip]; simp at hz; omega, rfl⟩, ?_⟩
      have ea := any_zip (fun k => [k]) one_inj k0 ls vs hl'
      unfold dput putK
      by_cases c : ((ls.map fun k => [k]).any fun x => decide (x = [k0])) = true
      · rw [if_pos c, ea, if_pos c, map_zip (fun k => [k]) one_inj]
        exact ⟨_, ⟨by rw [replL_len hl], .inr ⟨ht, ls, rfl, upd_same⟩⟩, replL_is hv r⟩
      · rw [if_neg c, ea, if_neg c, zip_app ls k0 vs v hl']
        exact ⟨_, ⟨by simp [hl], .inr ⟨ht, ls ++ [k0], by simp, upd_same⟩⟩, r.append (IsWs.cons hv IsWs.nil)⟩
  unfold dkey at hk
  split at hk
  · cases hk
    rw [isInt] at hy
    exact simple (.inl _) rfl rfl hy
  · cases hk
    rw [isStr] at hy
    exact simple (.inr _) rfl rfl hy
  · split at hk
    next q hq =>
      cases hk
      simp only [IsW] at hy
      obtain ⟨b, us, rfl, hb, r2⟩ := hy
      rw [keysW_is hq r2] at hb
      rcases d with ⟨_, d⟩ | ⟨z, _⟩
      · refine ⟨.dT (putK (ks.zip vs) k v), .inr ⟨_, k, b, d, rfl, ex _ _ hb, by rw [List.length_zip]; omega, rfl⟩, ?_⟩
        have ea := any_zip (f := id) (fun _ _ z => z) k ks vs hl
        have em := map_zip (f := id) (fun _ _ z => z) k v ks vs
        rw [List.map_id] at ea em
        simp only [id_eq] at ea em
        unfold dput putK
        by_cases c : (ks.any fun x => decide (x = k)) = true
        · rw [if_pos c, ea, if_pos c, em]
          exact ⟨_, ⟨by rw [replL_len hl], .inl ⟨rfl, upd_same⟩⟩, replL_is hv r⟩
        · rw [if_neg c, ea, if_neg c, zip_app ks k vs v hl]
          exact ⟨_, ⟨by simp [hl], .inl ⟨rfl, upd_same⟩⟩, r.append (IsWs.cons hv IsWs.nil)⟩
      · cases z
    next => cases hk
  · cases hk
/-- {} whose keys will be tuples (t), ints or texts -/
def fDNew (t : Bool) : En → Option SV := fun _ => some (.own (.dct t [] []))
theorem qdnewT {pos : Pos} : PE X (.Dict [] [] pos) (tR X.K (fDNew true)) := pe_imp pe_dnewT fun σ H Q ⟨I0, H0, I, e, sv, S, hf, k⟩ => by
  cases hf
  intro p hp
  exact k _ _ _ (S.ref.newOwn hp) ⟨p, rfl, Evl.fresh_back S.ext hp, hp, [], ⟨rfl, .inl ⟨rfl, upd_same⟩⟩, IsWs.nil⟩
theorem qdnewK {pos : Pos} : PE X (.Dict [] [] pos) (tR X.K (fDNew false)) := pe_imp pe_dnewK fun σ H Q ⟨I0, H0, I, e, sv, S, hf, k⟩ => by
  cases hf
  intro p hp
  exact k _ _ _ (S.ref.newOwn hp) ⟨p, rfl, Evl.fresh_back S.ext hp, hp, [], ⟨rfl, .inr ⟨rfl, [], rfl, upd_same⟩⟩, IsWs.nil⟩
theorem hu1 {u : Nat} (h : u + 64 < cLine) : u + 1 < cLine := Nat.lt_of_le_of_lt (Nat.add_le_add_left (by decide) u) h
/-- d[k] = v -/
def sDPut (i : Nat) (g f : En → Option W) : En → Option Out := fun e => match f e with
  | some w => (match e[i]? with
    | some (some (.own (.dct t ks ws))) => (match g e with
      | some u => (match dkey u with
        | some (t', k) => if t' = t ∧ ks.length < sizeLine then some (.nx (e.set i (some (.own (.dct t (dput ks ws k w).1 (dput ks ws k w).2))))) else none
        | none => none)
      | none => none)
    | _ => none)
  | none => none
theorem dput_use {i : Nat} {g f : En → Option W} {D : Ends} : tS K T (sDPut i g f) D σ H → tAsg (tW K f) (gSub (tVar i) (tW K g) rSetD) D σ H := fun ⟨I0, H0, I, e, o, S, hf, k⟩ => by
  unfold sDPut at hf
  split at hf
  next w hw =>
    split at hf
    next t ks ws hs =>
      split at hf
      next u hu =>
        split at hf
        next t' kk hk =>
          split at hf
          next hz =>
            cases hf
            obtain ⟨rfl, hz⟩ := hz
            refine ⟨I0, H0, I, e, w, S, hw, fun I1 H1 y x1 r1 => ?_⟩
            have S1 := S.mono x1
            obtain ⟨p, hp, hi, h0, vs, hv, r⟩ := own_at S1 hs
            refine ⟨_, hp, I0, H0, I1, e, _, S1, hu, fun I2 H2 z x2 r2 => ?_⟩
            have S2 := S1.mono x2
            obtain ⟨p2, hp2, _, _, vs2, hv2, r3⟩ := own_at S2 hs
            rw [hp] at hp2
            cases hp2
            obtain ⟨ob, h1, h2⟩ := dput_at S2.ext hv2 r3 hk r2 (IsW.mono x2.i r1) hz
            exact ⟨p, _, rfl, h1, k I2 _ _ (S2.chg hs hp h2) (x1.i.trans x2.i)⟩
          next => cases hf
        next => cases hf
      next => cases hf
    next => cases hf
  next => cases hf
/-- d[k], read -/
def fDGet (f g : En → Option W) : En → Option W := fun e => match f e with
  | some (.dct t ks ws) => (match g e with
    | some u => (match dkey u with
      | some (t', k) => if t' = t then getL ks ws k else none
      | none => none)
    | none => none)
  | _ => none
theorem qdget {a b : Expr} {f g : En → Option W} {pos : Pos} (hu : X.A.units + 1 < cLine) (ha : PE X a (tW X.K f)) (hb : PE X b (tW X.K g)) (hs : NoSl b := by intro _ _; rfl) : PE X (.Subscript a b pos) (tW X.K (fDGet f g)) :=
  pe_imp (pe_dget hu ha hb hs) fun σ H Q ⟨I0, H0, I, e, w, S, hf, k⟩ => by
    unfold fDGet at hf
    split at hf
    next t ks ws hw =>
      split at hf
      next u hu =>
        split at hf
        next t' kk hk =>
          split at hf
          next hz =>
            subst hz
            refine ⟨I0, H0, I, e, _, S, hw, fun I1 H1 x x1 r1 => ⟨I0, H0, I1, e, u, S.mono x1, hu, fun I2 H2 y x2 r2 => ?_⟩⟩
            have r1' := IsW.mono x2.i r1
            simp only [IsW] at r1'
            obtain ⟨p, vs, rfl, d, r⟩ := r1'
            obtain ⟨v, h1, h2⟩ := (getL_is (k := kk) (ks := ks) r).1 w hf
            have := dget_at x2.ih (d.mono x2.ih) r hk r2
            rw [h1] at this
            exact ⟨p, v, rfl, this, k I2 H2 v (x1.trans x2) h2⟩
          next => cases hf
        next => cases hf
      next => cases hf
    next => cases hf
/-- k in d -/
def fDIn (g f : En → Option W) : En → Option W := fun e => match g e with
  | some u => (match f e with
    | some (.dct t ks ws) => (match dkey u with
      | some (t', k) => if t' = t then some (.bl (getL ks ws k).isSome) else none
      | none => none)
    | _ => none)
  | none => none
end Qw
namespace Qw
open PySem PySem.Spec PyProof.Rows L2 Nz
open Evl (Ex)
variable {T : TQ} {X : Cx} {K : PySem.W.Frag} {I I' I1 I2 H H' H1 H2 I0 H0 : Hp} {e : En} {σ : L2.St}
theorem isWs_erase : ∀ {ws : List W} {vs : List V} (k : Nat), IsWs K I ws vs → IsWs K I (ws.eraseIdx k) (vs.eraseIdx k)
  | [], vs, k, r => by
    simp only [IsWs] at r
    subst r
    cases k <;> exact IsWs.nil
  | w :: ws, vs, 0, r => by
    obtain ⟨v, vs', rfl, h1, h2⟩ := one r
    exact h2
  | w :: ws, vs, k + 1, r => by
    obtain ⟨v, vs', rfl, h1, h2⟩ := one r
    exact IsWs.cons h1 (isWs_erase k h2)
/-- what ys.pop(n) leaves and gives -/
def popAtW (us : List W) (n : Int) : Option (W × List W) := if -9223372036854775808 ≤ n ∧ n < 9223372036854775808 then (match seqIndex? n us.length with
  | some k => (match us[k]? with
    | some y => some (y, us.eraseIdx k)
    | none => none)
  | none => none) else none
theorem popAt_is {us : List W} {vs : List V} {n : Int} {y : W} {r' : List W} (h : popAtW us n = some (y, r')) (r : IsWs K I us vs) : -(2 ^ 63) ≤ n ∧ n < 2 ^ 63 ∧ ∃ k v, seqIndex? n vs.length = some k ∧ vs[k]? = some v ∧ IsW K I y v ∧ IsWs K I r' (vs.eraseIdx k) := by
  unfold popAtW at h
  split at h
  next hb =>
    split at h
    next k hk =>
      split at h
      next z hz =>
        cases h
        obtain ⟨v, h1, h2⟩ := r.get hz
        exact ⟨by omega, by omega, k, v, by rw [← r.len]; exact hk, h1, h2, isWs_erase k r⟩
      next => cases h
    next => cases h
  next => cases h
/-- xs.append(ys.pop(n)) -/
def sAppPop (i j : Nat) (g : En → Option W) : En → Option Out := fun e => match g e with
  | some (.int n) => (match e[i]?, e[j]? with
    | some (some (.own (.lst ws))), some (some (.own (.lst us))) => if i = j ∨ sizeLine ≤ ws.length then none else (match popAtW us n with
      | some (y, r) => some (.nx ((e.set j (some (.own (.lst r)))).set i (some (.own (.lst (ws ++ [y]))))))
      | none => none)
    | _, _ => none)
  | _ => none
theorem appPop_use {i j : Nat} {g : En → Option W} {D : Ends} : tS K T (sAppPop i j g) D σ H → tDrop (tBM K "list" rAppend (tVar i) (tCons (tBM K "list" rPopAt (tVar j) (tCons (tW K g) tNil)) tNil)) D σ H := fun ⟨I0, H0, I, e, o, S, hf, k⟩ => by
  unfold sAppPop at hf
  split at hf
  next n hn =>
    split at hf
    next ws us hi hj =>
      split at hf
      next => cases hf
      next hz =>
        split at hf
        next y r' hp =>
          cases hf
          obtain ⟨pi, hpi, _, _, vi, hvi, _⟩ := own_at S hi
          obtain ⟨pj, hpj, _, _, vj, hvj, _⟩ := own_at S hj
          refine ⟨_, hpi, .inl ⟨rfl, _, .inl (.inl hvi)⟩, _, hpj, .inl ⟨rfl, _, .inl (.inl hvj)⟩, I0, H0, I, e, _, S, hn, fun I1 H1 x x1 r1 => ?_⟩
          rw [isInt] at r1
          have S1 := S.mono x1
          obtain ⟨qj, hqj, _, _, uj, huj, rj⟩ := own_at S1 hj
          rw [hpj] at hqj
          cases hqj
          obtain ⟨b1, b2, kk, v, h1, h2, h3, h4⟩ := popAt_is hp rj
          refine ⟨pj, uj, n, kk, v, rfl, by rw [r1], huj, b1, b2, h1, h2, ?_⟩
          have S2 := S1.chg (w' := .lst r') hj hpj ⟨_, upd_same, h4⟩
          have hi2 : (e.set j (some (.own (.lst r'))))[i]? = some (some (.own (.lst ws))) := by
            rw [List.getElem?_set_ne fun z => hz (.inl z.symm)]
            exact hi
          obtain ⟨qi, hqi, _, _, ui, hui, ri⟩ := own_at S2 hi2
          rw [hpi] at hqi
          cases hqi
          refine ⟨pi, ui, v, rfl, rfl, hui, by rw [← ri.len]; omega, k _ _ _ (S2.chg hi2 hpi ⟨_, upd_same, ri.append (IsWs.cons h3 IsWs.nil)⟩) x1.i⟩
        next => cases hf
    next => cases hf
  next => cases hf
/-- name = ys.pop(n) -/
def sSetPop (i j : Nat) (g : En → Option W) : En → Option Out := fun e => match g e with
  | some (.int n) => (match e[j]? with
    | some (some (.own (.lst us))) => (match popAtW us n with
      | some (y, r) => some (.nx ((e.set j (some (.own (.lst r)))).set i (some (.imm y))))
      | none => none)
    | _ => none)
  | _ => none
/-- xs.clear(), xs.reverse() -/
def sClear (i : Nat) : En → Option Out := fun e => match e[i]? with
  | some (some (.own (.lst _))) => some (.nx (e.set i (some (.own (.lst [])))))
  | _ => none
theorem clear_use {i : Nat} {D : Ends} : tS K T (sClear i) D σ H → tDrop (tBM0 K "list" rClear (tVar i)) D σ H := fun ⟨I0, H0, I, e, o, S, hf, k⟩ => by
  unfold sClear at hf
  split at hf
  next ws hs =>
    cases hf
    obtain ⟨p, hp, hi, h0, vs, hv, r⟩ := own_at S hs
    exact ⟨_, hp, .inl ⟨rfl, _, .inl (.inl hv)⟩, p, vs, rfl, rfl, hv, k I _ _ (S.chg hs hp ⟨_, upd_same, IsWs.nil⟩) (Ex.refl _)⟩
  next => cases hf
def sRevs (i : Nat) : En → Option Out := fun e => match e[i]? with
  | some (some (.own (.lst ws))) => some (.nx (e.set i (some (.own (.lst ws.reverse)))))
  | _ => none
theorem revs_use {i : Nat} {D : Ends} : tS K T (sRevs i) D σ H → tDrop (tBM0 K "list" rReverse (tVar i)) D σ H := fun ⟨I0, H0, I, e, o, S, hf, k⟩ => by
  unfold sRevs at hf
  split at hf
  next ws hs =>
    cases hf
    obtain ⟨p, hp, hi, h0, vs, hv, r⟩ := own_at S hs
    exact ⟨_, hp, .inl ⟨rfl, _, .inl (.inl hv)⟩, p, vs, rfl, rfl, hv, k I _ _ (S.chg hs hp ⟨_, upd_same, r.reverse⟩) (Ex.refl _)⟩
  next => cases hf
/-! ### a < b < c as a test -/
def fChain (o o' : Int → Int → Bool) (f g h : En → Option W) : En → Option Bool := fun e => match f e with
  | some (.int a) => (match g e with
    | some (.int b) => if o a b = true then (match h e with
      | some (.int c) => some (o' b c)
      | _ => none) else some false
    | _ => none)
  | _ => none
theorem qchain {a b c : Expr} {op op' : CmpOp} {o o' : Int → Int → Bool} {f g h : En → Option W} {pos : Pos} (ho : OpR X (compareOp op) (fun x y H Q => ∃ i j, x = .int i ∧ y = .int j ∧ Q (.bl (o i j)) H))
    (ho' : OpR X (compareOp op') (fun x y H Q => ∃ i j, x = .int i ∧ y = .int j ∧ Q (.bl (o' i j)) H)) (ha : PE X a (tW X.K f)) (hb : PE X b (tW X.K g)) (hc : PE X c (tW X.K h)) (hl : lastMarks [op, op'] [b, c] = false := by rfl) :
    PT X (.Compare a [op, op'] [b, c] pos) (tT X.K (fChain o o' f g h)) := pt_imp (pt_chain ho ho' ha hb hc hl) fun σ H Q ⟨I0, H0, I, e, bb, S, hf, k⟩ => by
  unfold fChain at hf
  split at hf
  next i hi =>
    split at hf
    next j hj =>
      refine ⟨I0, H0, I, e, _, S, hi, fun I1 H1 x x1 r1 => ⟨I0, H0, I1, e, _, S.mono x1, hj, fun I2 H2 y x2 r2 => ?_⟩⟩
      rw [isInt] at r1 r2
      refine ⟨i, j, r1, r2, _, rfl, ?_⟩
      split at hf
      next hz =>
        rw [if_pos hz]
        split at hf
        next l hl =>
          cases hf
          refine ⟨I0, H0, I2, e, _, (S.mono x1).mono x2, hl, fun I3 H3 z x3 r3 => ?_⟩
          rw [isInt] at r3
          exact ⟨j, l, r2, r3, _, rfl, k I3 H3 ((x1.trans x2).trans x3)⟩
        next => cases hf
      next hz =>
        rw [if_neg hz]
        cases hf
        exact ⟨_, rfl, k I2 H2 (x1.trans x2)⟩
    next => cases hf
  next => cases hf
/-! ### x, y = a, b; tuple(range(n)) -/
def sPar (i j : Nat) (f : En → Option (List W)) : En → Option Out := fun e => match f e with
  | some [a, b] => some (.nx ((e.set i (some (.imm a))).set j (some (.imm b))))
  | _ => none
theorem qpar {i j : Nat} {x y : Str} {a b : Expr} {f : En → Option (List W)} {px py pt pos pt2 : Pos} {kt k2 : Nat} (hc : X.calm = true) (hN : X.N.Nodup) (hi : X.N[i]? = some x) (hj : X.N[j]? = some y) (hij : i ≠ j) (hx : X.env.scope.names.lookup x = some .local) (hy : X.env.scope.names.lookup y = some .local)
    (ha : PA X [a, b] (tA X.K f)) (hsw : swappedStores [.Tuple [.Name x px, .Name y py] kt pt] (.Tuple [a, b] k2 pt2) X.env = pure (some [x, y]) := by rfl)
    (hs2 : swapsWithSole [.Tuple [.Name x px, .Name y py] kt pt] (.Tuple [a, b] k2 pt2) pos.line X.env = pure false := by rfl) :
    PS X (.Assign [.Tuple [.Name x px, .Name y py] kt pt] (.Tuple [a, b] k2 pt2) pos) (tS X.K (wxQ X) (sPar i j f)) := ps_imp (ps_par hc hN hi hj hij hx hy ha hsw hs2) fun D σ H ⟨I0, H0, I, e, o, S, hf, k⟩ => by
  unfold sPar at hf
  split at hf
  next u w hw =>
    cases hf
    refine ⟨I0, H0, I, e, _, S, hw, fun I1 H1 vs x1 r => ?_⟩
    obtain ⟨v1, r1, rfl, h1, r⟩ := one r
    obtain ⟨v2, r2, rfl, h2, r⟩ := one r
    rw [isNil r]
    have S1 := S.set x1 (sv := .imm u) h1 i
    exact ⟨v1, v2, rfl, k I1 _ H1 (S1.set S1.ref (sv := .imm w) h2 j) x1.i⟩
  next => cases hf
def fTRg1 (f : En → Option W) : En → Option W := fun e => match f e with
  | some (.int n) => if -1000000 ≤ n ∧ n ≤ 16777216 then some (.tup (rngW 0 (n - 0).toNat)) else none
  | _ => none
theorem qtrg1 {a : Expr} {f : En → Option W} {p pos rp rpos : Pos} (hc : X.calm = true) (hg : Gl X "tuple") (hm : X.mg "tuple" = none) (hg2 : Gl X "range") (hm2 : X.mg "range" = none) (ha : PE X a (tW X.K f)) (na : starEach [a] X.env = (false, eval a X.env) :: starEach [] X.env := by rfl)
    (na2 : starEach [.Call (.Name "range" rp) [a] [] rpos] X.env = (false, eval (.Call (.Name "range" rp) [a] [] rpos) X.env) :: starEach [] X.env := by rfl) :
    PE X (.Call (.Name "tuple" p) [.Call (.Name "range" rp) [a] [] rpos] [] pos) (tW X.K (fTRg1 f)) := pe_imp (pe_tupRg hc hg hm (prg_1 hg2 hm2 ha na) na2) fun σ H Q ⟨I0, H0, I, e, w, S, hf, k⟩ => by
  unfold fTRg1 at hf
  split at hf
  next n hn =>
    split at hf
    next hz =>
      cases hf
      refine ⟨I0, H0, I, e, _, S, hn, fun I1 H1 v x1 r => ?_⟩
      rw [isInt] at r
      refine ⟨n, r, ⟨by omega, by omega, by omega, by omega, by omega⟩, fun q hq => k _ _ _ (x1.new hq) ?_⟩
      simp only [IsW]
      exact ⟨q, _, rfl, upd_same, rg_ws⟩
    next => cases hf
  next => cases hf
/-- a < b < c as a value -/
def fChainV (o o' : Int → Int → Bool) (f g h : En → Option W) : En → Option W := fun e => match fChain o o' f g h e with
  | some b => some (.bl b)
  | none => none
theorem qchainV {a b c : Expr} {op op' : CmpOp} {o o' : Int → Int → Bool} {f g h : En → Option W} {pos : Pos} (ho : OpR X (compareOp op) (fun x y H Q => ∃ i j, x = .int i ∧ y = .int j ∧ Q (.bl (o i j)) H))
    (ho' : OpR X (compareOp op') (fun x y H Q => ∃ i j, x = .int i ∧ y = .int j ∧ Q (.bl (o' i j)) H)) (ha : PE X a (tW X.K f)) (hb : PE X b (tW X.K g)) (hc : PE X c (tW X.K h)) (hl : lastMarks [op, op'] [b, c] = false := by rfl) :
    PE X (.Compare a [op, op'] [b, c] pos) (tW X.K (fChainV o o' f g h)) := pe_imp (pe_chain ho ho' ha hb hc hl) fun σ H Q ⟨I0, H0, I, e, w, S, hf, k⟩ => by
  unfold fChainV fChain at hf
  split at hf
  next bb hbb =>
    cases hf
    split at hbb
    next i hi =>
      split at hbb
      next j hj =>
        refine ⟨I0, H0, I, e, _, S, hi, fun I1 H1 x x1 r1 => ⟨I0, H0, I1, e, _, S.mono x1, hj, fun I2 H2 y x2 r2 => ?_⟩⟩
        rw [isInt] at r1 r2
        refine ⟨i, j, r1, r2, _, rfl, ?_⟩
        split at hbb
        next hz =>
          rw [if_pos hz]
          split at hbb
          next l hl =>
            cases hbb
            refine ⟨I0, H0, I2, e, _, (S.mono x1).mono x2, hl, fun I3 H3 z x3 r3 => ?_⟩
            rw [isInt] at r3
            exact ⟨j, l, r2, r3, k I3 H3 _ ((x1.trans x2).trans x3) (isBl.mpr rfl)⟩
          next => cases hbb
        next hz =>
          rw [if_neg hz]
          cases hbb
          exact k I2 H2 _ (x1.trans x2) (isBl.mpr rfl)
      next => cases hbb
    next => cases hbb
  next => cases hf
end Qw
namespace Qw
open PySem PySem.Spec PyProof.Rows L2 Nz
open Evl (Ex)
variable {T : TQ} {X : Cx} {K : PySem.W.Frag} {I I' I1 I2 H H' H1 H2 I0 H0 : Hp} {e : En} {σ : L2.St}
/-! ### f'..' -/
def tStr (K : PySem.W.Frag) (g : En → Option Str) : TE := fun σ H Q => ∃ I0 H0 I e y, Sat K I0 H0 I e σ H ∧ g e = some y ∧ ∀ I' H', Ext I H I' H' → Q (.str y) H'
def fmtW : W → Option Str
  | .str y => if y.length ≤ sizeLine then some y else none
  | .int i => if i.natAbs.log2 < 1920 then some (toString i) else none
  | _ => none
def fFmt (f : En → Option W) : En → Option Str := fun e => match f e with
  | some w => fmtW w
  | none => none
def fTxt (x : Str) : En → Option Str := fun _ => some x
theorem qfmt {a : Expr} {f : En → Option W} {pos : Pos} (ha : PE X a (tW X.K f)) : PE X (.FormattedValue a (-1) none pos) (tStr X.K (fFmt f)) := pe_imp (pe_fmt ha) fun σ H Q ⟨I0, H0, I, e, y, S, hf, k⟩ => by
  unfold fFmt at hf
  split at hf
  next w hw =>
    refine ⟨I0, H0, I, e, w, S, hw, fun I1 H1 v x1 r => ?_⟩
    unfold fmtW at hf
    split at hf
    next z =>
      split at hf
      next hz => cases hf; rw [isStr] at r; exact .inl ⟨_, r, hz, k _ _ x1⟩
      next => cases hf
    next i =>
      split at hf
      next hz => cases hf; rw [isInt] at r; exact .inr ⟨_, r, hz, k _ _ x1⟩
      next => cases hf
    next => cases hf
  next => cases hf
theorem qtxt {x : Str} {j pos} : PE X (.Constant (.str x) j pos) (tStr X.K (fTxt x)) := pe_imp pe_str fun σ H Q ⟨I0, H0, I, e, y, S, hf, k⟩ => by
  cases hf
  exact k _ _ S.ref
def fJs : List (En → Option Str) → Str → En → Option Str
  | [], acc, _ => some acc
  | g :: gs, acc, e => match g e with
    | some y => if (acc ++ y).length ≤ sizeLine then fJs gs (acc ++ y) e else none
    | none => none
def fFS (gs : List (En → Option Str)) : En → Option W := fun e => match fJs gs Str.empty e with
  | some s => some (.str s)
  | none => none
theorem js_use {Q : Str → Hp → Prop} : ∀ {gs : List (En → Option Str)} {acc out : Str} {I H : Hp}, Sat K I0 H0 I e σ H → fJs gs acc e = some out → (∀ I' H', Ext I H I' H' → Q out H') → tJs (gs.map (tStr K)) acc σ H Q
  | [], acc, out, I, H, S, h, k => by
    cases h
    exact k _ _ S.ref
  | g :: gs, acc, out, I, H, S, h, k => by
    simp only [fJs] at h
    split at h
    next y hy =>
      split at h
      next hz =>
        exact ⟨I0, H0, I, e, y, S, hy, fun I1 H1 x1 => ⟨y, rfl, hz, js_use (S.mono x1) h fun I2 H2 x2 => k _ _ (x1.trans x2)⟩⟩
      next => cases h
    next => cases h
theorem qfs {v1 v2 : Expr} {rest : List Expr} {gs : List (En → Option Str)} {pos : Pos} (h : PJ X (v1 :: v2 :: rest) (gs.map (tStr X.K))) : PE X (.JoinedStr (v1 :: v2 :: rest) pos) (tW X.K (fFS gs)) := pe_imp (pe_joined h) fun σ H Q ⟨I0, H0, I, e, w, S, hf, k⟩ => by
  unfold fFS at hf
  split at hf
  next s hs =>
    cases hf
    exact js_use S hs fun I1 H1 x1 => k _ _ _ x1 (isStr.mpr rfl)
  next => cases hf
theorem qjn : PJ X [] (([] : List (En → Option Str)).map (tStr X.K)) := .nil
theorem qjc {a : Expr} {es : List Expr} {g : En → Option Str} {gs : List (En → Option Str)} (h : PE X a (tStr X.K g)) (r : PJ X es (gs.map (tStr X.K))) : PJ X (a :: es) ((g :: gs).map (tStr X.K)) := .cons h r
/-! ### a dict of the module -/
def fKD (tbl : List (Str × W)) (f : En → Option W) : En → Option W := fun e => match f e with
  | some (.str s) => tbl.lookup s
  | _ => none
def KTbl (K : PySem.W.Frag) (w : World) (d : Addr) (tbl : List (Str × W)) : Prop := ∀ z u, tbl.lookup z = some u → ∃ v, KDct K w d z v ∧ ∀ H, IsW K H u v
theorem ktbl_nil {w : World} {d : Addr} : KTbl K w d [] := fun z u h => by simp [List.lookup] at h
theorem ktbl_cons {w : World} {d d' : Addr} {a : Str} {u : W} {r : List (Str × W)} {es : Array DictEntry} {n : Nat} (hl : K.lookup d = some ⟨.type "dict", none, .dict es n, #[]⟩) (hk : PySem.W.KeysLit w.params es.toList) (hv : PySem.W.nsIn K d a = some (some (.ref d'))) (hu : ∀ H, IsW K H u (.ref d'))
    (t : KTbl K w d r) : KTbl K w d ((a, u) :: r) := fun z u' h => by
  by_cases e : z = a
  · subst e
    simp [List.lookup] at h
    subst h
    exact ⟨.ref d', ⟨es, n, .ref d', hl, hk, hv, rfl⟩, hu⟩
  · have e2 : (z == a) = false := by simpa using e
    simp [List.lookup, e2] at h
    exact t z u' h
theorem qkd {x : Str} {d : Addr} {tbl : List (Str × W)} {b : Expr} {f : En → Option W} {p pos : Pos} (hg : Gl X x) (hm : X.mg x = some (.ref d)) (hk : KTbl X.K X.w d tbl) (hb : PE X b (tW X.K f)) (hs : PlainIx b := by intro _ _; rfl) (hdb : (x == ("__debug__" : Str)) = false := by decide) :
    PE X (.Subscript (.Name x p) b pos) (tW X.K (fKD tbl f)) := pe_imp (pe_ix ix_kdict (pe_glob (v := .ref d) (u := .ref d) hg hm rfl (hd := hdb)) hb hs) fun σ H Q ⟨I0, H0, I, e, w, S, hf, k⟩ => by
  unfold fKD at hf
  split at hf
  next s hs =>
    refine ⟨I0, H0, I, e, _, S, hs, fun I1 H1 y x1 r1 => ?_⟩
    rw [isStr] at r1
    obtain ⟨v, h1, h2⟩ := hk _ _ hf
    exact ⟨d, s, v, rfl, r1, h1, k _ _ _ x1 (h2 _)⟩
  next => cases hf
/-! ### expressions that take from our own lists -/
def tWX (K : PySem.W.Frag) (f : En → Option (W × En)) : TE := fun σ H Q => ∃ I0 H0 I e w e', Sat K I0 H0 I e σ H ∧ f e = some (w, e') ∧ ∀ I' H' v, Sat K I0 H0 I' e' σ H' → Ex I I' → IsW K I' w v → Q v H'
def tAX (K : PySem.W.Frag) (f : En → Option (List W × En)) : TA := fun σ H Q => ∃ I0 H0 I e ws e', Sat K I0 H0 I e σ H ∧ f e = some (ws, e') ∧ ∀ I' H' vs, Sat K I0 H0 I' e' σ H' → Ex I I' → IsWs K I' ws vs → Q vs H'
def xL (f : En → Option W) : En → Option (W × En) := fun e => match f e with
  | some w => some (w, e)
  | none => none
theorem xlift {a : Expr} {f : En → Option W} (h : PE X a (tW X.K f)) : PE X a (tWX X.K (xL f)) := pe_imp h fun σ H Q ⟨I0, H0, I, e, w, e', S, hf, k⟩ => by
  unfold xL at hf
  split at hf
  next w' hw => cases hf; exact ⟨I0, H0, I, e, _, S, hw, fun I1 H1 v x1 r => k _ _ _ (S.mono x1) x1.i r⟩
  next => cases hf
def xPop (i : Nat) : En → Option (W × En) := fun e => match e[i]? with
  | some (some (.own (.lst ws))) => (match ws[ws.length - 1]? with
    | some w => some (w, e.set i (some (.own (.lst ws.dropLast))))
    | none => none)
  | _ => none
theorem xpop_use {i : Nat} {Q : VK} : tWX K (xPop i) σ H Q → tBM0 K "list" rPop (tVar i) σ H Q := fun ⟨I0, H0, I, e, w, e', S, hf, k⟩ => by
  unfold xPop at hf
  split at hf
  next ws hs =>
    split at hf
    next w' hw =>
      cases hf
      obtain ⟨p, hp, hi, h0, vs, hv, r⟩ := own_at S hs
      obtain ⟨v, h1, h2⟩ := r.get hw
      rw [r.len] at h1
      exact ⟨_, hp, .inl ⟨rfl, _, .inl (.inl hv)⟩, p, vs, v, rfl, rfl, hv, h1, k I _ _ (S.chg hs hp ⟨_, upd_same, isWs_dropLast r⟩) (Ex.refl _) h2⟩
    next => cases hf
  next => cases hf
def xNil : En → Option (List W × En) := fun e => some ([], e)
def xCons (f : En → Option (W × En)) (g : En → Option (List W × En)) : En → Option (List W × En) := fun e => match f e with
  | some (w, e1) => (match g e1 with
    | some (ws, e2) => some (w :: ws, e2)
    | none => none)
  | none => none
theorem xnil : PA X [] (tAX X.K xNil) := pa_imp pa_nil fun σ H Q ⟨I0, H0, I, e, ws, e', S, hf, k⟩ => by
  cases hf
  exact k _ _ _ S (Ex.refl _) IsWs.nil
theorem xcons {a : Expr} {es : List Expr} {f : En → Option (W × En)} {g : En → Option (List W × En)} (ha : PE X a (tWX X.K f)) (hr : PA X es (tAX X.K g)) (hs : starEach (a :: es) X.env = (false, eval a X.env) :: starEach es X.env := by rfl) :
    PA X (a :: es) (tAX X.K (xCons f g)) := pa_imp (pa_cons ha hr hs) fun σ H Q ⟨I0, H0, I, e, ws, e', S, hf, k⟩ => by
  unfold xCons at hf
  split at hf
  next w e1 hw =>
    split at hf
    next ws' e2 hws =>
      cases hf
      exact ⟨I0, H0, I, e, w, e1, S, hw, fun I1 H1 x S1 x1 r1 => ⟨I0, H0, I1, e1, ws', _, S1, hws, fun I2 H2 xs S2 x2 r2 => k _ _ _ S2 (x1.trans x2) (IsWs.cons (IsW.mono x2 r1) r2)⟩⟩
    next => cases hf
  next => cases hf
def xTup (f : En → Option (List W × En)) : En → Option (W × En) := fun e => match f e with
  | some (ws, e1) => if ws.length ≤ sizeLine then some (.tup ws, e1) else none
  | none => none
theorem xtup {es : List Expr} {x1} {pos : Pos} {f : En → Option (List W × En)} (h : PA X es (tAX X.K f)) : PE X (.Tuple es x1 pos) (tWX X.K (xTup f)) := pe_imp (pe_tup h) fun σ H Q ⟨I0, H0, I, e, w, e', S, hf, k⟩ => by
  unfold xTup at hf
  split at hf
  next ws e1 hws =>
    split at hf
    next hz =>
      cases hf
      refine ⟨I0, H0, I, e, ws, e', S, hws, fun I1 H1 vs S1 x1 r1 => ⟨by rw [← r1.len]; exact hz, fun p hp => ?_⟩⟩
      have fr : I1 p = none := Evl.fresh_back S1.ext hp
      refine k _ _ _ (S1.mono (S1.ref.new hp)) (x1.trans (Ex.new fr)) ?_
      simp only [IsW]
      exact ⟨p, vs, rfl, upd_same, r1.mono (Ex.new fr)⟩
    next => cases hf
  next => cases hf
def sAppX (i : Nat) (f : En → Option (W × En)) : En → Option Out := fun e => match e[i]? with
  | some (some (.own (.lst _))) => (match f e with
    | some (w, e1) => (match e1[i]? with
      | some (some (.own (.lst ws))) => if ws.length < sizeLine then some (.nx (e1.set i (some (.own (.lst (ws ++ [w])))))) else none
      | _ => none)
    | none => none)
  | _ => none
theorem appX_use {i : Nat} {f : En → Option (W × En)} {D : Ends} : tS K T (sAppX i f) D σ H → tDrop (tBM K "list" rAppend (tVar i) (tCons (tWX K f) tNil)) D σ H := fun ⟨I0, H0, I, e, o, S, hf, k⟩ => by
  unfold sAppX at hf
  split at hf
  next ws0 hs0 =>
    split at hf
    next w e1 hw =>
      split at hf
      next ws hs =>
        split at hf
        next hz =>
          cases hf
          obtain ⟨p, hp, hi, h0, vs, hv, r⟩ := own_at S hs0
          refine ⟨_, hp, .inl ⟨rfl, _, .inl (.inl hv)⟩, I0, H0, I, e, w, e1, S, hw, fun I1 H1 y S1 x1 r1 => ?_⟩
          obtain ⟨p', hp', hi', h0', vs', hv', r'⟩ := own_at S1 hs
          rw [hp] at hp'
          cases hp'
          refine ⟨p, vs', y, rfl, rfl, hv', by rw [← r'.len]; exact hz, k I1 _ _ (S1.chg hs hp ⟨vs' ++ [y], upd_same, r'.append (IsWs.cons r1 IsWs.nil)⟩) x1⟩
        next => cases hf
      next => cases hf
    next => cases hf
  next => cases hf
def sSetX (i : Nat) (f : En → Option (W × En)) : En → Option Out := fun e => match f e with
  | some (w, e1) => some (.nx (e1.set i (some (.imm w))))
  | none => none
theorem qsetP {i : Nat} {x : Str} {a : Expr} {f : En → Option (W × En)} {p pos : Pos} (hN : X.N.Nodup) (hi : X.N[i]? = some x) (hx : Loc X.env.scope x) (ha : PE X a (tWX X.K f)) (hs : swapsWith a (some (.Name x p)) pos.line X.env = pure false := by rfl)
    (hf : X.fn x = true ∨ X.env.scope.names.lookup x = some .local := by first | exact .inl rfl | exact .inr rfl | assumption) : PS X (.Assign [.Name x p] a pos) (tS X.K (wxQ X) (sSetX i f)) :=
  ps_imp (ps_set hN hi hx ha hs hf) fun D σ H ⟨I0, H0, I, e, o, S, hg, k⟩ => by
    unfold sSetX at hg
    split at hg
    next w e1 hw =>
      cases hg
      exact ⟨I0, H0, I, e, w, e1, S, hw, fun I1 H1 v S1 x1 r => k I1 _ H1 (S1.set S1.ref (sv := .imm w) r i) x1⟩
    next => cases hg
end Qw
namespace Qw
open PySem PySem.Spec PyProof.Rows L2 Nz
open Evl (Ex)
variable {T : TQ} {X : Cx} {K : PySem.W.Frag} {I I' I1 I2 H H' H1 H2 I0 H0 : Hp} {e : En} {σ : L2.St}
/-! ### text.split(sep), text.isdigit() -/
def splitW : W → List W → Option SV
  | .str a, [.str b] => if (b.length == 0) = false ∧ a.length + 2 ≤ sizeLine then some (.own (.lst ((Txt.split a b).map W.str))) else none
  | _, _ => none
theorem strs_ws : ∀ (ys : List Str), IsWs K I (ys.map W.str) (ys.map V.str)
  | [] => IsWs.nil
  | y :: r => IsWs.cons (isStr.mpr rfl) (strs_ws r)
def fMetR (o : W → List W → Option SV) (f : En → Option W) (g : En → Option (List W)) : En → Option SV := fun e => match f e with
  | some a => (match g e with
    | some ws => o a ws
    | none => none)
  | none => none
theorem split_use {f : En → Option W} {g : En → Option (List W)} {Q : VK} : tR K (fMetR splitW f g) σ H Q → tBM K "str" (fun x xs H Q => ∃ a b, x = .str a ∧ xs = [.str b] ∧ (b.length == 0) = false ∧ a.length + 2 ≤ sizeLine ∧ rNewStrs (Txt.split a b) H Q) (tW K f) (tA K g) σ H Q :=
  fun ⟨I0, H0, I, e, sv, S, hf, k⟩ => by
    unfold fMetR at hf
    split at hf
    next a ha =>
      split at hf
      next ws hws =>
        unfold splitW at hf
        split at hf
        next x y =>
          split at hf
          next hz =>
            cases hf
            refine ⟨I0, H0, I, e, _, S, ha, fun I1 H1 v x1 r1 => ?_⟩
            rw [isStr] at r1
            subst r1
            refine ⟨rfl, I0, H0, I1, e, _, S.mono x1, hws, fun I2 H2 vs x2 r2 => ?_⟩
            obtain ⟨u, r', rfl, h1, h2⟩ := one r2
            rw [isNil h2]
            rw [isStr] at h1
            subst h1
            refine ⟨_, _, rfl, rfl, hz.1, hz.2, fun q hq => ?_⟩
            have XX := x1.trans x2
            exact k _ _ _ (XX.newOwn hq) ⟨q, rfl, Evl.fresh_back XX.ih hq, Evl.fresh_back XX.h hq, _, upd_same, strs_ws _⟩
          next => cases hf
        next => cases hf
      next => cases hf
    next => cases hf
def isdW : W → Option W
  | .str a => some (.bl (Txt.isdigit a))
  | _ => none
theorem isd_use {f : En → Option W} {Q : VK} : tW K (fUn isdW f) σ H Q → tBM0 K "str" (fun x xs H Q => ∃ a, x = .str a ∧ xs = [] ∧ True ∧ Q (.bl (Txt.isdigit a)) H) (tW K f) σ H Q := fun ⟨I0, H0, I, e, w, S, hf, k⟩ => by
  unfold fUn at hf
  split at hf
  next a ha =>
    unfold isdW at hf
    split at hf
    next z =>
      cases hf
      refine ⟨I0, H0, I, e, _, S, ha, fun I1 H1 v x1 r1 => ?_⟩
      rw [isStr] at r1
      subst r1
      exact ⟨rfl, _, rfl, rfl, trivial, k _ _ _ x1 (isBl.mpr rfl)⟩
    next => cases hf
  next => cases hf
/-! ### None in found -/
def isNw : W → Bool
  | .non => true
  | _ => false
def nonInW : W → W → Option W
  | .non, .lst ws => (match toDs ws with
    | some ds => if SeqAt.shaped (.list ds) = true then some (.bl (ws.any isNw)) else none
    | none => none)
  | _, _ => none
theorem any_isN : ∀ {ws : List W} {ds : List PyData}, toDs ws = some ds → (ds.any fun z => PyData.eqv z .none) = ws.any isNw
  | [], ds, h => by simp [toDs] at h; subst h; rfl
  | w :: ws, ds, h => by
    simp only [toDs] at h
    split at h
    next d hd =>
      split at h
      next ds' hds =>
        cases h
        rw [List.any_cons, List.any_cons, any_isN hds]
        congr 1
        cases w with
        | non => simp [toD] at hd; subst hd; rfl
        | bl b => simp [toD] at hd; subst hd; simp [PyData.eqv, isNw]
        | int b => simp [toD] at hd; subst hd; simp [PyData.eqv, isNw]
        | str b => simp [toD] at hd; subst hd; simp [PyData.eqv, isNw]
        | tup us => simp only [toD, Option.map_eq_some_iff] at hd; obtain ⟨a, _, rfl⟩ := hd; simp [PyData.eqv, isNw]
        | lst us => simp only [toD, Option.map_eq_some_iff] at hd; obtain ⟨a, _, rfl⟩ := hd; simp [PyData.eqv, isNw]
        | klst us => simp only [toD, Option.map_eq_some_iff] at hd; obtain ⟨a, _, rfl⟩ := hd; simp [PyData.eqv, isNw]
        | _ => simp [toD] at hd
      next => cases h
    next => cases h
theorem r65 {k : Nat} {A : Around} (r : Room k A) : A.units + 65 < cLine := by have := r.un; omega
theorem bv_nonIn : BinV K (rInD K) nonInW := by
  intro I H a b x y w Q ex ra rb ho k
  unfold nonInW at ho
  split at ho
  next ws =>
    split at ho
    next ds hds =>
      split at ho
      next hz =>
        cases ho
        have rb' := IsW.mono ex rb
        have hd : toD (.lst ws) = some (.list ds) := by simp [toD, hds]
        refine ⟨.none, ds, ?_, toD_dp rb' hd, rfl, hz, ?_⟩
        · rw [isNon] at ra
          subst ra
          exact .non
        · rw [any_isN hds]
          exact k _ _ _ (Ext.refl ex) (isBl.mpr rfl)
      next => cases ho
    next => cases ho
  next => cases ho
/-! ### calls of defs that raise, where they don't -/
def fCX (F : List W → Option RX) (g : En → Option (List W)) : En → Option SV := fun e => match g e with
  | some ws => (match F ws with
    | some (.ret sv) => some sv
    | _ => none)
  | none => none
theorem qcXr {k : Nat} {f : Addr} {fd : FuncData} {ps : List Str} {F : List W → Option RX} {g : En → Option (List W)} {x : Str} {p pos : Pos} {a : Expr} {es : List Expr} {n : Nat} (G : FnOk X.prog X.w X.K X.mg X.base (L2.CX X.prog X.w) k f fd ps (spX X.K X.mg n F)) (hr : Room k X.A) (hg : Gl X x) (hm : X.mg x = some (.ref f)) (hk : PySem.W.keepIn X.K (.ref f) = true) (hb : Binds X.K fd ps [])
    (hn : ∀ ws r, F ws = some r → ws.length = n) (ha : PA X (a :: es) (tA X.K g)) (hdb : (x == ("__debug__" : Str)) = false := by decide) (he : starEach (a :: es) X.env = (false, eval a X.env) :: starEach es X.env := by rfl) (hpl : (backTo pos (starEach es X.env)).any (·.1) = false := by rfl) :
    PE X (.Call (.Name x p) (a :: es) [] pos) (tR X.K (fCX F g)) := pe_imp (qcX_pe G hr hg hm hk hb ha hdb he hpl) fun σ H Q ⟨I0, H0, I, e, sv, S, hf, kk⟩ => by
  unfold fCX at hf
  split at hf
  next ws hws =>
    split at hf
    next sv' hF =>
      cases hf
      exact ⟨I0, H0, I, e, ws, S, hws, fun I1 H1 vs x1 r1 => ⟨I1, ws, .ret sv, x1.ih, r1, hn _ _ hF, hF, fun I2 H2 v x2 r2 => kk I2 H2 v (x1.trans x2) (r2.weak x1.h)⟩⟩
    next => cases hf
  next => cases hf
/-! ### a caught error: its field, its class -/
/-- what the text says of a class that is caught -/
structure ErrC (K : PySem.W.Frag) (C : Addr) (fn : Str) : Prop where
  ga : PySem.W.findIn K (.ref C) "__getattribute__" = some (some (.builtin "BaseException.__getattribute__"))
  gg : PySem.W.findIn K (.ref C) "__getattr__" = some none
  bx : PySem.W.subIn K (.ref C) (.type "BaseException") = some true
  hd : PySem.W.hasDictIn K C = true
  ha : PySem.W.findIn K (.ref C) "__class__" = some (some (.builtin "object.__class__"))
  oG : PySem.W.specialIn K (.builtin "object.__class__") "__get__" = some (some (.builtin "getset_descriptor.__get__"))
  oT : PySem.W.takesIn K (.builtin "object.__class__") = some true
  hm : PySem.W.mroIn K C (.type "object") = some true
  no : PySem.W.findIn K (.ref C) fn = some none
  me : PySem.W.subIn K (.ref C) (.ref C) = some true
  ty : PySem.W.typeIn K (.ref C) = some (.type "type")
theorem ErrC.xf {C : Addr} {fn : Str} (h : ErrC K C fn) : XfC K C := ⟨h.ga, h.gg, h.bx, h.hd⟩
theorem ErrC.ex {C : Addr} {fn : Str} (h : ErrC K C fn) : ExcC K C := ⟨h.ga, h.gg, h.bx, h.hd, h.ha, h.oG, h.oT, h.hm⟩
theorem ErrC.self {C : Addr} {fn : Str} (h : ErrC K C fn) : PySem.W.exmOne K (.ref C) (.ref C) = some true := PySem.W.exm_ref h.bx h.hd h.ty h.me
def fXf (a d : Addr) (i : Nat) (fn : Str) : En → Option W := fun e => match e[i]? with
  | some (some (.imm (.exc a' d' _ fn' w))) => if a' = a ∧ d' = d ∧ fn' = fn then some w else none
  | _ => none
theorem qxf {a d C : Addr} {oe : Obj} {pn : List (Addr × Obj)} (i : Nat) {n fn : Str} {p pos : Pos} (EC : ErrC X.K C fn) (hz : Zc (.ref C) (some d) oe) (hf : ∃ vs, oe.data = .fields vs) (hN : X.N[i]? = some n := by rfl) (hv : Vis X.env.scope n := by first | exact Or.inl rfl | exact Or.inr (Or.inl rfl) | exact Or.inr (Or.inr rfl))
    (hd : (n == ("__debug__" : Str)) = false := by decide) (hcd : (n == ("__classdict__" : Str)) = false := by decide) :
    PE (X.suite a ((a, oe) :: pn)) (.Attribute (.Name n p) fn pos) (tW X.K (fXf a d i fn)) := pe_imp (pe_xf EC.xf EC.no hz hf (pe_var (X := X.suite a ((a, oe) :: pn)) hN hv hd hcd) rfl) fun σ H Q ⟨I0, H0, I, e, w, S, hf, k⟩ => by
  unfold fXf at hf
  split at hf
  next a' d' x' fn' w' hs =>
    split at hf
    next hz =>
      cases hf
      obtain ⟨rfl, rfl, rfl⟩ := hz
      obtain ⟨v, hv, r⟩ := S.slot i _ hs
      simp only [Res, IsW] at r
      obtain ⟨rfl, u, hu, r⟩ := r
      exact ⟨_, hv, rfl, rfl, d', _, u, rfl, S.ext _ _ hu, by simp [List.lookup], k _ _ _ S.ref r⟩
    next => cases hf
  next => cases hf
/-- isinstance(e, D), D one of the own classes -/
def fIsX (a d : Addr) (i : Nat) (b : Bool) : En → Option W := fun e => match e[i]? with
  | some (some (.imm (.exc a' d' _ _ _))) => if a' = a ∧ d' = d then some (.bl b) else none
  | _ => none
theorem kit_own {C D : Addr} {b : Bool} (hd : PySem.W.hasDictIn K D = true) (ty : PySem.W.typeIn K (.ref D) = some (.type "type")) (me : PySem.W.subIn K (.ref C) (.ref C) = some true) (h : PySem.W.subIn K (.ref C) (.ref D) = some b) : PySem.W.kitOne K (.ref C) (.ref D) = some b := by
  have hs : (PySem.W.clsIn K D).isSome = true := by
    obtain ⟨cd, hc, _⟩ := PySem.W.any_some hd
    rw [hc]
    rfl
  have e2 : ((PySem.W.clsIn K D).isSome && PySem.W.typeIn K (.ref D) == some (.type "type")) = true := by
    rw [hs, ty]
    rfl
  have e3 : PySem.W.kitCls K (.ref C) (.ref D) = some b := (if_pos e2).trans h
  by_cases z : C = D
  · subst z
    rw [me] at h
    cases h
    exact if_pos (beq_self_eq_true _)
  · exact (if_neg (fun y => z (Value.ref.inj (beq_iff_eq.mp y)))).trans e3
theorem qisX {a d C D : Addr} {oe : Obj} {pn : List (Addr × Obj)} {b : Bool} (i : Nat) {n fn y : Str} {p p1 p2 pos : Pos} (EC : ErrC X.K C fn) (hz : Zc (.ref C) (some d) oe) (hf : ∃ vs, oe.data = .fields vs) (hi : Gl (X.suite a ((a, oe) :: pn)) "isinstance") (m : X.mg "isinstance" = none)
    (hy : Gl (X.suite a ((a, oe) :: pn)) y) (gD : X.mg y = some (.ref D)) (hdD : PySem.W.hasDictIn X.K D = true) (tyD : PySem.W.typeIn X.K (.ref D) = some (.type "type")) (sb : PySem.W.subIn X.K (.ref C) (.ref D) = some b)
    (hN : X.N[i]? = some n := by rfl) (hv : Vis X.env.scope n := by first | exact Or.inl rfl | exact Or.inr (Or.inl rfl) | exact Or.inr (Or.inr rfl))
    (hd : (n == ("__debug__" : Str)) = false := by decide) (hcd : (n == ("__classdict__" : Str)) = false := by decide) (hdy : (y == ("__debug__" : Str)) = false := by decide)
    (hs : starEach [.Name n p1, .Name y p2] X.env = (false, eval (.Name n p1) X.env) :: starEach [.Name y p2] X.env := by rfl) (hs2 : starEach [.Name y p2] X.env = (false, eval (.Name y p2) X.env) :: starEach [] X.env := by rfl) (hp : (backTo pos (starEach [.Name y p2] X.env)).any (·.1) = false := by rfl) :
    PE (X.suite a ((a, oe) :: pn)) (.Call (.Name "isinstance" p) [.Name n p1, .Name y p2] [] pos) (tW X.K (fIsX a d i b)) :=
  pe_imp (pe_callB (X := X.suite a ((a, oe) :: pn)) (r := rIsX X.K a (.ref C) (some d)) (call_isX hz hf) hi m (by decide +kernel) (pa_cons (pe_var (X := X.suite a ((a, oe) :: pn)) hN hv hd hcd) (pa_cons (pe_glob (X := X.suite a ((a, oe) :: pn)) (v := .ref D) (u := .ref D) hy gD rfl (hd := hdy)) pa_nil hs2) hs) (by decide) (by decide) hs hp) fun σ H Q ⟨I0, H0, I, e, w, S, hf, k⟩ => by
    unfold fIsX at hf
    split at hf
    next a' d' x' fn' w' hs =>
      split at hf
      next hz =>
        cases hf
        obtain ⟨rfl, rfl⟩ := hz
        obtain ⟨v, hv, r⟩ := S.slot i _ hs
        simp only [Res, IsW] at r
        obtain ⟨rfl, u, hu, r⟩ := r
        refine ⟨_, hv, ⟨.ref D, .ref D, b, C, d', [(fn', u)], rfl, rfl, EC.ex, rfl, S.ext _ _ hu, (fun u r => r), kit_own hdD tyD EC.me sb, k _ _ _ S.ref (isBl.mpr rfl)⟩⟩
      next => cases hf
    next => cases hf
/-- a suite that raises nothing -/
theorem qsuite {a : Addr} {pn : List (Addr × Obj)} {sts : List Stmt} {F : En → Option Out} (h : PQ (X.suite a pn) sts F) : PSs (X.suite a pn) sts (tS X.K TN F) := pss_imp h fun D σ H ⟨I0, H0, I, e, o, S, hf, k⟩ => by
  refine ⟨I0, H0, I, e, o, S, hf, ?_⟩
  cases o with
  | nx e => exact k
  | bk e => exact k
  | ct e => exact k
  | rt sv => exact k
  | ex x fn w e => exact fun I' σ' H' d u S' x' h3 h4 => (k I' σ' H' d u S' x' h3 h4).elim
/-! ### an own error's __init__ -/
structure BaseQ (K : PySem.W.Frag) (mg : Str → Option Value) (nm : Str) (C : Addr) : Prop where
  gC : mg nm = some (.ref C)
  rd : ClX.CRead K C (.type "type")
  fi : PySem.W.findCls K (.ref C) (.type "type") "__init__" = some (.val (.builtin "ValueError.__init__"))
theorem len_app (a b : Str) : (a ++ b).length = a.length + b.length := by
  rw [← t_eta a, ← t_eta b, t_add, t_len, t_len, t_len, List.length_append]
theorem low4 (n : Nat) (h : n ≤ 400000) : n ≤ sizeLine := by rw [sizeLine_eq]; omega
theorem int_len {i : Int} (h : i.natAbs < 1000000000) : (Str.ofString (toString i)).length ≤ 11 := by
  have h1 := int_text_length_le10 (a := i) (k := 9) (by decide) h
  have h2 : (Str.ofString (toString i)).length = (toString i).length := PySem.ofString_length _
  omega
theorem int_l2 {i : Int} (h : i.natAbs < 1000000000) : i.natAbs.log2 < 1920 := by
  by_cases hv : i.natAbs = 0
  · rw [hv]; decide
  · exact (Nat.log2_lt hv).mpr (Nat.lt_of_lt_of_le h (by decide))
end Qw
namespace Qw
open PySem PySem.Spec PyProof.Rows L2 Nz
open Evl (Ex)
abbrev c_MOST_DIGITS : W := .int 9
def topS (i : Nat) : Stmt := PySem.Challenge.pw_oneofeach_k59_structures_written_and_rea.main.body.getD i (.Pass ⟨0, 0, 0, 0⟩)
section
variable {P : Program} {w : World} {K : PySem.W.Frag} {mg : Str → Option Value} {base : Heap}
/-! ### InvalidPaper -/
abbrev s_InvalidPaper : Stmt := inClass (topS 2) 0
theorem sc_InvalidPaper : FnScope ["self", "line"] ["self", "line"] (defScope s_InvalidPaper) :=
  ⟨rfl, rfl, rfl, by decide +kernel, rfl, by decide +kernel, by decide +kernel⟩
theorem ok_InvalidPaper {k : Nat} {B C fI : Addr} {fd : FuncData} (F : Fun K "__init__" "InvalidPaper.__init__" s_InvalidPaper fI fd) (TB : BaseQ K mg "CensusError" B) (ET : ErrQ K mg "InvalidPaper" "line" C fI) : FnOk P w K mg base CX0 (k + 1) fI fd ["self", "line"] (spErrQ C "line") := by
  refine F.ok sc_InvalidPaper (fun vs H Q E h => ?_) (fun cdv A outer s H vs Q E hr h => ?_)
  · obtain ⟨a, v, rfl, _⟩ := h
    rfl
  obtain ⟨a, v, rfl, hv, ha, q⟩ := h
  refine ⟨_, pss_cons (ps_expr (pe_uinit rfl TB.gC TB.rd TB.fi (pa_cons (pv 0) (pa_cons (pe_joined (PJ.cons pe_str (PJ.cons (pe_fmt (pv 1)) (PJ.cons pe_str PJ.nil)))) pa_nil)))) (pss_one (ps_ost (pv 0) (pv 1))), ?_⟩
  have l0 : ("line " : Str).length ≤ 100 := by decide +kernel
  have l1 : (" cannot stand in a paper" : Str).length ≤ 100 := by decide +kernel
  have l9 : Str.empty.length = 0 := by decide +kernel
  rcases hv with ⟨i, rfl, hi⟩ | ⟨z, rfl, hz⟩
  · exact ⟨.ref a, rfl, _, rfl, low4 _ (by rw [len_app]; have := int_len hi; omega), .int i, rfl, .inr ⟨i, rfl, int_l2 hi, _, rfl, low4 _ (by rw [len_app, len_app]; have := int_len hi; omega), _, rfl, low4 _ (by rw [len_app, len_app, len_app]; have := int_len hi; omega), a, C, _, rfl, (by show 1 ≤ 1000; decide), ET.oex, ha, .int i, rfl, .ref a, rfl, a, C, rfl, ET.oex, ET.noF, .inl ⟨ha, fun dx n ne => q dx n ne⟩⟩⟩
  · exact ⟨.ref a, rfl, _, rfl, low4 _ (by rw [len_app]; omega), .str z, rfl, .inl ⟨z, rfl, low4 _ (by omega), _, rfl, low4 _ (by rw [len_app, len_app]; omega), _, rfl, low4 _ (by rw [len_app, len_app, len_app]; omega), a, C, _, rfl, (by show 1 ≤ 1000; decide), ET.oex, ha, .str z, rfl, .ref a, rfl, a, C, rfl, ET.oex, ET.noF, .inl ⟨ha, fun dx n ne => q dx n ne⟩⟩⟩
/-! ### write_numbers -/
abbrev s_write_numbers : Stmt := topS 8
theorem sc_write_numbers : FnScope ["numbers", "number"] ["numbers"] (defScope s_write_numbers) :=
  ⟨rfl, rfl, rfl, by decide +kernel, rfl, by decide +kernel, by decide +kernel⟩

noncomputable def B_write_numbers : En → Option Out :=
    (sRet (fImm (fBin joinW (fC (.str ",")) (fFrz (fLc (fSeq (fVar 0)) (aName 1) fYes (fCallW strW (fCons (fVar 1) fNil)) [1])))))
noncomputable def F_write_numbers : List W → Option SV := runF 1 1 B_write_numbers
theorem len_write_numbers (ws : List W) (sv : SV) (h : F_write_numbers ws = some sv) : ws.length = 1 := runF_len h
theorem ok_write_numbers {f : Addr} {fd : FuncData} (F : Fun K "write_numbers" "write_numbers" s_write_numbers f fd) (m_str : mg "str" = none) :
    FnOk P w K mg base CX0 1 f fd ["numbers"] (spQ K 1 F_write_numbers) := by
  refine ok_of F sc_write_numbers rfl rfl (fun cdv A outer s H E hr => ?_)
  exact ((qone (qret (qimm (qjoin qstr (qfrz (qlc (own := [("number", 1)]) rfl sc_write_numbers.nd (qsq (qv 0)) (blkOk_by (own := [("number", 1)]) (N := ["numbers", "number"]) (sc := defScope s_write_numbers) (by decide +kernel)) (fun _ _ _ _ _ => (qgn (i := 1) sc_write_numbers.nd rfl (.inl rfl))) (fun _ _ _ _ _ => qtsn) (fun _ _ _ _ _ => (qcT call_str_int cv_str rfl m_str (by decide +kernel) (qcons (qv 1) qnil))))))))))
/-! ### write_part -/
abbrev s_write_part : Stmt := topS 7
theorem sc_write_part : FnScope ["numbers"] ["numbers"] (defScope s_write_part) :=
  ⟨rfl, rfl, rfl, by decide +kernel, rfl, by decide +kernel, by decide +kernel⟩

noncomputable def B_write_part : En → Option Out :=
    (sRet (fImm (fIf (fTru (fVar 0)) (fFrz (fCall F_write_numbers (fCons (fVar 0) fNil))) (fC (.str "-")))))
noncomputable def F_write_part : List W → Option SV := runF 1 0 B_write_part
theorem len_write_part (ws : List W) (sv : SV) (h : F_write_part ws = some sv) : ws.length = 1 := runF_len h
theorem ok_write_part {f : Addr} {fd : FuncData} (F : Fun K "write_part" "write_part" s_write_part f fd) {f_write_numbers : Addr} {fd_write_numbers : FuncData} (G_write_numbers : FnOk P w K mg base CX0 1 f_write_numbers fd_write_numbers ["numbers"] (spQ K 1 (F_write_numbers))) (b_write_numbers : Binds K fd_write_numbers ["numbers"] []) (k_write_numbers : PySem.W.keepIn K (.ref f_write_numbers) = true) (g_write_numbers : mg "write_numbers" = some (.ref f_write_numbers)) :
    FnOk P w K mg base CX0 2 f fd ["numbers"] (spQ K 1 F_write_part) := by
  refine ok_of F sc_write_part rfl rfl (fun cdv A outer s H E hr => ?_)
  exact ((qone (qret (qimm (qif (qt (qv 0)) (qfrz (qcall G_write_numbers (hr.mono (by decide)) rfl g_write_numbers k_write_numbers b_write_numbers len_write_numbers (qcons (qv 0) qnil))) qstr)))))
/-! ### write_layer -/
abbrev s_write_layer : Stmt := topS 6
theorem sc_write_layer : FnScope ["layer", "numbers"] ["layer"] (defScope s_write_layer) :=
  ⟨rfl, rfl, rfl, by decide +kernel, rfl, by decide +kernel, by decide +kernel⟩

noncomputable def B_write_layer : En → Option Out :=
    (sRet (fImm (fIf (fTru (fVar 0)) (fBin joinW (fC (.str "/")) (fFrz (fLc (fSeq (fVar 0)) (aName 1) fYes (fFrz (fCall F_write_part (fCons (fVar 1) fNil))) [1]))) (fC (.str ".")))))
noncomputable def F_write_layer : List W → Option SV := runF 1 1 B_write_layer
theorem len_write_layer (ws : List W) (sv : SV) (h : F_write_layer ws = some sv) : ws.length = 1 := runF_len h
theorem ok_write_layer {f : Addr} {fd : FuncData} (F : Fun K "write_layer" "write_layer" s_write_layer f fd) {f_write_part : Addr} {fd_write_part : FuncData} (G_write_part : FnOk P w K mg base CX0 2 f_write_part fd_write_part ["numbers"] (spQ K 1 (F_write_part))) (b_write_part : Binds K fd_write_part ["numbers"] []) (k_write_part : PySem.W.keepIn K (.ref f_write_part) = true) (g_write_part : mg "write_part" = some (.ref f_write_part)) :
    FnOk P w K mg base CX0 3 f fd ["layer"] (spQ K 1 F_write_layer) := by
  refine ok_of F sc_write_layer rfl rfl (fun cdv A outer s H E hr => ?_)
  exact ((qone (qret (qimm (qif (qt (qv 0)) (qjoin qstr (qfrz (qlc (own := [("numbers", 1)]) rfl sc_write_layer.nd (qsq (qv 0)) (blkOk_by (own := [("numbers", 1)]) (N := ["layer", "numbers"]) (sc := defScope s_write_layer) (by decide +kernel)) (fun _ _ _ _ _ => (qgn (i := 1) sc_write_layer.nd rfl (.inl rfl))) (fun _ _ _ _ _ => qtsn) (fun _ _ _ _ _ => (qfrz (qcall G_write_part (hr.mono (by decide)) rfl g_write_part k_write_part b_write_part len_write_part (qcons (qv 1) qnil))))))) qstr)))))
/-! ### write_structure -/
abbrev s_write_structure : Stmt := topS 5
theorem sc_write_structure : FnScope ["structure", "layer"] ["structure"] (defScope s_write_structure) :=
  ⟨rfl, rfl, rfl, by decide +kernel, rfl, by decide +kernel, by decide +kernel⟩

noncomputable def B_write_structure : En → Option Out :=
    (sRet (fImm (fBin joinW (fC (.str " ")) (fFrz (fLc (fSeq (fVar 0)) (aName 1) fYes (fFrz (fCall F_write_layer (fCons (fVar 1) fNil))) [1])))))
noncomputable def F_write_structure : List W → Option SV := runF 1 1 B_write_structure
theorem len_write_structure (ws : List W) (sv : SV) (h : F_write_structure ws = some sv) : ws.length = 1 := runF_len h
theorem ok_write_structure {f : Addr} {fd : FuncData} (F : Fun K "write_structure" "write_structure" s_write_structure f fd) {f_write_layer : Addr} {fd_write_layer : FuncData} (G_write_layer : FnOk P w K mg base CX0 3 f_write_layer fd_write_layer ["layer"] (spQ K 1 (F_write_layer))) (b_write_layer : Binds K fd_write_layer ["layer"] []) (k_write_layer : PySem.W.keepIn K (.ref f_write_layer) = true) (g_write_layer : mg "write_layer" = some (.ref f_write_layer)) :
    FnOk P w K mg base CX0 4 f fd ["structure"] (spQ K 1 F_write_structure) := by
  refine ok_of F sc_write_structure rfl rfl (fun cdv A outer s H E hr => ?_)
  exact ((qone (qret (qimm (qjoin qstr (qfrz (qlc (own := [("layer", 1)]) rfl sc_write_structure.nd (qsq (qv 0)) (blkOk_by (own := [("layer", 1)]) (N := ["structure", "layer"]) (sc := defScope s_write_structure) (by decide +kernel)) (fun _ _ _ _ _ => (qgn (i := 1) sc_write_structure.nd rfl (.inl rfl))) (fun _ _ _ _ _ => qtsn) (fun _ _ _ _ _ => (qfrz (qcall G_write_layer (hr.mono (by decide)) rfl g_write_layer k_write_layer b_write_layer len_write_layer (qcons (qv 1) qnil)))))))))))
/-! ### read_number -/
abbrev s_read_number : Stmt := topS 13
theorem sc_read_number : FnScope ["word"] ["word"] (defScope s_read_number) :=
  ⟨rfl, rfl, rfl, by decide +kernel, rfl, by decide +kernel, by decide +kernel⟩

noncomputable def B_read_number : En → Option Out :=
    (sSeq (sIf (fOr (fNot (fTru (fUn isdW (fVar 0)))) (fOr (fTst (fBin (cmpI fun i j => decide (j < i)) (fCallW lenW (fCons (fVar 0) fNil)) (fC c_MOST_DIGITS))) (fAnd (fTst (fBin eqW (fBin ixW (fVar 0) (fC (.int 0))) (fC (.str "0")))) (fTst (fBin (cmpI fun i j => decide (j < i)) (fCallW lenW (fCons (fVar 0) fNil)) (fC (.int 1)))))))
    (sRet (fImm (fC .non)))
    sNext)
    (sRet (fImm (fCallW intW (fCons (fVar 0) fNil)))))
noncomputable def F_read_number : List W → Option SV := runF 1 0 B_read_number
theorem len_read_number (ws : List W) (sv : SV) (h : F_read_number ws = some sv) : ws.length = 1 := runF_len h
theorem ok_read_number {f : Addr} {fd : FuncData} (F : Fun K "read_number" "read_number" s_read_number f fd) {t_MOST_DIGITS : Tok} (g_MOST_DIGITS : mg "MOST_DIGITS" = some (Value.int 9 t_MOST_DIGITS)) (m_int : mg "int" = none) (m_len : mg "len" = none) :
    FnOk P w K mg base CX0 1 f fd ["word"] (spQ K 1 F_read_number) := by
  refine ok_of F sc_read_number rfl rfl (fun cdv A outer s H E hr => ?_)
  exact ((qseq (qIf (PW.pt (qor (qnot (qt (pe_imp (pe_bm0 PySem.F.plainAttrs_str PySem.F.slot_str_isdigit PySem.F.type_str_isdigit mt_isdigit (qv 0)) fun _ _ _ => isd_use))) (qor (qtc op_gt bv_cmpI (qcB (r := rLn K) c_len cv_len rfl m_len (by decide +kernel) (qcons (qv 0) qnil)) (q_c (v := .int 9) (pe_glob rfl g_MOST_DIGITS ⟨_, rfl⟩) fun _ => by simp [IsW, c_MOST_DIGITS]) (nomark _)) (qor1 (PW.pt (qand (qtc (eq_any hr.units) bv_eq (qix (qv 0) qint) qstr (nomark _)) (qand1 (qtc op_gt bv_cmpI (qcB (r := rLn K) c_len cv_len rfl m_len (by decide +kernel) (qcons (qv 0) qnil)) qint (nomark _)))))))))
    (qone (qret (qimm qnon)))
    qpass)
    (qone (qret (qimm (qcT c_int2 cv_int rfl m_int (by decide +kernel) (qcons (qv 0) qnil)))))))
/-! ### whole -/
abbrev s_whole : Stmt := topS 14
theorem sc_whole : FnScope ["found"] ["found"] (defScope s_whole) :=
  ⟨rfl, rfl, rfl, by decide +kernel, rfl, by decide +kernel, by decide +kernel⟩

noncomputable def B_whole : En → Option Out :=
    (sRet (fImm (fIf (fTst (fBin nonInW (fC .non) (fVar 0))) (fC .non) (fCallW tupleW (fCons (fVar 0) fNil)))))
noncomputable def F_whole : List W → Option SV := runF 1 0 B_whole
theorem len_whole (ws : List W) (sv : SV) (h : F_whole ws = some sv) : ws.length = 1 := runF_len h
theorem ok_whole {f : Addr} {fd : FuncData} (F : Fun K "whole" "whole" s_whole f fd) (m_tuple : mg "tuple" = none) :
    FnOk P w K mg base CX0 1 f fd ["found"] (spQ K 1 F_whole) := by
  refine ok_of F sc_whole rfl rfl (fun cdv A outer s H E hr => ?_)
  exact ((qone (qret (qimm (qif (qtc (op_inD (r65 hr)) bv_nonIn qnon (qv 0) rfl) qnon (qcT (r := rTupOf K) c_tuple cv_tuple rfl m_tuple (by decide +kernel) (qcons (qv 0) qnil)))))))
/-! ### read_numbers -/
abbrev s_read_numbers : Stmt := topS 12
theorem sc_read_numbers : FnScope ["text", "word"] ["text"] (defScope s_read_numbers) :=
  ⟨rfl, rfl, rfl, by decide +kernel, rfl, by decide +kernel, by decide +kernel⟩

noncomputable def B_read_numbers : En → Option Out :=
    (sRet (fCall F_whole (fCons (fFrz (fLc (fSeq (fFrz (fMetR splitW (fVar 0) (fCons (fC (.str ",")) fNil)))) (aName 1) fYes (fFrz (fCall F_read_number (fCons (fVar 1) fNil))) [1])) fNil)))
noncomputable def F_read_numbers : List W → Option SV := runF 1 1 B_read_numbers
theorem len_read_numbers (ws : List W) (sv : SV) (h : F_read_numbers ws = some sv) : ws.length = 1 := runF_len h
theorem ok_read_numbers {f : Addr} {fd : FuncData} (F : Fun K "read_numbers" "read_numbers" s_read_numbers f fd) {f_read_number : Addr} {fd_read_number : FuncData} (G_read_number : FnOk P w K mg base CX0 1 f_read_number fd_read_number ["word"] (spQ K 1 (F_read_number))) (b_read_number : Binds K fd_read_number ["word"] []) (k_read_number : PySem.W.keepIn K (.ref f_read_number) = true) (g_read_number : mg "read_number" = some (.ref f_read_number)) {f_whole : Addr} {fd_whole : FuncData} (G_whole : FnOk P w K mg base CX0 1 f_whole fd_whole ["found"] (spQ K 1 (F_whole))) (b_whole : Binds K fd_whole ["found"] []) (k_whole : PySem.W.keepIn K (.ref f_whole) = true) (g_whole : mg "whole" = some (.ref f_whole)) :
    FnOk P w K mg base CX0 2 f fd ["text"] (spQ K 1 F_read_numbers) := by
  refine ok_of F sc_read_numbers rfl rfl (fun cdv A outer s H E hr => ?_)
  exact ((qone (qret (qcall G_whole (hr.mono (by decide)) rfl g_whole k_whole b_whole len_whole (qcons (qfrz (qlc (own := [("word", 1)]) rfl sc_read_numbers.nd (qsq (qfrz (pe_imp (pe_bm PySem.F.plainAttrs_str PySem.F.slot_str_split PySem.F.type_str_split mt_split (qv 0) (qcons qstr qnil)) fun _ _ _ => split_use))) (blkOk_by (own := [("word", 1)]) (N := ["text", "word"]) (sc := defScope s_read_numbers) (by decide +kernel)) (fun _ _ _ _ _ => (qgn (i := 1) sc_read_numbers.nd rfl (.inl rfl))) (fun _ _ _ _ _ => qtsn) (fun _ _ _ _ _ => (qfrz (qcall G_read_number (hr.mono (by decide)) rfl g_read_number k_read_number b_read_number len_read_number (qcons (qv 1) qnil)))))) qnil)))))
/-! ### read_part -/
abbrev s_read_part : Stmt := topS 11
theorem sc_read_part : FnScope ["text"] ["text"] (defScope s_read_part) :=
  ⟨rfl, rfl, rfl, by decide +kernel, rfl, by decide +kernel, by decide +kernel⟩

noncomputable def B_read_part : En → Option Out :=
    (sRet (fImm (fIf (fTst (fBin eqW (fVar 0) (fC (.str "-")))) (fCallW tupL fNil) (fFrz (fCall F_read_numbers (fCons (fVar 0) fNil))))))
noncomputable def F_read_part : List W → Option SV := runF 1 0 B_read_part
theorem len_read_part (ws : List W) (sv : SV) (h : F_read_part ws = some sv) : ws.length = 1 := runF_len h
theorem ok_read_part {f : Addr} {fd : FuncData} (F : Fun K "read_part" "read_part" s_read_part f fd) {f_read_numbers : Addr} {fd_read_numbers : FuncData} (G_read_numbers : FnOk P w K mg base CX0 2 f_read_numbers fd_read_numbers ["text"] (spQ K 1 (F_read_numbers))) (b_read_numbers : Binds K fd_read_numbers ["text"] []) (k_read_numbers : PySem.W.keepIn K (.ref f_read_numbers) = true) (g_read_numbers : mg "read_numbers" = some (.ref f_read_numbers)) :
    FnOk P w K mg base CX0 3 f fd ["text"] (spQ K 1 F_read_part) := by
  refine ok_of F sc_read_part rfl rfl (fun cdv A outer s H E hr => ?_)
  exact ((qone (qret (qimm (qif (qtc (eq_any hr.units) bv_eq (qv 0) qstr (nomark _)) (qtup qnil) (qfrz (qcall G_read_numbers (hr.mono (by decide)) rfl g_read_numbers k_read_numbers b_read_numbers len_read_numbers (qcons (qv 0) qnil))))))))
/-! ### read_layer -/
abbrev s_read_layer : Stmt := topS 10
theorem sc_read_layer : FnScope ["word", "text"] ["word"] (defScope s_read_layer) :=
  ⟨rfl, rfl, rfl, by decide +kernel, rfl, by decide +kernel, by decide +kernel⟩

noncomputable def B_read_layer : En → Option Out :=
    (sRet (fImm (fIf (fTst (fBin eqW (fVar 0) (fC (.str ".")))) (fCallW tupL fNil) (fFrz (fCall F_whole (fCons (fFrz (fLc (fSeq (fFrz (fMetR splitW (fVar 0) (fCons (fC (.str "/")) fNil)))) (aName 1) fYes (fFrz (fCall F_read_part (fCons (fVar 1) fNil))) [1])) fNil))))))
noncomputable def F_read_layer : List W → Option SV := runF 1 1 B_read_layer
theorem len_read_layer (ws : List W) (sv : SV) (h : F_read_layer ws = some sv) : ws.length = 1 := runF_len h
theorem ok_read_layer {f : Addr} {fd : FuncData} (F : Fun K "read_layer" "read_layer" s_read_layer f fd) {f_read_part : Addr} {fd_read_part : FuncData} (G_read_part : FnOk P w K mg base CX0 3 f_read_part fd_read_part ["text"] (spQ K 1 (F_read_part))) (b_read_part : Binds K fd_read_part ["text"] []) (k_read_part : PySem.W.keepIn K (.ref f_read_part) = true) (g_read_part : mg "read_part" = some (.ref f_read_part)) {f_whole : Addr} {fd_whole : FuncData} (G_whole : FnOk P w K mg base CX0 1 f_whole fd_whole ["found"] (spQ K 1 (F_whole))) (b_whole : Binds K fd_whole ["found"] []) (k_whole : PySem.W.keepIn K (.ref f_whole) = true) (g_whole : mg "whole" = some (.ref f_whole)) :
    FnOk P w K mg base CX0 4 f fd ["word"] (spQ K 1 F_read_layer) := by
  refine ok_of F sc_read_layer rfl rfl (fun cdv A outer s H E hr => ?_)
  exact ((qone (qret (qimm (qif (qtc (eq_any hr.units) bv_eq (qv 0) qstr (nomark _)) (qtup qnil) (qfrz (qcall G_whole (hr.mono (by decide)) rfl g_whole k_whole b_whole len_whole (qcons (qfrz (qlc (own := [("text", 1)]) rfl sc_read_layer.nd (qsq (qfrz (pe_imp (pe_bm PySem.F.plainAttrs_str PySem.F.slot_str_split PySem.F.type_str_split mt_split (qv 0) (qcons qstr qnil)) fun _ _ _ => split_use))) (blkOk_by (own := [("text", 1)]) (N := ["word", "text"]) (sc := defScope s_read_layer) (by decide +kernel)) (fun _ _ _ _ _ => (qgn (i := 1) sc_read_layer.nd rfl (.inl rfl))) (fun _ _ _ _ _ => qtsn) (fun _ _ _ _ _ => (qfrz (qcall G_read_part (hr.mono (by decide)) rfl g_read_part k_read_part b_read_part len_read_part (qcons (qv 1) qnil)))))) qnil))))))))
/-! ### read_structure -/
abbrev s_read_structure : Stmt := topS 9
theorem sc_read_structure : FnScope ["text", "structure", "word"] ["text"] (defScope s_read_structure) :=
  ⟨rfl, rfl, rfl, by decide +kernel, rfl, by decide +kernel, by decide +kernel⟩

noncomputable def B_read_structure : En → Option Out :=
    (sSeq (sSet 1 (fImm (fIf (fTru (fVar 0)) (fFrz (fCall F_whole (fCons (fFrz (fLc (fSeq (fFrz (fMetR splitW (fVar 0) (fCons (fC (.str " ")) fNil)))) (aName 2) fYes (fFrz (fCall F_read_layer (fCons (fVar 2) fNil))) [2])) fNil))) (fCallW tupL fNil))))
    (sSeq (sIf (fTst (fBin isNonW (fVar 1) (fC .non)))
    (sRaise "InvalidPaper" "line" (fC (.int 1)))
    sNext)
    (sRet (fImm (fVar 1)))))
noncomputable def F_read_structure : List W → Option RX := runX 1 2 B_read_structure
theorem len_read_structure (ws : List W) (r : RX) (h : F_read_structure ws = some r) : ws.length = 1 := runX_len h
theorem ok_read_structure {f : Addr} {fd : FuncData} (F : Fun K "read_structure" "read_structure" s_read_structure f fd) {f_read_layer : Addr} {fd_read_layer : FuncData} (G_read_layer : FnOk P w K mg base CX0 4 f_read_layer fd_read_layer ["word"] (spQ K 1 (F_read_layer))) (b_read_layer : Binds K fd_read_layer ["word"] []) (k_read_layer : PySem.W.keepIn K (.ref f_read_layer) = true) (g_read_layer : mg "read_layer" = some (.ref f_read_layer)) {f_whole : Addr} {fd_whole : FuncData} (G_whole : FnOk P w K mg base CX0 1 f_whole fd_whole ["found"] (spQ K 1 (F_whole))) (b_whole : Binds K fd_whole ["found"] []) (k_whole : PySem.W.keepIn K (.ref f_whole) = true) (g_whole : mg "whole" = some (.ref f_whole)) {C_InvalidPaper : Addr} {f_InvalidPaper : Addr} {fd_InvalidPaper : FuncData} (E_InvalidPaper : ErrQ K mg "InvalidPaper" "line" C_InvalidPaper f_InvalidPaper) (G_InvalidPaper : FnOk P w K mg base CX0 1 f_InvalidPaper fd_InvalidPaper ["self", "line"] (spErrQ C_InvalidPaper "line")) (b_InvalidPaper : Binds K fd_InvalidPaper ["self", "line"] []) :
    FnOk P w K mg base (L2.CX P w) 5 f fd ["text"] (spX K mg 1 F_read_structure) := by
  refine ok_ofX F sc_read_structure rfl rfl (fun cdv A outer s H E hr => ?_)
  exact ((qseq (qset (i := 1) sc_read_structure.nd rfl (.inl rfl) (qimm (qif (qt (qv 0)) (qfrz (qcall G_whole (hr.mono (by decide)) rfl g_whole k_whole b_whole len_whole (qcons (qfrz (qlc (own := [("word", 2)]) rfl sc_read_structure.nd (qsq (qfrz (pe_imp (pe_bm PySem.F.plainAttrs_str PySem.F.slot_str_split PySem.F.type_str_split mt_split (qv 0) (qcons qstr qnil)) fun _ _ _ => split_use))) (blkOk_by (own := [("word", 2)]) (N := ["text", "structure", "word"]) (sc := defScope s_read_structure) (by decide +kernel)) (fun _ _ _ _ _ => (qgn (i := 2) sc_read_structure.nd rfl (.inl rfl))) (fun _ _ _ _ _ => qtsn) (fun _ _ _ _ _ => (qfrz (qcall G_read_layer (hr.mono (by decide)) rfl g_read_layer k_read_layer b_read_layer len_read_layer (qcons (qv 2) qnil)))))) qnil))) (qtup qnil))))
    (qseq (qIf (qtc op_isNB bv_isN (qv 1) qnon (nomark _))
    (qone (qraise rfl rfl E_InvalidPaper G_InvalidPaper (hr.mono (by decide)) b_InvalidPaper qint))
    qpass)
    (qone (qret (qimm (qv 1)))))))
/-! ### _law_cell -/
abbrev s_cell : Stmt := topS 16
theorem sc_cell : FnScope ["script", "k"] ["script", "k"] (defScope s_cell) :=
  ⟨rfl, rfl, rfl, by decide +kernel, rfl, by decide +kernel, by decide +kernel⟩

noncomputable def B_cell : En → Option Out :=
    (sSeq (sIf (fTst (fBin (cmpI fun i j => decide (i < j)) (fVar 1) (fCallW lenW (fCons (fVar 0) fNil))))
    (sRet (fImm (fBin ixW (fVar 0) (fVar 1))))
    sNext)
    (sRet (fImm (fC (.int 0)))))
noncomputable def F_cell : List W → Option SV := runF 2 0 B_cell
theorem len_cell (ws : List W) (sv : SV) (h : F_cell ws = some sv) : ws.length = 2 := runF_len h
theorem ok_cell {f : Addr} {fd : FuncData} (F : Fun K "_law_cell" "_law_cell" s_cell f fd) (m_len : mg "len" = none) :
    FnOk P w K mg base CX0 1 f fd ["script", "k"] (spQ K 2 F_cell) := by
  refine ok_of F sc_cell rfl rfl (fun cdv A outer s H E hr => ?_)
  exact ((qseq (qIf (qtc op_lt bv_cmpI (qv 1) (qcB (r := rLn K) c_len cv_len rfl m_len (by decide +kernel) (qcons (qv 0) qnil)) (nomark _))
    (qone (qret (qimm (qix (qv 0) (qv 1)))))
    qpass)
    (qone (qret (qimm qint)))))
/-! ### _law_digits -/
abbrev s_digits : Stmt := topS 17
theorem sc_digits : FnScope ["cell", "many", "count", "digits", "rest", "k", "mixed"] ["cell", "many", "count"] (defScope s_digits) :=
  ⟨rfl, rfl, rfl, by decide +kernel, rfl, by decide +kernel, by decide +kernel⟩

noncomputable def B_digits : En → Option Out :=
    (sSeq (sSet 3 (fCall lstL fNil))
    (sSeq (sSet 4 (fImm (fVar 0)))
    (sSeq (sFor (fRng1 (fVar 2)) (aName 5)
    (sIf (fTst (fBin (cmpI fun i j => decide (j ≤ i)) (fVar 0) (fBin powW (fC (.int 10)) (fC (.int 18)))))
    (sSeq (sApp 3 (fBin modW (fCallW intW (fCons (fVar 4) fNil)) (fVar 1)))
    (sSet 4 (fImm (fBin divW (fVar 4) (fVar 1)))))
    (sSeq (sSet 6 (fImm (fBin modW (fCallW intW (fCons (fBin addI (fBin addI (fBin mulW (fVar 0) (fC (.int 48271))) (fBin mulW (fVar 5) (fC (.int 69621)))) (fC (.int 1013))) fNil)) (fC (.int 2147483647)))))
    (sSeq (sSet 6 (fImm (fBin modW (fCallW intW (fCons (fBin addI (fBin addI (fBin mulW (fVar 6) (fVar 6)) (fBin mulW (fC (.int 7)) (fVar 6))) (fVar 5)) fNil)) (fC (.int 2147483629)))))
    (sApp 3 (fBin modW (fCallW intW (fCons (fBin divW (fVar 6) (fC (.int 31))) fNil)) (fVar 1)))))))
    (sRet (fSlot 3)))))
noncomputable def F_digits : List W → Option SV := runF 3 4 B_digits
theorem len_digits (ws : List W) (sv : SV) (h : F_digits ws = some sv) : ws.length = 3 := runF_len h
theorem ok_digits {f : Addr} {fd : FuncData} (F : Fun K "_law_digits" "_law_digits" s_digits f fd) (m_int : mg "int" = none) (m_range : mg "range" = none) :
    FnOk P w K mg base CX0 1 f fd ["cell", "many", "count"] (spQ K 3 F_digits) := by
  refine ok_of F sc_digits rfl rfl (fun cdv A outer s H E hr => ?_)
  exact ((qseq (qset (i := 3) sc_digits.nd rfl (.inl rfl) (qlst qnil))
    (qseq (qset (i := 4) sc_digits.nd rfl (.inl rfl) (qimm (qv 0)))
    (qseq (qfor rfl (qr1 rfl m_range (qv 2)) (qgn (i := 5) sc_digits.nd rfl (.inl rfl))
    (qone (qIf (qtc op_ge bv_cmpI (qv 0) (qop op_pow bv_pow qint qint) (nomark _))
    (qseq (ps_imp (ps_expr (pe_bm PySem.F.plainAttrs_list PySem.F.slot_list_append PySem.F.type_list_append mt_append (pv 3) (pa_cons (qop op_mod bv_mod (qcT c_int2 cv_int rfl m_int (by decide +kernel) (qcons (qv 4) qnil)) (qv 1)) pa_nil))) fun _ _ _ => app_use)
    (qone (qset (i := 4) sc_digits.nd rfl (.inl rfl) (qimm (qop op_fdivW bv_div (qv 4) (qv 1))))))
    (qseq (qset (i := 6) sc_digits.nd rfl (.inl rfl) (qimm (qop op_mod bv_mod (qcT c_int2 cv_int rfl m_int (by decide +kernel) (qcons (qop op_add bv_add (qop op_add bv_add (qop op_mul2 bv_mul (qv 0) qint) (qop op_mul2 bv_mul (qv 5) qint)) qint) qnil)) qint)))
    (qseq (qset (i := 6) sc_digits.nd rfl (.inl rfl) (qimm (qop op_mod bv_mod (qcT c_int2 cv_int rfl m_int (by decide +kernel) (qcons (qop op_add bv_add (qop op_add bv_add (qop op_mul2 bv_mul (qv 6) (qv 6)) (qop op_mul2 bv_mul qint (qv 6))) (qv 5)) qnil)) qint)))
    (qone (ps_imp (ps_expr (pe_bm PySem.F.plainAttrs_list PySem.F.slot_list_append PySem.F.type_list_append mt_append (pv 3) (pa_cons (qop op_mod bv_mod (qcT c_int2 cv_int rfl m_int (by decide +kernel) (qcons (qop op_fdivW bv_div (qv 6) qint) qnil)) (qv 1)) pa_nil))) fun _ _ _ => app_use)))))))
    (qone (qretv 3))))))
/-! ### _law_layer_word -/
abbrev s_layer_word : Stmt := topS 18
theorem sc_layer_word : FnScope ["layer", "words", "row", "digit"] ["layer"] (defScope s_layer_word) :=
  ⟨rfl, rfl, rfl, by decide +kernel, rfl, by decide +kernel, by decide +kernel⟩

noncomputable def B_layer_word : En → Option Out :=
    (sSeq (sIf (fTst (fBin eqW (fCallW lenW (fCons (fVar 0) fNil)) (fC (.int 0))))
    (sRet (fImm (fC (.str "."))))
    sNext)
    (sSeq (sSet 1 (fCall lstL fNil))
    (sSeq (sFor (fSeq (fVar 0)) (aName 2)
    (sApp 1 (fIf (fTst (fBin eqW (fCallW lenW (fCons (fVar 2) fNil)) (fC (.int 0)))) (fC (.str "-")) (fBin joinW (fC (.str ",")) (fFrz (fLc (fSeq (fVar 2)) (aName 3) fYes (fCallW strW (fCons (fVar 3) fNil)) [3]))))))
    (sFix 1 (sRet (fImm (fBin joinW (fC (.str "/")) (fVar 1))))))))
noncomputable def F_layer_word : List W → Option SV := runF 1 3 B_layer_word
theorem len_layer_word (ws : List W) (sv : SV) (h : F_layer_word ws = some sv) : ws.length = 1 := runF_len h
theorem ok_layer_word {f : Addr} {fd : FuncData} (F : Fun K "_law_layer_word" "_law_layer_word" s_layer_word f fd) (m_len : mg "len" = none) (m_str : mg "str" = none) :
    FnOk P w K mg base CX0 1 f fd ["layer"] (spQ K 1 F_layer_word) := by
  refine ok_of F sc_layer_word rfl rfl (fun cdv A outer s H E hr => ?_)
  exact ((qseq (qIf (qtc (eq_any hr.units) bv_eq (qcB (r := rLn K) c_len cv_len rfl m_len (by decide +kernel) (qcons (qv 0) qnil)) qint (nomark _))
    (qone (qret (qimm qstr)))
    qpass)
    (qseq (qset (i := 1) sc_layer_word.nd rfl (.inl rfl) (qlst qnil))
    (qseq (qfor rfl (qsq (qv 0)) (qgn (i := 2) sc_layer_word.nd rfl (.inl rfl))
    (qone (ps_imp (ps_expr (pe_bm PySem.F.plainAttrs_list PySem.F.slot_list_append PySem.F.type_list_append mt_append (pv 1) (pa_cons (qif (qtc (eq_any hr.units) bv_eq (qcB (r := rLn K) c_len cv_len rfl m_len (by decide +kernel) (qcons (qv 2) qnil)) qint (nomark _)) qstr (qjoin qstr (qfrz (qlc (own := [("digit", 3)]) rfl sc_layer_word.nd (qsq (qv 2)) (blkOk_by (own := [("digit", 3)]) (N := ["layer", "words", "row", "digit"]) (sc := defScope s_layer_word) (by decide +kernel)) (fun _ _ _ _ _ => (qgn (i := 3) sc_layer_word.nd rfl (.inl rfl))) (fun _ _ _ _ _ => qtsn) (fun _ _ _ _ _ => (qcT call_str_int cv_str rfl m_str (by decide +kernel) (qcons (qv 3) qnil))))))) pa_nil))) fun _ _ _ => app_use)))
    (qfix 1 (qone (qret (qimm (qjoin qstr (qv 1))))))))))
/-! ### _law_numbers -/
abbrev s_numbers : Stmt := topS 19
theorem sc_numbers : FnScope ["digits", "at", "count", "found", "k", "digit"] ["digits", "at", "count"] (defScope s_numbers) :=
  ⟨rfl, rfl, rfl, by decide +kernel, rfl, by decide +kernel, by decide +kernel⟩

noncomputable def B_numbers : En → Option Out :=
    (sSeq (sSet 3 (fCall lstL fNil))
    (sSeq (sFor (fRng1 (fVar 2)) (aName 4)
    (sSeq (sSet 5 (fImm (fBin ixW (fVar 0) (fBin modW (fCallW intW (fCons (fFrz (fBinR addW (fVar 1) (fVar 4))) fNil)) (fCallW lenW (fCons (fVar 0) fNil))))))
    (sApp 3 (fBin ixW (fFrz (fCall lstL (fCons (fC (.int 0)) (fCons (fC (.int 1)) (fCons (fC (.int 2)) (fCons (fC (.int 10)) (fCons (fC (.int 999999999)) (fCons (fC (.int 7)) fNil)))))))) (fBin modW (fCallW intW (fCons (fVar 5) fNil)) (fC (.int 6)))))))
    (sFix 3 (sRet (fImm (fCallW tupleW (fCons (fVar 3) fNil)))))))
noncomputable def F_numbers : List W → Option SV := runF 3 3 B_numbers
theorem len_numbers (ws : List W) (sv : SV) (h : F_numbers ws = some sv) : ws.length = 3 := runF_len h
theorem ok_numbers {f : Addr} {fd : FuncData} (F : Fun K "_law_numbers" "_law_numbers" s_numbers f fd) (m_int : mg "int" = none) (m_len : mg "len" = none) (m_range : mg "range" = none) (m_tuple : mg "tuple" = none) :
    FnOk P w K mg base CX0 1 f fd ["digits", "at", "count"] (spQ K 3 F_numbers) := by
  refine ok_of F sc_numbers rfl rfl (fun cdv A outer s H E hr => ?_)
  exact ((qseq (qset (i := 3) sc_numbers.nd rfl (.inl rfl) (qlst qnil))
    (qseq (qfor rfl (qr1 rfl m_range (qv 2)) (qgn (i := 4) sc_numbers.nd rfl (.inl rfl))
    (qseq (qset (i := 5) sc_numbers.nd rfl (.inl rfl) (qimm (qix (qv 0) (qop op_mod bv_mod (qcT c_int2 cv_int rfl m_int (by decide +kernel) (qcons (qfrz (qopR (r := rAd K) ad_any br_add (qv 1) (qv 4))) qnil)) (qcB (r := rLn K) c_len cv_len rfl m_len (by decide +kernel) (qcons (qv 0) qnil))))))
    (qone (ps_imp (ps_expr (pe_bm PySem.F.plainAttrs_list PySem.F.slot_list_append PySem.F.type_list_append mt_append (pv 3) (pa_cons (qix (qfrz (qlst (qcons qint (qcons qint (qcons qint (qcons qint (qcons qint (qcons qint qnil)))))))) (qop op_mod bv_mod (qcT c_int2 cv_int rfl m_int (by decide +kernel) (qcons (qv 5) qnil)) qint)) pa_nil))) fun _ _ _ => app_use))))
    (qfix 3 (qone (qret (qimm (qcT (r := rTupOf K) c_tuple cv_tuple rfl m_tuple (by decide +kernel) (qcons (qv 3) qnil)))))))))
/-! ### _law_any_layer -/
abbrev s_any_layer : Stmt := topS 20
theorem sc_any_layer : FnScope ["digits", "at", "parts", "k"] ["digits", "at", "parts"] (defScope s_any_layer) :=
  ⟨rfl, rfl, rfl, by decide +kernel, rfl, by decide +kernel, by decide +kernel⟩

noncomputable def B_any_layer : En → Option Out :=
    (sRet (fImm (fCallW tupleW (fCons (fFrz (fLc (fRng1 (fVar 2)) (aName 3) fYes (fFrz (fCall F_numbers (fCons (fVar 0) (fCons (fBin addI (fVar 1) (fBin mulW (fC (.int 3)) (fVar 3))) (fCons (fBin modW (fCallW intW (fCons (fBin ixW (fVar 0) (fBin modW (fCallW intW (fCons (fFrz (fBinR addW (fVar 1) (fVar 3))) fNil)) (fCallW lenW (fCons (fVar 0) fNil)))) fNil)) (fC (.int 3))) fNil))))) [3])) fNil))))
noncomputable def F_any_layer : List W → Option SV := runF 3 1 B_any_layer
theorem len_any_layer (ws : List W) (sv : SV) (h : F_any_layer ws = some sv) : ws.length = 3 := runF_len h
theorem ok_any_layer {f : Addr} {fd : FuncData} (F : Fun K "_law_any_layer" "_law_any_layer" s_any_layer f fd) {f_numbers : Addr} {fd_numbers : FuncData} (G_numbers : FnOk P w K mg base CX0 1 f_numbers fd_numbers ["digits", "at", "count"] (spQ K 3 (F_numbers))) (b_numbers : Binds K fd_numbers ["digits", "at", "count"] []) (k_numbers : PySem.W.keepIn K (.ref f_numbers) = true) (g_numbers : mg "_law_numbers" = some (.ref f_numbers)) (m_int : mg "int" = none) (m_len : mg "len" = none) (m_range : mg "range" = none) (m_tuple : mg "tuple" = none) :
    FnOk P w K mg base CX0 2 f fd ["digits", "at", "parts"] (spQ K 3 F_any_layer) := by
  refine ok_of F sc_any_layer rfl rfl (fun cdv A outer s H E hr => ?_)
  exact ((qone (qret (qimm (qcT (r := rTupOf K) c_tuple cv_tuple rfl m_tuple (by decide +kernel) (qcons (qfrz (qlc (own := [("k", 3)]) rfl sc_any_layer.nd (qr1 rfl m_range (qv 2)) (blkOk_by (own := [("k", 3)]) (N := ["digits", "at", "parts", "k"]) (sc := defScope s_any_layer) (by decide +kernel)) (fun _ _ _ _ _ => (qgn (i := 3) sc_any_layer.nd rfl (.inl rfl))) (fun _ _ _ _ _ => qtsn) (fun _ _ _ _ _ => (qfrz (qcall G_numbers (hr.mono (by decide)) rfl g_numbers k_numbers b_numbers len_numbers (qcons (qv 0) (qcons (qop op_add bv_add (qv 1) (qop op_mul2 bv_mul qint (qv 3))) (qcons (qop op_mod bv_mod (qcT c_int2 cv_int rfl m_int (by decide +kernel) (qcons (qix (qv 0) (qop op_mod bv_mod (qcT c_int2 cv_int rfl m_int (by decide +kernel) (qcons (qfrz (qopR (r := rAd K) ad_any br_add (qv 1) (qv 3))) qnil)) (qcB (r := rLn K) c_len cv_len rfl m_len (by decide +kernel) (qcons (qv 0) qnil)))) qnil)) qint) qnil)))))))) qnil))))))
/-! ### _law_is_number -/
abbrev s_is_number : Stmt := topS 21
theorem sc_is_number : FnScope ["word", "char"] ["word"] (defScope s_is_number) :=
  ⟨rfl, rfl, rfl, by decide +kernel, rfl, by decide +kernel, by decide +kernel⟩

noncomputable def B_is_number : En → Option Out :=
    (sSeq (sIf (fOr (fTst (fBin eqW (fVar 0) (fC (.str "")))) (fTst (fBin (cmpI fun i j => decide (j < i)) (fCallW lenW (fCons (fVar 0) fNil)) (fC (.int 9)))))
    (sRet (fImm (fC (.bl false))))
    sNext)
    (sSeq (sFor (fSeq (fVar 0)) (aName 1)
    (sIf (fTst (fBin notInW (fVar 1) (fC (.str "0123456789"))))
    (sRet (fImm (fC (.bl false))))
    sNext))
    (sRet (fImm (fOrV (fBin eqW (fVar 0) (fC (.str "0"))) (fBin neW (fBin ixW (fVar 0) (fC (.int 0))) (fC (.str "0"))))))))
noncomputable def F_is_number : List W → Option SV := runF 1 1 B_is_number
theorem len_is_number (ws : List W) (sv : SV) (h : F_is_number ws = some sv) : ws.length = 1 := runF_len h
theorem ok_is_number {f : Addr} {fd : FuncData} (F : Fun K "_law_is_number" "_law_is_number" s_is_number f fd) (m_len : mg "len" = none) :
    FnOk P w K mg base CX0 1 f fd ["word"] (spQ K 1 F_is_number) := by
  refine ok_of F sc_is_number rfl rfl (fun cdv A outer s H E hr => ?_)
  exact ((qseq (qIf (PW.pt (qor (qtc (eq_any hr.units) bv_eq (qv 0) qstr (nomark _)) (qor1 (qtc op_gt bv_cmpI (qcB (r := rLn K) c_len cv_len rfl m_len (by decide +kernel) (qcons (qv 0) qnil)) qint (nomark _)))))
    (qone (qret (qimm qbl)))
    qpass)
    (qseq (qfor rfl (qsq (qv 0)) (qgn (i := 1) sc_is_number.nd rfl (.inl rfl))
    (qone (qIf (qtc op_notInA bv_notIn (qv 1) qstr rfl)
    (qone (qret (qimm qbl)))
    qpass)))
    (qone (qret (qimm (qorV (qcmp (eq_any hr.units) bv_eq (qv 0) qstr (nomark _)) (qoneV (qcmp (ne_any hr.units) bv_ne (qix (qv 0) qint) qstr (nomark _))))))))))
/-! ### _law_layer -/
abbrev s_layer : Stmt := topS 22
theorem sc_layer : FnScope ["word", "layer", "part", "numbers", "number"] ["word"] (defScope s_layer) :=
  ⟨rfl, rfl, rfl, by decide +kernel, rfl, by decide +kernel, by decide +kernel⟩

noncomputable def B_layer : En → Option Out :=
    (sSeq (sIf (fTst (fBin eqW (fVar 0) (fC (.str "."))))
    (sRet (fImm (fCallW tupL fNil)))
    sNext)
    (sSeq (sSet 1 (fCall lstL fNil))
    (sSeq (sFor (fSeq (fFrz (fMetR splitW (fVar 0) (fCons (fC (.str "/")) fNil)))) (aName 2)
    (sSeq (sSet 3 (fImm (fFrz (fMetR splitW (fVar 2) (fCons (fC (.str ",")) fNil)))))
    (sIf (fTst (fBin eqW (fVar 2) (fC (.str "-"))))
    (sApp 1 (fCallW tupL fNil))
    (sIf (fTru (fCallW allW (fCons (fFrz (fLc (fSeq (fVar 3)) (aName 4) fYes (fFrz (fCall F_is_number (fCons (fVar 4) fNil))) [4])) fNil)))
    (sApp 1 (fCallW tupleW (fCons (fFrz (fLc (fSeq (fVar 3)) (aName 4) fYes (fCallW intW (fCons (fVar 4) fNil)) [4])) fNil)))
    (sRet (fImm (fC .non)))))))
    (sFix 1 (sRet (fImm (fCallW tupleW (fCons (fVar 1) fNil))))))))
noncomputable def F_layer : List W → Option SV := runF 1 4 B_layer
theorem len_layer (ws : List W) (sv : SV) (h : F_layer ws = some sv) : ws.length = 1 := runF_len h
theorem ok_layer {f : Addr} {fd : FuncData} (F : Fun K "_law_layer" "_law_layer" s_layer f fd) {f_is_number : Addr} {fd_is_number : FuncData} (G_is_number : FnOk P w K mg base CX0 1 f_is_number fd_is_number ["word"] (spQ K 1 (F_is_number))) (b_is_number : Binds K fd_is_number ["word"] []) (k_is_number : PySem.W.keepIn K (.ref f_is_number) = true) (g_is_number : mg "_law_is_number" = some (.ref f_is_number)) (m_all : mg "all" = none) (m_int : mg "int" = none) (m_tuple : mg "tuple" = none) :
    FnOk P w K mg base CX0 2 f fd ["word"] (spQ K 1 F_layer) := by
  refine ok_of F sc_layer rfl rfl (fun cdv A outer s H E hr => ?_)
  exact ((qseq (qIf (qtc (eq_any hr.units) bv_eq (qv 0) qstr (nomark _))
    (qone (qret (qimm (qtup qnil))))
    qpass)
    (qseq (qset (i := 1) sc_layer.nd rfl (.inl rfl) (qlst qnil))
    (qseq (qfor rfl (qsq (qfrz (pe_imp (pe_bm PySem.F.plainAttrs_str PySem.F.slot_str_split PySem.F.type_str_split mt_split (qv 0) (qcons qstr qnil)) fun _ _ _ => split_use))) (qgn (i := 2) sc_layer.nd rfl (.inl rfl))
    (qseq (qset (i := 3) sc_layer.nd rfl (.inl rfl) (qimm (qfrz (pe_imp (pe_bm PySem.F.plainAttrs_str PySem.F.slot_str_split PySem.F.type_str_split mt_split (qv 2) (qcons qstr qnil)) fun _ _ _ => split_use))))
    (qone (qIf (qtc (eq_any hr.units) bv_eq (qv 2) qstr (nomark _))
    (qone (ps_imp (ps_expr (pe_bm PySem.F.plainAttrs_list PySem.F.slot_list_append PySem.F.type_list_append mt_append (pv 1) (pa_cons (qtup qnil) pa_nil))) fun _ _ _ => app_use))
    (qone (qIf (qt (qcB (r := rAll K) (cr_all rfl) cv_all rfl m_all (by decide +kernel) (qcons (qfrz (qlc (own := [("number", 4)]) rfl sc_layer.nd (qsq (qv 3)) (blkOk_by (own := [("number", 4)]) (N := ["word", "layer", "part", "numbers", "number"]) (sc := defScope s_layer) (by decide +kernel)) (fun _ _ _ _ _ => (qgn (i := 4) sc_layer.nd rfl (.inl rfl))) (fun _ _ _ _ _ => qtsn) (fun _ _ _ _ _ => (qfrz (qcall G_is_number (hr.mono (by decide)) rfl g_is_number k_is_number b_is_number len_is_number (qcons (qv 4) qnil)))))) qnil)))
    (qone (ps_imp (ps_expr (pe_bm PySem.F.plainAttrs_list PySem.F.slot_list_append PySem.F.type_list_append mt_append (pv 1) (pa_cons (qcT (r := rTupOf K) c_tuple cv_tuple rfl m_tuple (by decide +kernel) (qcons (qfrz (qlc (own := [("number", 4)]) rfl sc_layer.nd (qsq (qv 3)) (blkOk_by (own := [("number", 4)]) (N := ["word", "layer", "part", "numbers", "number"]) (sc := defScope s_layer) (by decide +kernel)) (fun _ _ _ _ _ => (qgn (i := 4) sc_layer.nd rfl (.inl rfl))) (fun _ _ _ _ _ => qtsn) (fun _ _ _ _ _ => (qcT c_int2 cv_int rfl m_int (by decide +kernel) (qcons (qv 4) qnil))))) qnil)) pa_nil))) fun _ _ _ => app_use))
    (qone (qret (qimm qnon)))))))))
    (qfix 1 (qone (qret (qimm (qcT (r := rTupOf K) c_tuple cv_tuple rfl m_tuple (by decide +kernel) (qcons (qv 1) qnil))))))))))
/-! ### _law_structure -/
abbrev s_structure : Stmt := topS 23
theorem sc_structure : FnScope ["text", "layers", "layer", "word"] ["text"] (defScope s_structure) :=
  ⟨rfl, rfl, rfl, by decide +kernel, rfl, by decide +kernel, by decide +kernel⟩

noncomputable def B_structure : En → Option Out :=
    (sSeq (sIf (fTst (fBin eqW (fVar 0) (fC (.str ""))))
    (sRet (fImm (fCallW tupL fNil)))
    sNext)
    (sSeq (sSet 1 (fImm (fFrz (fLc (fSeq (fFrz (fMetR splitW (fVar 0) (fCons (fC (.str " ")) fNil)))) (aName 3) fYes (fFrz (fCall F_layer (fCons (fVar 3) fNil))) [3]))))
    (sSeq (sFor (fSeq (fVar 1)) (aName 2)
    (sIf (fTst (fBin isNonW (fVar 2) (fC .non)))
    (sRet (fImm (fC .non)))
    sNext))
    (sRet (fImm (fCallW tupleW (fCons (fVar 1) fNil)))))))
noncomputable def F_structure : List W → Option SV := runF 1 3 B_structure
theorem len_structure (ws : List W) (sv : SV) (h : F_structure ws = some sv) : ws.length = 1 := runF_len h
theorem ok_structure {f : Addr} {fd : FuncData} (F : Fun K "_law_structure" "_law_structure" s_structure f fd) {f_layer : Addr} {fd_layer : FuncData} (G_layer : FnOk P w K mg base CX0 2 f_layer fd_layer ["word"] (spQ K 1 (F_layer))) (b_layer : Binds K fd_layer ["word"] []) (k_layer : PySem.W.keepIn K (.ref f_layer) = true) (g_layer : mg "_law_layer" = some (.ref f_layer)) (m_tuple : mg "tuple" = none) :
    FnOk P w K mg base CX0 3 f fd ["text"] (spQ K 1 F_structure) := by
  refine ok_of F sc_structure rfl rfl (fun cdv A outer s H E hr => ?_)
  exact ((qseq (qIf (qtc (eq_any hr.units) bv_eq (qv 0) qstr (nomark _))
    (qone (qret (qimm (qtup qnil))))
    qpass)
    (qseq (qsetLcF (i := 1) (own := [("word", 3)]) rfl sc_structure.nd rfl rfl (sw_true rfl rfl rfl (by decide +kernel)) (qsq (qfrz (pe_imp (pe_bm PySem.F.plainAttrs_str PySem.F.slot_str_split PySem.F.type_str_split mt_split (qv 0) (qcons qstr qnil)) fun _ _ _ => split_use))) (blkOk_by (own := [("word", 3)]) (N := ["text", "layers", "layer", "word"]) (sc := defScope s_structure) (by decide +kernel)) (fun _ _ _ _ _ => (qgn (i := 3) sc_structure.nd rfl (.inl rfl))) (fun _ _ _ _ _ => qtsn) (fun _ _ _ _ _ => (qfrz (qcall G_layer (hr.mono (by decide)) rfl g_layer k_layer b_layer len_layer (qcons (qv 3) qnil)))))
    (qseq (qfor rfl (qsq (qv 1)) (qgn (i := 2) sc_structure.nd rfl (.inl rfl))
    (qone (qIf (qtc op_isNB bv_isN (qv 2) qnon (nomark _))
    (qone (qret (qimm qnon)))
    qpass)))
    (qone (qret (qimm (qcT (r := rTupOf K) c_tuple cv_tuple rfl m_tuple (by decide +kernel) (qcons (qv 1) qnil)))))))))
/-! ### _law_refused -/
abbrev s_refused : Stmt := topS 24
theorem sc_refused : FnScope ["text", "line", "e"] ["text"] (defScope s_refused) :=
  ⟨rfl, rfl, rfl, by decide +kernel, rfl, by decide +kernel, by decide +kernel⟩

noncomputable def B_refused : En → Option Out :=
    (sSeq (sSet 1 (fImm (fC (.int 0))))
    (sSeq (sTry 2 "InvalidPaper" (cX F_read_structure (fCons (fVar 0) fNil) fun _ e => .nx e)
    (fun a d => (sSet 1 (fImm (fIf (fTru (fIsX a d 2 true)) (fXf a d 2 "line") (fBin subW (fC (.int 0)) (fC (.int 1))))))))
    (sRet (fImm (fVar 1)))))
noncomputable def F_refused : List W → Option SV := runF 1 2 B_refused
theorem len_refused (ws : List W) (sv : SV) (h : F_refused ws = some sv) : ws.length = 1 := runF_len h
theorem ok_refused {f : Addr} {fd : FuncData} (F : Fun K "_law_refused" "_law_refused" s_refused f fd) {f_read_structure : Addr} {fd_read_structure : FuncData} (G_read_structure : FnOk P w K mg base (L2.CX P w) 5 f_read_structure fd_read_structure ["text"] (spX K mg 1 (F_read_structure))) (b_read_structure : Binds K fd_read_structure ["text"] []) (k_read_structure : PySem.W.keepIn K (.ref f_read_structure) = true) (g_read_structure : mg "read_structure" = some (.ref f_read_structure)) {C_CensusError : Addr} {C_InvalidPaper : Addr} (EC_InvalidPaper : ErrC K C_InvalidPaper "line") (gd_CensusError : mg "CensusError" = some (.ref C_CensusError)) (hd_CensusError : PySem.W.hasDictIn K C_CensusError = true) (ty_CensusError : PySem.W.typeIn K (.ref C_CensusError) = some (.type "type")) (g_InvalidPaper : mg "InvalidPaper" = some (.ref C_InvalidPaper)) (su_InvalidPaper_CensusError : PySem.W.subIn K (.ref C_InvalidPaper) (.ref C_CensusError) = some true) (m_isinstance : mg "isinstance" = none) :
    FnOk P w K mg base CX0 6 f fd ["text"] (spQ K 1 F_refused) := by
  refine ok_of F sc_refused rfl rfl (fun cdv A outer s H E hr => ?_)
  exact ((qseq (qset (i := 1) sc_refused.nd rfl (.inl rfl) (qimm qint))
    (qseq (qtry (i := 2) rfl rfl sc_refused.nd rfl rfl rfl (by decide) g_InvalidPaper EC_InvalidPaper.self (fun pn xe pa => (qone (qdropX len_read_structure (qcX_pe G_read_structure (hr.mono (by decide)) rfl g_read_structure k_read_structure b_read_structure (qcons (qv 0) qnil)))))
    (fun a d oe pn hz hf => qsuite (qone (qset (i := 1) sc_refused.nd rfl (.inl rfl) (qimm (qif (qt (qisX 2 EC_InvalidPaper hz hf rfl m_isinstance rfl gd_CensusError hd_CensusError ty_CensusError su_InvalidPaper_CensusError)) (qxf 2 EC_InvalidPaper hz hf) (qop op_sub bv_sub qint qint)))))))
    (qone (qret (qimm (qv 1)))))))
/-! ### law -/
abbrev s_law : Stmt := topS 25
theorem sc_law : FnScope ["script", "digits", "parts", "structure", "text", "change", "place", "char", "due", "k", "layer"] ["script"] (defScope s_law) :=
  ⟨rfl, rfl, rfl, by decide +kernel, rfl, by decide +kernel, by decide +kernel⟩

noncomputable def B_law : En → Option Out :=
    (sSeq (sSet 1 (fImm (fFrz (fCall F_digits (fCons (fFrz (fCall F_cell (fCons (fVar 0) (fCons (fC (.int 0)) fNil)))) (fCons (fC (.int 60)) (fCons (fC (.int 40)) fNil)))))))
    (sSeq (sSet 2 (fImm (fBin modW (fCallW intW (fCons (fBin ixW (fVar 1) (fC (.int 0))) fNil)) (fC (.int 4)))))
    (sSeq (sSet 3 (fImm (fCallW tupleW (fCons (fFrz (fLc (fRng1 (fBin modW (fCallW intW (fCons (fBin ixW (fVar 1) (fC (.int 1))) fNil)) (fC (.int 5)))) (aName 9) fYes (fFrz (fCall F_any_layer (fCons (fVar 1) (fCons (fBin addI (fBin mulW (fC (.int 5)) (fVar 9)) (fC (.int 2))) (fCons (fVar 2) fNil))))) [9])) fNil))))
    (sSeq (sSet 4 (fImm (fBin joinW (fC (.str " ")) (fFrz (fLc (fSeq (fVar 3)) (aName 10) fYes (fFrz (fCall F_layer_word (fCons (fVar 10) fNil))) [10])))))
    (sSeq (sIf (fOr (fTst (fBin neW (fFrz (fCall F_write_structure (fCons (fVar 3) fNil))) (fVar 4))) (fTst (fBin neW (fFrz (fCX F_read_structure (fCons (fVar 4) fNil))) (fVar 3))))
    (sRet (fImm (fC (.bl false))))
    sNext)
    (sSeq (sSet 5 (fImm (fBin modW (fCallW intW (fCons (fFrz (fCall F_cell (fCons (fVar 0) (fCons (fC (.int 1)) fNil)))) fNil)) (fC (.int 6)))))
    (sSeq (sSet 6 (fImm (fBin modW (fCallW intW (fCons (fBin divW (fFrz (fCall F_cell (fCons (fVar 0) (fCons (fC (.int 1)) fNil)))) (fC (.int 6))) fNil)) (fBin addI (fCallW lenW (fCons (fVar 4) fNil)) (fC (.int 1))))))
    (sSeq (sSet 7 (fImm (fBin ixW (fC (.str " 0,/-.1\te9")) (fBin modW (fCallW intW (fCons (fFrz (fCall F_cell (fCons (fVar 0) (fCons (fC (.int 2)) fNil)))) fNil)) (fC (.int 10))))))
    (sSeq (sIf (fTst (fBin (cmpI fun i j => decide (i < j)) (fVar 5) (fC (.int 3))))
    (sSet 4 (fImm (fFrz (fBinR addW (fFrz (fBinR addW (fFrz (fSl slW (fVar 4) fNone (fSome (fVar 6)))) (fBin ixW (fFrz (fCall lstL (fCons (fC (.str "")) (fCons (fVar 7) (fCons (fVar 7) fNil))))) (fVar 5)))) (fFrz (fSl slW (fVar 4) (fSome (fFrz (fBinR addW (fVar 6) (fBin ixW (fFrz (fCall lstL (fCons (fC (.int 1)) (fCons (fC (.int 1)) (fCons (fC (.int 0)) fNil))))) (fVar 5))))) fNone))))))
    sNext)
    (sSeq (sSet 8 (fImm (fFrz (fCall F_structure (fCons (fVar 4) fNil)))))
    (sSeq (sIf (fTst (fBin isNonW (fVar 8) (fC .non)))
    (sRet (fImm (fBin eqW (fFrz (fCall F_refused (fCons (fVar 4) fNil))) (fC (.int 1)))))
    sNext)
    (sRet (fImm (fBin eqW (fFrz (fCX F_read_structure (fCons (fVar 4) fNil))) (fVar 8)))))))))))))))
noncomputable def F_law : List W → Option SV := runF 1 10 B_law
theorem len_law (ws : List W) (sv : SV) (h : F_law ws = some sv) : ws.length = 1 := runF_len h
theorem ok_law {f : Addr} {fd : FuncData} (F : Fun K "law" "law" s_law f fd) {f_write_structure : Addr} {fd_write_structure : FuncData} (G_write_structure : FnOk P w K mg base CX0 4 f_write_structure fd_write_structure ["structure"] (spQ K 1 (F_write_structure))) (b_write_structure : Binds K fd_write_structure ["structure"] []) (k_write_structure : PySem.W.keepIn K (.ref f_write_structure) = true) (g_write_structure : mg "write_structure" = some (.ref f_write_structure)) {f_read_structure : Addr} {fd_read_structure : FuncData} (G_read_structure : FnOk P w K mg base (L2.CX P w) 5 f_read_structure fd_read_structure ["text"] (spX K mg 1 (F_read_structure))) (b_read_structure : Binds K fd_read_structure ["text"] []) (k_read_structure : PySem.W.keepIn K (.ref f_read_structure) = true) (g_read_structure : mg "read_structure" = some (.ref f_read_structure)) {f_cell : Addr} {fd_cell : FuncData} (G_cell : FnOk P w K mg base CX0 1 f_cell fd_cell ["script", "k"] (spQ K 2 (F_cell))) (b_cell : Binds K fd_cell ["script", "k"] []) (k_cell : PySem.W.keepIn K (.ref f_cell) = true) (g_cell : mg "_law_cell" = some (.ref f_cell)) {f_digits : Addr} {fd_digits : FuncData} (G_digits : FnOk P w K mg base CX0 1 f_digits fd_digits ["cell", "many", "count"] (spQ K 3 (F_digits))) (b_digits : Binds K fd_digits ["cell", "many", "count"] []) (k_digits : PySem.W.keepIn K (.ref f_digits) = true) (g_digits : mg "_law_digits" = some (.ref f_digits)) {f_layer_word : Addr} {fd_layer_word : FuncData} (G_layer_word : FnOk P w K mg base CX0 1 f_layer_word fd_layer_word ["layer"] (spQ K 1 (F_layer_word))) (b_layer_word : Binds K fd_layer_word ["layer"] []) (k_layer_word : PySem.W.keepIn K (.ref f_layer_word) = true) (g_layer_word : mg "_law_layer_word" = some (.ref f_layer_word)) {f_any_layer : Addr} {fd_any_layer : FuncData} (G_any_layer : FnOk P w K mg base CX0 2 f_any_layer fd_any_layer ["digits", "at", "parts"] (spQ K 3 (F_any_layer))) (b_any_layer : Binds K fd_any_layer ["digits", "at", "parts"] []) (k_any_layer : PySem.W.keepIn K (.ref f_any_layer) = true) (g_any_layer : mg "_law_any_layer" = some (.ref f_any_layer)) {f_structure : Addr} {fd_structure : FuncData} (G_structure : FnOk P w K mg base CX0 3 f_structure fd_structure ["text"] (spQ K 1 (F_structure))) (b_structure : Binds K fd_structure ["text"] []) (k_structure : PySem.W.keepIn K (.ref f_structure) = true) (g_structure : mg "_law_structure" = some (.ref f_structure)) {f_refused : Addr} {fd_refused : FuncData} (G_refused : FnOk P w K mg base CX0 6 f_refused fd_refused ["text"] (spQ K 1 (F_refused))) (b_refused : Binds K fd_refused ["text"] []) (k_refused : PySem.W.keepIn K (.ref f_refused) = true) (g_refused : mg "_law_refused" = some (.ref f_refused)) (m_int : mg "int" = none) (m_len : mg "len" = none) (m_range : mg "range" = none) (m_tuple : mg "tuple" = none) :
    FnOk P w K mg base CX0 7 f fd ["script"] (spQ K 1 F_law) := by
  refine ok_of F sc_law rfl rfl (fun cdv A outer s H E hr => ?_)
  exact ((qseq (qset (i := 1) sc_law.nd rfl (.inr rfl) (qimm (qfrz (qcall G_digits (hr.mono (by decide)) rfl g_digits k_digits b_digits len_digits (qcons (qfrz (qcall G_cell (hr.mono (by decide)) rfl g_cell k_cell b_cell len_cell (qcons (qv 0) (qcons qint qnil)))) (qcons qint (qcons qint qnil)))))))
    (qseq (qset (i := 2) sc_law.nd rfl (.inr rfl) (qimm (qop op_mod bv_mod (qcT c_int2 cv_int rfl m_int (by decide +kernel) (qcons (qix (qv 1) qint) qnil)) qint)))
    (qseq (qset (i := 3) sc_law.nd rfl (.inl rfl) (qimm (qcT (r := rTupOf K) c_tuple cv_tuple rfl m_tuple (by decide +kernel) (qcons (qfrz (qlc (own := [("k", 9)]) rfl sc_law.nd (qr1 rfl m_range (qop op_mod bv_mod (qcT c_int2 cv_int rfl m_int (by decide +kernel) (qcons (qix (qv 1) qint) qnil)) qint)) (blkOk_by (own := [("k", 9)]) (N := ["script", "digits", "parts", "structure", "text", "change", "place", "char", "due", "k", "layer"]) (sc := defScope s_law) (by decide +kernel)) (fun _ _ _ _ _ => (qgn (i := 9) sc_law.nd rfl (.inl rfl))) (fun _ _ _ _ _ => qtsn) (fun _ _ _ _ _ => (qfrz (qcall G_any_layer (hr.mono (by decide)) rfl g_any_layer k_any_layer b_any_layer len_any_layer (qcons (qv 1) (qcons (qop op_add bv_add (qop op_mul2 bv_mul qint (qv 9)) qint) (qcons (qv 2) qnil)))))))) qnil))))
    (qseq (qset (i := 4) sc_law.nd rfl (.inl rfl) (qimm (qjoin qstr (qfrz (qlc (own := [("layer", 10)]) rfl sc_law.nd (qsq (qv 3)) (blkOk_by (own := [("layer", 10)]) (N := ["script", "digits", "parts", "structure", "text", "change", "place", "char", "due", "k", "layer"]) (sc := defScope s_law) (by decide +kernel)) (fun _ _ _ _ _ => (qgn (i := 10) sc_law.nd rfl (.inl rfl))) (fun _ _ _ _ _ => qtsn) (fun _ _ _ _ _ => (qfrz (qcall G_layer_word (hr.mono (by decide)) rfl g_layer_word k_layer_word b_layer_word len_layer_word (qcons (qv 10) qnil)))))))))
    (qseq (qIf (PW.pt (qor (qtc (ne_any hr.units) bv_ne (qfrz (qcall G_write_structure (hr.mono (by decide)) rfl g_write_structure k_write_structure b_write_structure len_write_structure (qcons (qv 3) qnil))) (qv 4) (nomark _)) (qor1 (qtc (ne_any hr.units) bv_ne (qfrz (qcXr G_read_structure (hr.mono (by decide)) rfl g_read_structure k_read_structure b_read_structure len_read_structure (qcons (qv 4) qnil))) (qv 3) (nomark _)))))
    (qone (qret (qimm qbl)))
    qpass)
    (qseq (qset (i := 5) sc_law.nd rfl (.inl rfl) (qimm (qop op_mod bv_mod (qcT c_int2 cv_int rfl m_int (by decide +kernel) (qcons (qfrz (qcall G_cell (hr.mono (by decide)) rfl g_cell k_cell b_cell len_cell (qcons (qv 0) (qcons qint qnil)))) qnil)) qint)))
    (qseq (qset (i := 6) sc_law.nd rfl (.inl rfl) (qimm (qop op_mod bv_mod (qcT c_int2 cv_int rfl m_int (by decide +kernel) (qcons (qop op_fdivW bv_div (qfrz (qcall G_cell (hr.mono (by decide)) rfl g_cell k_cell b_cell len_cell (qcons (qv 0) (qcons qint qnil)))) qint) qnil)) (qop op_add bv_add (qcB (r := rLn K) c_len cv_len rfl m_len (by decide +kernel) (qcons (qv 4) qnil)) qint))))
    (qseq (qset (i := 7) sc_law.nd rfl (.inl rfl) (qimm (qix qstr (qop op_mod bv_mod (qcT c_int2 cv_int rfl m_int (by decide +kernel) (qcons (qfrz (qcall G_cell (hr.mono (by decide)) rfl g_cell k_cell b_cell len_cell (qcons (qv 0) (qcons qint qnil)))) qnil)) qint))))
    (qseq (qIf (qtc op_lt bv_cmpI (qv 5) qint (nomark _))
    (qone (qset (i := 4) sc_law.nd rfl (.inl rfl) (qimm (qfrz (qopR (r := rAd K) ad_any br_add (qfrz (qopR (r := rAd K) ad_any br_add (qfrz (qsl (qv 4) qno (qso (qv 6)))) (qix (qfrz (qlst (qcons qstr (qcons (qv 7) (qcons (qv 7) qnil))))) (qv 5)))) (qfrz (qsl (qv 4) (qso (qfrz (qopR (r := rAd K) ad_any br_add (qv 6) (qix (qfrz (qlst (qcons qint (qcons qint (qcons qint qnil))))) (qv 5))))) qno)))))))
    qpass)
    (qseq (qset (i := 8) sc_law.nd rfl (.inl rfl) (qimm (qfrz (qcall G_structure (hr.mono (by decide)) rfl g_structure k_structure b_structure len_structure (qcons (qv 4) qnil)))))
    (qseq (qIf (qtc op_isNB bv_isN (qv 8) qnon (nomark _))
    (qone (qret (qimm (qcmp (eq_any hr.units) bv_eq (qfrz (qcall G_refused (hr.mono (by decide)) rfl g_refused k_refused b_refused len_refused (qcons (qv 4) qnil))) qint (nomark _)))))
    qpass)
    (qone (qret (qimm (qcmp (eq_any hr.units) bv_eq (qfrz (qcXr G_read_structure (hr.mono (by decide)) rfl g_read_structure k_read_structure b_read_structure len_read_structure (qcons (qv 4) qnil))) (qv 8) (nomark _)))))))))))))))))
end
end Qw
namespace Qw
open PySem PySem.Spec PyProof.Rows L2 Nz
variable {e : En} {f g h fp gp : En → Option W} {i j : Nat} {ws us ks : List W} {w u : W} {n m : Int}
/-! ### steps of the later rules, as in QwSim -/
def bEnum (a : Option W) : Option (List W) := match a with
  | some (.lst ws) => some (enumW ws)
  | some (.tup ws) => some (enumW ws)
  | some (.klst ws) => some (enumW ws)
  | _ => none
theorem q_enum : fEnum f e = bEnum (f e) := by
  unfold fEnum bEnum
  split <;> simp_all
theorem r_enum1 : bEnum (some (.lst ws)) = some (enumW ws) := nr rfl
theorem r_enum2 : bEnum (some (.tup ws)) = some (enumW ws) := nr rfl
theorem r_enum3 : bEnum (some (.klst ws)) = some (enumW ws) := nr rfl
def bSeqs (a b : Option W) : Option (List W) := match a, b with
  | some a, some b => (match seqOf a, seqOf b with
    | some (_, ws), some (_, us) => some (zipW ws us)
    | _, _ => none)
  | _, _ => none
def bRev (a : Option W) : Option (List W) := match a with
  | some a => (match seqOf a with
    | some (_, ws) => some ws.reverse
    | none => none)
  | none => none
def bFld (a : Option W) (nm : Str) : Option W := match a with
  | some (.ins _ ns ws) => fldW ns ws nm
  | _ => none
theorem q_fld {nm : Str} : fFld f nm e = bFld (f e) nm := by
  unfold fFld bFld
  split <;> simp_all
theorem r_fld {l nm : Str} {ns : List Str} : bFld (some (.ins l ns ws)) nm = fldW ns ws nm := nr rfl
def bDGet (a b : Option W) : Option W := match a, b with
  | some (.dct t ks ws), some u => (match dkey u with
    | some (t', k) => if t' = t then getL ks ws k else none
    | none => none)
  | _, _ => none
theorem q_dget : fDGet f g e = bDGet (f e) (g e) := by
  unfold fDGet bDGet
  cases f e with
  | none => rfl
  | some a =>
    cases a <;> cases g e <;> rfl
theorem r_dget {t t' : Bool} {ks : List (List Key)} {k : List Key} (hk : dkey u = some (t', k)) (ht : t' = t) : bDGet (some (.dct t ks ws)) (some u) = getL ks ws k := by
  unfold bDGet
  simp only
  rw [hk]
  exact if_pos ht
theorem q_dnew {t : Bool} : fDNew t e = some (.own (.dct t [] [])) := nr rfl
def bDPut (e : En) (i : Nat) (a : Option W) (s : Option (Option SV)) (b : Option W) : Option Out := match a, s, b with
  | some w, some (some (.own (.dct t ks ws))), some u => (match dkey u with
    | some (t', k) => if t' = t ∧ ks.length < sizeLine then some (.nx (e.set i (some (.own (.dct t (dput ks ws k w).1 (dput ks ws k w).2))))) else none
    | none => none)
  | _, _, _ => none
theorem q_dput : sDPut i g f e = bDPut e i (f e) e[i]? (g e) := by
  unfold sDPut bDPut
  cases f e with
  | none => rfl
  | some a =>
    cases e[i]? with
    | none => rfl
    | some s =>
      cases s with
      | none => rfl
      | some s =>
        cases s with
        | imm w => rfl
        | own w => cases w <;> cases g e <;> rfl
theorem r_dput {t t' : Bool} {ks : List (List Key)} {k : List Key} (hk : dkey u = some (t', k)) (ht : t' = t ∧ ks.length < sizeLine) :
    bDPut e i (some w) (some (some (.own (.dct t ks ws)))) (some u) = some (.nx (e.set i (some (.own (.dct t (dput ks ws k w).1 (dput ks ws k w).2))))) := by
  unfold bDPut
  simp only
  rw [hk]
  exact if_pos ht
theorem q_clear : sClear i e = (match e[i]? with
  | some (some (.own (.lst _))) => some (.nx (e.set i (some (.own (.lst [])))))
  | _ => none) := nr rfl
def bChain (o o' : Int → Int → Bool) (a b : Option W) (c : Option W) : Option Bool := match a, b with
  | some (.int a), some (.int b) => if o a b = true then (match c with
    | some (.int c) => some (o' b c)
    | _ => none) else some false
  | _, _ => none
theorem q_chain {o o' : Int → Int → Bool} : fChain o o' f g h e = bChain o o' (f e) (g e) (h e) := by
  unfold fChain bChain
  cases f e with
  | none => rfl
  | some a => cases a <;> first | rfl | (cases g e with
    | none => rfl
    | some b => cases b <;> rfl)
theorem r_chain {o o' : Int → Int → Bool} {k : Int} : bChain o o' (some (.int n)) (some (.int m)) (some (.int k)) = some (o n m && o' m k) := by
  unfold bChain
  cases hz : o n m <;> simp [hz]
end Qw
namespace Qw
open PySem PySem.Spec PyProof.Rows L2 Nz
variable {e : En} {f g h fp gp : En → Option W} {i j : Nat} {ws us ks : List W} {w u : W} {n m : Int}
/-! ### steps: list(range(n)), C(..), self.f = e, factorial -/
def bLRg1 (a : Option W) : Option SV := match a with
  | some (.int n) => if -1000000 ≤ n ∧ n ≤ 16777216 then some (.own (.lst (rngW 0 (n - 0).toNat))) else none
  | _ => none
theorem q_lrg1 : fLRg1 f e = bLRg1 (f e) := by
  unfold fLRg1 bLRg1
  split <;> simp_all
theorem r_lrg1 (h : -1000000 ≤ n ∧ n ≤ 16777216) : bLRg1 (some (.int n)) = some (.own (.lst (rngW 0 n.toNat))) := by
  unfold bLRg1
  simp only
  rw [if_pos h, Int.sub_zero]
open Classical in
noncomputable def bMk (F : Addr → List W → Option W) (a : Option (List W)) : Option W := match a with
  | some ws => if ∀ x, F x ws = F 0 ws then F 0 ws else none
  | none => none
theorem q_mk {F : Addr → List W → Option W} {g : En → Option (List W)} : fMk F g e = bMk F (g e) := by
  unfold fMk bMk
  rfl
theorem r_mk {F : Addr → List W → Option W} (hF : ∀ x, F x ws = some w) : bMk F (some ws) = some w := by
  unfold bMk
  simp only
  rw [if_pos (fun x => by rw [hF x, hF 0]), hF 0]
def chkF (ns : List Str) (n : Nat) (f : Str) : Bool := decide (ns[n]? = some f ∧ f ∉ ns.take n ∧ ns.length < 900)
def bFldI (e : En) (i : Nat) (fl : Str) (s : Option (Option SV)) (a : Option W) : Option Out := match s with
  | some (some (.own (.ins t ns ws))) => (match a with
    | some w => if ns[ws.length]? = some fl ∧ fl ∉ ns.take ws.length ∧ ns.length < 900 then some (.nx (e.set i (some (.own (.ins t ns (ws ++ [w])))))) else none
    | none => none)
  | _ => none
theorem q_fldI {fl : Str} : sFldI i fl g e = bFldI e i fl e[i]? (g e) := nr rfl
theorem r_fldI {fl t : Str} {ns : List Str} (h : chkF ns ws.length fl = true) : bFldI e i fl (some (some (.own (.ins t ns ws)))) (some w) = some (.nx (e.set i (some (.own (.ins t ns (ws ++ [w])))))) := by
  unfold bFldI
  exact if_pos (of_decide_eq_true h)
theorem o_fac (h : 0 ≤ n ∧ n ≤ 20000) : facW [.int n] = some (.int ((facN n.toNat : Nat) : Int)) := by
  unfold facW
  exact if_pos h
theorem o_isN1 : isNonW .non .non = some (.bl true) := nr rfl
theorem o_isN2 : isNonW (.int n) .non = some (.bl false) := nr rfl
theorem o_isN3 : isNonW (.tup ws) .non = some (.bl false) := nr rfl
theorem fld_eq {a : Str} {ns : List Str} : fldW (a :: ns) (w :: ws) a = some w := by
  unfold fldW
  exact if_pos rfl
theorem fld_ne {a b : Str} {ns : List Str} (h : a ≠ b) : fldW (a :: ns) (w :: ws) b = fldW ns ws b := by
  conv => lhs; unfold fldW
  exact if_neg h.symm
/-- what __init__ has made -/
theorem runI_of {k m' : Nat} {ns : List Str} {B : En → Option Out} {x : Addr} (hl : ws.length = k) {e' : En} (hB : B (some (.own (.ins ⟨#[x]⟩ ns [])) :: (ws.map (fun w => some (.imm w)) ++ List.replicate m' none)) = some (.nx e'))
    (he : e'[0]? = some (some (.own (.ins ⟨#[x]⟩ ns us)))) (hu : us.length = ns.length) : runI k m' ns B x ws = some (.ins ⟨#[]⟩ ns us) := by
  unfold runI
  rw [if_pos hl, hB]
  simp only
  rw [he]
  exact if_pos ⟨rfl, rfl, hu⟩
/-! ### comprehensions -/
theorem lc_list {A : W → En → Option En} {t : En → Option Bool} {g : En → Option W} {e : En} : ∀ (ws us : List W), ws.length = us.length → (∀ (i : Nat) (w u : W), ws[i]? = some w → us[i]? = some u → ∃ e1, A w e = some e1 ∧ t e1 = some true ∧ g e1 = some u) → lcW A t g e ws = some us
  | [], [], _, _ => rfl
  | [], _ :: _, h, _ => by simp at h
  | _ :: _, [], h, _ => by simp at h
  | w :: ws, u :: us, h, q => by
    obtain ⟨e1, a, b, c⟩ := q 0 w u rfl rfl
    have ih := lc_list ws us (by simpa using h) fun i w' u' h1 h2 => q (i + 1) w' u' (by simpa using h1) (by simpa using h2)
    simp only [lcW, a, b, c, ih]
/-- each element has some value with a property -/
theorem lc_some {A : W → En → Option En} {t : En → Option Bool} {g : En → Option W} {e : En} {R : Nat → W → Prop} : ∀ {ws : List W} (k : Nat), (∀ (i : Nat) (w : W), ws[i]? = some w → ∃ e1, A w e = some e1 ∧ t e1 = some true ∧ ∃ u, g e1 = some u ∧ R (k + i) u) →
    ∃ us : List W, lcW A t g e ws = some us ∧ us.length = ws.length ∧ ∀ (i : Nat) (u : W), us[i]? = some u → R (k + i) u
  | [], k, _ => ⟨[], rfl, rfl, fun i u h => by simp at h⟩
  | w :: ws, k, h => by
    obtain ⟨e1, a, b, u, d, r⟩ := h 0 w rfl
    obtain ⟨us, h1, h2, h3⟩ := lc_some (ws := ws) (R := R) (k + 1) fun i w' hw => by
      have := h (i + 1) w' (by simpa using hw)
      rw [show k + 1 + i = k + (i + 1) by omega]
      exact this
    refine ⟨u :: us, by simp only [lcW, a, b, d, h1], by simp [h2], fun i u' hu => ?_⟩
    cases i with
    | zero =>
      simp at hu
      subst hu
      exact r
    | succ i =>
      have := h3 i u' (by simpa using hu)
      rw [show k + (i + 1) = k + 1 + i by omega]
      exact this
theorem ints_at {ns : List Int} {j : Nat} (h : j < ns.length) : atI (ns.map W.int) (j : Int) = some (.int ns[j]) := atI_at (by rw [List.getElem?_map, List.getElem?_eq_getElem h]; rfl)
end Qw
namespace Qw
open PySem PySem.Spec PyProof.Rows L2 Nz
variable {e e1 e2 : En} {f g h fp gp : En → Option W} {i j : Nat} {ws us ks : List W} {w u : W} {n m : Int}
/-! ### steps of QwFs -/
def bFmt (a : Option W) : Option Str := match a with
  | some w => fmtW w
  | none => none
theorem q_fmt : fFmt f e = bFmt (f e) := nr rfl
theorem q_txt {x : Str} : fTxt x e = some x := nr rfl
theorem r_fmtT {l : List Nat} (h : l.length ≤ 16777216) : bFmt (some (.str (T l))) = some (T l) := by
  unfold bFmt fmtW
  exact if_pos (by rw [t_len]; exact h)
theorem r_fmtN {v : Nat} (h : v < 1000000000) : bFmt (some (.int (v : Int))) = some (T (TL.numL v)) := by
  unfold bFmt fmtW
  simp only
  rw [if_pos, SX.num_S]
  have h2 : v.log2 < 1920 := by
    by_cases hv : v = 0
    · subst hv; decide
    · exact (Nat.log2_lt hv).mpr (Nat.lt_of_lt_of_le h (by decide))
  simpa using h2
theorem str_num {v : Nat} (h : v < 1000000000) : strW [.int (v : Int)] = some (.str (T (TL.numL v))) := by
  unfold strW
  simp only
  rw [if_pos, SX.num_S]
  exact Nat.lt_of_lt_of_le (show ((v : Int)).natAbs < 1000000000 by simpa using h) (by decide)
theorem num_len {v : Nat} (h : v < 1000000000) : (TL.numL v).length ≤ 10 := by
  have h1 := int_text_length_le10 (a := (v : Int)) (k := 9) (by decide) (by simpa using h)
  have h2 : (toString (v : Int) : Str) = T (TL.numL v) := SX.num_S v
  have h3 := congrArg Str.length h2
  rw [t_len] at h3
  have h4 : (Str.ofString (toString (v : Int))).length = (toString (v : Int)).length := PySem.ofString_length _
  have h5 : (Str.ofString (toString (v : Int))).length = (TL.numL v).length := h3
  omega
theorem js_T {e : En} : ∀ {gs : List (En → Option Str)} {ls : List (List Nat)} {a : List Nat}, gs.map (fun g => g e) = ls.map (fun l => some (T l)) → a.length + ls.flatten.length ≤ 16777216 → fJs gs (T a) e = some (T (a ++ ls.flatten))
  | [], [], a, _, _ => by simp [fJs]
  | [], _ :: _, _, h, _ => by simp at h
  | _ :: _, [], _, h, _ => by simp at h
  | g :: gs, l :: ls, a, h, hz => by
    simp only [List.map_cons, List.cons.injEq] at h
    rw [List.flatten_cons, List.length_append] at hz
    unfold fJs
    rw [h.1]
    simp only
    rw [t_add, if_pos (by rw [t_len, List.length_append]; show _ ≤ 16777216; omega), js_T h.2 (by rw [List.length_append]; omega), List.flatten_cons, List.append_assoc]
theorem fs_T {gs : List (En → Option Str)} {ls : List (List Nat)} (h : gs.map (fun g => g e) = ls.map (fun l => some (T l))) (hz : ls.flatten.length ≤ 16777216) : fFS gs e = some (.str (T ls.flatten)) := by
  unfold fFS
  have h0 : (Str.empty : Str) = T [] := rfl
  rw [h0, js_T h (by simpa using hz)]
  rfl
def bJ : List (Option Str) → Str → Option Str
  | [], acc => some acc
  | some y :: r, acc => if (acc ++ y).length ≤ sizeLine then bJ r (acc ++ y) else none
  | none :: _, _ => none
theorem bJ_is : ∀ (gs : List (En → Option Str)) (acc : Str), fJs gs acc e = bJ (gs.map fun g => g e) acc
  | [], acc => rfl
  | g :: gs, acc => by
    unfold fJs
    rw [List.map_cons]
    cases h : g e with
    | none => simp [bJ]
    | some y =>
      simp only [bJ]
      rw [bJ_is gs]
def bFS (l : List (Option Str)) : Option W := match bJ l Str.empty with
  | some s => some (.str s)
  | none => none
theorem q_fs {gs : List (En → Option Str)} : fFS gs e = bFS (gs.map fun g => g e) := by
  unfold fFS bFS
  rw [bJ_is]
  try rfl
theorem bJ_T : ∀ (ls : List (List Nat)) (a : List Nat), a.length + ls.flatten.length ≤ 16777216 → bJ (ls.map fun l => some (T l)) (T a) = some (T (a ++ ls.flatten))
  | [], a, _ => by simp [bJ]
  | l :: ls, a, hz => by
    rw [List.flatten_cons, List.length_append] at hz
    rw [List.map_cons]
    simp only [bJ]
    rw [t_add, if_pos (by rw [t_len, List.length_append]; show _ ≤ 16777216; omega), bJ_T ls _ (by rw [List.length_append]; omega), List.flatten_cons, List.append_assoc]
theorem bFS_T (ls : List (List Nat)) (hz : ls.flatten.length ≤ 16777216) : bFS (ls.map fun l => some (T l)) = some (.str (T ls.flatten)) := by
  unfold bFS
  have h0 : (Str.empty : Str) = T [] := rfl
  rw [h0, bJ_T ls [] (by simpa using hz)]
  rfl
theorem r_fs3 {a b c : List Nat} (h : a.length + b.length + c.length ≤ 16777216) : bFS [some (T a), some (T b), some (T c)] = some (.str (T (a ++ b ++ c))) := by
  have := bFS_T [a, b, c] (by simp; omega)
  simpa using this
theorem r_fs4 {a b c d : List Nat} (h : a.length + b.length + c.length + d.length ≤ 16777216) : bFS [some (T a), some (T b), some (T c), some (T d)] = some (.str (T (a ++ b ++ c ++ d))) := by
  have := bFS_T [a, b, c, d] (by simp; omega)
  simpa using this
theorem r_fs5 {a b c d f : List Nat} (h : a.length + b.length + c.length + d.length + f.length ≤ 16777216) : bFS [some (T a), some (T b), some (T c), some (T d), some (T f)] = some (.str (T (a ++ b ++ c ++ d ++ f))) := by
  have := bFS_T [a, b, c, d, f] (by simp; omega)
  simpa using this
theorem at_i0 {a : W} {l : List W} : atI (a :: l) 0 = some a := atI_at (j := 0) rfl
theorem at_i1 {a b : W} {l : List W} : atI (a :: b :: l) 1 = some b := atI_at (j := 1) rfl
theorem at_i2 {a b c : W} {l : List W} : atI (a :: b :: c :: l) 2 = some c := atI_at (j := 2) rfl
theorem at_i3 {a b c d : W} {l : List W} : atI (a :: b :: c :: d :: l) 3 = some d := atI_at (j := 3) rfl
def bKD (tbl : List (Str × W)) (a : Option W) : Option W := match a with
  | some (.str s) => tbl.lookup s
  | _ => none
theorem q_kd {tbl : List (Str × W)} : fKD tbl f e = bKD tbl (f e) := nr rfl
theorem r_kd {tbl : List (Str × W)} {s : Str} : bKD tbl (some (.str s)) = tbl.lookup s := nr rfl
theorem lk_eq {a : Str} {r : List (Str × W)} : ((a, w) :: r).lookup a = some w := by simp [List.lookup]
theorem lk_ne {a b : Str} {r : List (Str × W)} (h : b ≠ a) : ((a, w) :: r).lookup b = r.lookup b := by
  have : (b == a) = false := by simpa using h
  simp [List.lookup, this]
def bXL (a : Option W) (e : En) : Option (W × En) := match a with
  | some w => some (w, e)
  | none => none
theorem q_xl : xL f e = bXL (f e) e := nr rfl
theorem r_xl : bXL (some w) e = some (w, e) := nr rfl
def bXP (e : En) (i : Nat) (s : Option (Option SV)) : Option (W × En) := match s with
  | some (some (.own (.lst ws))) => (match ws[ws.length - 1]? with
    | some w => some (w, e.set i (some (.own (.lst ws.dropLast))))
    | none => none)
  | _ => none
theorem q_xpop : xPop i e = bXP e i e[i]? := nr rfl
theorem r_xpop : bXP e i (some (some (.own (.lst (ws ++ [w]))))) = some (w, e.set i (some (.own (.lst ws)))) := by
  unfold bXP
  simp
theorem q_xnil : xNil e = some ([], e) := nr rfl
def bXC2 (w : W) (r : Option (List W × En)) : Option (List W × En) := match r with
  | some (ws, e2) => some (w :: ws, e2)
  | none => none
def bXC (r : Option (W × En)) (g : En → Option (List W × En)) : Option (List W × En) := match r with
  | some (w, e1) => bXC2 w (g e1)
  | none => none
theorem q_xcons {f : En → Option (W × En)} {g : En → Option (List W × En)} : xCons f g e = bXC (f e) g := by
  unfold xCons bXC bXC2
  rfl
theorem r_xc {g : En → Option (List W × En)} : bXC (some (w, e1)) g = bXC2 w (g e1) := nr rfl
theorem r_xc2 : bXC2 w (some (ws, e2)) = some (w :: ws, e2) := nr rfl
def bXT (r : Option (List W × En)) : Option (W × En) := match r with
  | some (ws, e1) => if ws.length ≤ sizeLine then some (.tup ws, e1) else none
  | none => none
theorem q_xtup {f : En → Option (List W × En)} : xTup f e = bXT (f e) := nr rfl
theorem r_xtup (h : ws.length ≤ 16777216) : bXT (some (ws, e1)) = some (.tup ws, e1) := by
  unfold bXT
  exact if_pos h
def bA2 (w : W) (e1 : En) (i : Nat) (s : Option (Option SV)) : Option Out := match s with
  | some (some (.own (.lst ws))) => if ws.length < sizeLine then some (.nx (e1.set i (some (.own (.lst (ws ++ [w])))))) else none
  | _ => none
def bA1 (i : Nat) (r : Option (W × En)) : Option Out := match r with
  | some (w, e1) => bA2 w e1 i e1[i]?
  | none => none
def bA0 (i : Nat) (s : Option (Option SV)) (r : Option (W × En)) : Option Out := match s with
  | some (some (.own (.lst _))) => bA1 i r
  | _ => none
theorem q_appX {f : En → Option (W × En)} : sAppX i f e = bA0 i e[i]? (f e) := by
  unfold sAppX bA0 bA1 bA2
  rfl
theorem r_a0 {r : Option (W × En)} : bA0 i (some (some (.own (.lst ws)))) r = bA1 i r := nr rfl
theorem r_a1 : bA1 i (some (w, e1)) = bA2 w e1 i e1[i]? := nr rfl
theorem r_a2 (h : ws.length < 16777216) : bA2 w e1 i (some (some (.own (.lst ws)))) = some (.nx (e1.set i (some (.own (.lst (ws ++ [w])))))) := by
  unfold bA2
  exact if_pos h
def bSX (i : Nat) (r : Option (W × En)) : Option Out := match r with
  | some (w, e1) => some (.nx (e1.set i (some (.imm w))))
  | none => none
theorem q_setX {f : En → Option (W × En)} : sSetX i f e = bSX i (f e) := nr rfl
theorem r_sx : bSX i (some (w, e1)) = some (.nx (e1.set i (some (.imm w)))) := nr rfl
/-! ### the constants of the module -/
theorem o_ixK {i : Int} : ixW (.ktup ws) (.int i) = atI ws i := nr rfl
theorem o_slK {l h : Option Int} : slW (.ktup ws) l h = some (.imm (.ktup (cutW ws l h))) := nr rfl
/-! ### texts joined -/
theorem join_len (s : List Nat) : ∀ ls : List (List Nat), (TL.joinL s ls).length ≤ (ls.map List.length).sum + ls.length * s.length
  | [] => by simp [TL.joinL]
  | [a] => by simp [TL.joinL]
  | a :: b :: r => by
    have ih := join_len s (b :: r)
    simp only [TL.joinL, List.length_append, List.map_cons, List.sum_cons, List.length_cons] at ih ⊢
    have e : (r.length + 1 + 1) * s.length = (r.length + 1) * s.length + s.length := Nat.succ_mul _ _
    omega
theorem t_joinS {s : List Nat} {ls : List (List Nat)} (h : (ls.map List.length).sum + ls.length * s.length ≤ 16777216) : joinW (.str (T s)) (.lst (ls.map fun l => W.str (T l))) = some (.str (T (TL.joinL s ls))) := by
  unfold joinW
  simp only [txts_T]
  rw [if_pos, SX.join_S s ls]
  rw [List.map_map]
  have : ((fun x : Str => x.length) ∘ T) = List.length := by
    funext l
    exact t_len l
  rw [this, t_len, List.length_map]
  exact h
end Qw
namespace Qw
open PySem PySem.Spec PyProof.Rows L2 Nz
/-! ### code points -/
def digL : List Nat := [48, 49, 50, 51, 52, 53, 54, 55, 56, 57]
def smallL : List Nat := [97, 98, 99, 100, 101, 102, 103, 104, 105, 106, 107, 108, 109, 110, 111, 112, 113, 114, 115, 116, 117, 118, 119, 120, 121, 122]
def capL : List Nat := [65, 66, 67, 68, 69, 70, 71, 72, 73, 74, 75, 76, 77, 78, 79, 80, 81, 82, 83, 84, 85, 86, 87, 88, 89, 90]
def innL : List Nat := smallL ++ capL ++ digL ++ [95]
def wordL : List (List Nat) := [[97, 108, 108], [116, 114, 117, 101], [102, 97, 108, 115, 101], [110, 111, 116], [97, 110, 100], [111, 114], [114, 101, 108, 97, 116, 105, 111, 110], [118, 97, 108, 117, 101, 115], [115, 121, 109, 109, 101, 116, 114, 105, 99]]
def signL : List (List Nat) := [[40], [41], [44], [58], [61], [45, 62], [60, 45, 62]]
theorem s_dig : ("0123456789" : Str) = T digL := by decide +kernel
theorem s_small : ("abcdefghijklmnopqrstuvwxyz" : Str) = T smallL := by decide +kernel
theorem s_cap : ("ABCDEFGHIJKLMNOPQRSTUVWXYZ" : Str) = T capL := by decide +kernel
theorem s_inn : ("abcdefghijklmnopqrstuvwxyzABCDEFGHIJKLMNOPQRSTUVWXYZ0123456789_" : Str) = T innL := by decide +kernel
theorem s_us : ("_" : Str) = T [95] := by decide +kernel
theorem s_nl : ("\n" : Str) = T [10] := by decide +kernel
theorem s_e : ("" : Str) = T [] := by decide +kernel
theorem s_sp : (" " : Str) = T [32] := by decide +kernel
theorem s_words : [W.str "all", W.str "true", W.str "false", W.str "not", W.str "and", W.str "or", W.str "relation", W.str "values", W.str "symmetric"] = wordL.map fun l => W.str (T l) := by
  have h : (["all", "true", "false", "not", "and", "or", "relation", "values", "symmetric"] : List Str) = wordL.map T := by decide +kernel
  have := congrArg (List.map W.str) h
  rw [List.map_map] at this
  exact this
theorem s_signs : [W.str "(", W.str ")", W.str ",", W.str ":", W.str "=", W.str "->", W.str "<->"] = signL.map fun l => W.str (T l) := by
  have h : (["(", ")", ",", ":", "=", "->", "<->"] : List Str) = signL.map T := by decide +kernel
  have := congrArg (List.map W.str) h
  rw [List.map_map] at this
  exact this
theorem a1 : addW (.str (T smallL)) (.str (T capL)) = some (.imm (.str (T (smallL ++ capL)))) := by rw [o_addS (by decide), t_add]
theorem a2 : addW (.str (T (smallL ++ capL))) (.str (T digL)) = some (.imm (.str (T (smallL ++ capL ++ digL)))) := by rw [o_addS (by decide), t_add]
theorem a3 : addW (.str (T (smallL ++ capL ++ digL))) (.str (T [95])) = some (.imm (.str (T innL))) := by rw [o_addS (by decide), t_add]; rfl
theorem lc_chars {A : W → En → Option En} {t : En → Option Bool} {g : En → Option W} {e : En} {p : Nat → Bool} : ∀ {l : List Nat}, (∀ c ∈ l, ∃ e1, A (.str (T [c])) e = some e1 ∧ t e1 = some true ∧ g e1 = some (.bl (p c))) →
    lcW A t g e (l.map fun c => W.str ⟨#[c]⟩) = some (l.map fun c => W.bl (p c))
  | [], _ => rfl
  | c :: l, h => by
    obtain ⟨e1, a, b, d⟩ := h c List.mem_cons_self
    have a' : A (.str ⟨#[c]⟩) e = some e1 := a
    simp only [List.map_cons, lcW, a', b, d, lc_chars fun c' hc => h c' (List.mem_cons_of_mem _ hc)]
theorem bools_map {p : Nat → Bool} : ∀ l : List Nat, bools (l.map fun c => W.bl (p c)) = some (l.map p)
  | [] => rfl
  | c :: l => by simp only [List.map_cons, bools, bools_map l]
theorem all_chars {p : Nat → Bool} {l : List Nat} : allW [.lst (l.map fun c => W.bl (p c))] = some (.bl (l.all p)) := by
  simp only [allW, bools_map, List.all_map]
  rfl
theorem lw {f : List Nat → W} : lstL (wordL.map f) = some (.own (.lst (wordL.map f))) := o_lst (by rw [List.length_map]; decide)
theorem lsg {f : List Nat → W} : lstL (signL.map f) = some (.own (.lst (signL.map f))) := o_lst (by rw [List.length_map]; decide)
theorem word_facts : ∀ l ∈ wordL, l ≠ [] ∧ (∀ c ∈ l, c ∈ innL) ∧ l.headD 0 ∈ smallL ∧ l.length ≤ 9 := by decide
theorem lenT {l : List Nat} (h : l.length ≤ 16777216) : lenW [.str (T l)] = some (.int l.length) := by rw [o_lenS (by rw [t_len]; exact h), t_len]
def NmOk (l : List Nat) : Prop := l.headD 0 ∈ smallL ∧ (∀ c ∈ l, c ∈ innL) ∧ l.length ≤ 1000
theorem a4 : addW (.str (T (smallL ++ capL))) (.str "0123456789_") = some (.imm (.str (T innL))) := by
  have h : ("0123456789_" : Str) = T (digL ++ [95]) := by decide +kernel
  rw [h, o_addS (by decide), t_add]
  rfl
theorem rng1 : rngW 0 1 = [.int 0] := rfl
theorem rng2 : rngW 0 2 = [.int 0, .int 1] := rfl
theorem at_mod {l : List Nat} {n : Nat} {x : Int} (hn : l.length = n) (h0 : 0 < n) (hz : n ≤ 16777216) : ∃ c, ixW (.str (T l)) (.int (x % (n : Int))) = some (.str (T [c])) ∧ c ∈ l := by
  have e0 := Int.emod_nonneg x (show (n : Int) ≠ 0 by omega)
  have e1 := Int.emod_lt_of_pos x (show (0 : Int) < n by omega)
  obtain ⟨j, hj⟩ : ∃ j : Nat, x % (n : Int) = (j : Int) := ⟨(x % (n : Int)).toNat, by omega⟩
  rw [hj]
  have hlt : j < l.length := by omega
  exact ⟨l[j], t_ix (by omega) (List.getElem?_eq_getElem hlt), List.getElem_mem hlt⟩
theorem len_small : smallL.length = 26 := rfl
theorem len_inn : innL.length = 63 := rfl
theorem word_at (x : Int) : ∃ l, atI (wordL.map fun l => W.str (T l)) (x % 9) = some (.str (T l)) ∧ l ∈ wordL := by
  have e0 := Int.emod_nonneg x (show (9 : Int) ≠ 0 by decide)
  have e1 := Int.emod_lt_of_pos x (show (0 : Int) < 9 by decide)
  obtain ⟨j, hj⟩ : ∃ j : Nat, x % 9 = (j : Int) := ⟨(x % 9).toNat, by omega⟩
  rw [hj]
  have hl : wordL.length = 9 := rfl
  have hlt : j < wordL.length := by omega
  exact ⟨wordL[j], atI_at (by rw [List.getElem?_map, List.getElem?_eq_getElem hlt]; rfl), List.getElem_mem hlt⟩
theorem cut8 {ds : List Int} (h : ds.length = 8) : cutW (ds.map W.int) (some 0) (some 8) = ds.map W.int := by
  unfold cutW
  rw [List.length_map, h]
  have e1 : HT.sIx 8 0 (some (0 : Int)) = 0 := rfl
  have e2 : HT.sIx 8 8 (some (8 : Int)) = 8 := rfl
  rw [e1, e2, List.drop_zero, Nat.sub_zero, List.take_of_length_le (by rw [List.length_map, h]; exact Nat.le_refl _)]
theorem small_inn : ∀ c ∈ smallL, c ∈ innL := by decide
theorem t_in0 {a : Str} : inW (.str a) (.lst []) = some (.bl false) := rfl
theorem us_word : ∀ l ∈ wordL, l ++ [95] ∉ wordL := by decide
theorem us_last : ∀ l ∈ wordL, l.getLast? ≠ some 95 := by decide
theorem at_getD {ds : List Int} {j : Nat} (h : j < ds.length) : atI (ds.map W.int) (j : Int) = some (.int (ds.getD j 0)) := by
  rw [ints_at h, List.getD_eq_getElem?_getD, List.getElem?_eq_getElem h]
  rfl
theorem lc_gen {A : W → En → Option En} {t : En → Option Bool} {g : En → Option W} {e : En} {R : Nat → Prop} : ∀ {ws : List W}, (∀ w ∈ ws, ∃ e1, A w e = some e1 ∧ t e1 = some true ∧ ∃ c, g e1 = some (.str (T [c])) ∧ R c) →
    ∃ cs : List Nat, lcW A t g e ws = some ((cs.map fun c => [c]).map fun l => W.str (T l)) ∧ cs.length = ws.length ∧ ∀ c ∈ cs, R c
  | [], _ => ⟨[], rfl, rfl, by simp⟩
  | w :: ws, h => by
    obtain ⟨e1, a, b, c, d, r⟩ := h w List.mem_cons_self
    obtain ⟨cs, h1, h2, h3⟩ := lc_gen (ws := ws) fun w' hw => h w' (List.mem_cons_of_mem _ hw)
    refine ⟨c :: cs, by simp only [lcW, a, b, d, h1, List.map_cons], by simp [h2], fun c' hc => ?_⟩
    rcases List.mem_cons.mp hc with rfl | hc
    · exact r
    · exact h3 c' hc
theorem flat1 : ∀ cs : List Nat, (cs.map fun c => [c]).flatten = cs
  | [] => rfl
  | c :: cs => by rw [List.map_cons, List.flatten_cons, flat1 cs]; rfl
theorem sum1 : ∀ cs : List Nat, ((cs.map fun c => [c]).map List.length).sum = cs.length
  | [] => rfl
  | c :: cs => by simp only [List.map_cons, List.sum_cons, sum1 cs, List.length_cons, List.length_nil]; omega
theorem join1 {cs : List Nat} (h : cs.length ≤ 1000) : joinW (.str "") (.lst ((cs.map fun c => [c]).map fun l => W.str (T l))) = some (.str (T cs)) := by
  rw [s_e, t_joinW (by rw [sum1]; omega), flat1]
theorem addT {a b : List Nat} (h : a.length + b.length ≤ 16777216) : addW (.str (T a)) (.str (T b)) = some (.imm (.str (T (a ++ b)))) := by rw [o_addS (by rw [t_len, t_len]; exact h), t_add]
end Qw
namespace Qw
open PySem PySem.Spec PyProof.Rows L2 Nz
/-! ### numbers, rows, layers, structures as texts -/
def isD (c : Nat) : Bool := decide (48 ≤ c) && decide (c ≤ 57)
def isN (l : List Nat) : Bool := l.all isD && decide (l ≠ []) && decide (l.length ≤ 9) && (decide (l = [48]) || decide (l.headD 0 ≠ 48))
def rdN (l : List Nat) : Option Nat := if isN l = true then some (NumText.digitsVal l) else none
def seqO {α : Type} : List (Option α) → Option (List α)
  | [] => some []
  | some x :: r => (match seqO r with
    | some xs => some (x :: xs)
    | none => none)
  | none :: _ => none
theorem seqO_some {α : Type} : ∀ xs : List α, seqO (xs.map some) = some xs
  | [] => rfl
  | x :: r => by rw [List.map_cons]; unfold seqO; rw [seqO_some r]
theorem seqO_none {α : Type} : ∀ {os : List (Option α)}, none ∈ os → seqO os = none
  | [], h => by simp at h
  | none :: _, _ => rfl
  | some x :: r, h => by
    have : (none : Option α) ∈ r := by simpa using h
    unfold seqO
    rw [seqO_none this]
theorem seqO_of {α : Type} : ∀ {os : List (Option α)}, none ∉ os → ∃ xs, os = xs.map some ∧ seqO os = some xs
  | [], _ => ⟨[], rfl, rfl⟩
  | none :: _, h => absurd (by simp) h
  | some x :: r, h => by
    obtain ⟨xs, h1, h2⟩ := seqO_of (os := r) fun z => h (by simp [z])
    refine ⟨x :: xs, by rw [h1]; rfl, ?_⟩
    unfold seqO
    rw [h2]
def cut (c : Nat) (l : List Nat) : List (List Nat) := TL.spl [c] 0 [] l
def rdRow (t : List Nat) : Option (List Nat) := if t = [45] then some [] else seqO ((cut 44 t).map rdN)
def rdLay (t : List Nat) : Option (List (List Nat)) := if t = [46] then some [] else seqO ((cut 47 t).map rdRow)
def rdStr (t : List Nat) : Option (List (List (List Nat))) := if t = [] then some [] else seqO ((cut 32 t).map rdLay)
def numsL (r : List Nat) : List Nat := TL.joinL [44] (r.map TL.numL)
def rowL (r : List Nat) : List Nat := if r = [] then [45] else numsL r
def layL (l : List (List Nat)) : List Nat := if l = [] then [46] else TL.joinL [47] (l.map rowL)
def strL (s : List (List (List Nat))) : List Nat := TL.joinL [32] (s.map layL)
theorem num_head : ∀ n : Nat, n ≠ 0 → (TL.numL n).headD 0 ≠ 48 := fun n => by
  induction n using Nat.strongRecOn with
  | ind n ih =>
    intro h
    by_cases h10 : n < 10
    · rw [TL.numL_lt h10]
      show 48 + n ≠ 48
      omega
    · rw [TL.numL_step (by omega)]
      have := ih (n / 10) (by omega) (by omega)
      have ne := TL.numL_ne (n / 10)
      cases q : TL.numL (n / 10) with
      | nil => exact absurd q ne
      | cons c r => rw [q] at this; exact this
theorem num_isN {n : Nat} (h : n < 1000000000) : isN (TL.numL n) = true := by
  have h1 : (TL.numL n).all isD = true := by
    rw [List.all_eq_true]
    intro c hc
    have := TL.numL_digits n c hc
    unfold isD
    simp
    omega
  have h2 := TL.numL_ne n
  have h3 : (TL.numL n).length ≤ 9 := TL.numL_len (by decide) h
  unfold isN
  rw [h1, decide_eq_true h2, decide_eq_true h3]
  by_cases h0 : n = 0
  · subst h0
    rw [TL.numL_lt (by decide)]
    rfl
  · rw [decide_eq_true (num_head n h0)]
    simp
theorem num_rd {n : Nat} (h : n < 1000000000) : rdN (TL.numL n) = some n := by
  unfold rdN
  rw [if_pos (num_isN h), TL.numL_val]
theorem join_mem {s : List Nat} : ∀ {ls : List (List Nat)} {c : Nat}, c ∈ TL.joinL s ls → c ∈ s ∨ ∃ l ∈ ls, c ∈ l
  | [], c, h => by simp [TL.joinL] at h
  | [a], c, h => .inr ⟨a, by simp, h⟩
  | a :: b :: r, c, h => by
    have h' : c ∈ a ++ (s ++ TL.joinL s (b :: r)) := h
    rcases List.mem_append.mp h' with z | z
    · exact .inr ⟨a, by simp, z⟩
    · rcases List.mem_append.mp z with z | z
      · exact .inl z
      · rcases join_mem z with q | ⟨l, q1, q2⟩
        · exact .inl q
        · exact .inr ⟨l, List.mem_cons_of_mem _ q1, q2⟩
theorem nums_mem {r : List Nat} {c : Nat} (h : c ∈ numsL r) : c = 44 ∨ (48 ≤ c ∧ c ≤ 57) := by
  rcases join_mem h with q | ⟨l, q1, q2⟩
  · exact .inl (by simpa using q)
  · obtain ⟨n, _, rfl⟩ := List.mem_map.mp q1
    have := TL.numL_digits n c q2
    exact .inr (by omega)
theorem row_mem {r : List Nat} {c : Nat} (h : c ∈ rowL r) : c = 44 ∨ c = 45 ∨ (48 ≤ c ∧ c ≤ 57) := by
  unfold rowL at h
  split at h
  · exact .inr (.inl (by simpa using h))
  · exact (nums_mem h).imp id .inr
theorem lay_mem {l : List (List Nat)} {c : Nat} (h : c ∈ layL l) : c = 44 ∨ c = 45 ∨ c = 46 ∨ c = 47 ∨ (48 ≤ c ∧ c ≤ 57) := by
  unfold layL at h
  split at h
  · exact .inr (.inr (.inl (by simpa using h)))
  · rcases join_mem h with q | ⟨x, q1, q2⟩
    · exact .inr (.inr (.inr (.inl (by simpa using q))))
    · obtain ⟨r, _, rfl⟩ := List.mem_map.mp q1
      rcases row_mem q2 with z | z | z
      · exact .inl z
      · exact .inr (.inl z)
      · exact .inr (.inr (.inr (.inr z)))
theorem cut_join {c : Nat} {ls : List (List Nat)} (h : ls ≠ []) (hc : ∀ l ∈ ls, c ∉ l) : cut c (TL.joinL [c] ls) = ls := TL.spl_join h hc
theorem nums_rd {r : List Nat} (h : ∀ n ∈ r, n < 1000000000) (hne : r ≠ []) : seqO ((cut 44 (numsL r)).map rdN) = some r := by
  unfold numsL
  rw [cut_join (fun z => hne (List.map_eq_nil_iff.mp z)) (fun l hl => by
    obtain ⟨n, _, rfl⟩ := List.mem_map.mp hl
    exact TL.numL_free (by omega)), List.map_map]
  have : r.map (rdN ∘ TL.numL) = r.map some := List.map_congr_left fun n hn => num_rd (h n hn)
  rw [this, seqO_some]
theorem row_rd {r : List Nat} (h : ∀ n ∈ r, n < 1000000000) : rdRow (rowL r) = some r := by
  unfold rdRow rowL
  by_cases hr : r = []
  · rw [if_pos hr, if_pos rfl, hr]
  · rw [if_neg hr, if_neg, nums_rd h hr]
    intro z
    have : (45 : Nat) ∈ numsL r := by rw [z]; simp
    rcases nums_mem this with q | q <;> omega
theorem lay_rd {l : List (List Nat)} (h : ∀ r ∈ l, ∀ n ∈ r, n < 1000000000) : rdLay (layL l) = some l := by
  unfold rdLay layL
  by_cases hl : l = []
  · rw [if_pos hl, if_pos rfl, hl]
  · rw [if_neg hl, if_neg]
    · rw [cut_join (fun z => hl (List.map_eq_nil_iff.mp z)) (fun x hx => by
        obtain ⟨r, _, rfl⟩ := List.mem_map.mp hx
        intro z
        rcases row_mem z with q | q | q <;> omega), List.map_map]
      have : l.map (rdRow ∘ rowL) = l.map some := List.map_congr_left fun r hr => row_rd (h r hr)
      rw [this, seqO_some]
    · intro z
      have : (46 : Nat) ∈ TL.joinL [47] (l.map rowL) := by rw [z]; simp
      rcases join_mem this with q | ⟨x, q1, q2⟩
      · simp at q
      · obtain ⟨r, _, rfl⟩ := List.mem_map.mp q1
        rcases row_mem q2 with q | q | q <;> omega
theorem join_ne {s : List Nat} {ls : List (List Nat)} (h : ls ≠ []) (hn : ∀ l ∈ ls, l ≠ []) : TL.joinL s ls ≠ [] := by
  cases ls with
  | nil => exact absurd rfl h
  | cons a r =>
    have ha := hn a (by simp)
    cases r with
    | nil => exact ha
    | cons b r =>
      show a ++ _ ≠ []
      simp [ha]
theorem num_ne (n : Nat) : TL.numL n ≠ [] := TL.numL_ne n
theorem row_ne (r : List Nat) : rowL r ≠ [] := by
  unfold rowL
  split
  · simp
  · next h =>
    refine join_ne (fun z => h (List.map_eq_nil_iff.mp z)) fun l hl => ?_
    obtain ⟨n, _, rfl⟩ := List.mem_map.mp hl
    exact num_ne n
theorem lay_ne (l : List (List Nat)) : layL l ≠ [] := by
  unfold layL
  split
  · simp
  · next h =>
    refine join_ne (fun z => h (List.map_eq_nil_iff.mp z)) fun x hx => ?_
    obtain ⟨r, _, rfl⟩ := List.mem_map.mp hx
    exact row_ne r
theorem str_rd {s : List (List (List Nat))} (h : ∀ l ∈ s, ∀ r ∈ l, ∀ n ∈ r, n < 1000000000) : rdStr (strL s) = some s := by
  unfold rdStr strL
  by_cases hs : s = []
  · subst hs
    rfl
  · rw [if_neg (join_ne (fun z => hs (List.map_eq_nil_iff.mp z)) fun x hx => by
      obtain ⟨l, _, rfl⟩ := List.mem_map.mp hx
      exact lay_ne l), cut_join (fun z => hs (List.map_eq_nil_iff.mp z)) (fun x hx => by
        obtain ⟨l, _, rfl⟩ := List.mem_map.mp hx
        intro z
        rcases lay_mem z with q | q | q | q | q <;> omega), List.map_map]
    have : s.map (rdLay ∘ layL) = s.map some := List.map_congr_left fun l hl => lay_rd (h l hl)
    rw [this, seqO_some]
/-! ### parts of a text -/
theorem spl1_mem {c : Nat} : ∀ (l acc : List Nat), ∀ p ∈ TL.spl [c] 0 acc l, (∀ x ∈ p, x ∈ acc ∨ x ∈ l) ∧ p.length ≤ acc.length + l.length
  | [], acc, p, h => by
    have : p = acc := by simpa [TL.spl] using h
    subst this
    exact ⟨fun x hx => .inl hx, by simp⟩
  | d :: r, acc, p, h => by
    unfold TL.spl at h
    split at h
    · rcases List.mem_cons.mp h with rfl | h
      · exact ⟨fun x hx => .inl hx, by simp⟩
      · have := spl1_mem r [] p h
        exact ⟨fun x hx => by
          rcases this.1 x hx with z | z
          · simp at z
          · exact .inr (List.mem_cons_of_mem _ z), by have := this.2; simp at this ⊢; omega⟩
    · have := spl1_mem r (acc ++ [d]) p h
      refine ⟨fun x hx => ?_, by have := this.2; simp at this ⊢; omega⟩
      rcases this.1 x hx with z | z
      · rcases List.mem_append.mp z with z | z
        · exact .inl z
        · exact .inr (by simp at z; simp [z])
      · exact .inr (List.mem_cons_of_mem _ z)
theorem spl1_num {c : Nat} : ∀ (l acc : List Nat), (TL.spl [c] 0 acc l).length ≤ l.length + 1
  | [], acc => by simp [TL.spl]
  | d :: r, acc => by
    unfold TL.spl
    split
    · have := spl1_num (c := c) r []
      simp only [List.length_cons, List.length_nil] at this ⊢
      have e : TL.spl [c] (0 + 1 - 1) [] r = TL.spl [c] 0 [] r := rfl
      rw [e]
      omega
    · have := spl1_num (c := c) r (acc ++ [d])
      simp only [List.length_cons]
      omega
def Asc (l : List Nat) : Prop := (∀ x ∈ l, x < 128) ∧ l.length ≤ 1000000
theorem cut_asc {c : Nat} {l : List Nat} (h : Asc l) : (∀ p ∈ cut c l, Asc p) ∧ (cut c l).length ≤ l.length + 1 := by
  refine ⟨fun p hp => ?_, spl1_num l []⟩
  have := spl1_mem l [] p hp
  exact ⟨fun x hx => by
    rcases this.1 x hx with z | z
    · simp at z
    · exact h.1 x z, by have := this.2; have := h.2; simp at *; omega⟩
theorem split_T {c : Nat} {l : List Nat} (h : Asc l) (hc : c < 256) : splitW (.str (T l)) [.str (T [c])] = some (.own (.lst ((cut c l).map fun l => W.str (T l)))) := by
  unfold splitW
  simp only
  rw [if_pos ⟨by rw [t_len]; rfl, by rw [t_len]; have := h.2; show _ ≤ 16777216; omega⟩]
  have := SX.split_S (a := l) (b := [c]) (by simp) (by simpa using hc)
  rw [show Txt.split (T l) (T [c]) = (TL.spl [c] 0 [] l).map T from this, List.map_map]
  rfl
theorem dig_uni {c : Nat} (h : c < 128) : Unicode.isDigit c = isD c := by
  have k : ∀ n : Fin 128, Unicode.isDigit n.val = isD n.val := by decide +kernel
  exact k ⟨c, h⟩
theorem isd_T {l : List Nat} (h : Asc l) : Txt.isdigit (T l) = (decide (l ≠ []) && l.all isD) := by
  unfold Txt.isdigit
  have e1 : (decide ((T l).length > 0)) = decide (l ≠ []) := by
    rw [t_len]
    exact decide_eq_decide.mpr List.length_pos_iff
  have e2 : (T l).cps.all Unicode.isDigit = l.all isD := by
    show (l.toArray).all Unicode.isDigit = _
    rw [List.all_toArray]
    have q : ∀ m : List Nat, (∀ x ∈ m, x < 128) → m.all Unicode.isDigit = m.all isD := fun m => by
      induction m with
      | nil => intro _; rfl
      | cons a r ih =>
        intro hm
        rw [List.all_cons, List.all_cons, dig_uni (hm a (by simp)), ih fun x hx => hm x (by simp [hx])]
    exact q l h.1
  rw [e2]
  congr 1
theorem int_Tn {l : List Nat} (h : isN l = true) : intW [.str (T l)] = some (.int ((NumText.digitsVal l : Nat) : Int)) := by
  unfold isN at h
  simp only [Bool.and_eq_true, decide_eq_true_eq] at h
  obtain ⟨⟨⟨h1, h2⟩, h3⟩, _⟩ := h
  unfold intW
  simp only
  rw [if_pos (by rw [t_len]; omega), SX.int_S h1 h2 (by omega)]
/-! ### data without texts -/
def Nd : Nat → W → Prop
  | 0, _ => False
  | _ + 1, .int _ => True
  | _ + 1, .non => True
  | n + 1, .tup ws => ∀ u ∈ ws, Nd n u
  | n + 1, .lst ws => ∀ u ∈ ws, Nd n u
  | _ + 1, _ => False
theorem nds_ok {n : Nat} (ih : ∀ w : W, Nd n w → ∃ d, toD w = some d ∧ d.canLay0 = true ∧ d.depth ≤ n ∧ PyData.eqv d d = true) : ∀ ws : List W, (∀ u ∈ ws, Nd n u) → ∃ ds, toDs ws = some ds ∧ PyData.canLayAll0 ds = true ∧ PyData.depthAll ds ≤ n ∧ PyData.eqvAll ds ds = true
  | [], _ => ⟨[], rfl, by simp [PyData.canLayAll0], by simp [PyData.depthAll], by simp [PyData.eqvAll]⟩
  | w :: ws, h => by
    obtain ⟨d, h1, h2, h3, h4⟩ := ih w (h w (by simp))
    obtain ⟨ds, k1, k2, k3, k4⟩ := nds_ok ih ws fun u hu => h u (by simp [hu])
    refine ⟨d :: ds, by simp only [toDs, h1, k1], by simp [PyData.canLayAll0, h2, k2], ?_, by simp [PyData.eqvAll, h4, k4]⟩
    simp only [PyData.depthAll]
    omega
theorem nd_ok : ∀ (n : Nat) (w : W), Nd n w → ∃ d, toD w = some d ∧ d.canLay0 = true ∧ d.depth ≤ n ∧ PyData.eqv d d = true
  | 0, _, h => h.elim
  | n + 1, .int i, _ => ⟨.int i, rfl, rfl, by simp [PyData.depth], by simp [PyData.eqv]⟩
  | n + 1, .non, _ => ⟨.none, rfl, rfl, by simp [PyData.depth], by simp [PyData.eqv]⟩
  | n + 1, .tup ws, h => by
    obtain ⟨ds, k1, k2, k3, k4⟩ := nds_ok (nd_ok n) ws h
    exact ⟨.tuple ds, by simp [toD, k1], by simp [PyData.canLay0, k2], by simp only [PyData.depth]; omega, by simp [PyData.eqv, k4]⟩
  | n + 1, .lst ws, h => by
    obtain ⟨ds, k1, k2, k3, k4⟩ := nds_ok (nd_ok n) ws h
    exact ⟨.list ds, by simp [toD, k1], by simp [PyData.canLay0, k2], by simp only [PyData.depth]; omega, by simp [PyData.eqv, k4]⟩
theorem nd_shaped {n : Nat} {w : W} {d : PyData} (h : Nd n w) (hn : n ≤ 60) (hd : toD w = some d) : SeqAt.shaped d = true := by
  obtain ⟨d', h1, h2, h3, _⟩ := nd_ok n w h
  rw [h1] at hd
  cases hd
  unfold SeqAt.shaped
  rw [h2, decide_eq_true (by omega)]
  rfl
theorem eq_tup {n : Nat} {ws : List W} (h : Nd n (.tup ws)) (hn : n ≤ 60) : eqB (.tup ws) (.tup ws) = some true := by
  obtain ⟨d, h1, h2, h3, h4⟩ := nd_ok n _ h
  have hs := nd_shaped h hn h1
  unfold eqB
  simp only [h1]
  rw [if_pos ⟨hs, hs⟩, h4]
theorem non_in {n : Nat} {ws : List W} (h : ∀ u ∈ ws, Nd n u) (hn : n ≤ 50) : nonInW .non (.lst ws) = some (.bl (ws.any isNw)) := by
  have hl : Nd (n + 1) (.lst ws) := h
  obtain ⟨d, h1, h2, h3, h4⟩ := nd_ok _ _ hl
  have hs := nd_shaped hl (by omega) h1
  simp only [toD, Option.map_eq_some_iff] at h1
  obtain ⟨ds, h1, rfl⟩ := h1
  unfold nonInW
  simp only [h1]
  rw [if_pos hs]
theorem nd_up : ∀ {n : Nat} {w : W}, Nd n w → Nd (n + 1) w
  | 0, _, h => h.elim
  | n + 1, .int _, _ => trivial
  | n + 1, .non, _ => trivial
  | n + 1, .tup ws, h => fun u hu => nd_up (h u hu)
  | n + 1, .lst ws, h => fun u hu => nd_up (h u hu)
/-! ### values -/
def nW (n : Nat) : W := .int (n : Nat)
def rowW (r : List Nat) : W := .tup (r.map nW)
def layW (l : List (List Nat)) : W := .tup (l.map rowW)
def strW3 (s : List (List (List Nat))) : W := .tup (s.map layW)
theorem nd_row (r : List Nat) : Nd 2 (rowW r) := fun u hu => by
  obtain ⟨n, _, rfl⟩ := List.mem_map.mp hu
  trivial
theorem nd_lay (l : List (List Nat)) : Nd 3 (layW l) := fun u hu => by
  obtain ⟨r, _, rfl⟩ := List.mem_map.mp hu
  exact nd_row r
theorem nd_str (s : List (List (List Nat))) : Nd 4 (strW3 s) := fun u hu => by
  obtain ⟨l, _, rfl⟩ := List.mem_map.mp hu
  exact nd_lay l
def optW {α : Type} (f : α → W) : Option α → W
  | some x => f x
  | none => .non
end Qw
namespace Qw
open PySem PySem.Spec PyProof.Rows L2 Nz
def ROk (r : List Nat) : Prop := r.length ≤ 100 ∧ ∀ n ∈ r, n < 1000000000
def LOk (l : List (List Nat)) : Prop := l.length ≤ 10 ∧ ∀ r ∈ l, ROk r
def SOk (s : List (List (List Nat))) : Prop := s.length ≤ 10 ∧ ∀ l ∈ s, LOk l
theorem sum_le {b : Nat} : ∀ {ls : List (List Nat)}, (∀ l ∈ ls, l.length ≤ b) → (ls.map List.length).sum ≤ b * ls.length
  | [], _ => by simp
  | l :: ls, h => by
    have := sum_le (ls := ls) fun x hx => h x (List.mem_cons_of_mem _ hx)
    have h0 := h l List.mem_cons_self
    simp only [List.map_cons, List.sum_cons, List.length_cons]
    rw [Nat.mul_succ]
    omega
theorem nums_sz {r : List Nat} (h : ROk r) : ((r.map TL.numL).map List.length).sum + (r.map TL.numL).length * 1 ≤ 1100 := by
  have := sum_le (ls := r.map TL.numL) (b := 10) fun l hl => by
    obtain ⟨n, hn, rfl⟩ := List.mem_map.mp hl
    exact num_len (h.2 n hn)
  have h0 := h.1
  rw [List.length_map] at this ⊢
  omega
theorem row_len {r : List Nat} (h : ROk r) : (rowL r).length ≤ 1100 := by
  unfold rowL
  split
  · simp
  · have := join_len [44] (r.map TL.numL)
    have := nums_sz h
    unfold numsL
    simp only [List.length_singleton] at *
    omega
theorem lay_sz {l : List (List Nat)} (h : LOk l) : ((l.map rowL).map List.length).sum + (l.map rowL).length * 1 ≤ 11010 := by
  have := sum_le (ls := l.map rowL) (b := 1100) fun x hx => by
    obtain ⟨r, hr, rfl⟩ := List.mem_map.mp hx
    exact row_len (h.2 r hr)
  have h0 := h.1
  rw [List.length_map] at this ⊢
  omega
theorem lay_len {l : List (List Nat)} (h : LOk l) : (layL l).length ≤ 11010 := by
  unfold layL
  split
  · simp
  · have := join_len [47] (l.map rowL)
    have := lay_sz h
    simp only [List.length_singleton] at *
    omega
theorem str_sz {s : List (List (List Nat))} (h : SOk s) : ((s.map layL).map List.length).sum + (s.map layL).length * 1 ≤ 110110 := by
  have := sum_le (ls := s.map layL) (b := 11010) fun x hx => by
    obtain ⟨l, hl, rfl⟩ := List.mem_map.mp hx
    exact lay_len (h.2 l hl)
  have h0 := h.1
  rw [List.length_map] at this ⊢
  omega
theorem str_len {s : List (List (List Nat))} (h : SOk s) : (strL s).length ≤ 110110 := by
  have := join_len [32] (s.map layL)
  have := str_sz h
  unfold strL
  simp only [List.length_singleton] at *
  omega
theorem str_asc {s : List (List (List Nat))} (h : SOk s) : Asc (strL s) := by
  refine ⟨fun x hx => ?_, by have := str_len h; omega⟩
  unfold strL at hx
  rcases join_mem hx with q | ⟨y, q1, q2⟩
  · have : x = 32 := by simpa using q
    omega
  · obtain ⟨l, _, rfl⟩ := List.mem_map.mp q1
    rcases lay_mem q2 with z | z | z | z | z <;> omega
theorem s_comma : ("," : Str) = T [44] := by decide +kernel
theorem s_minus : ("-" : Str) = T [45] := by decide +kernel
theorem s_dot : ("." : Str) = T [46] := by decide +kernel
theorem s_slash : ("/" : Str) = T [47] := by decide +kernel
theorem s_blank : (" " : Str) = T [32] := by decide +kernel
theorem s_zero : ("0" : Str) = T [48] := by decide +kernel
theorem mget {α : Type} {f : α → W} {l : List α} {i : Nat} {w : W} (h : (l.map f)[i]? = some w) : ∃ x, l[i]? = some x ∧ w = f x := by
  rw [List.getElem?_map] at h
  cases q : l[i]? with
  | none => rw [q] at h; cases h
  | some x => rw [q] at h; exact ⟨x, rfl, by simpa using h.symm⟩
/-- a comprehension over a mapped list -/
theorem lc_map {α β : Type} {f : α → W} {g' : β → W} {k : α → β} {A : W → En → Option En} {t : En → Option Bool} {g : En → Option W} {e : En} {l : List α} (h : ∀ x ∈ l, ∃ e1, A (f x) e = some e1 ∧ t e1 = some true ∧ g e1 = some (g' (k x))) : lcW A t g e (l.map f) = some ((l.map k).map g') :=
  lc_list _ _ (by simp) fun i w u hw hu => by
    obtain ⟨x, hx, rfl⟩ := mget hw
    rw [List.getElem?_map, List.getElem?_map, hx] at hu
    cases hu
    exact h x (List.mem_of_getElem? hx)
abbrev sW (l : List Nat) : W := .str (T l)
theorem jn1 {c : Nat} {ls : List (List Nat)} (h : (ls.map List.length).sum + ls.length * 1 ≤ 16777216) : joinW (.str (T [c])) (.lst (ls.map sW)) = some (.str (T (TL.joinL [c] ls))) := t_joinS h
theorem numbers_w {r : List Nat} (h : ROk r) : F_write_numbers [rowW r] = some (.imm (.str (T (numsL r)))) := by
  unfold F_write_numbers B_write_numbers rowW numsL
  have h0 := h.1
  simp only [q_seq, q_if, q_fif, q_and, q_or, q_andV, q_orV, q_bin, q_binR, q_un, q_frz, q_imm, q_nil, q_cons, q_call, q_callW, q_c0, q_var, q_ret, q_set, q_aug, q_app, q_ext, q_pop, q_setIx, q_ixo, q_bor, q_tru, q_tst, q_not, q_notV, q_no, q_so, q_sl, q_sq, q_r1, q_r2, q_for, q_lc, q_asg, q_next, q_yes, q_fix, q_slot, q_drop, q_met, q_run, q1, q2, q2b, q2c, q3, q4, q5, q6, q7, q8, q9, q10, q11, q12, q13, q14, q15, q16, q17, q18, q19, q20, q21, q22, q23, q24, q25, q26, q27, q28, q29, q30, q31, q32, q33, q34, q35, q36, q37, q38, q39, q39b, q40, q41, q42, q44, q45, q46, q47, q48, o_add, o_sub, o_mulR, o_mulL, o_mod, o_div, o_addS, o_addI, o_addL, o_addT, o_p18, o_neg, o_cmp, o_eqI, o_eqS, o_eqB, o_neI, o_neS, o_len1, o_len2, o_len3, o_lenS, o_int, o_ix1, o_ix2, o_ix3, o_tup, o_lst, o_list1, o_list2, o_tuple1, o_tuple2, o_max, o_min, o_slL, o_slT, o_slS, o_mulSt, o_isIint, o_isIbool, o_isIstr, o_isIlist, o_isItuple, o_isBint, o_isBbool, o_isBstr, o_isBlist, o_isBtuple, o_isSint, o_isSbool, o_isSstr, o_isSlist, o_isStuple, o_isLint, o_isLbool, o_isLstr, o_isLlist, o_isLtuple, o_isTint, o_isTbool, o_isTstr, o_isTlist, o_isTtuple, o_isNint, o_isNbool, o_isNstr, o_isNlist, o_isNtuple, o_allT, o_truB, o_truN, o_truI, o_truL, o_truT, q_sv1, q_sv2, view, fixSlot, wipeE, aName, aTup, aCons, aNil, List.map_cons, List.map_nil, List.length_cons, List.length_nil, List.cons_append, List.nil_append, List.replicate_succ, List.replicate_zero, List.getElem?_cons_zero, List.getElem?_cons_succ, List.set_cons_zero, List.set_cons_succ, Option.map_some, Option.map_none, reduceIte, Nat.reduceAdd, Nat.reduceEqDiff, Option.some.injEq, List.length_map, List.length_append, and_true, true_and, and_self, decide_true, decide_false, Int.reduceLT, Int.reduceNeg, Int.reduceLE, Int.reduceEq, Int.reduceMul, Int.reduceAdd, Int.reduceSub, Int.reduceMod, Int.reduceDiv, Nat.reduceLT, Nat.reduceLeDiff, Int.reducePow, Nat.reducePow, Int.reduceToNat, SV.imm.injEq, SV.own.injEq, W.int.injEq, W.str.injEq, W.bl.injEq, W.lst.injEq, W.tup.injEq, id_eq, exists_eq', exists_eq_left', Out.nx.injEq, Out.rt.injEq, Nat.zero_le, Int.toNat_natCast, not_true_eq_false, not_false_eq_true, Bool.not_true, Bool.not_false, Bool.false_and, Bool.true_and, Bool.and_true, Bool.and_false, Bool.true_or, Bool.false_or, Bool.or_true, Bool.or_false, Bool.false_eq_true, q_fld, r_fld, q_lrg1, r_lrg1, q_mk, q_fldI, r_fldI, o_fac, q_enum, r_enum1, r_enum2, r_enum3, q_dget, r_dget, q_dnew, q_dput, r_dput, q_clear, q_chain, r_chain, o_isN1, o_isN2, o_isN3, q_fs, r_fs3, r_fs4, r_fs5, at_i0, at_i1, at_i2, at_i3, q_fmt, q_txt, q_kd, r_kd, q_xl, r_xl, q_xpop, r_xpop, q_xnil, q_xcons, r_xc, r_xc2, q_xtup, r_xtup, q_appX, r_a0, r_a1, r_a2, q_setX, r_sx, o_ixK, o_slK, q39b, s_comma]
  rw [q43 (lc_map (g' := sW) (k := TL.numL) fun n hn => by
    have sv := str_num (h.2 n hn)
    unfold nW
    simp only [q_seq, q_if, q_fif, q_and, q_or, q_andV, q_orV, q_bin, q_binR, q_un, q_frz, q_imm, q_nil, q_cons, q_call, q_callW, q_c0, q_var, q_ret, q_set, q_aug, q_app, q_ext, q_pop, q_setIx, q_ixo, q_bor, q_tru, q_tst, q_not, q_notV, q_no, q_so, q_sl, q_sq, q_r1, q_r2, q_for, q_lc, q_asg, q_next, q_yes, q_fix, q_slot, q_drop, q_met, q_run, q1, q2, q2b, q2c, q3, q4, q5, q6, q7, q8, q9, q10, q11, q12, q13, q14, q15, q16, q17, q18, q19, q20, q21, q22, q23, q24, q25, q26, q27, q28, q29, q30, q31, q32, q33, q34, q35, q36, q37, q38, q39, q39b, q40, q41, q42, q44, q45, q46, q47, q48, o_add, o_sub, o_mulR, o_mulL, o_mod, o_div, o_addS, o_addI, o_addL, o_addT, o_p18, o_neg, o_cmp, o_eqI, o_eqS, o_eqB, o_neI, o_neS, o_len1, o_len2, o_len3, o_lenS, o_int, o_ix1, o_ix2, o_ix3, o_tup, o_lst, o_list1, o_list2, o_tuple1, o_tuple2, o_max, o_min, o_slL, o_slT, o_slS, o_mulSt, o_isIint, o_isIbool, o_isIstr, o_isIlist, o_isItuple, o_isBint, o_isBbool, o_isBstr, o_isBlist, o_isBtuple, o_isSint, o_isSbool, o_isSstr, o_isSlist, o_isStuple, o_isLint, o_isLbool, o_isLstr, o_isLlist, o_isLtuple, o_isTint, o_isTbool, o_isTstr, o_isTlist, o_isTtuple, o_isNint, o_isNbool, o_isNstr, o_isNlist, o_isNtuple, o_allT, o_truB, o_truN, o_truI, o_truL, o_truT, q_sv1, q_sv2, view, fixSlot, wipeE, aName, aTup, aCons, aNil, List.map_cons, List.map_nil, List.length_cons, List.length_nil, List.cons_append, List.nil_append, List.replicate_succ, List.replicate_zero, List.getElem?_cons_zero, List.getElem?_cons_succ, List.set_cons_zero, List.set_cons_succ, Option.map_some, Option.map_none, reduceIte, Nat.reduceAdd, Nat.reduceEqDiff, Option.some.injEq, List.length_map, List.length_append, and_true, true_and, and_self, decide_true, decide_false, Int.reduceLT, Int.reduceNeg, Int.reduceLE, Int.reduceEq, Int.reduceMul, Int.reduceAdd, Int.reduceSub, Int.reduceMod, Int.reduceDiv, Nat.reduceLT, Nat.reduceLeDiff, Int.reducePow, Nat.reducePow, Int.reduceToNat, SV.imm.injEq, SV.own.injEq, W.int.injEq, W.str.injEq, W.bl.injEq, W.lst.injEq, W.tup.injEq, id_eq, exists_eq', exists_eq_left', Out.nx.injEq, Out.rt.injEq, Nat.zero_le, Int.toNat_natCast, not_true_eq_false, not_false_eq_true, Bool.not_true, Bool.not_false, Bool.false_and, Bool.true_and, Bool.and_true, Bool.and_false, Bool.true_or, Bool.false_or, Bool.or_true, Bool.or_false, Bool.false_eq_true, q_fld, r_fld, q_lrg1, r_lrg1, q_mk, q_fldI, r_fldI, o_fac, q_enum, r_enum1, r_enum2, r_enum3, q_dget, r_dget, q_dnew, q_dput, r_dput, q_clear, q_chain, r_chain, o_isN1, o_isN2, o_isN3, q_fs, r_fs3, r_fs4, r_fs5, at_i0, at_i1, at_i2, at_i3, q_fmt, q_txt, q_kd, r_kd, q_xl, r_xl, q_xpop, r_xpop, q_xnil, q_xcons, r_xc, r_xc2, q_xtup, r_xtup, q_appX, r_a0, r_a1, r_a2, q_setX, r_sx, o_ixK, o_slK, q39b, sv]) (by simp; omega)]
  have jn := jn1 (c := 44) (ls := r.map TL.numL) (by have := nums_sz h; omega)
  simp only [q_seq, q_if, q_fif, q_and, q_or, q_andV, q_orV, q_bin, q_binR, q_un, q_frz, q_imm, q_nil, q_cons, q_call, q_callW, q_c0, q_var, q_ret, q_set, q_aug, q_app, q_ext, q_pop, q_setIx, q_ixo, q_bor, q_tru, q_tst, q_not, q_notV, q_no, q_so, q_sl, q_sq, q_r1, q_r2, q_for, q_lc, q_asg, q_next, q_yes, q_fix, q_slot, q_drop, q_met, q_run, q1, q2, q2b, q2c, q3, q4, q5, q6, q7, q8, q9, q10, q11, q12, q13, q14, q15, q16, q17, q18, q19, q20, q21, q22, q23, q24, q25, q26, q27, q28, q29, q30, q31, q32, q33, q34, q35, q36, q37, q38, q39, q39b, q40, q41, q42, q44, q45, q46, q47, q48, o_add, o_sub, o_mulR, o_mulL, o_mod, o_div, o_addS, o_addI, o_addL, o_addT, o_p18, o_neg, o_cmp, o_eqI, o_eqS, o_eqB, o_neI, o_neS, o_len1, o_len2, o_len3, o_lenS, o_int, o_ix1, o_ix2, o_ix3, o_tup, o_lst, o_list1, o_list2, o_tuple1, o_tuple2, o_max, o_min, o_slL, o_slT, o_slS, o_mulSt, o_isIint, o_isIbool, o_isIstr, o_isIlist, o_isItuple, o_isBint, o_isBbool, o_isBstr, o_isBlist, o_isBtuple, o_isSint, o_isSbool, o_isSstr, o_isSlist, o_isStuple, o_isLint, o_isLbool, o_isLstr, o_isLlist, o_isLtuple, o_isTint, o_isTbool, o_isTstr, o_isTlist, o_isTtuple, o_isNint, o_isNbool, o_isNstr, o_isNlist, o_isNtuple, o_allT, o_truB, o_truN, o_truI, o_truL, o_truT, q_sv1, q_sv2, view, fixSlot, wipeE, aName, aTup, aCons, aNil, List.map_cons, List.map_nil, List.length_cons, List.length_nil, List.cons_append, List.nil_append, List.replicate_succ, List.replicate_zero, List.getElem?_cons_zero, List.getElem?_cons_succ, List.set_cons_zero, List.set_cons_succ, Option.map_some, Option.map_none, reduceIte, Nat.reduceAdd, Nat.reduceEqDiff, Option.some.injEq, List.length_map, List.length_append, and_true, true_and, and_self, decide_true, decide_false, Int.reduceLT, Int.reduceNeg, Int.reduceLE, Int.reduceEq, Int.reduceMul, Int.reduceAdd, Int.reduceSub, Int.reduceMod, Int.reduceDiv, Nat.reduceLT, Nat.reduceLeDiff, Int.reducePow, Nat.reducePow, Int.reduceToNat, SV.imm.injEq, SV.own.injEq, W.int.injEq, W.str.injEq, W.bl.injEq, W.lst.injEq, W.tup.injEq, id_eq, exists_eq', exists_eq_left', Out.nx.injEq, Out.rt.injEq, Nat.zero_le, Int.toNat_natCast, not_true_eq_false, not_false_eq_true, Bool.not_true, Bool.not_false, Bool.false_and, Bool.true_and, Bool.and_true, Bool.and_false, Bool.true_or, Bool.false_or, Bool.or_true, Bool.or_false, Bool.false_eq_true, q_fld, r_fld, q_lrg1, r_lrg1, q_mk, q_fldI, r_fldI, o_fac, q_enum, r_enum1, r_enum2, r_enum3, q_dget, r_dget, q_dnew, q_dput, r_dput, q_clear, q_chain, r_chain, o_isN1, o_isN2, o_isN3, q_fs, r_fs3, r_fs4, r_fs5, at_i0, at_i1, at_i2, at_i3, q_fmt, q_txt, q_kd, r_kd, q_xl, r_xl, q_xpop, r_xpop, q_xnil, q_xcons, r_xc, r_xc2, q_xtup, r_xtup, q_appX, r_a0, r_a1, r_a2, q_setX, r_sx, o_ixK, o_slK, q39b, jn]
theorem part_w {r : List Nat} (h : ROk r) : F_write_part [rowW r] = some (.imm (.str (T (rowL r)))) := by
  have hn := numbers_w h
  unfold F_write_part B_write_part rowL
  cases r with
  | nil =>
    unfold rowW
    simp only [q_seq, q_if, q_fif, q_and, q_or, q_andV, q_orV, q_bin, q_binR, q_un, q_frz, q_imm, q_nil, q_cons, q_call, q_callW, q_c0, q_var, q_ret, q_set, q_aug, q_app, q_ext, q_pop, q_setIx, q_ixo, q_bor, q_tru, q_tst, q_not, q_notV, q_no, q_so, q_sl, q_sq, q_r1, q_r2, q_for, q_lc, q_asg, q_next, q_yes, q_fix, q_slot, q_drop, q_met, q_run, q1, q2, q2b, q2c, q3, q4, q5, q6, q7, q8, q9, q10, q11, q12, q13, q14, q15, q16, q17, q18, q19, q20, q21, q22, q23, q24, q25, q26, q27, q28, q29, q30, q31, q32, q33, q34, q35, q36, q37, q38, q39, q39b, q40, q41, q42, q44, q45, q46, q47, q48, o_add, o_sub, o_mulR, o_mulL, o_mod, o_div, o_addS, o_addI, o_addL, o_addT, o_p18, o_neg, o_cmp, o_eqI, o_eqS, o_eqB, o_neI, o_neS, o_len1, o_len2, o_len3, o_lenS, o_int, o_ix1, o_ix2, o_ix3, o_tup, o_lst, o_list1, o_list2, o_tuple1, o_tuple2, o_max, o_min, o_slL, o_slT, o_slS, o_mulSt, o_isIint, o_isIbool, o_isIstr, o_isIlist, o_isItuple, o_isBint, o_isBbool, o_isBstr, o_isBlist, o_isBtuple, o_isSint, o_isSbool, o_isSstr, o_isSlist, o_isStuple, o_isLint, o_isLbool, o_isLstr, o_isLlist, o_isLtuple, o_isTint, o_isTbool, o_isTstr, o_isTlist, o_isTtuple, o_isNint, o_isNbool, o_isNstr, o_isNlist, o_isNtuple, o_allT, o_truB, o_truN, o_truI, o_truL, o_truT, q_sv1, q_sv2, view, fixSlot, wipeE, aName, aTup, aCons, aNil, List.map_cons, List.map_nil, List.length_cons, List.length_nil, List.cons_append, List.nil_append, List.replicate_succ, List.replicate_zero, List.getElem?_cons_zero, List.getElem?_cons_succ, List.set_cons_zero, List.set_cons_succ, Option.map_some, Option.map_none, reduceIte, Nat.reduceAdd, Nat.reduceEqDiff, Option.some.injEq, List.length_map, List.length_append, and_true, true_and, and_self, decide_true, decide_false, Int.reduceLT, Int.reduceNeg, Int.reduceLE, Int.reduceEq, Int.reduceMul, Int.reduceAdd, Int.reduceSub, Int.reduceMod, Int.reduceDiv, Nat.reduceLT, Nat.reduceLeDiff, Int.reducePow, Nat.reducePow, Int.reduceToNat, SV.imm.injEq, SV.own.injEq, W.int.injEq, W.str.injEq, W.bl.injEq, W.lst.injEq, W.tup.injEq, id_eq, exists_eq', exists_eq_left', Out.nx.injEq, Out.rt.injEq, Nat.zero_le, Int.toNat_natCast, not_true_eq_false, not_false_eq_true, Bool.not_true, Bool.not_false, Bool.false_and, Bool.true_and, Bool.and_true, Bool.and_false, Bool.true_or, Bool.false_or, Bool.or_true, Bool.or_false, Bool.false_eq_true, q_fld, r_fld, q_lrg1, r_lrg1, q_mk, q_fldI, r_fldI, o_fac, q_enum, r_enum1, r_enum2, r_enum3, q_dget, r_dget, q_dnew, q_dput, r_dput, q_clear, q_chain, r_chain, o_isN1, o_isN2, o_isN3, q_fs, r_fs3, r_fs4, r_fs5, at_i0, at_i1, at_i2, at_i3, q_fmt, q_txt, q_kd, r_kd, q_xl, r_xl, q_xpop, r_xpop, q_xnil, q_xcons, r_xc, r_xc2, q_xtup, r_xtup, q_appX, r_a0, r_a1, r_a2, q_setX, r_sx, o_ixK, o_slK, q39b, s_minus]
    rfl
  | cons a r =>
    rw [if_neg (by simp)]
    unfold rowW at hn ⊢
    rw [List.map_cons] at hn ⊢
    simp only [q_seq, q_if, q_fif, q_and, q_or, q_andV, q_orV, q_bin, q_binR, q_un, q_frz, q_imm, q_nil, q_cons, q_call, q_callW, q_c0, q_var, q_ret, q_set, q_aug, q_app, q_ext, q_pop, q_setIx, q_ixo, q_bor, q_tru, q_tst, q_not, q_notV, q_no, q_so, q_sl, q_sq, q_r1, q_r2, q_for, q_lc, q_asg, q_next, q_yes, q_fix, q_slot, q_drop, q_met, q_run, q1, q2, q2b, q2c, q3, q4, q5, q6, q7, q8, q9, q10, q11, q12, q13, q14, q15, q16, q17, q18, q19, q20, q21, q22, q23, q24, q25, q26, q27, q28, q29, q30, q31, q32, q33, q34, q35, q36, q37, q38, q39, q39b, q40, q41, q42, q44, q45, q46, q47, q48, o_add, o_sub, o_mulR, o_mulL, o_mod, o_div, o_addS, o_addI, o_addL, o_addT, o_p18, o_neg, o_cmp, o_eqI, o_eqS, o_eqB, o_neI, o_neS, o_len1, o_len2, o_len3, o_lenS, o_int, o_ix1, o_ix2, o_ix3, o_tup, o_lst, o_list1, o_list2, o_tuple1, o_tuple2, o_max, o_min, o_slL, o_slT, o_slS, o_mulSt, o_isIint, o_isIbool, o_isIstr, o_isIlist, o_isItuple, o_isBint, o_isBbool, o_isBstr, o_isBlist, o_isBtuple, o_isSint, o_isSbool, o_isSstr, o_isSlist, o_isStuple, o_isLint, o_isLbool, o_isLstr, o_isLlist, o_isLtuple, o_isTint, o_isTbool, o_isTstr, o_isTlist, o_isTtuple, o_isNint, o_isNbool, o_isNstr, o_isNlist, o_isNtuple, o_allT, o_truB, o_truN, o_truI, o_truL, o_truT, q_sv1, q_sv2, view, fixSlot, wipeE, aName, aTup, aCons, aNil, List.map_cons, List.map_nil, List.length_cons, List.length_nil, List.cons_append, List.nil_append, List.replicate_succ, List.replicate_zero, List.getElem?_cons_zero, List.getElem?_cons_succ, List.set_cons_zero, List.set_cons_succ, Option.map_some, Option.map_none, reduceIte, Nat.reduceAdd, Nat.reduceEqDiff, Option.some.injEq, List.length_map, List.length_append, and_true, true_and, and_self, decide_true, decide_false, Int.reduceLT, Int.reduceNeg, Int.reduceLE, Int.reduceEq, Int.reduceMul, Int.reduceAdd, Int.reduceSub, Int.reduceMod, Int.reduceDiv, Nat.reduceLT, Nat.reduceLeDiff, Int.reducePow, Nat.reducePow, Int.reduceToNat, SV.imm.injEq, SV.own.injEq, W.int.injEq, W.str.injEq, W.bl.injEq, W.lst.injEq, W.tup.injEq, id_eq, exists_eq', exists_eq_left', Out.nx.injEq, Out.rt.injEq, Nat.zero_le, Int.toNat_natCast, not_true_eq_false, not_false_eq_true, Bool.not_true, Bool.not_false, Bool.false_and, Bool.true_and, Bool.and_true, Bool.and_false, Bool.true_or, Bool.false_or, Bool.or_true, Bool.or_false, Bool.false_eq_true, q_fld, r_fld, q_lrg1, r_lrg1, q_mk, q_fldI, r_fldI, o_fac, q_enum, r_enum1, r_enum2, r_enum3, q_dget, r_dget, q_dnew, q_dput, r_dput, q_clear, q_chain, r_chain, o_isN1, o_isN2, o_isN3, q_fs, r_fs3, r_fs4, r_fs5, at_i0, at_i1, at_i2, at_i3, q_fmt, q_txt, q_kd, r_kd, q_xl, r_xl, q_xpop, r_xpop, q_xnil, q_xcons, r_xc, r_xc2, q_xtup, r_xtup, q_appX, r_a0, r_a1, r_a2, q_setX, r_sx, o_ixK, o_slK, q39b, hn, List.isEmpty_cons]
theorem layer_w {l : List (List Nat)} (h : LOk l) : F_write_layer [layW l] = some (.imm (.str (T (layL l)))) := by
  unfold F_write_layer B_write_layer layL
  have h0 := h.1
  have jn := jn1 (c := 47) (ls := l.map rowL) (by have := lay_sz h; omega)
  have q := q43 (A := aName 1) (t := fYes) (g := fFrz (fCall F_write_part (fCons (fVar 1) fNil))) (e := [some (.imm (layW l)), none]) (lc_map (f := rowW) (l := l) (g' := sW) (k := rowL) fun r hr => by
    have pw := part_w (h.2 r hr)
    simp only [q_seq, q_if, q_fif, q_and, q_or, q_andV, q_orV, q_bin, q_binR, q_un, q_frz, q_imm, q_nil, q_cons, q_call, q_callW, q_c0, q_var, q_ret, q_set, q_aug, q_app, q_ext, q_pop, q_setIx, q_ixo, q_bor, q_tru, q_tst, q_not, q_notV, q_no, q_so, q_sl, q_sq, q_r1, q_r2, q_for, q_lc, q_asg, q_next, q_yes, q_fix, q_slot, q_drop, q_met, q_run, q1, q2, q2b, q2c, q3, q4, q5, q6, q7, q8, q9, q10, q11, q12, q13, q14, q15, q16, q17, q18, q19, q20, q21, q22, q23, q24, q25, q26, q27, q28, q29, q30, q31, q32, q33, q34, q35, q36, q37, q38, q39, q39b, q40, q41, q42, q44, q45, q46, q47, q48, o_add, o_sub, o_mulR, o_mulL, o_mod, o_div, o_addS, o_addI, o_addL, o_addT, o_p18, o_neg, o_cmp, o_eqI, o_eqS, o_eqB, o_neI, o_neS, o_len1, o_len2, o_len3, o_lenS, o_int, o_ix1, o_ix2, o_ix3, o_tup, o_lst, o_list1, o_list2, o_tuple1, o_tuple2, o_max, o_min, o_slL, o_slT, o_slS, o_mulSt, o_isIint, o_isIbool, o_isIstr, o_isIlist, o_isItuple, o_isBint, o_isBbool, o_isBstr, o_isBlist, o_isBtuple, o_isSint, o_isSbool, o_isSstr, o_isSlist, o_isStuple, o_isLint, o_isLbool, o_isLstr, o_isLlist, o_isLtuple, o_isTint, o_isTbool, o_isTstr, o_isTlist, o_isTtuple, o_isNint, o_isNbool, o_isNstr, o_isNlist, o_isNtuple, o_allT, o_truB, o_truN, o_truI, o_truL, o_truT, q_sv1, q_sv2, view, fixSlot, wipeE, aName, aTup, aCons, aNil, List.map_cons, List.map_nil, List.length_cons, List.length_nil, List.cons_append, List.nil_append, List.replicate_succ, List.replicate_zero, List.getElem?_cons_zero, List.getElem?_cons_succ, List.set_cons_zero, List.set_cons_succ, Option.map_some, Option.map_none, reduceIte, Nat.reduceAdd, Nat.reduceEqDiff, Option.some.injEq, List.length_map, List.length_append, and_true, true_and, and_self, decide_true, decide_false, Int.reduceLT, Int.reduceNeg, Int.reduceLE, Int.reduceEq, Int.reduceMul, Int.reduceAdd, Int.reduceSub, Int.reduceMod, Int.reduceDiv, Nat.reduceLT, Nat.reduceLeDiff, Int.reducePow, Nat.reducePow, Int.reduceToNat, SV.imm.injEq, SV.own.injEq, W.int.injEq, W.str.injEq, W.bl.injEq, W.lst.injEq, W.tup.injEq, id_eq, exists_eq', exists_eq_left', Out.nx.injEq, Out.rt.injEq, Nat.zero_le, Int.toNat_natCast, not_true_eq_false, not_false_eq_true, Bool.not_true, Bool.not_false, Bool.false_and, Bool.true_and, Bool.and_true, Bool.and_false, Bool.true_or, Bool.false_or, Bool.or_true, Bool.or_false, Bool.false_eq_true, q_fld, r_fld, q_lrg1, r_lrg1, q_mk, q_fldI, r_fldI, o_fac, q_enum, r_enum1, r_enum2, r_enum3, q_dget, r_dget, q_dnew, q_dput, r_dput, q_clear, q_chain, r_chain, o_isN1, o_isN2, o_isN3, q_fs, r_fs3, r_fs4, r_fs5, at_i0, at_i1, at_i2, at_i3, q_fmt, q_txt, q_kd, r_kd, q_xl, r_xl, q_xpop, r_xpop, q_xnil, q_xcons, r_xc, r_xc2, q_xtup, r_xtup, q_appX, r_a0, r_a1, r_a2, q_setX, r_sx, o_ixK, o_slK, q39b, pw]) (by simp; omega)
  cases l with
  | nil =>
    unfold layW
    simp only [q_seq, q_if, q_fif, q_and, q_or, q_andV, q_orV, q_bin, q_binR, q_un, q_frz, q_imm, q_nil, q_cons, q_call, q_callW, q_c0, q_var, q_ret, q_set, q_aug, q_app, q_ext, q_pop, q_setIx, q_ixo, q_bor, q_tru, q_tst, q_not, q_notV, q_no, q_so, q_sl, q_sq, q_r1, q_r2, q_for, q_lc, q_asg, q_next, q_yes, q_fix, q_slot, q_drop, q_met, q_run, q1, q2, q2b, q2c, q3, q4, q5, q6, q7, q8, q9, q10, q11, q12, q13, q14, q15, q16, q17, q18, q19, q20, q21, q22, q23, q24, q25, q26, q27, q28, q29, q30, q31, q32, q33, q34, q35, q36, q37, q38, q39, q39b, q40, q41, q42, q44, q45, q46, q47, q48, o_add, o_sub, o_mulR, o_mulL, o_mod, o_div, o_addS, o_addI, o_addL, o_addT, o_p18, o_neg, o_cmp, o_eqI, o_eqS, o_eqB, o_neI, o_neS, o_len1, o_len2, o_len3, o_lenS, o_int, o_ix1, o_ix2, o_ix3, o_tup, o_lst, o_list1, o_list2, o_tuple1, o_tuple2, o_max, o_min, o_slL, o_slT, o_slS, o_mulSt, o_isIint, o_isIbool, o_isIstr, o_isIlist, o_isItuple, o_isBint, o_isBbool, o_isBstr, o_isBlist, o_isBtuple, o_isSint, o_isSbool, o_isSstr, o_isSlist, o_isStuple, o_isLint, o_isLbool, o_isLstr, o_isLlist, o_isLtuple, o_isTint, o_isTbool, o_isTstr, o_isTlist, o_isTtuple, o_isNint, o_isNbool, o_isNstr, o_isNlist, o_isNtuple, o_allT, o_truB, o_truN, o_truI, o_truL, o_truT, q_sv1, q_sv2, view, fixSlot, wipeE, aName, aTup, aCons, aNil, List.map_cons, List.map_nil, List.length_cons, List.length_nil, List.cons_append, List.nil_append, List.replicate_succ, List.replicate_zero, List.getElem?_cons_zero, List.getElem?_cons_succ, List.set_cons_zero, List.set_cons_succ, Option.map_some, Option.map_none, reduceIte, Nat.reduceAdd, Nat.reduceEqDiff, Option.some.injEq, List.length_map, List.length_append, and_true, true_and, and_self, decide_true, decide_false, Int.reduceLT, Int.reduceNeg, Int.reduceLE, Int.reduceEq, Int.reduceMul, Int.reduceAdd, Int.reduceSub, Int.reduceMod, Int.reduceDiv, Nat.reduceLT, Nat.reduceLeDiff, Int.reducePow, Nat.reducePow, Int.reduceToNat, SV.imm.injEq, SV.own.injEq, W.int.injEq, W.str.injEq, W.bl.injEq, W.lst.injEq, W.tup.injEq, id_eq, exists_eq', exists_eq_left', Out.nx.injEq, Out.rt.injEq, Nat.zero_le, Int.toNat_natCast, not_true_eq_false, not_false_eq_true, Bool.not_true, Bool.not_false, Bool.false_and, Bool.true_and, Bool.and_true, Bool.and_false, Bool.true_or, Bool.false_or, Bool.or_true, Bool.or_false, Bool.false_eq_true, q_fld, r_fld, q_lrg1, r_lrg1, q_mk, q_fldI, r_fldI, o_fac, q_enum, r_enum1, r_enum2, r_enum3, q_dget, r_dget, q_dnew, q_dput, r_dput, q_clear, q_chain, r_chain, o_isN1, o_isN2, o_isN3, q_fs, r_fs3, r_fs4, r_fs5, at_i0, at_i1, at_i2, at_i3, q_fmt, q_txt, q_kd, r_kd, q_xl, r_xl, q_xpop, r_xpop, q_xnil, q_xcons, r_xc, r_xc2, q_xtup, r_xtup, q_appX, r_a0, r_a1, r_a2, q_setX, r_sx, o_ixK, o_slK, q39b, s_dot]
    rfl
  | cons a r =>
    rw [if_neg (by simp)]
    generalize (a :: r).map rowL = X at q jn ⊢
    unfold layW at q ⊢
    rw [List.map_cons] at q ⊢
    simp only [q_seq, q_if, q_fif, q_and, q_or, q_andV, q_orV, q_bin, q_binR, q_un, q_frz, q_imm, q_nil, q_cons, q_call, q_callW, q_c0, q_var, q_ret, q_set, q_aug, q_app, q_ext, q_pop, q_setIx, q_ixo, q_bor, q_tru, q_tst, q_not, q_notV, q_no, q_so, q_sl, q_sq, q_r1, q_r2, q_for, q_lc, q_asg, q_next, q_yes, q_fix, q_slot, q_drop, q_met, q_run, q1, q2, q2b, q2c, q3, q4, q5, q6, q7, q8, q9, q10, q11, q12, q13, q14, q15, q16, q17, q18, q19, q20, q21, q22, q23, q24, q25, q26, q27, q28, q29, q30, q31, q32, q33, q34, q35, q36, q37, q38, q39, q39b, q40, q41, q42, q44, q45, q46, q47, q48, o_add, o_sub, o_mulR, o_mulL, o_mod, o_div, o_addS, o_addI, o_addL, o_addT, o_p18, o_neg, o_cmp, o_eqI, o_eqS, o_eqB, o_neI, o_neS, o_len1, o_len2, o_len3, o_lenS, o_int, o_ix1, o_ix2, o_ix3, o_tup, o_lst, o_list1, o_list2, o_tuple1, o_tuple2, o_max, o_min, o_slL, o_slT, o_slS, o_mulSt, o_isIint, o_isIbool, o_isIstr, o_isIlist, o_isItuple, o_isBint, o_isBbool, o_isBstr, o_isBlist, o_isBtuple, o_isSint, o_isSbool, o_isSstr, o_isSlist, o_isStuple, o_isLint, o_isLbool, o_isLstr, o_isLlist, o_isLtuple, o_isTint, o_isTbool, o_isTstr, o_isTlist, o_isTtuple, o_isNint, o_isNbool, o_isNstr, o_isNlist, o_isNtuple, o_allT, o_truB, o_truN, o_truI, o_truL, o_truT, q_sv1, q_sv2, view, fixSlot, wipeE, aName, aTup, aCons, aNil, List.map_cons, List.map_nil, List.length_cons, List.length_nil, List.cons_append, List.nil_append, List.replicate_succ, List.replicate_zero, List.getElem?_cons_zero, List.getElem?_cons_succ, List.set_cons_zero, List.set_cons_succ, Option.map_some, Option.map_none, reduceIte, Nat.reduceAdd, Nat.reduceEqDiff, Option.some.injEq, List.length_map, List.length_append, and_true, true_and, and_self, decide_true, decide_false, Int.reduceLT, Int.reduceNeg, Int.reduceLE, Int.reduceEq, Int.reduceMul, Int.reduceAdd, Int.reduceSub, Int.reduceMod, Int.reduceDiv, Nat.reduceLT, Nat.reduceLeDiff, Int.reducePow, Nat.reducePow, Int.reduceToNat, SV.imm.injEq, SV.own.injEq, W.int.injEq, W.str.injEq, W.bl.injEq, W.lst.injEq, W.tup.injEq, id_eq, exists_eq', exists_eq_left', Out.nx.injEq, Out.rt.injEq, Nat.zero_le, Int.toNat_natCast, not_true_eq_false, not_false_eq_true, Bool.not_true, Bool.not_false, Bool.false_and, Bool.true_and, Bool.and_true, Bool.and_false, Bool.true_or, Bool.false_or, Bool.or_true, Bool.or_false, Bool.false_eq_true, q_fld, r_fld, q_lrg1, r_lrg1, q_mk, q_fldI, r_fldI, o_fac, q_enum, r_enum1, r_enum2, r_enum3, q_dget, r_dget, q_dnew, q_dput, r_dput, q_clear, q_chain, r_chain, o_isN1, o_isN2, o_isN3, q_fs, r_fs3, r_fs4, r_fs5, at_i0, at_i1, at_i2, at_i3, q_fmt, q_txt, q_kd, r_kd, q_xl, r_xl, q_xpop, r_xpop, q_xnil, q_xcons, r_xc, r_xc2, q_xtup, r_xtup, q_appX, r_a0, r_a1, r_a2, q_setX, r_sx, o_ixK, o_slK, q39b, s_slash, List.isEmpty_cons, q, jn]
theorem str_w {s : List (List (List Nat))} (h : SOk s) : F_write_structure [strW3 s] = some (.imm (.str (T (strL s)))) := by
  unfold F_write_structure B_write_structure strW3 strL
  have h0 := h.1
  simp only [q_seq, q_if, q_fif, q_and, q_or, q_andV, q_orV, q_bin, q_binR, q_un, q_frz, q_imm, q_nil, q_cons, q_call, q_callW, q_c0, q_var, q_ret, q_set, q_aug, q_app, q_ext, q_pop, q_setIx, q_ixo, q_bor, q_tru, q_tst, q_not, q_notV, q_no, q_so, q_sl, q_sq, q_r1, q_r2, q_for, q_lc, q_asg, q_next, q_yes, q_fix, q_slot, q_drop, q_met, q_run, q1, q2, q2b, q2c, q3, q4, q5, q6, q7, q8, q9, q10, q11, q12, q13, q14, q15, q16, q17, q18, q19, q20, q21, q22, q23, q24, q25, q26, q27, q28, q29, q30, q31, q32, q33, q34, q35, q36, q37, q38, q39, q39b, q40, q41, q42, q44, q45, q46, q47, q48, o_add, o_sub, o_mulR, o_mulL, o_mod, o_div, o_addS, o_addI, o_addL, o_addT, o_p18, o_neg, o_cmp, o_eqI, o_eqS, o_eqB, o_neI, o_neS, o_len1, o_len2, o_len3, o_lenS, o_int, o_ix1, o_ix2, o_ix3, o_tup, o_lst, o_list1, o_list2, o_tuple1, o_tuple2, o_max, o_min, o_slL, o_slT, o_slS, o_mulSt, o_isIint, o_isIbool, o_isIstr, o_isIlist, o_isItuple, o_isBint, o_isBbool, o_isBstr, o_isBlist, o_isBtuple, o_isSint, o_isSbool, o_isSstr, o_isSlist, o_isStuple, o_isLint, o_isLbool, o_isLstr, o_isLlist, o_isLtuple, o_isTint, o_isTbool, o_isTstr, o_isTlist, o_isTtuple, o_isNint, o_isNbool, o_isNstr, o_isNlist, o_isNtuple, o_allT, o_truB, o_truN, o_truI, o_truL, o_truT, q_sv1, q_sv2, view, fixSlot, wipeE, aName, aTup, aCons, aNil, List.map_cons, List.map_nil, List.length_cons, List.length_nil, List.cons_append, List.nil_append, List.replicate_succ, List.replicate_zero, List.getElem?_cons_zero, List.getElem?_cons_succ, List.set_cons_zero, List.set_cons_succ, Option.map_some, Option.map_none, reduceIte, Nat.reduceAdd, Nat.reduceEqDiff, Option.some.injEq, List.length_map, List.length_append, and_true, true_and, and_self, decide_true, decide_false, Int.reduceLT, Int.reduceNeg, Int.reduceLE, Int.reduceEq, Int.reduceMul, Int.reduceAdd, Int.reduceSub, Int.reduceMod, Int.reduceDiv, Nat.reduceLT, Nat.reduceLeDiff, Int.reducePow, Nat.reducePow, Int.reduceToNat, SV.imm.injEq, SV.own.injEq, W.int.injEq, W.str.injEq, W.bl.injEq, W.lst.injEq, W.tup.injEq, id_eq, exists_eq', exists_eq_left', Out.nx.injEq, Out.rt.injEq, Nat.zero_le, Int.toNat_natCast, not_true_eq_false, not_false_eq_true, Bool.not_true, Bool.not_false, Bool.false_and, Bool.true_and, Bool.and_true, Bool.and_false, Bool.true_or, Bool.false_or, Bool.or_true, Bool.or_false, Bool.false_eq_true, q_fld, r_fld, q_lrg1, r_lrg1, q_mk, q_fldI, r_fldI, o_fac, q_enum, r_enum1, r_enum2, r_enum3, q_dget, r_dget, q_dnew, q_dput, r_dput, q_clear, q_chain, r_chain, o_isN1, o_isN2, o_isN3, q_fs, r_fs3, r_fs4, r_fs5, at_i0, at_i1, at_i2, at_i3, q_fmt, q_txt, q_kd, r_kd, q_xl, r_xl, q_xpop, r_xpop, q_xnil, q_xcons, r_xc, r_xc2, q_xtup, r_xtup, q_appX, r_a0, r_a1, r_a2, q_setX, r_sx, o_ixK, o_slK, q39b, s_blank]
  rw [q43 (lc_map (g' := sW) (k := layL) fun l hl => by
    have lw := layer_w (h.2 l hl)
    simp only [q_seq, q_if, q_fif, q_and, q_or, q_andV, q_orV, q_bin, q_binR, q_un, q_frz, q_imm, q_nil, q_cons, q_call, q_callW, q_c0, q_var, q_ret, q_set, q_aug, q_app, q_ext, q_pop, q_setIx, q_ixo, q_bor, q_tru, q_tst, q_not, q_notV, q_no, q_so, q_sl, q_sq, q_r1, q_r2, q_for, q_lc, q_asg, q_next, q_yes, q_fix, q_slot, q_drop, q_met, q_run, q1, q2, q2b, q2c, q3, q4, q5, q6, q7, q8, q9, q10, q11, q12, q13, q14, q15, q16, q17, q18, q19, q20, q21, q22, q23, q24, q25, q26, q27, q28, q29, q30, q31, q32, q33, q34, q35, q36, q37, q38, q39, q39b, q40, q41, q42, q44, q45, q46, q47, q48, o_add, o_sub, o_mulR, o_mulL, o_mod, o_div, o_addS, o_addI, o_addL, o_addT, o_p18, o_neg, o_cmp, o_eqI, o_eqS, o_eqB, o_neI, o_neS, o_len1, o_len2, o_len3, o_lenS, o_int, o_ix1, o_ix2, o_ix3, o_tup, o_lst, o_list1, o_list2, o_tuple1, o_tuple2, o_max, o_min, o_slL, o_slT, o_slS, o_mulSt, o_isIint, o_isIbool, o_isIstr, o_isIlist, o_isItuple, o_isBint, o_isBbool, o_isBstr, o_isBlist, o_isBtuple, o_isSint, o_isSbool, o_isSstr, o_isSlist, o_isStuple, o_isLint, o_isLbool, o_isLstr, o_isLlist, o_isLtuple, o_isTint, o_isTbool, o_isTstr, o_isTlist, o_isTtuple, o_isNint, o_isNbool, o_isNstr, o_isNlist, o_isNtuple, o_allT, o_truB, o_truN, o_truI, o_truL, o_truT, q_sv1, q_sv2, view, fixSlot, wipeE, aName, aTup, aCons, aNil, List.map_cons, List.map_nil, List.length_cons, List.length_nil, List.cons_append, List.nil_append, List.replicate_succ, List.replicate_zero, List.getElem?_cons_zero, List.getElem?_cons_succ, List.set_cons_zero, List.set_cons_succ, Option.map_some, Option.map_none, reduceIte, Nat.reduceAdd, Nat.reduceEqDiff, Option.some.injEq, List.length_map, List.length_append, and_true, true_and, and_self, decide_true, decide_false, Int.reduceLT, Int.reduceNeg, Int.reduceLE, Int.reduceEq, Int.reduceMul, Int.reduceAdd, Int.reduceSub, Int.reduceMod, Int.reduceDiv, Nat.reduceLT, Nat.reduceLeDiff, Int.reducePow, Nat.reducePow, Int.reduceToNat, SV.imm.injEq, SV.own.injEq, W.int.injEq, W.str.injEq, W.bl.injEq, W.lst.injEq, W.tup.injEq, id_eq, exists_eq', exists_eq_left', Out.nx.injEq, Out.rt.injEq, Nat.zero_le, Int.toNat_natCast, not_true_eq_false, not_false_eq_true, Bool.not_true, Bool.not_false, Bool.false_and, Bool.true_and, Bool.and_true, Bool.and_false, Bool.true_or, Bool.false_or, Bool.or_true, Bool.or_false, Bool.false_eq_true, q_fld, r_fld, q_lrg1, r_lrg1, q_mk, q_fldI, r_fldI, o_fac, q_enum, r_enum1, r_enum2, r_enum3, q_dget, r_dget, q_dnew, q_dput, r_dput, q_clear, q_chain, r_chain, o_isN1, o_isN2, o_isN3, q_fs, r_fs3, r_fs4, r_fs5, at_i0, at_i1, at_i2, at_i3, q_fmt, q_txt, q_kd, r_kd, q_xl, r_xl, q_xpop, r_xpop, q_xnil, q_xcons, r_xc, r_xc2, q_xtup, r_xtup, q_appX, r_a0, r_a1, r_a2, q_setX, r_sx, o_ixK, o_slK, q39b, lw]) (by simp; omega)]
  have jn := jn1 (c := 32) (ls := s.map layL) (by have := str_sz h; omega)
  simp only [q_seq, q_if, q_fif, q_and, q_or, q_andV, q_orV, q_bin, q_binR, q_un, q_frz, q_imm, q_nil, q_cons, q_call, q_callW, q_c0, q_var, q_ret, q_set, q_aug, q_app, q_ext, q_pop, q_setIx, q_ixo, q_bor, q_tru, q_tst, q_not, q_notV, q_no, q_so, q_sl, q_sq, q_r1, q_r2, q_for, q_lc, q_asg, q_next, q_yes, q_fix, q_slot, q_drop, q_met, q_run, q1, q2, q2b, q2c, q3, q4, q5, q6, q7, q8, q9, q10, q11, q12, q13, q14, q15, q16, q17, q18, q19, q20, q21, q22, q23, q24, q25, q26, q27, q28, q29, q30, q31, q32, q33, q34, q35, q36, q37, q38, q39, q39b, q40, q41, q42, q44, q45, q46, q47, q48, o_add, o_sub, o_mulR, o_mulL, o_mod, o_div, o_addS, o_addI, o_addL, o_addT, o_p18, o_neg, o_cmp, o_eqI, o_eqS, o_eqB, o_neI, o_neS, o_len1, o_len2, o_len3, o_lenS, o_int, o_ix1, o_ix2, o_ix3, o_tup, o_lst, o_list1, o_list2, o_tuple1, o_tuple2, o_max, o_min, o_slL, o_slT, o_slS, o_mulSt, o_isIint, o_isIbool, o_isIstr, o_isIlist, o_isItuple, o_isBint, o_isBbool, o_isBstr, o_isBlist, o_isBtuple, o_isSint, o_isSbool, o_isSstr, o_isSlist, o_isStuple, o_isLint, o_isLbool, o_isLstr, o_isLlist, o_isLtuple, o_isTint, o_isTbool, o_isTstr, o_isTlist, o_isTtuple, o_isNint, o_isNbool, o_isNstr, o_isNlist, o_isNtuple, o_allT, o_truB, o_truN, o_truI, o_truL, o_truT, q_sv1, q_sv2, view, fixSlot, wipeE, aName, aTup, aCons, aNil, List.map_cons, List.map_nil, List.length_cons, List.length_nil, List.cons_append, List.nil_append, List.replicate_succ, List.replicate_zero, List.getElem?_cons_zero, List.getElem?_cons_succ, List.set_cons_zero, List.set_cons_succ, Option.map_some, Option.map_none, reduceIte, Nat.reduceAdd, Nat.reduceEqDiff, Option.some.injEq, List.length_map, List.length_append, and_true, true_and, and_self, decide_true, decide_false, Int.reduceLT, Int.reduceNeg, Int.reduceLE, Int.reduceEq, Int.reduceMul, Int.reduceAdd, Int.reduceSub, Int.reduceMod, Int.reduceDiv, Nat.reduceLT, Nat.reduceLeDiff, Int.reducePow, Nat.reducePow, Int.reduceToNat, SV.imm.injEq, SV.own.injEq, W.int.injEq, W.str.injEq, W.bl.injEq, W.lst.injEq, W.tup.injEq, id_eq, exists_eq', exists_eq_left', Out.nx.injEq, Out.rt.injEq, Nat.zero_le, Int.toNat_natCast, not_true_eq_false, not_false_eq_true, Bool.not_true, Bool.not_false, Bool.false_and, Bool.true_and, Bool.and_true, Bool.and_false, Bool.true_or, Bool.false_or, Bool.or_true, Bool.or_false, Bool.false_eq_true, q_fld, r_fld, q_lrg1, r_lrg1, q_mk, q_fldI, r_fldI, o_fac, q_enum, r_enum1, r_enum2, r_enum3, q_dget, r_dget, q_dnew, q_dput, r_dput, q_clear, q_chain, r_chain, o_isN1, o_isN2, o_isN3, q_fs, r_fs3, r_fs4, r_fs5, at_i0, at_i1, at_i2, at_i3, q_fmt, q_txt, q_kd, r_kd, q_xl, r_xl, q_xpop, r_xpop, q_xnil, q_xcons, r_xc, r_xc2, q_xtup, r_xtup, q_appX, r_a0, r_a1, r_a2, q_setX, r_sx, o_ixK, o_slK, q39b, jn]
end Qw
namespace Qw
open PySem PySem.Spec PyProof.Rows L2 Nz
variable {e : En} {f g : En → Option W} {ws : List W} {w u : W} {x fn : Str}
/-! ### steps of QwXc and QwEr -/
def bRaise (x fn : Str) (a : Option W) (e : En) : Option Out := match a with
  | some w => if okFld w then some (.ex x fn w e) else none
  | none => none
theorem q_raise : sRaise x fn f e = bRaise x fn (f e) e := nr rfl
theorem r_raise (h : okFld w = true) : bRaise x fn (some w) e = some (.ex x fn w e) := by
  unfold bRaise
  exact if_pos h
theorem okF {i : Int} (h : decide (i.natAbs < 1000000000) = true) : okFld (.int i) = true := h
def bMR (o : W → List W → Option SV) (a : Option W) (b : Option (List W)) : Option SV := match a with
  | some a => (match b with
    | some ws => o a ws
    | none => none)
  | none => none
theorem q_metR {o : W → List W → Option SV} {g : En → Option (List W)} : fMetR o f g e = bMR o (f e) (g e) := nr rfl
theorem r_metR {o : W → List W → Option SV} : bMR o (some w) (some ws) = o w ws := nr rfl
def bCX (F : List W → Option RX) (a : Option (List W)) : Option SV := match a with
  | some ws => (match F ws with
    | some (.ret sv) => some sv
    | _ => none)
  | none => none
theorem q_fcx {F : List W → Option RX} {g : En → Option (List W)} : fCX F g e = bCX F (g e) := nr rfl
theorem r_fcx {F : List W → Option RX} {sv : SV} (h : F ws = some (.ret sv)) : bCX F (some ws) = some sv := by
  unfold bCX
  simp only [h]
end Qw
namespace Qw
open PySem PySem.Spec PyProof.Rows L2 Nz
theorem any_opt {α : Type} {f : α → W} (hf : ∀ x, isNw (f x) = false) : ∀ os : List (Option α), (os.map (optW f)).any isNw = os.any Option.isNone
  | [] => rfl
  | none :: r => by simp [optW, isNw]
  | some x :: r => by
    rw [List.map_cons, List.any_cons, any_opt hf r, show isNw (optW f (some x)) = false from hf x, Bool.false_or]
    simp
theorem nd_opt {α : Type} {f : α → W} {n : Nat} (hf : ∀ x, Nd (n + 1) (f x)) (os : List (Option α)) : ∀ u ∈ os.map (optW f), Nd (n + 1) u := fun u hu => by
  obtain ⟨o, _, rfl⟩ := List.mem_map.mp hu
  cases o with
  | none => trivial
  | some x => exact hf x
theorem whole_ok {α : Type} {f : α → W} {n : Nat} (hn : n ≤ 40) (hf : ∀ x, Nd (n + 1) (f x)) (hN : ∀ x, isNw (f x) = false) (os : List (Option α)) : F_whole [.lst (os.map (optW f))] = some (.imm (optW (fun xs => .tup (xs.map f)) (seqO os))) := by
  have hi := non_in (nd_opt hf os) (by omega)
  rw [any_opt hN] at hi
  unfold F_whole B_whole
  cases h : os.any Option.isNone with
  | true =>
    have hm : (none : Option α) ∈ os := by
      obtain ⟨o, ho, hn⟩ := List.any_eq_true.mp h
      cases o with
      | none => exact ho
      | some x => cases hn
    rw [seqO_none hm]
    rw [h] at hi
    simp only [q_seq, q_if, q_fif, q_and, q_or, q_andV, q_orV, q_bin, q_binR, q_un, q_frz, q_imm, q_nil, q_cons, q_call, q_callW, q_c0, q_var, q_ret, q_set, q_aug, q_app, q_ext, q_pop, q_setIx, q_ixo, q_bor, q_tru, q_tst, q_not, q_notV, q_no, q_so, q_sl, q_sq, q_r1, q_r2, q_for, q_lc, q_asg, q_next, q_yes, q_fix, q_slot, q_drop, q_met, q_run, q1, q2, q2b, q2c, q3, q4, q5, q6, q7, q8, q9, q10, q11, q12, q13, q14, q15, q16, q17, q18, q19, q20, q21, q22, q23, q24, q25, q26, q27, q28, q29, q30, q31, q32, q33, q34, q35, q36, q37, q38, q39, q39b, q40, q41, q42, q44, q45, q46, q47, q48, o_add, o_sub, o_mulR, o_mulL, o_mod, o_div, o_addS, o_addI, o_addL, o_addT, o_p18, o_neg, o_cmp, o_eqI, o_eqS, o_eqB, o_neI, o_neS, o_len1, o_len2, o_len3, o_lenS, o_int, o_ix1, o_ix2, o_ix3, o_tup, o_lst, o_list1, o_list2, o_tuple1, o_tuple2, o_max, o_min, o_slL, o_slT, o_slS, o_mulSt, o_isIint, o_isIbool, o_isIstr, o_isIlist, o_isItuple, o_isBint, o_isBbool, o_isBstr, o_isBlist, o_isBtuple, o_isSint, o_isSbool, o_isSstr, o_isSlist, o_isStuple, o_isLint, o_isLbool, o_isLstr, o_isLlist, o_isLtuple, o_isTint, o_isTbool, o_isTstr, o_isTlist, o_isTtuple, o_isNint, o_isNbool, o_isNstr, o_isNlist, o_isNtuple, o_allT, o_truB, o_truN, o_truI, o_truL, o_truT, q_sv1, q_sv2, view, fixSlot, wipeE, aName, aTup, aCons, aNil, List.map_cons, List.map_nil, List.length_cons, List.length_nil, List.cons_append, List.nil_append, List.replicate_succ, List.replicate_zero, List.getElem?_cons_zero, List.getElem?_cons_succ, List.set_cons_zero, List.set_cons_succ, Option.map_some, Option.map_none, reduceIte, Nat.reduceAdd, Nat.reduceEqDiff, Option.some.injEq, List.length_map, List.length_append, and_true, true_and, and_self, decide_true, decide_false, Int.reduceLT, Int.reduceNeg, Int.reduceLE, Int.reduceEq, Int.reduceMul, Int.reduceAdd, Int.reduceSub, Int.reduceMod, Int.reduceDiv, Nat.reduceLT, Nat.reduceLeDiff, Int.reducePow, Nat.reducePow, Int.reduceToNat, SV.imm.injEq, SV.own.injEq, W.int.injEq, W.str.injEq, W.bl.injEq, W.lst.injEq, W.tup.injEq, id_eq, exists_eq', exists_eq_left', Out.nx.injEq, Out.rt.injEq, Nat.zero_le, Int.toNat_natCast, not_true_eq_false, not_false_eq_true, Bool.not_true, Bool.not_false, Bool.false_and, Bool.true_and, Bool.and_true, Bool.and_false, Bool.true_or, Bool.false_or, Bool.or_true, Bool.or_false, Bool.false_eq_true, q_fld, r_fld, q_lrg1, r_lrg1, q_mk, q_fldI, r_fldI, o_fac, q_enum, r_enum1, r_enum2, r_enum3, q_dget, r_dget, q_dnew, q_dput, r_dput, q_clear, q_chain, r_chain, o_isN1, o_isN2, o_isN3, q_fs, r_fs3, r_fs4, r_fs5, at_i0, at_i1, at_i2, at_i3, q_fmt, q_txt, q_kd, r_kd, q_xl, r_xl, q_xpop, r_xpop, q_xnil, q_xcons, r_xc, r_xc2, q_xtup, r_xtup, q_appX, r_a0, r_a1, r_a2, q_setX, r_sx, o_ixK, o_slK, q39b, q_raise, q_metR, r_metR, q_fcx, hi]
    rfl
  | false =>
    have hm : (none : Option α) ∉ os := fun z => by
      have : os.any Option.isNone = true := List.any_eq_true.mpr ⟨none, z, rfl⟩
      rw [h] at this
      cases this
    obtain ⟨xs, h1, h2⟩ := seqO_of hm
    rw [h2]
    rw [h] at hi
    simp only [q_seq, q_if, q_fif, q_and, q_or, q_andV, q_orV, q_bin, q_binR, q_un, q_frz, q_imm, q_nil, q_cons, q_call, q_callW, q_c0, q_var, q_ret, q_set, q_aug, q_app, q_ext, q_pop, q_setIx, q_ixo, q_bor, q_tru, q_tst, q_not, q_notV, q_no, q_so, q_sl, q_sq, q_r1, q_r2, q_for, q_lc, q_asg, q_next, q_yes, q_fix, q_slot, q_drop, q_met, q_run, q1, q2, q2b, q2c, q3, q4, q5, q6, q7, q8, q9, q10, q11, q12, q13, q14, q15, q16, q17, q18, q19, q20, q21, q22, q23, q24, q25, q26, q27, q28, q29, q30, q31, q32, q33, q34, q35, q36, q37, q38, q39, q39b, q40, q41, q42, q44, q45, q46, q47, q48, o_add, o_sub, o_mulR, o_mulL, o_mod, o_div, o_addS, o_addI, o_addL, o_addT, o_p18, o_neg, o_cmp, o_eqI, o_eqS, o_eqB, o_neI, o_neS, o_len1, o_len2, o_len3, o_lenS, o_int, o_ix1, o_ix2, o_ix3, o_tup, o_lst, o_list1, o_list2, o_tuple1, o_tuple2, o_max, o_min, o_slL, o_slT, o_slS, o_mulSt, o_isIint, o_isIbool, o_isIstr, o_isIlist, o_isItuple, o_isBint, o_isBbool, o_isBstr, o_isBlist, o_isBtuple, o_isSint, o_isSbool, o_isSstr, o_isSlist, o_isStuple, o_isLint, o_isLbool, o_isLstr, o_isLlist, o_isLtuple, o_isTint, o_isTbool, o_isTstr, o_isTlist, o_isTtuple, o_isNint, o_isNbool, o_isNstr, o_isNlist, o_isNtuple, o_allT, o_truB, o_truN, o_truI, o_truL, o_truT, q_sv1, q_sv2, view, fixSlot, wipeE, aName, aTup, aCons, aNil, List.map_cons, List.map_nil, List.length_cons, List.length_nil, List.cons_append, List.nil_append, List.replicate_succ, List.replicate_zero, List.getElem?_cons_zero, List.getElem?_cons_succ, List.set_cons_zero, List.set_cons_succ, Option.map_some, Option.map_none, reduceIte, Nat.reduceAdd, Nat.reduceEqDiff, Option.some.injEq, List.length_map, List.length_append, and_true, true_and, and_self, decide_true, decide_false, Int.reduceLT, Int.reduceNeg, Int.reduceLE, Int.reduceEq, Int.reduceMul, Int.reduceAdd, Int.reduceSub, Int.reduceMod, Int.reduceDiv, Nat.reduceLT, Nat.reduceLeDiff, Int.reducePow, Nat.reducePow, Int.reduceToNat, SV.imm.injEq, SV.own.injEq, W.int.injEq, W.str.injEq, W.bl.injEq, W.lst.injEq, W.tup.injEq, id_eq, exists_eq', exists_eq_left', Out.nx.injEq, Out.rt.injEq, Nat.zero_le, Int.toNat_natCast, not_true_eq_false, not_false_eq_true, Bool.not_true, Bool.not_false, Bool.false_and, Bool.true_and, Bool.and_true, Bool.and_false, Bool.true_or, Bool.false_or, Bool.or_true, Bool.or_false, Bool.false_eq_true, q_fld, r_fld, q_lrg1, r_lrg1, q_mk, q_fldI, r_fldI, o_fac, q_enum, r_enum1, r_enum2, r_enum3, q_dget, r_dget, q_dnew, q_dput, r_dput, q_clear, q_chain, r_chain, o_isN1, o_isN2, o_isN3, q_fs, r_fs3, r_fs4, r_fs5, at_i0, at_i1, at_i2, at_i3, q_fmt, q_txt, q_kd, r_kd, q_xl, r_xl, q_xpop, r_xpop, q_xnil, q_xcons, r_xc, r_xc2, q_xtup, r_xtup, q_appX, r_a0, r_a1, r_a2, q_setX, r_sx, o_ixK, o_slK, q39b, q_raise, q_metR, r_metR, q_fcx, hi]
    rw [h1, List.map_map]
    rfl
theorem tru_T {l : List Nat} (h : l.length ≤ 16777216) : truW (.str (T l)) = some (decide (l ≠ [])) := by
  unfold truW
  simp only
  rw [if_pos (by rw [t_len]; exact h), t_len]
  cases l with
  | nil => rfl
  | cons a r =>
    simp
    omega
theorem read_number_ok {l : List Nat} (h : Asc l) : F_read_number [.str (T l)] = some (.imm (optW nW (rdN l))) := by
  have hl := h.2
  have hi : isdW (.str (T l)) = some (.bl (decide (l ≠ []) && l.all isD)) := by
    unfold isdW
    simp only
    rw [isd_T h]
  have lt := lenT (l := l) (by omega)
  unfold F_read_number B_read_number rdN
  by_cases h1 : (decide (l ≠ []) && l.all isD) = true
  · rw [h1] at hi
    simp only [Bool.and_eq_true, decide_eq_true_eq] at h1
    have lw : (9 : Int) < (l.length : Int) ↔ ¬ l.length ≤ 9 := by omega
    by_cases h9 : l.length ≤ 9
    · have n9 : ¬ (9 : Int) < (l.length : Int) := by omega
      obtain ⟨c, r, rfl⟩ : ∃ c r, l = c :: r := by
        cases l with
        | nil => exact absurd rfl h1.1
        | cons c r => exact ⟨c, r, rfl⟩
      have ix0 : ixW (.str (T (c :: r))) (.int 0) = some (.str (T [c])) := t_ix (i := 0) (by omega) rfl
      have dc : decide (T [c] = T [48]) = decide (c = 48) := by rw [t_dec]; exact decide_eq_decide.mpr (by simp)
      by_cases c48 : c = 48
      · rw [decide_eq_true c48] at dc
        by_cases r0 : r = []
        · have hN : isN (c :: r) = true := by subst c48; subst r0; rfl
          have iv := int_Tn hN
          have l1 : ¬ (1 : Int) < ((c :: r).length : Int) := by subst r0; simp
          rw [if_pos hN]
          generalize hX : c :: r = X at *
          simp only [q_seq, q_if, q_fif, q_and, q_or, q_andV, q_orV, q_bin, q_binR, q_un, q_frz, q_imm, q_nil, q_cons, q_call, q_callW, q_c0, q_var, q_ret, q_set, q_aug, q_app, q_ext, q_pop, q_setIx, q_ixo, q_bor, q_tru, q_tst, q_not, q_notV, q_no, q_so, q_sl, q_sq, q_r1, q_r2, q_for, q_lc, q_asg, q_next, q_yes, q_fix, q_slot, q_drop, q_met, q_run, q1, q2, q2b, q2c, q3, q4, q5, q6, q7, q8, q9, q10, q11, q12, q13, q14, q15, q16, q17, q18, q19, q20, q21, q22, q23, q24, q25, q26, q27, q28, q29, q30, q31, q32, q33, q34, q35, q36, q37, q38, q39, q39b, q40, q41, q42, q44, q45, q46, q47, q48, o_add, o_sub, o_mulR, o_mulL, o_mod, o_div, o_addS, o_addI, o_addL, o_addT, o_p18, o_neg, o_cmp, o_eqI, o_eqS, o_eqB, o_neI, o_neS, o_len1, o_len2, o_len3, o_lenS, o_int, o_ix1, o_ix2, o_ix3, o_tup, o_lst, o_list1, o_list2, o_tuple1, o_tuple2, o_max, o_min, o_slL, o_slT, o_slS, o_mulSt, o_isIint, o_isIbool, o_isIstr, o_isIlist, o_isItuple, o_isBint, o_isBbool, o_isBstr, o_isBlist, o_isBtuple, o_isSint, o_isSbool, o_isSstr, o_isSlist, o_isStuple, o_isLint, o_isLbool, o_isLstr, o_isLlist, o_isLtuple, o_isTint, o_isTbool, o_isTstr, o_isTlist, o_isTtuple, o_isNint, o_isNbool, o_isNstr, o_isNlist, o_isNtuple, o_allT, o_truB, o_truN, o_truI, o_truL, o_truT, q_sv1, q_sv2, view, fixSlot, wipeE, aName, aTup, aCons, aNil, List.map_cons, List.map_nil, List.length_cons, List.length_nil, List.cons_append, List.nil_append, List.replicate_succ, List.replicate_zero, List.getElem?_cons_zero, List.getElem?_cons_succ, List.set_cons_zero, List.set_cons_succ, Option.map_some, Option.map_none, reduceIte, Nat.reduceAdd, Nat.reduceEqDiff, Option.some.injEq, List.length_map, List.length_append, and_true, true_and, and_self, decide_true, decide_false, Int.reduceLT, Int.reduceNeg, Int.reduceLE, Int.reduceEq, Int.reduceMul, Int.reduceAdd, Int.reduceSub, Int.reduceMod, Int.reduceDiv, Nat.reduceLT, Nat.reduceLeDiff, Int.reducePow, Nat.reducePow, Int.reduceToNat, SV.imm.injEq, SV.own.injEq, W.int.injEq, W.str.injEq, W.bl.injEq, W.lst.injEq, W.tup.injEq, id_eq, exists_eq', exists_eq_left', Out.nx.injEq, Out.rt.injEq, Nat.zero_le, Int.toNat_natCast, not_true_eq_false, not_false_eq_true, Bool.not_true, Bool.not_false, Bool.false_and, Bool.true_and, Bool.and_true, Bool.and_false, Bool.true_or, Bool.false_or, Bool.or_true, Bool.or_false, Bool.false_eq_true, q_fld, r_fld, q_lrg1, r_lrg1, q_mk, q_fldI, r_fldI, o_fac, q_enum, r_enum1, r_enum2, r_enum3, q_dget, r_dget, q_dnew, q_dput, r_dput, q_clear, q_chain, r_chain, o_isN1, o_isN2, o_isN3, q_fs, r_fs3, r_fs4, r_fs5, at_i0, at_i1, at_i2, at_i3, q_fmt, q_txt, q_kd, r_kd, q_xl, r_xl, q_xpop, r_xpop, q_xnil, q_xcons, r_xc, r_xc2, q_xtup, r_xtup, q_appX, r_a0, r_a1, r_a2, q_setX, r_sx, o_ixK, o_slK, q39b, q_raise, q_metR, r_metR, q_fcx, hi, lt, n9, s_zero, ix0, dc, l1, iv]
          rfl
        · have hN : ¬ isN (c :: r) = true := by
            unfold isN
            subst c48
            simp [r0]
          have l1 : (1 : Int) < ((c :: r).length : Int) := by
            cases r with
            | nil => exact absurd rfl r0
            | cons a b => simp; omega
          rw [if_neg hN]
          generalize hX : c :: r = X at *
          simp only [q_seq, q_if, q_fif, q_and, q_or, q_andV, q_orV, q_bin, q_binR, q_un, q_frz, q_imm, q_nil, q_cons, q_call, q_callW, q_c0, q_var, q_ret, q_set, q_aug, q_app, q_ext, q_pop, q_setIx, q_ixo, q_bor, q_tru, q_tst, q_not, q_notV, q_no, q_so, q_sl, q_sq, q_r1, q_r2, q_for, q_lc, q_asg, q_next, q_yes, q_fix, q_slot, q_drop, q_met, q_run, q1, q2, q2b, q2c, q3, q4, q5, q6, q7, q8, q9, q10, q11, q12, q13, q14, q15, q16, q17, q18, q19, q20, q21, q22, q23, q24, q25, q26, q27, q28, q29, q30, q31, q32, q33, q34, q35, q36, q37, q38, q39, q39b, q40, q41, q42, q44, q45, q46, q47, q48, o_add, o_sub, o_mulR, o_mulL, o_mod, o_div, o_addS, o_addI, o_addL, o_addT, o_p18, o_neg, o_cmp, o_eqI, o_eqS, o_eqB, o_neI, o_neS, o_len1, o_len2, o_len3, o_lenS, o_int, o_ix1, o_ix2, o_ix3, o_tup, o_lst, o_list1, o_list2, o_tuple1, o_tuple2, o_max, o_min, o_slL, o_slT, o_slS, o_mulSt, o_isIint, o_isIbool, o_isIstr, o_isIlist, o_isItuple, o_isBint, o_isBbool, o_isBstr, o_isBlist, o_isBtuple, o_isSint, o_isSbool, o_isSstr, o_isSlist, o_isStuple, o_isLint, o_isLbool, o_isLstr, o_isLlist, o_isLtuple, o_isTint, o_isTbool, o_isTstr, o_isTlist, o_isTtuple, o_isNint, o_isNbool, o_isNstr, o_isNlist, o_isNtuple, o_allT, o_truB, o_truN, o_truI, o_truL, o_truT, q_sv1, q_sv2, view, fixSlot, wipeE, aName, aTup, aCons, aNil, List.map_cons, List.map_nil, List.length_cons, List.length_nil, List.cons_append, List.nil_append, List.replicate_succ, List.replicate_zero, List.getElem?_cons_zero, List.getElem?_cons_succ, List.set_cons_zero, List.set_cons_succ, Option.map_some, Option.map_none, reduceIte, Nat.reduceAdd, Nat.reduceEqDiff, Option.some.injEq, List.length_map, List.length_append, and_true, true_and, and_self, decide_true, decide_false, Int.reduceLT, Int.reduceNeg, Int.reduceLE, Int.reduceEq, Int.reduceMul, Int.reduceAdd, Int.reduceSub, Int.reduceMod, Int.reduceDiv, Nat.reduceLT, Nat.reduceLeDiff, Int.reducePow, Nat.reducePow, Int.reduceToNat, SV.imm.injEq, SV.own.injEq, W.int.injEq, W.str.injEq, W.bl.injEq, W.lst.injEq, W.tup.injEq, id_eq, exists_eq', exists_eq_left', Out.nx.injEq, Out.rt.injEq, Nat.zero_le, Int.toNat_natCast, not_true_eq_false, not_false_eq_true, Bool.not_true, Bool.not_false, Bool.false_and, Bool.true_and, Bool.and_true, Bool.and_false, Bool.true_or, Bool.false_or, Bool.or_true, Bool.or_false, Bool.false_eq_true, q_fld, r_fld, q_lrg1, r_lrg1, q_mk, q_fldI, r_fldI, o_fac, q_enum, r_enum1, r_enum2, r_enum3, q_dget, r_dget, q_dnew, q_dput, r_dput, q_clear, q_chain, r_chain, o_isN1, o_isN2, o_isN3, q_fs, r_fs3, r_fs4, r_fs5, at_i0, at_i1, at_i2, at_i3, q_fmt, q_txt, q_kd, r_kd, q_xl, r_xl, q_xpop, r_xpop, q_xnil, q_xcons, r_xc, r_xc2, q_xtup, r_xtup, q_appX, r_a0, r_a1, r_a2, q_setX, r_sx, o_ixK, o_slK, q39b, q_raise, q_metR, r_metR, q_fcx, hi, lt, n9, s_zero, ix0, dc, l1]
          rfl
      · rw [decide_eq_false c48] at dc
        have hN : isN (c :: r) = true := by
          unfold isN
          rw [h1.2, decide_eq_true h1.1, decide_eq_true h9]
          simp [c48]
        have iv := int_Tn hN
        rw [if_pos hN]
        generalize hX : c :: r = X at *
        simp only [q_seq, q_if, q_fif, q_and, q_or, q_andV, q_orV, q_bin, q_binR, q_un, q_frz, q_imm, q_nil, q_cons, q_call, q_callW, q_c0, q_var, q_ret, q_set, q_aug, q_app, q_ext, q_pop, q_setIx, q_ixo, q_bor, q_tru, q_tst, q_not, q_notV, q_no, q_so, q_sl, q_sq, q_r1, q_r2, q_for, q_lc, q_asg, q_next, q_yes, q_fix, q_slot, q_drop, q_met, q_run, q1, q2, q2b, q2c, q3, q4, q5, q6, q7, q8, q9, q10, q11, q12, q13, q14, q15, q16, q17, q18, q19, q20, q21, q22, q23, q24, q25, q26, q27, q28, q29, q30, q31, q32, q33, q34, q35, q36, q37, q38, q39, q39b, q40, q41, q42, q44, q45, q46, q47, q48, o_add, o_sub, o_mulR, o_mulL, o_mod, o_div, o_addS, o_addI, o_addL, o_addT, o_p18, o_neg, o_cmp, o_eqI, o_eqS, o_eqB, o_neI, o_neS, o_len1, o_len2, o_len3, o_lenS, o_int, o_ix1, o_ix2, o_ix3, o_tup, o_lst, o_list1, o_list2, o_tuple1, o_tuple2, o_max, o_min, o_slL, o_slT, o_slS, o_mulSt, o_isIint, o_isIbool, o_isIstr, o_isIlist, o_isItuple, o_isBint, o_isBbool, o_isBstr, o_isBlist, o_isBtuple, o_isSint, o_isSbool, o_isSstr, o_isSlist, o_isStuple, o_isLint, o_isLbool, o_isLstr, o_isLlist, o_isLtuple, o_isTint, o_isTbool, o_isTstr, o_isTlist, o_isTtuple, o_isNint, o_isNbool, o_isNstr, o_isNlist, o_isNtuple, o_allT, o_truB, o_truN, o_truI, o_truL, o_truT, q_sv1, q_sv2, view, fixSlot, wipeE, aName, aTup, aCons, aNil, List.map_cons, List.map_nil, List.length_cons, List.length_nil, List.cons_append, List.nil_append, List.replicate_succ, List.replicate_zero, List.getElem?_cons_zero, List.getElem?_cons_succ, List.set_cons_zero, List.set_cons_succ, Option.map_some, Option.map_none, reduceIte, Nat.reduceAdd, Nat.reduceEqDiff, Option.some.injEq, List.length_map, List.length_append, and_true, true_and, and_self, decide_true, decide_false, Int.reduceLT, Int.reduceNeg, Int.reduceLE, Int.reduceEq, Int.reduceMul, Int.reduceAdd, Int.reduceSub, Int.reduceMod, Int.reduceDiv, Nat.reduceLT, Nat.reduceLeDiff, Int.reducePow, Nat.reducePow, Int.reduceToNat, SV.imm.injEq, SV.own.injEq, W.int.injEq, W.str.injEq, W.bl.injEq, W.lst.injEq, W.tup.injEq, id_eq, exists_eq', exists_eq_left', Out.nx.injEq, Out.rt.injEq, Nat.zero_le, Int.toNat_natCast, not_true_eq_false, not_false_eq_true, Bool.not_true, Bool.not_false, Bool.false_and, Bool.true_and, Bool.and_true, Bool.and_false, Bool.true_or, Bool.false_or, Bool.or_true, Bool.or_false, Bool.false_eq_true, q_fld, r_fld, q_lrg1, r_lrg1, q_mk, q_fldI, r_fldI, o_fac, q_enum, r_enum1, r_enum2, r_enum3, q_dget, r_dget, q_dnew, q_dput, r_dput, q_clear, q_chain, r_chain, o_isN1, o_isN2, o_isN3, q_fs, r_fs3, r_fs4, r_fs5, at_i0, at_i1, at_i2, at_i3, q_fmt, q_txt, q_kd, r_kd, q_xl, r_xl, q_xpop, r_xpop, q_xnil, q_xcons, r_xc, r_xc2, q_xtup, r_xtup, q_appX, r_a0, r_a1, r_a2, q_setX, r_sx, o_ixK, o_slK, q39b, q_raise, q_metR, r_metR, q_fcx, hi, lt, n9, s_zero, ix0, dc, iv]
        rfl
    · have n9 : (9 : Int) < (l.length : Int) := by omega
      have hN : ¬ isN l = true := by
        unfold isN
        rw [decide_eq_false h9]
        simp
      rw [if_neg hN]
      simp only [q_seq, q_if, q_fif, q_and, q_or, q_andV, q_orV, q_bin, q_binR, q_un, q_frz, q_imm, q_nil, q_cons, q_call, q_callW, q_c0, q_var, q_ret, q_set, q_aug, q_app, q_ext, q_pop, q_setIx, q_ixo, q_bor, q_tru, q_tst, q_not, q_notV, q_no, q_so, q_sl, q_sq, q_r1, q_r2, q_for, q_lc, q_asg, q_next, q_yes, q_fix, q_slot, q_drop, q_met, q_run, q1, q2, q2b, q2c, q3, q4, q5, q6, q7, q8, q9, q10, q11, q12, q13, q14, q15, q16, q17, q18, q19, q20, q21, q22, q23, q24, q25, q26, q27, q28, q29, q30, q31, q32, q33, q34, q35, q36, q37, q38, q39, q39b, q40, q41, q42, q44, q45, q46, q47, q48, o_add, o_sub, o_mulR, o_mulL, o_mod, o_div, o_addS, o_addI, o_addL, o_addT, o_p18, o_neg, o_cmp, o_eqI, o_eqS, o_eqB, o_neI, o_neS, o_len1, o_len2, o_len3, o_lenS, o_int, o_ix1, o_ix2, o_ix3, o_tup, o_lst, o_list1, o_list2, o_tuple1, o_tuple2, o_max, o_min, o_slL, o_slT, o_slS, o_mulSt, o_isIint, o_isIbool, o_isIstr, o_isIlist, o_isItuple, o_isBint, o_isBbool, o_isBstr, o_isBlist, o_isBtuple, o_isSint, o_isSbool, o_isSstr, o_isSlist, o_isStuple, o_isLint, o_isLbool, o_isLstr, o_isLlist, o_isLtuple, o_isTint, o_isTbool, o_isTstr, o_isTlist, o_isTtuple, o_isNint, o_isNbool, o_isNstr, o_isNlist, o_isNtuple, o_allT, o_truB, o_truN, o_truI, o_truL, o_truT, q_sv1, q_sv2, view, fixSlot, wipeE, aName, aTup, aCons, aNil, List.map_cons, List.map_nil, List.length_cons, List.length_nil, List.cons_append, List.nil_append, List.replicate_succ, List.replicate_zero, List.getElem?_cons_zero, List.getElem?_cons_succ, List.set_cons_zero, List.set_cons_succ, Option.map_some, Option.map_none, reduceIte, Nat.reduceAdd, Nat.reduceEqDiff, Option.some.injEq, List.length_map, List.length_append, and_true, true_and, and_self, decide_true, decide_false, Int.reduceLT, Int.reduceNeg, Int.reduceLE, Int.reduceEq, Int.reduceMul, Int.reduceAdd, Int.reduceSub, Int.reduceMod, Int.reduceDiv, Nat.reduceLT, Nat.reduceLeDiff, Int.reducePow, Nat.reducePow, Int.reduceToNat, SV.imm.injEq, SV.own.injEq, W.int.injEq, W.str.injEq, W.bl.injEq, W.lst.injEq, W.tup.injEq, id_eq, exists_eq', exists_eq_left', Out.nx.injEq, Out.rt.injEq, Nat.zero_le, Int.toNat_natCast, not_true_eq_false, not_false_eq_true, Bool.not_true, Bool.not_false, Bool.false_and, Bool.true_and, Bool.and_true, Bool.and_false, Bool.true_or, Bool.false_or, Bool.or_true, Bool.or_false, Bool.false_eq_true, q_fld, r_fld, q_lrg1, r_lrg1, q_mk, q_fldI, r_fldI, o_fac, q_enum, r_enum1, r_enum2, r_enum3, q_dget, r_dget, q_dnew, q_dput, r_dput, q_clear, q_chain, r_chain, o_isN1, o_isN2, o_isN3, q_fs, r_fs3, r_fs4, r_fs5, at_i0, at_i1, at_i2, at_i3, q_fmt, q_txt, q_kd, r_kd, q_xl, r_xl, q_xpop, r_xpop, q_xnil, q_xcons, r_xc, r_xc2, q_xtup, r_xtup, q_appX, r_a0, r_a1, r_a2, q_setX, r_sx, o_ixK, o_slK, q39b, q_raise, q_metR, r_metR, q_fcx, hi, lt, n9]
      rfl
  · have h1' : (decide (l ≠ []) && l.all isD) = false := by simpa using h1
    rw [h1'] at hi
    have hN : ¬ isN l = true := fun z => by
      unfold isN at z
      simp only [Bool.and_eq_true, decide_eq_true_eq] at z
      apply h1
      simp only [Bool.and_eq_true, decide_eq_true_eq]
      exact ⟨z.1.1.2, z.1.1.1⟩
    rw [if_neg hN]
    simp only [q_seq, q_if, q_fif, q_and, q_or, q_andV, q_orV, q_bin, q_binR, q_un, q_frz, q_imm, q_nil, q_cons, q_call, q_callW, q_c0, q_var, q_ret, q_set, q_aug, q_app, q_ext, q_pop, q_setIx, q_ixo, q_bor, q_tru, q_tst, q_not, q_notV, q_no, q_so, q_sl, q_sq, q_r1, q_r2, q_for, q_lc, q_asg, q_next, q_yes, q_fix, q_slot, q_drop, q_met, q_run, q1, q2, q2b, q2c, q3, q4, q5, q6, q7, q8, q9, q10, q11, q12, q13, q14, q15, q16, q17, q18, q19, q20, q21, q22, q23, q24, q25, q26, q27, q28, q29, q30, q31, q32, q33, q34, q35, q36, q37, q38, q39, q39b, q40, q41, q42, q44, q45, q46, q47, q48, o_add, o_sub, o_mulR, o_mulL, o_mod, o_div, o_addS, o_addI, o_addL, o_addT, o_p18, o_neg, o_cmp, o_eqI, o_eqS, o_eqB, o_neI, o_neS, o_len1, o_len2, o_len3, o_lenS, o_int, o_ix1, o_ix2, o_ix3, o_tup, o_lst, o_list1, o_list2, o_tuple1, o_tuple2, o_max, o_min, o_slL, o_slT, o_slS, o_mulSt, o_isIint, o_isIbool, o_isIstr, o_isIlist, o_isItuple, o_isBint, o_isBbool, o_isBstr, o_isBlist, o_isBtuple, o_isSint, o_isSbool, o_isSstr, o_isSlist, o_isStuple, o_isLint, o_isLbool, o_isLstr, o_isLlist, o_isLtuple, o_isTint, o_isTbool, o_isTstr, o_isTlist, o_isTtuple, o_isNint, o_isNbool, o_isNstr, o_isNlist, o_isNtuple, o_allT, o_truB, o_truN, o_truI, o_truL, o_truT, q_sv1, q_sv2, view, fixSlot, wipeE, aName, aTup, aCons, aNil, List.map_cons, List.map_nil, List.length_cons, List.length_nil, List.cons_append, List.nil_append, List.replicate_succ, List.replicate_zero, List.getElem?_cons_zero, List.getElem?_cons_succ, List.set_cons_zero, List.set_cons_succ, Option.map_some, Option.map_none, reduceIte, Nat.reduceAdd, Nat.reduceEqDiff, Option.some.injEq, List.length_map, List.length_append, and_true, true_and, and_self, decide_true, decide_false, Int.reduceLT, Int.reduceNeg, Int.reduceLE, Int.reduceEq, Int.reduceMul, Int.reduceAdd, Int.reduceSub, Int.reduceMod, Int.reduceDiv, Nat.reduceLT, Nat.reduceLeDiff, Int.reducePow, Nat.reducePow, Int.reduceToNat, SV.imm.injEq, SV.own.injEq, W.int.injEq, W.str.injEq, W.bl.injEq, W.lst.injEq, W.tup.injEq, id_eq, exists_eq', exists_eq_left', Out.nx.injEq, Out.rt.injEq, Nat.zero_le, Int.toNat_natCast, not_true_eq_false, not_false_eq_true, Bool.not_true, Bool.not_false, Bool.false_and, Bool.true_and, Bool.and_true, Bool.and_false, Bool.true_or, Bool.false_or, Bool.or_true, Bool.or_false, Bool.false_eq_true, q_fld, r_fld, q_lrg1, r_lrg1, q_mk, q_fldI, r_fldI, o_fac, q_enum, r_enum1, r_enum2, r_enum3, q_dget, r_dget, q_dnew, q_dput, r_dput, q_clear, q_chain, r_chain, o_isN1, o_isN2, o_isN3, q_fs, r_fs3, r_fs4, r_fs5, at_i0, at_i1, at_i2, at_i3, q_fmt, q_txt, q_kd, r_kd, q_xl, r_xl, q_xpop, r_xpop, q_xnil, q_xcons, r_xc, r_xc2, q_xtup, r_xtup, q_appX, r_a0, r_a1, r_a2, q_setX, r_sx, o_ixK, o_slK, q39b, q_raise, q_metR, r_metR, q_fcx, hi]
    rfl
theorem read_numbers_ok {t : List Nat} (h : Asc t) : F_read_numbers [.str (T t)] = some (.imm (optW rowW (seqO ((cut 44 t).map rdN)))) := by
  have hs := split_T (c := 44) h (by decide)
  obtain ⟨ha, hc⟩ := cut_asc (c := 44) h
  have hl := h.2
  have hw := whole_ok (n := 0) (by decide) (f := nW) (fun _ => trivial) (fun _ => rfl) ((cut 44 t).map rdN)
  unfold F_read_numbers B_read_numbers
  simp only [q_seq, q_if, q_fif, q_and, q_or, q_andV, q_orV, q_bin, q_binR, q_un, q_frz, q_imm, q_nil, q_cons, q_call, q_callW, q_c0, q_var, q_ret, q_set, q_aug, q_app, q_ext, q_pop, q_setIx, q_ixo, q_bor, q_tru, q_tst, q_not, q_notV, q_no, q_so, q_sl, q_sq, q_r1, q_r2, q_for, q_lc, q_asg, q_next, q_yes, q_fix, q_slot, q_drop, q_met, q_run, q1, q2, q2b, q2c, q3, q4, q5, q6, q7, q8, q9, q10, q11, q12, q13, q14, q15, q16, q17, q18, q19, q20, q21, q22, q23, q24, q25, q26, q27, q28, q29, q30, q31, q32, q33, q34, q35, q36, q37, q38, q39, q39b, q40, q41, q42, q44, q45, q46, q47, q48, o_add, o_sub, o_mulR, o_mulL, o_mod, o_div, o_addS, o_addI, o_addL, o_addT, o_p18, o_neg, o_cmp, o_eqI, o_eqS, o_eqB, o_neI, o_neS, o_len1, o_len2, o_len3, o_lenS, o_int, o_ix1, o_ix2, o_ix3, o_tup, o_lst, o_list1, o_list2, o_tuple1, o_tuple2, o_max, o_min, o_slL, o_slT, o_slS, o_mulSt, o_isIint, o_isIbool, o_isIstr, o_isIlist, o_isItuple, o_isBint, o_isBbool, o_isBstr, o_isBlist, o_isBtuple, o_isSint, o_isSbool, o_isSstr, o_isSlist, o_isStuple, o_isLint, o_isLbool, o_isLstr, o_isLlist, o_isLtuple, o_isTint, o_isTbool, o_isTstr, o_isTlist, o_isTtuple, o_isNint, o_isNbool, o_isNstr, o_isNlist, o_isNtuple, o_allT, o_truB, o_truN, o_truI, o_truL, o_truT, q_sv1, q_sv2, view, fixSlot, wipeE, aName, aTup, aCons, aNil, List.map_cons, List.map_nil, List.length_cons, List.length_nil, List.cons_append, List.nil_append, List.replicate_succ, List.replicate_zero, List.getElem?_cons_zero, List.getElem?_cons_succ, List.set_cons_zero, List.set_cons_succ, Option.map_some, Option.map_none, reduceIte, Nat.reduceAdd, Nat.reduceEqDiff, Option.some.injEq, List.length_map, List.length_append, and_true, true_and, and_self, decide_true, decide_false, Int.reduceLT, Int.reduceNeg, Int.reduceLE, Int.reduceEq, Int.reduceMul, Int.reduceAdd, Int.reduceSub, Int.reduceMod, Int.reduceDiv, Nat.reduceLT, Nat.reduceLeDiff, Int.reducePow, Nat.reducePow, Int.reduceToNat, SV.imm.injEq, SV.own.injEq, W.int.injEq, W.str.injEq, W.bl.injEq, W.lst.injEq, W.tup.injEq, id_eq, exists_eq', exists_eq_left', Out.nx.injEq, Out.rt.injEq, Nat.zero_le, Int.toNat_natCast, not_true_eq_false, not_false_eq_true, Bool.not_true, Bool.not_false, Bool.false_and, Bool.true_and, Bool.and_true, Bool.and_false, Bool.true_or, Bool.false_or, Bool.or_true, Bool.or_false, Bool.false_eq_true, q_fld, r_fld, q_lrg1, r_lrg1, q_mk, q_fldI, r_fldI, o_fac, q_enum, r_enum1, r_enum2, r_enum3, q_dget, r_dget, q_dnew, q_dput, r_dput, q_clear, q_chain, r_chain, o_isN1, o_isN2, o_isN3, q_fs, r_fs3, r_fs4, r_fs5, at_i0, at_i1, at_i2, at_i3, q_fmt, q_txt, q_kd, r_kd, q_xl, r_xl, q_xpop, r_xpop, q_xnil, q_xcons, r_xc, r_xc2, q_xtup, r_xtup, q_appX, r_a0, r_a1, r_a2, q_setX, r_sx, o_ixK, o_slK, q39b, q_raise, q_metR, r_metR, q_fcx, s_comma, hs]
  rw [q43 (lc_map (f := sW) (g' := optW nW) (k := rdN) fun p hp => by
    have rn := read_number_ok (ha p hp)
    simp only [q_seq, q_if, q_fif, q_and, q_or, q_andV, q_orV, q_bin, q_binR, q_un, q_frz, q_imm, q_nil, q_cons, q_call, q_callW, q_c0, q_var, q_ret, q_set, q_aug, q_app, q_ext, q_pop, q_setIx, q_ixo, q_bor, q_tru, q_tst, q_not, q_notV, q_no, q_so, q_sl, q_sq, q_r1, q_r2, q_for, q_lc, q_asg, q_next, q_yes, q_fix, q_slot, q_drop, q_met, q_run, q1, q2, q2b, q2c, q3, q4, q5, q6, q7, q8, q9, q10, q11, q12, q13, q14, q15, q16, q17, q18, q19, q20, q21, q22, q23, q24, q25, q26, q27, q28, q29, q30, q31, q32, q33, q34, q35, q36, q37, q38, q39, q39b, q40, q41, q42, q44, q45, q46, q47, q48, o_add, o_sub, o_mulR, o_mulL, o_mod, o_div, o_addS, o_addI, o_addL, o_addT, o_p18, o_neg, o_cmp, o_eqI, o_eqS, o_eqB, o_neI, o_neS, o_len1, o_len2, o_len3, o_lenS, o_int, o_ix1, o_ix2, o_ix3, o_tup, o_lst, o_list1, o_list2, o_tuple1, o_tuple2, o_max, o_min, o_slL, o_slT, o_slS, o_mulSt, o_isIint, o_isIbool, o_isIstr, o_isIlist, o_isItuple, o_isBint, o_isBbool, o_isBstr, o_isBlist, o_isBtuple, o_isSint, o_isSbool, o_isSstr, o_isSlist, o_isStuple, o_isLint, o_isLbool, o_isLstr, o_isLlist, o_isLtuple, o_isTint, o_isTbool, o_isTstr, o_isTlist, o_isTtuple, o_isNint, o_isNbool, o_isNstr, o_isNlist, o_isNtuple, o_allT, o_truB, o_truN, o_truI, o_truL, o_truT, q_sv1, q_sv2, view, fixSlot, wipeE, aName, aTup, aCons, aNil, List.map_cons, List.map_nil, List.length_cons, List.length_nil, List.cons_append, List.nil_append, List.replicate_succ, List.replicate_zero, List.getElem?_cons_zero, List.getElem?_cons_succ, List.set_cons_zero, List.set_cons_succ, Option.map_some, Option.map_none, reduceIte, Nat.reduceAdd, Nat.reduceEqDiff, Option.some.injEq, List.length_map, List.length_append, and_true, true_and, and_self, decide_true, decide_false, Int.reduceLT, Int.reduceNeg, Int.reduceLE, Int.reduceEq, Int.reduceMul, Int.reduceAdd, Int.reduceSub, Int.reduceMod, Int.reduceDiv, Nat.reduceLT, Nat.reduceLeDiff, Int.reducePow, Nat.reducePow, Int.reduceToNat, SV.imm.injEq, SV.own.injEq, W.int.injEq, W.str.injEq, W.bl.injEq, W.lst.injEq, W.tup.injEq, id_eq, exists_eq', exists_eq_left', Out.nx.injEq, Out.rt.injEq, Nat.zero_le, Int.toNat_natCast, not_true_eq_false, not_false_eq_true, Bool.not_true, Bool.not_false, Bool.false_and, Bool.true_and, Bool.and_true, Bool.and_false, Bool.true_or, Bool.false_or, Bool.or_true, Bool.or_false, Bool.false_eq_true, q_fld, r_fld, q_lrg1, r_lrg1, q_mk, q_fldI, r_fldI, o_fac, q_enum, r_enum1, r_enum2, r_enum3, q_dget, r_dget, q_dnew, q_dput, r_dput, q_clear, q_chain, r_chain, o_isN1, o_isN2, o_isN3, q_fs, r_fs3, r_fs4, r_fs5, at_i0, at_i1, at_i2, at_i3, q_fmt, q_txt, q_kd, r_kd, q_xl, r_xl, q_xpop, r_xpop, q_xnil, q_xcons, r_xc, r_xc2, q_xtup, r_xtup, q_appX, r_a0, r_a1, r_a2, q_setX, r_sx, o_ixK, o_slK, q39b, q_raise, q_metR, r_metR, q_fcx, rn]) (by simp; omega)]
  simp only [q_seq, q_if, q_fif, q_and, q_or, q_andV, q_orV, q_bin, q_binR, q_un, q_frz, q_imm, q_nil, q_cons, q_call, q_callW, q_c0, q_var, q_ret, q_set, q_aug, q_app, q_ext, q_pop, q_setIx, q_ixo, q_bor, q_tru, q_tst, q_not, q_notV, q_no, q_so, q_sl, q_sq, q_r1, q_r2, q_for, q_lc, q_asg, q_next, q_yes, q_fix, q_slot, q_drop, q_met, q_run, q1, q2, q2b, q2c, q3, q4, q5, q6, q7, q8, q9, q10, q11, q12, q13, q14, q15, q16, q17, q18, q19, q20, q21, q22, q23, q24, q25, q26, q27, q28, q29, q30, q31, q32, q33, q34, q35, q36, q37, q38, q39, q39b, q40, q41, q42, q44, q45, q46, q47, q48, o_add, o_sub, o_mulR, o_mulL, o_mod, o_div, o_addS, o_addI, o_addL, o_addT, o_p18, o_neg, o_cmp, o_eqI, o_eqS, o_eqB, o_neI, o_neS, o_len1, o_len2, o_len3, o_lenS, o_int, o_ix1, o_ix2, o_ix3, o_tup, o_lst, o_list1, o_list2, o_tuple1, o_tuple2, o_max, o_min, o_slL, o_slT, o_slS, o_mulSt, o_isIint, o_isIbool, o_isIstr, o_isIlist, o_isItuple, o_isBint, o_isBbool, o_isBstr, o_isBlist, o_isBtuple, o_isSint, o_isSbool, o_isSstr, o_isSlist, o_isStuple, o_isLint, o_isLbool, o_isLstr, o_isLlist, o_isLtuple, o_isTint, o_isTbool, o_isTstr, o_isTlist, o_isTtuple, o_isNint, o_isNbool, o_isNstr, o_isNlist, o_isNtuple, o_allT, o_truB, o_truN, o_truI, o_truL, o_truT, q_sv1, q_sv2, view, fixSlot, wipeE, aName, aTup, aCons, aNil, List.map_cons, List.map_nil, List.length_cons, List.length_nil, List.cons_append, List.nil_append, List.replicate_succ, List.replicate_zero, List.getElem?_cons_zero, List.getElem?_cons_succ, List.set_cons_zero, List.set_cons_succ, Option.map_some, Option.map_none, reduceIte, Nat.reduceAdd, Nat.reduceEqDiff, Option.some.injEq, List.length_map, List.length_append, and_true, true_and, and_self, decide_true, decide_false, Int.reduceLT, Int.reduceNeg, Int.reduceLE, Int.reduceEq, Int.reduceMul, Int.reduceAdd, Int.reduceSub, Int.reduceMod, Int.reduceDiv, Nat.reduceLT, Nat.reduceLeDiff, Int.reducePow, Nat.reducePow, Int.reduceToNat, SV.imm.injEq, SV.own.injEq, W.int.injEq, W.str.injEq, W.bl.injEq, W.lst.injEq, W.tup.injEq, id_eq, exists_eq', exists_eq_left', Out.nx.injEq, Out.rt.injEq, Nat.zero_le, Int.toNat_natCast, not_true_eq_false, not_false_eq_true, Bool.not_true, Bool.not_false, Bool.false_and, Bool.true_and, Bool.and_true, Bool.and_false, Bool.true_or, Bool.false_or, Bool.or_true, Bool.or_false, Bool.false_eq_true, q_fld, r_fld, q_lrg1, r_lrg1, q_mk, q_fldI, r_fldI, o_fac, q_enum, r_enum1, r_enum2, r_enum3, q_dget, r_dget, q_dnew, q_dput, r_dput, q_clear, q_chain, r_chain, o_isN1, o_isN2, o_isN3, q_fs, r_fs3, r_fs4, r_fs5, at_i0, at_i1, at_i2, at_i3, q_fmt, q_txt, q_kd, r_kd, q_xl, r_xl, q_xpop, r_xpop, q_xnil, q_xcons, r_xc, r_xc2, q_xtup, r_xtup, q_appX, r_a0, r_a1, r_a2, q_setX, r_sx, o_ixK, o_slK, q39b, q_raise, q_metR, r_metR, q_fcx, hw]
  rfl
theorem read_part_ok {t : List Nat} (h : Asc t) : F_read_part [.str (T t)] = some (.imm (optW rowW (rdRow t))) := by
  have hr := read_numbers_ok h
  have dt : decide (T t = T [45]) = decide (t = [45]) := t_dec
  unfold F_read_part B_read_part rdRow
  by_cases hm : t = [45]
  · rw [if_pos hm]
    rw [decide_eq_true hm] at dt
    simp only [q_seq, q_if, q_fif, q_and, q_or, q_andV, q_orV, q_bin, q_binR, q_un, q_frz, q_imm, q_nil, q_cons, q_call, q_callW, q_c0, q_var, q_ret, q_set, q_aug, q_app, q_ext, q_pop, q_setIx, q_ixo, q_bor, q_tru, q_tst, q_not, q_notV, q_no, q_so, q_sl, q_sq, q_r1, q_r2, q_for, q_lc, q_asg, q_next, q_yes, q_fix, q_slot, q_drop, q_met, q_run, q1, q2, q2b, q2c, q3, q4, q5, q6, q7, q8, q9, q10, q11, q12, q13, q14, q15, q16, q17, q18, q19, q20, q21, q22, q23, q24, q25, q26, q27, q28, q29, q30, q31, q32, q33, q34, q35, q36, q37, q38, q39, q39b, q40, q41, q42, q44, q45, q46, q47, q48, o_add, o_sub, o_mulR, o_mulL, o_mod, o_div, o_addS, o_addI, o_addL, o_addT, o_p18, o_neg, o_cmp, o_eqI, o_eqS, o_eqB, o_neI, o_neS, o_len1, o_len2, o_len3, o_lenS, o_int, o_ix1, o_ix2, o_ix3, o_tup, o_lst, o_list1, o_list2, o_tuple1, o_tuple2, o_max, o_min, o_slL, o_slT, o_slS, o_mulSt, o_isIint, o_isIbool, o_isIstr, o_isIlist, o_isItuple, o_isBint, o_isBbool, o_isBstr, o_isBlist, o_isBtuple, o_isSint, o_isSbool, o_isSstr, o_isSlist, o_isStuple, o_isLint, o_isLbool, o_isLstr, o_isLlist, o_isLtuple, o_isTint, o_isTbool, o_isTstr, o_isTlist, o_isTtuple, o_isNint, o_isNbool, o_isNstr, o_isNlist, o_isNtuple, o_allT, o_truB, o_truN, o_truI, o_truL, o_truT, q_sv1, q_sv2, view, fixSlot, wipeE, aName, aTup, aCons, aNil, List.map_cons, List.map_nil, List.length_cons, List.length_nil, List.cons_append, List.nil_append, List.replicate_succ, List.replicate_zero, List.getElem?_cons_zero, List.getElem?_cons_succ, List.set_cons_zero, List.set_cons_succ, Option.map_some, Option.map_none, reduceIte, Nat.reduceAdd, Nat.reduceEqDiff, Option.some.injEq, List.length_map, List.length_append, and_true, true_and, and_self, decide_true, decide_false, Int.reduceLT, Int.reduceNeg, Int.reduceLE, Int.reduceEq, Int.reduceMul, Int.reduceAdd, Int.reduceSub, Int.reduceMod, Int.reduceDiv, Nat.reduceLT, Nat.reduceLeDiff, Int.reducePow, Nat.reducePow, Int.reduceToNat, SV.imm.injEq, SV.own.injEq, W.int.injEq, W.str.injEq, W.bl.injEq, W.lst.injEq, W.tup.injEq, id_eq, exists_eq', exists_eq_left', Out.nx.injEq, Out.rt.injEq, Nat.zero_le, Int.toNat_natCast, not_true_eq_false, not_false_eq_true, Bool.not_true, Bool.not_false, Bool.false_and, Bool.true_and, Bool.and_true, Bool.and_false, Bool.true_or, Bool.false_or, Bool.or_true, Bool.or_false, Bool.false_eq_true, q_fld, r_fld, q_lrg1, r_lrg1, q_mk, q_fldI, r_fldI, o_fac, q_enum, r_enum1, r_enum2, r_enum3, q_dget, r_dget, q_dnew, q_dput, r_dput, q_clear, q_chain, r_chain, o_isN1, o_isN2, o_isN3, q_fs, r_fs3, r_fs4, r_fs5, at_i0, at_i1, at_i2, at_i3, q_fmt, q_txt, q_kd, r_kd, q_xl, r_xl, q_xpop, r_xpop, q_xnil, q_xcons, r_xc, r_xc2, q_xtup, r_xtup, q_appX, r_a0, r_a1, r_a2, q_setX, r_sx, o_ixK, o_slK, q39b, q_raise, q_metR, r_metR, q_fcx, s_minus, dt]
    rfl
  · rw [if_neg hm]
    rw [decide_eq_false hm] at dt
    simp only [q_seq, q_if, q_fif, q_and, q_or, q_andV, q_orV, q_bin, q_binR, q_un, q_frz, q_imm, q_nil, q_cons, q_call, q_callW, q_c0, q_var, q_ret, q_set, q_aug, q_app, q_ext, q_pop, q_setIx, q_ixo, q_bor, q_tru, q_tst, q_not, q_notV, q_no, q_so, q_sl, q_sq, q_r1, q_r2, q_for, q_lc, q_asg, q_next, q_yes, q_fix, q_slot, q_drop, q_met, q_run, q1, q2, q2b, q2c, q3, q4, q5, q6, q7, q8, q9, q10, q11, q12, q13, q14, q15, q16, q17, q18, q19, q20, q21, q22, q23, q24, q25, q26, q27, q28, q29, q30, q31, q32, q33, q34, q35, q36, q37, q38, q39, q39b, q40, q41, q42, q44, q45, q46, q47, q48, o_add, o_sub, o_mulR, o_mulL, o_mod, o_div, o_addS, o_addI, o_addL, o_addT, o_p18, o_neg, o_cmp, o_eqI, o_eqS, o_eqB, o_neI, o_neS, o_len1, o_len2, o_len3, o_lenS, o_int, o_ix1, o_ix2, o_ix3, o_tup, o_lst, o_list1, o_list2, o_tuple1, o_tuple2, o_max, o_min, o_slL, o_slT, o_slS, o_mulSt, o_isIint, o_isIbool, o_isIstr, o_isIlist, o_isItuple, o_isBint, o_isBbool, o_isBstr, o_isBlist, o_isBtuple, o_isSint, o_isSbool, o_isSstr, o_isSlist, o_isStuple, o_isLint, o_isLbool, o_isLstr, o_isLlist, o_isLtuple, o_isTint, o_isTbool, o_isTstr, o_isTlist, o_isTtuple, o_isNint, o_isNbool, o_isNstr, o_isNlist, o_isNtuple, o_allT, o_truB, o_truN, o_truI, o_truL, o_truT, q_sv1, q_sv2, view, fixSlot, wipeE, aName, aTup, aCons, aNil, List.map_cons, List.map_nil, List.length_cons, List.length_nil, List.cons_append, List.nil_append, List.replicate_succ, List.replicate_zero, List.getElem?_cons_zero, List.getElem?_cons_succ, List.set_cons_zero, List.set_cons_succ, Option.map_some, Option.map_none, reduceIte, Nat.reduceAdd, Nat.reduceEqDiff, Option.some.injEq, List.length_map, List.length_append, and_true, true_and, and_self, decide_true, decide_false, Int.reduceLT, Int.reduceNeg, Int.reduceLE, Int.reduceEq, Int.reduceMul, Int.reduceAdd, Int.reduceSub, Int.reduceMod, Int.reduceDiv, Nat.reduceLT, Nat.reduceLeDiff, Int.reducePow, Nat.reducePow, Int.reduceToNat, SV.imm.injEq, SV.own.injEq, W.int.injEq, W.str.injEq, W.bl.injEq, W.lst.injEq, W.tup.injEq, id_eq, exists_eq', exists_eq_left', Out.nx.injEq, Out.rt.injEq, Nat.zero_le, Int.toNat_natCast, not_true_eq_false, not_false_eq_true, Bool.not_true, Bool.not_false, Bool.false_and, Bool.true_and, Bool.and_true, Bool.and_false, Bool.true_or, Bool.false_or, Bool.or_true, Bool.or_false, Bool.false_eq_true, q_fld, r_fld, q_lrg1, r_lrg1, q_mk, q_fldI, r_fldI, o_fac, q_enum, r_enum1, r_enum2, r_enum3, q_dget, r_dget, q_dnew, q_dput, r_dput, q_clear, q_chain, r_chain, o_isN1, o_isN2, o_isN3, q_fs, r_fs3, r_fs4, r_fs5, at_i0, at_i1, at_i2, at_i3, q_fmt, q_txt, q_kd, r_kd, q_xl, r_xl, q_xpop, r_xpop, q_xnil, q_xcons, r_xc, r_xc2, q_xtup, r_xtup, q_appX, r_a0, r_a1, r_a2, q_setX, r_sx, o_ixK, o_slK, q39b, q_raise, q_metR, r_metR, q_fcx, s_minus, dt, hr]
theorem read_layer_ok {t : List Nat} (h : Asc t) : F_read_layer [.str (T t)] = some (.imm (optW layW (rdLay t))) := by
  have hs := split_T (c := 47) h (by decide)
  obtain ⟨ha, hc⟩ := cut_asc (c := 47) h
  have hl := h.2
  have hw := whole_ok (n := 1) (by decide) (f := rowW) (fun r => nd_row r) (fun _ => rfl) ((cut 47 t).map rdRow)
  have dt : decide (T t = T [46]) = decide (t = [46]) := t_dec
  unfold F_read_layer B_read_layer rdLay
  by_cases hm : t = [46]
  · rw [if_pos hm]
    rw [decide_eq_true hm] at dt
    simp only [q_seq, q_if, q_fif, q_and, q_or, q_andV, q_orV, q_bin, q_binR, q_un, q_frz, q_imm, q_nil, q_cons, q_call, q_callW, q_c0, q_var, q_ret, q_set, q_aug, q_app, q_ext, q_pop, q_setIx, q_ixo, q_bor, q_tru, q_tst, q_not, q_notV, q_no, q_so, q_sl, q_sq, q_r1, q_r2, q_for, q_lc, q_asg, q_next, q_yes, q_fix, q_slot, q_drop, q_met, q_run, q1, q2, q2b, q2c, q3, q4, q5, q6, q7, q8, q9, q10, q11, q12, q13, q14, q15, q16, q17, q18, q19, q20, q21, q22, q23, q24, q25, q26, q27, q28, q29, q30, q31, q32, q33, q34, q35, q36, q37, q38, q39, q39b, q40, q41, q42, q44, q45, q46, q47, q48, o_add, o_sub, o_mulR, o_mulL, o_mod, o_div, o_addS, o_addI, o_addL, o_addT, o_p18, o_neg, o_cmp, o_eqI, o_eqS, o_eqB, o_neI, o_neS, o_len1, o_len2, o_len3, o_lenS, o_int, o_ix1, o_ix2, o_ix3, o_tup, o_lst, o_list1, o_list2, o_tuple1, o_tuple2, o_max, o_min, o_slL, o_slT, o_slS, o_mulSt, o_isIint, o_isIbool, o_isIstr, o_isIlist, o_isItuple, o_isBint, o_isBbool, o_isBstr, o_isBlist, o_isBtuple, o_isSint, o_isSbool, o_isSstr, o_isSlist, o_isStuple, o_isLint, o_isLbool, o_isLstr, o_isLlist, o_isLtuple, o_isTint, o_isTbool, o_isTstr, o_isTlist, o_isTtuple, o_isNint, o_isNbool, o_isNstr, o_isNlist, o_isNtuple, o_allT, o_truB, o_truN, o_truI, o_truL, o_truT, q_sv1, q_sv2, view, fixSlot, wipeE, aName, aTup, aCons, aNil, List.map_cons, List.map_nil, List.length_cons, List.length_nil, List.cons_append, List.nil_append, List.replicate_succ, List.replicate_zero, List.getElem?_cons_zero, List.getElem?_cons_succ, List.set_cons_zero, List.set_cons_succ, Option.map_some, Option.map_none, reduceIte, Nat.reduceAdd, Nat.reduceEqDiff, Option.some.injEq, List.length_map, List.length_append, and_true, true_and, and_self, decide_true, decide_false, Int.reduceLT, Int.reduceNeg, Int.reduceLE, Int.reduceEq, Int.reduceMul, Int.reduceAdd, Int.reduceSub, Int.reduceMod, Int.reduceDiv, Nat.reduceLT, Nat.reduceLeDiff, Int.reducePow, Nat.reducePow, Int.reduceToNat, SV.imm.injEq, SV.own.injEq, W.int.injEq, W.str.injEq, W.bl.injEq, W.lst.injEq, W.tup.injEq, id_eq, exists_eq', exists_eq_left', Out.nx.injEq, Out.rt.injEq, Nat.zero_le, Int.toNat_natCast, not_true_eq_false, not_false_eq_true, Bool.not_true, Bool.not_false, Bool.false_and, Bool.true_and, Bool.and_true, Bool.and_false, Bool.true_or, Bool.false_or, Bool.or_true, Bool.or_false, Bool.false_eq_true, q_fld, r_fld, q_lrg1, r_lrg1, q_mk, q_fldI, r_fldI, o_fac, q_enum, r_enum1, r_enum2, r_enum3, q_dget, r_dget, q_dnew, q_dput, r_dput, q_clear, q_chain, r_chain, o_isN1, o_isN2, o_isN3, q_fs, r_fs3, r_fs4, r_fs5, at_i0, at_i1, at_i2, at_i3, q_fmt, q_txt, q_kd, r_kd, q_xl, r_xl, q_xpop, r_xpop, q_xnil, q_xcons, r_xc, r_xc2, q_xtup, r_xtup, q_appX, r_a0, r_a1, r_a2, q_setX, r_sx, o_ixK, o_slK, q39b, q_raise, q_metR, r_metR, q_fcx, s_dot, dt]
    rfl
  · rw [if_neg hm]
    rw [decide_eq_false hm] at dt
    simp only [q_seq, q_if, q_fif, q_and, q_or, q_andV, q_orV, q_bin, q_binR, q_un, q_frz, q_imm, q_nil, q_cons, q_call, q_callW, q_c0, q_var, q_ret, q_set, q_aug, q_app, q_ext, q_pop, q_setIx, q_ixo, q_bor, q_tru, q_tst, q_not, q_notV, q_no, q_so, q_sl, q_sq, q_r1, q_r2, q_for, q_lc, q_asg, q_next, q_yes, q_fix, q_slot, q_drop, q_met, q_run, q1, q2, q2b, q2c, q3, q4, q5, q6, q7, q8, q9, q10, q11, q12, q13, q14, q15, q16, q17, q18, q19, q20, q21, q22, q23, q24, q25, q26, q27, q28, q29, q30, q31, q32, q33, q34, q35, q36, q37, q38, q39, q39b, q40, q41, q42, q44, q45, q46, q47, q48, o_add, o_sub, o_mulR, o_mulL, o_mod, o_div, o_addS, o_addI, o_addL, o_addT, o_p18, o_neg, o_cmp, o_eqI, o_eqS, o_eqB, o_neI, o_neS, o_len1, o_len2, o_len3, o_lenS, o_int, o_ix1, o_ix2, o_ix3, o_tup, o_lst, o_list1, o_list2, o_tuple1, o_tuple2, o_max, o_min, o_slL, o_slT, o_slS, o_mulSt, o_isIint, o_isIbool, o_isIstr, o_isIlist, o_isItuple, o_isBint, o_isBbool, o_isBstr, o_isBlist, o_isBtuple, o_isSint, o_isSbool, o_isSstr, o_isSlist, o_isStuple, o_isLint, o_isLbool, o_isLstr, o_isLlist, o_isLtuple, o_isTint, o_isTbool, o_isTstr, o_isTlist, o_isTtuple, o_isNint, o_isNbool, o_isNstr, o_isNlist, o_isNtuple, o_allT, o_truB, o_truN, o_truI, o_truL, o_truT, q_sv1, q_sv2, view, fixSlot, wipeE, aName, aTup, aCons, aNil, List.map_cons, List.map_nil, List.length_cons, List.length_nil, List.cons_append, List.nil_append, List.replicate_succ, List.replicate_zero, List.getElem?_cons_zero, List.getElem?_cons_succ, List.set_cons_zero, List.set_cons_succ, Option.map_some, Option.map_none, reduceIte, Nat.reduceAdd, Nat.reduceEqDiff, Option.some.injEq, List.length_map, List.length_append, and_true, true_and, and_self, decide_true, decide_false, Int.reduceLT, Int.reduceNeg, Int.reduceLE, Int.reduceEq, Int.reduceMul, Int.reduceAdd, Int.reduceSub, Int.reduceMod, Int.reduceDiv, Nat.reduceLT, Nat.reduceLeDiff, Int.reducePow, Nat.reducePow, Int.reduceToNat, SV.imm.injEq, SV.own.injEq, W.int.injEq, W.str.injEq, W.bl.injEq, W.lst.injEq, W.tup.injEq, id_eq, exists_eq', exists_eq_left', Out.nx.injEq, Out.rt.injEq, Nat.zero_le, Int.toNat_natCast, not_true_eq_false, not_false_eq_true, Bool.not_true, Bool.not_false, Bool.false_and, Bool.true_and, Bool.and_true, Bool.and_false, Bool.true_or, Bool.false_or, Bool.or_true, Bool.or_false, Bool.false_eq_true, q_fld, r_fld, q_lrg1, r_lrg1, q_mk, q_fldI, r_fldI, o_fac, q_enum, r_enum1, r_enum2, r_enum3, q_dget, r_dget, q_dnew, q_dput, r_dput, q_clear, q_chain, r_chain, o_isN1, o_isN2, o_isN3, q_fs, r_fs3, r_fs4, r_fs5, at_i0, at_i1, at_i2, at_i3, q_fmt, q_txt, q_kd, r_kd, q_xl, r_xl, q_xpop, r_xpop, q_xnil, q_xcons, r_xc, r_xc2, q_xtup, r_xtup, q_appX, r_a0, r_a1, r_a2, q_setX, r_sx, o_ixK, o_slK, q39b, q_raise, q_metR, r_metR, q_fcx, s_dot, s_slash, dt, hs]
    rw [q43 (lc_map (f := sW) (g' := optW rowW) (k := rdRow) fun p hp => by
      have rn := read_part_ok (ha p hp)
      simp only [q_seq, q_if, q_fif, q_and, q_or, q_andV, q_orV, q_bin, q_binR, q_un, q_frz, q_imm, q_nil, q_cons, q_call, q_callW, q_c0, q_var, q_ret, q_set, q_aug, q_app, q_ext, q_pop, q_setIx, q_ixo, q_bor, q_tru, q_tst, q_not, q_notV, q_no, q_so, q_sl, q_sq, q_r1, q_r2, q_for, q_lc, q_asg, q_next, q_yes, q_fix, q_slot, q_drop, q_met, q_run, q1, q2, q2b, q2c, q3, q4, q5, q6, q7, q8, q9, q10, q11, q12, q13, q14, q15, q16, q17, q18, q19, q20, q21, q22, q23, q24, q25, q26, q27, q28, q29, q30, q31, q32, q33, q34, q35, q36, q37, q38, q39, q39b, q40, q41, q42, q44, q45, q46, q47, q48, o_add, o_sub, o_mulR, o_mulL, o_mod, o_div, o_addS, o_addI, o_addL, o_addT, o_p18, o_neg, o_cmp, o_eqI, o_eqS, o_eqB, o_neI, o_neS, o_len1, o_len2, o_len3, o_lenS, o_int, o_ix1, o_ix2, o_ix3, o_tup, o_lst, o_list1, o_list2, o_tuple1, o_tuple2, o_max, o_min, o_slL, o_slT, o_slS, o_mulSt, o_isIint, o_isIbool, o_isIstr, o_isIlist, o_isItuple, o_isBint, o_isBbool, o_isBstr, o_isBlist, o_isBtuple, o_isSint, o_isSbool, o_isSstr, o_isSlist, o_isStuple, o_isLint, o_isLbool, o_isLstr, o_isLlist, o_isLtuple, o_isTint, o_isTbool, o_isTstr, o_isTlist, o_isTtuple, o_isNint, o_isNbool, o_isNstr, o_isNlist, o_isNtuple, o_allT, o_truB, o_truN, o_truI, o_truL, o_truT, q_sv1, q_sv2, view, fixSlot, wipeE, aName, aTup, aCons, aNil, List.map_cons, List.map_nil, List.length_cons, List.length_nil, List.cons_append, List.nil_append, List.replicate_succ, List.replicate_zero, List.getElem?_cons_zero, List.getElem?_cons_succ, List.set_cons_zero, List.set_cons_succ, Option.map_some, Option.map_none, reduceIte, Nat.reduceAdd, Nat.reduceEqDiff, Option.some.injEq, List.length_map, List.length_append, and_true, true_and, and_self, decide_true, decide_false, Int.reduceLT, Int.reduceNeg, Int.reduceLE, Int.reduceEq, Int.reduceMul, Int.reduceAdd, Int.reduceSub, Int.reduceMod, Int.reduceDiv, Nat.reduceLT, Nat.reduceLeDiff, Int.reducePow, Nat.reducePow, Int.reduceToNat, SV.imm.injEq, SV.own.injEq, W.int.injEq, W.str.injEq, W.bl.injEq, W.lst.injEq, W.tup.injEq, id_eq, exists_eq', exists_eq_left', Out.nx.injEq, Out.rt.injEq, Nat.zero_le, Int.toNat_natCast, not_true_eq_false, not_false_eq_true, Bool.not_true, Bool.not_false, Bool.false_and, Bool.true_and, Bool.and_true, Bool.and_false, Bool.true_or, Bool.false_or, Bool.or_true, Bool.or_false, Bool.false_eq_true, q_fld, r_fld, q_lrg1, r_lrg1, q_mk, q_fldI, r_fldI, o_fac, q_enum, r_enum1, r_enum2, r_enum3, q_dget, r_dget, q_dnew, q_dput, r_dput, q_clear, q_chain, r_chain, o_isN1, o_isN2, o_isN3, q_fs, r_fs3, r_fs4, r_fs5, at_i0, at_i1, at_i2, at_i3, q_fmt, q_txt, q_kd, r_kd, q_xl, r_xl, q_xpop, r_xpop, q_xnil, q_xcons, r_xc, r_xc2, q_xtup, r_xtup, q_appX, r_a0, r_a1, r_a2, q_setX, r_sx, o_ixK, o_slK, q39b, q_raise, q_metR, r_metR, q_fcx, rn]) (by simp; omega)]
    simp only [q_seq, q_if, q_fif, q_and, q_or, q_andV, q_orV, q_bin, q_binR, q_un, q_frz, q_imm, q_nil, q_cons, q_call, q_callW, q_c0, q_var, q_ret, q_set, q_aug, q_app, q_ext, q_pop, q_setIx, q_ixo, q_bor, q_tru, q_tst, q_not, q_notV, q_no, q_so, q_sl, q_sq, q_r1, q_r2, q_for, q_lc, q_asg, q_next, q_yes, q_fix, q_slot, q_drop, q_met, q_run, q1, q2, q2b, q2c, q3, q4, q5, q6, q7, q8, q9, q10, q11, q12, q13, q14, q15, q16, q17, q18, q19, q20, q21, q22, q23, q24, q25, q26, q27, q28, q29, q30, q31, q32, q33, q34, q35, q36, q37, q38, q39, q39b, q40, q41, q42, q44, q45, q46, q47, q48, o_add, o_sub, o_mulR, o_mulL, o_mod, o_div, o_addS, o_addI, o_addL, o_addT, o_p18, o_neg, o_cmp, o_eqI, o_eqS, o_eqB, o_neI, o_neS, o_len1, o_len2, o_len3, o_lenS, o_int, o_ix1, o_ix2, o_ix3, o_tup, o_lst, o_list1, o_list2, o_tuple1, o_tuple2, o_max, o_min, o_slL, o_slT, o_slS, o_mulSt, o_isIint, o_isIbool, o_isIstr, o_isIlist, o_isItuple, o_isBint, o_isBbool, o_isBstr, o_isBlist, o_isBtuple, o_isSint, o_isSbool, o_isSstr, o_isSlist, o_isStuple, o_isLint, o_isLbool, o_isLstr, o_isLlist, o_isLtuple, o_isTint, o_isTbool, o_isTstr, o_isTlist, o_isTtuple, o_isNint, o_isNbool, o_isNstr, o_isNlist, o_isNtuple, o_allT, o_truB, o_truN, o_truI, o_truL, o_truT, q_sv1, q_sv2, view, fixSlot, wipeE, aName, aTup, aCons, aNil, List.map_cons, List.map_nil, List.length_cons, List.length_nil, List.cons_append, List.nil_append, List.replicate_succ, List.replicate_zero, List.getElem?_cons_zero, List.getElem?_cons_succ, List.set_cons_zero, List.set_cons_succ, Option.map_some, Option.map_none, reduceIte, Nat.reduceAdd, Nat.reduceEqDiff, Option.some.injEq, List.length_map, List.length_append, and_true, true_and, and_self, decide_true, decide_false, Int.reduceLT, Int.reduceNeg, Int.reduceLE, Int.reduceEq, Int.reduceMul, Int.reduceAdd, Int.reduceSub, Int.reduceMod, Int.reduceDiv, Nat.reduceLT, Nat.reduceLeDiff, Int.reducePow, Nat.reducePow, Int.reduceToNat, SV.imm.injEq, SV.own.injEq, W.int.injEq, W.str.injEq, W.bl.injEq, W.lst.injEq, W.tup.injEq, id_eq, exists_eq', exists_eq_left', Out.nx.injEq, Out.rt.injEq, Nat.zero_le, Int.toNat_natCast, not_true_eq_false, not_false_eq_true, Bool.not_true, Bool.not_false, Bool.false_and, Bool.true_and, Bool.and_true, Bool.and_false, Bool.true_or, Bool.false_or, Bool.or_true, Bool.or_false, Bool.false_eq_true, q_fld, r_fld, q_lrg1, r_lrg1, q_mk, q_fldI, r_fldI, o_fac, q_enum, r_enum1, r_enum2, r_enum3, q_dget, r_dget, q_dnew, q_dput, r_dput, q_clear, q_chain, r_chain, o_isN1, o_isN2, o_isN3, q_fs, r_fs3, r_fs4, r_fs5, at_i0, at_i1, at_i2, at_i3, q_fmt, q_txt, q_kd, r_kd, q_xl, r_xl, q_xpop, r_xpop, q_xnil, q_xcons, r_xc, r_xc2, q_xtup, r_xtup, q_appX, r_a0, r_a1, r_a2, q_setX, r_sx, o_ixK, o_slK, q39b, q_raise, q_metR, r_metR, q_fcx, hw]
    rfl
theorem read_structure_ok {t : List Nat} (h : Asc t) : F_read_structure [.str (T t)] = some (match rdStr t with
    | some s => .ret (.imm (strW3 s))
    | none => .exc "InvalidPaper" "line" (.int 1)) := by
  have hs := split_T (c := 32) h (by decide)
  obtain ⟨ha, hc⟩ := cut_asc (c := 32) h
  have hl := h.2
  have hw := whole_ok (n := 2) (by decide) (f := layW) (fun r => nd_lay r) (fun _ => rfl) ((cut 32 t).map rdLay)
  have tt := tru_T (l := t) (by omega)
  have hB : B_read_structure [some (.imm (.str (T t))), none, none] = some (match rdStr t with
      | some s => .rt (.imm (strW3 s))
      | none => .ex "InvalidPaper" "line" (.int 1) [some (.imm (.str (T t))), some (.imm .non), none]) := by
    unfold B_read_structure
    by_cases he : t = []
    · have hd : rdStr t = some [] := if_pos he
      rw [hd]
      rw [decide_eq_false (fun z => z he)] at tt
      simp only [q_seq, q_if, q_fif, q_and, q_or, q_andV, q_orV, q_bin, q_binR, q_un, q_frz, q_imm, q_nil, q_cons, q_call, q_callW, q_c0, q_var, q_ret, q_set, q_aug, q_app, q_ext, q_pop, q_setIx, q_ixo, q_bor, q_tru, q_tst, q_not, q_notV, q_no, q_so, q_sl, q_sq, q_r1, q_r2, q_for, q_lc, q_asg, q_next, q_yes, q_fix, q_slot, q_drop, q_met, q_run, q1, q2, q2b, q2c, q3, q4, q5, q6, q7, q8, q9, q10, q11, q12, q13, q14, q15, q16, q17, q18, q19, q20, q21, q22, q23, q24, q25, q26, q27, q28, q29, q30, q31, q32, q33, q34, q35, q36, q37, q38, q39, q39b, q40, q41, q42, q44, q45, q46, q47, q48, o_add, o_sub, o_mulR, o_mulL, o_mod, o_div, o_addS, o_addI, o_addL, o_addT, o_p18, o_neg, o_cmp, o_eqI, o_eqS, o_eqB, o_neI, o_neS, o_len1, o_len2, o_len3, o_lenS, o_int, o_ix1, o_ix2, o_ix3, o_tup, o_lst, o_list1, o_list2, o_tuple1, o_tuple2, o_max, o_min, o_slL, o_slT, o_slS, o_mulSt, o_isIint, o_isIbool, o_isIstr, o_isIlist, o_isItuple, o_isBint, o_isBbool, o_isBstr, o_isBlist, o_isBtuple, o_isSint, o_isSbool, o_isSstr, o_isSlist, o_isStuple, o_isLint, o_isLbool, o_isLstr, o_isLlist, o_isLtuple, o_isTint, o_isTbool, o_isTstr, o_isTlist, o_isTtuple, o_isNint, o_isNbool, o_isNstr, o_isNlist, o_isNtuple, o_allT, o_truB, o_truN, o_truI, o_truL, o_truT, q_sv1, q_sv2, view, fixSlot, wipeE, aName, aTup, aCons, aNil, List.map_cons, List.map_nil, List.length_cons, List.length_nil, List.cons_append, List.nil_append, List.replicate_succ, List.replicate_zero, List.getElem?_cons_zero, List.getElem?_cons_succ, List.set_cons_zero, List.set_cons_succ, Option.map_some, Option.map_none, reduceIte, Nat.reduceAdd, Nat.reduceEqDiff, Option.some.injEq, List.length_map, List.length_append, and_true, true_and, and_self, decide_true, decide_false, Int.reduceLT, Int.reduceNeg, Int.reduceLE, Int.reduceEq, Int.reduceMul, Int.reduceAdd, Int.reduceSub, Int.reduceMod, Int.reduceDiv, Nat.reduceLT, Nat.reduceLeDiff, Int.reducePow, Nat.reducePow, Int.reduceToNat, SV.imm.injEq, SV.own.injEq, W.int.injEq, W.str.injEq, W.bl.injEq, W.lst.injEq, W.tup.injEq, id_eq, exists_eq', exists_eq_left', Out.nx.injEq, Out.rt.injEq, Nat.zero_le, Int.toNat_natCast, not_true_eq_false, not_false_eq_true, Bool.not_true, Bool.not_false, Bool.false_and, Bool.true_and, Bool.and_true, Bool.and_false, Bool.true_or, Bool.false_or, Bool.or_true, Bool.or_false, Bool.false_eq_true, q_fld, r_fld, q_lrg1, r_lrg1, q_mk, q_fldI, r_fldI, o_fac, q_enum, r_enum1, r_enum2, r_enum3, q_dget, r_dget, q_dnew, q_dput, r_dput, q_clear, q_chain, r_chain, o_isN1, o_isN2, o_isN3, q_fs, r_fs3, r_fs4, r_fs5, at_i0, at_i1, at_i2, at_i3, q_fmt, q_txt, q_kd, r_kd, q_xl, r_xl, q_xpop, r_xpop, q_xnil, q_xcons, r_xc, r_xc2, q_xtup, r_xtup, q_appX, r_a0, r_a1, r_a2, q_setX, r_sx, o_ixK, o_slK, q39b, q_raise, q_metR, r_metR, q_fcx, tt]
      rfl
    · have hd : rdStr t = seqO ((cut 32 t).map rdLay) := if_neg he
      rw [hd]
      rw [decide_eq_true he] at tt
      simp only [q_seq, q_if, q_fif, q_and, q_or, q_andV, q_orV, q_bin, q_binR, q_un, q_frz, q_imm, q_nil, q_cons, q_call, q_callW, q_c0, q_var, q_ret, q_set, q_aug, q_app, q_ext, q_pop, q_setIx, q_ixo, q_bor, q_tru, q_tst, q_not, q_notV, q_no, q_so, q_sl, q_sq, q_r1, q_r2, q_for, q_lc, q_asg, q_next, q_yes, q_fix, q_slot, q_drop, q_met, q_run, q1, q2, q2b, q2c, q3, q4, q5, q6, q7, q8, q9, q10, q11, q12, q13, q14, q15, q16, q17, q18, q19, q20, q21, q22, q23, q24, q25, q26, q27, q28, q29, q30, q31, q32, q33, q34, q35, q36, q37, q38, q39, q39b, q40, q41, q42, q44, q45, q46, q47, q48, o_add, o_sub, o_mulR, o_mulL, o_mod, o_div, o_addS, o_addI, o_addL, o_addT, o_p18, o_neg, o_cmp, o_eqI, o_eqS, o_eqB, o_neI, o_neS, o_len1, o_len2, o_len3, o_lenS, o_int, o_ix1, o_ix2, o_ix3, o_tup, o_lst, o_list1, o_list2, o_tuple1, o_tuple2, o_max, o_min, o_slL, o_slT, o_slS, o_mulSt, o_isIint, o_isIbool, o_isIstr, o_isIlist, o_isItuple, o_isBint, o_isBbool, o_isBstr, o_isBlist, o_isBtuple, o_isSint, o_isSbool, o_isSstr, o_isSlist, o_isStuple, o_isLint, o_isLbool, o_isLstr, o_isLlist, o_isLtuple, o_isTint, o_isTbool, o_isTstr, o_isTlist, o_isTtuple, o_isNint, o_isNbool, o_isNstr, o_isNlist, o_isNtuple, o_allT, o_truB, o_truN, o_truI, o_truL, o_truT, q_sv1, q_sv2, view, fixSlot, wipeE, aName, aTup, aCons, aNil, List.map_cons, List.map_nil, List.length_cons, List.length_nil, List.cons_append, List.nil_append, List.replicate_succ, List.replicate_zero, List.getElem?_cons_zero, List.getElem?_cons_succ, List.set_cons_zero, List.set_cons_succ, Option.map_some, Option.map_none, reduceIte, Nat.reduceAdd, Nat.reduceEqDiff, Option.some.injEq, List.length_map, List.length_append, and_true, true_and, and_self, decide_true, decide_false, Int.reduceLT, Int.reduceNeg, Int.reduceLE, Int.reduceEq, Int.reduceMul, Int.reduceAdd, Int.reduceSub, Int.reduceMod, Int.reduceDiv, Nat.reduceLT, Nat.reduceLeDiff, Int.reducePow, Nat.reducePow, Int.reduceToNat, SV.imm.injEq, SV.own.injEq, W.int.injEq, W.str.injEq, W.bl.injEq, W.lst.injEq, W.tup.injEq, id_eq, exists_eq', exists_eq_left', Out.nx.injEq, Out.rt.injEq, Nat.zero_le, Int.toNat_natCast, not_true_eq_false, not_false_eq_true, Bool.not_true, Bool.not_false, Bool.false_and, Bool.true_and, Bool.and_true, Bool.and_false, Bool.true_or, Bool.false_or, Bool.or_true, Bool.or_false, Bool.false_eq_true, q_fld, r_fld, q_lrg1, r_lrg1, q_mk, q_fldI, r_fldI, o_fac, q_enum, r_enum1, r_enum2, r_enum3, q_dget, r_dget, q_dnew, q_dput, r_dput, q_clear, q_chain, r_chain, o_isN1, o_isN2, o_isN3, q_fs, r_fs3, r_fs4, r_fs5, at_i0, at_i1, at_i2, at_i3, q_fmt, q_txt, q_kd, r_kd, q_xl, r_xl, q_xpop, r_xpop, q_xnil, q_xcons, r_xc, r_xc2, q_xtup, r_xtup, q_appX, r_a0, r_a1, r_a2, q_setX, r_sx, o_ixK, o_slK, q39b, q_raise, q_metR, r_metR, q_fcx, tt, s_blank, hs]
      rw [q43 (lc_map (f := sW) (g' := optW layW) (k := rdLay) fun p hp => by
        have rn := read_layer_ok (ha p hp)
        simp only [q_seq, q_if, q_fif, q_and, q_or, q_andV, q_orV, q_bin, q_binR, q_un, q_frz, q_imm, q_nil, q_cons, q_call, q_callW, q_c0, q_var, q_ret, q_set, q_aug, q_app, q_ext, q_pop, q_setIx, q_ixo, q_bor, q_tru, q_tst, q_not, q_notV, q_no, q_so, q_sl, q_sq, q_r1, q_r2, q_for, q_lc, q_asg, q_next, q_yes, q_fix, q_slot, q_drop, q_met, q_run, q1, q2, q2b, q2c, q3, q4, q5, q6, q7, q8, q9, q10, q11, q12, q13, q14, q15, q16, q17, q18, q19, q20, q21, q22, q23, q24, q25, q26, q27, q28, q29, q30, q31, q32, q33, q34, q35, q36, q37, q38, q39, q39b, q40, q41, q42, q44, q45, q46, q47, q48, o_add, o_sub, o_mulR, o_mulL, o_mod, o_div, o_addS, o_addI, o_addL, o_addT, o_p18, o_neg, o_cmp, o_eqI, o_eqS, o_eqB, o_neI, o_neS, o_len1, o_len2, o_len3, o_lenS, o_int, o_ix1, o_ix2, o_ix3, o_tup, o_lst, o_list1, o_list2, o_tuple1, o_tuple2, o_max, o_min, o_slL, o_slT, o_slS, o_mulSt, o_isIint, o_isIbool, o_isIstr, o_isIlist, o_isItuple, o_isBint, o_isBbool, o_isBstr, o_isBlist, o_isBtuple, o_isSint, o_isSbool, o_isSstr, o_isSlist, o_isStuple, o_isLint, o_isLbool, o_isLstr, o_isLlist, o_isLtuple, o_isTint, o_isTbool, o_isTstr, o_isTlist, o_isTtuple, o_isNint, o_isNbool, o_isNstr, o_isNlist, o_isNtuple, o_allT, o_truB, o_truN, o_truI, o_truL, o_truT, q_sv1, q_sv2, view, fixSlot, wipeE, aName, aTup, aCons, aNil, List.map_cons, List.map_nil, List.length_cons, List.length_nil, List.cons_append, List.nil_append, List.replicate_succ, List.replicate_zero, List.getElem?_cons_zero, List.getElem?_cons_succ, List.set_cons_zero, List.set_cons_succ, Option.map_some, Option.map_none, reduceIte, Nat.reduceAdd, Nat.reduceEqDiff, Option.some.injEq, List.length_map, List.length_append, and_true, true_and, and_self, decide_true, decide_false, Int.reduceLT, Int.reduceNeg, Int.reduceLE, Int.reduceEq, Int.reduceMul, Int.reduceAdd, Int.reduceSub, Int.reduceMod, Int.reduceDiv, Nat.reduceLT, Nat.reduceLeDiff, Int.reducePow, Nat.reducePow, Int.reduceToNat, SV.imm.injEq, SV.own.injEq, W.int.injEq, W.str.injEq, W.bl.injEq, W.lst.injEq, W.tup.injEq, id_eq, exists_eq', exists_eq_left', Out.nx.injEq, Out.rt.injEq, Nat.zero_le, Int.toNat_natCast, not_true_eq_false, not_false_eq_true, Bool.not_true, Bool.not_false, Bool.false_and, Bool.true_and, Bool.and_true, Bool.and_false, Bool.true_or, Bool.false_or, Bool.or_true, Bool.or_false, Bool.false_eq_true, q_fld, r_fld, q_lrg1, r_lrg1, q_mk, q_fldI, r_fldI, o_fac, q_enum, r_enum1, r_enum2, r_enum3, q_dget, r_dget, q_dnew, q_dput, r_dput, q_clear, q_chain, r_chain, o_isN1, o_isN2, o_isN3, q_fs, r_fs3, r_fs4, r_fs5, at_i0, at_i1, at_i2, at_i3, q_fmt, q_txt, q_kd, r_kd, q_xl, r_xl, q_xpop, r_xpop, q_xnil, q_xcons, r_xc, r_xc2, q_xtup, r_xtup, q_appX, r_a0, r_a1, r_a2, q_setX, r_sx, o_ixK, o_slK, q39b, q_raise, q_metR, r_metR, q_fcx, rn]) (by simp; omega)]
      cases hq : seqO ((cut 32 t).map rdLay) with
      | none =>
        rw [hq] at hw
        have hw' : F_whole [.lst (((cut 32 t).map rdLay).map (optW layW))] = some (.imm .non) := hw
        simp only [q_seq, q_if, q_fif, q_and, q_or, q_andV, q_orV, q_bin, q_binR, q_un, q_frz, q_imm, q_nil, q_cons, q_call, q_callW, q_c0, q_var, q_ret, q_set, q_aug, q_app, q_ext, q_pop, q_setIx, q_ixo, q_bor, q_tru, q_tst, q_not, q_notV, q_no, q_so, q_sl, q_sq, q_r1, q_r2, q_for, q_lc, q_asg, q_next, q_yes, q_fix, q_slot, q_drop, q_met, q_run, q1, q2, q2b, q2c, q3, q4, q5, q6, q7, q8, q9, q10, q11, q12, q13, q14, q15, q16, q17, q18, q19, q20, q21, q22, q23, q24, q25, q26, q27, q28, q29, q30, q31, q32, q33, q34, q35, q36, q37, q38, q39, q39b, q40, q41, q42, q44, q45, q46, q47, q48, o_add, o_sub, o_mulR, o_mulL, o_mod, o_div, o_addS, o_addI, o_addL, o_addT, o_p18, o_neg, o_cmp, o_eqI, o_eqS, o_eqB, o_neI, o_neS, o_len1, o_len2, o_len3, o_lenS, o_int, o_ix1, o_ix2, o_ix3, o_tup, o_lst, o_list1, o_list2, o_tuple1, o_tuple2, o_max, o_min, o_slL, o_slT, o_slS, o_mulSt, o_isIint, o_isIbool, o_isIstr, o_isIlist, o_isItuple, o_isBint, o_isBbool, o_isBstr, o_isBlist, o_isBtuple, o_isSint, o_isSbool, o_isSstr, o_isSlist, o_isStuple, o_isLint, o_isLbool, o_isLstr, o_isLlist, o_isLtuple, o_isTint, o_isTbool, o_isTstr, o_isTlist, o_isTtuple, o_isNint, o_isNbool, o_isNstr, o_isNlist, o_isNtuple, o_allT, o_truB, o_truN, o_truI, o_truL, o_truT, q_sv1, q_sv2, view, fixSlot, wipeE, aName, aTup, aCons, aNil, List.map_cons, List.map_nil, List.length_cons, List.length_nil, List.cons_append, List.nil_append, List.replicate_succ, List.replicate_zero, List.getElem?_cons_zero, List.getElem?_cons_succ, List.set_cons_zero, List.set_cons_succ, Option.map_some, Option.map_none, reduceIte, Nat.reduceAdd, Nat.reduceEqDiff, Option.some.injEq, List.length_map, List.length_append, and_true, true_and, and_self, decide_true, decide_false, Int.reduceLT, Int.reduceNeg, Int.reduceLE, Int.reduceEq, Int.reduceMul, Int.reduceAdd, Int.reduceSub, Int.reduceMod, Int.reduceDiv, Nat.reduceLT, Nat.reduceLeDiff, Int.reducePow, Nat.reducePow, Int.reduceToNat, SV.imm.injEq, SV.own.injEq, W.int.injEq, W.str.injEq, W.bl.injEq, W.lst.injEq, W.tup.injEq, id_eq, exists_eq', exists_eq_left', Out.nx.injEq, Out.rt.injEq, Nat.zero_le, Int.toNat_natCast, not_true_eq_false, not_false_eq_true, Bool.not_true, Bool.not_false, Bool.false_and, Bool.true_and, Bool.and_true, Bool.and_false, Bool.true_or, Bool.false_or, Bool.or_true, Bool.or_false, Bool.false_eq_true, q_fld, r_fld, q_lrg1, r_lrg1, q_mk, q_fldI, r_fldI, o_fac, q_enum, r_enum1, r_enum2, r_enum3, q_dget, r_dget, q_dnew, q_dput, r_dput, q_clear, q_chain, r_chain, o_isN1, o_isN2, o_isN3, q_fs, r_fs3, r_fs4, r_fs5, at_i0, at_i1, at_i2, at_i3, q_fmt, q_txt, q_kd, r_kd, q_xl, r_xl, q_xpop, r_xpop, q_xnil, q_xcons, r_xc, r_xc2, q_xtup, r_xtup, q_appX, r_a0, r_a1, r_a2, q_setX, r_sx, o_ixK, o_slK, q39b, q_raise, q_metR, r_metR, q_fcx, hw', r_raise, okF, Int.natAbs_one]
        rfl
      | some s =>
        rw [hq] at hw
        have hw' : F_whole [.lst (((cut 32 t).map rdLay).map (optW layW))] = some (.imm (.tup (s.map layW))) := hw
        simp only [q_seq, q_if, q_fif, q_and, q_or, q_andV, q_orV, q_bin, q_binR, q_un, q_frz, q_imm, q_nil, q_cons, q_call, q_callW, q_c0, q_var, q_ret, q_set, q_aug, q_app, q_ext, q_pop, q_setIx, q_ixo, q_bor, q_tru, q_tst, q_not, q_notV, q_no, q_so, q_sl, q_sq, q_r1, q_r2, q_for, q_lc, q_asg, q_next, q_yes, q_fix, q_slot, q_drop, q_met, q_run, q1, q2, q2b, q2c, q3, q4, q5, q6, q7, q8, q9, q10, q11, q12, q13, q14, q15, q16, q17, q18, q19, q20, q21, q22, q23, q24, q25, q26, q27, q28, q29, q30, q31, q32, q33, q34, q35, q36, q37, q38, q39, q39b, q40, q41, q42, q44, q45, q46, q47, q48, o_add, o_sub, o_mulR, o_mulL, o_mod, o_div, o_addS, o_addI, o_addL, o_addT, o_p18, o_neg, o_cmp, o_eqI, o_eqS, o_eqB, o_neI, o_neS, o_len1, o_len2, o_len3, o_lenS, o_int, o_ix1, o_ix2, o_ix3, o_tup, o_lst, o_list1, o_list2, o_tuple1, o_tuple2, o_max, o_min, o_slL, o_slT, o_slS, o_mulSt, o_isIint, o_isIbool, o_isIstr, o_isIlist, o_isItuple, o_isBint, o_isBbool, o_isBstr, o_isBlist, o_isBtuple, o_isSint, o_isSbool, o_isSstr, o_isSlist, o_isStuple, o_isLint, o_isLbool, o_isLstr, o_isLlist, o_isLtuple, o_isTint, o_isTbool, o_isTstr, o_isTlist, o_isTtuple, o_isNint, o_isNbool, o_isNstr, o_isNlist, o_isNtuple, o_allT, o_truB, o_truN, o_truI, o_truL, o_truT, q_sv1, q_sv2, view, fixSlot, wipeE, aName, aTup, aCons, aNil, List.map_cons, List.map_nil, List.length_cons, List.length_nil, List.cons_append, List.nil_append, List.replicate_succ, List.replicate_zero, List.getElem?_cons_zero, List.getElem?_cons_succ, List.set_cons_zero, List.set_cons_succ, Option.map_some, Option.map_none, reduceIte, Nat.reduceAdd, Nat.reduceEqDiff, Option.some.injEq, List.length_map, List.length_append, and_true, true_and, and_self, decide_true, decide_false, Int.reduceLT, Int.reduceNeg, Int.reduceLE, Int.reduceEq, Int.reduceMul, Int.reduceAdd, Int.reduceSub, Int.reduceMod, Int.reduceDiv, Nat.reduceLT, Nat.reduceLeDiff, Int.reducePow, Nat.reducePow, Int.reduceToNat, SV.imm.injEq, SV.own.injEq, W.int.injEq, W.str.injEq, W.bl.injEq, W.lst.injEq, W.tup.injEq, id_eq, exists_eq', exists_eq_left', Out.nx.injEq, Out.rt.injEq, Nat.zero_le, Int.toNat_natCast, not_true_eq_false, not_false_eq_true, Bool.not_true, Bool.not_false, Bool.false_and, Bool.true_and, Bool.and_true, Bool.and_false, Bool.true_or, Bool.false_or, Bool.or_true, Bool.or_false, Bool.false_eq_true, q_fld, r_fld, q_lrg1, r_lrg1, q_mk, q_fldI, r_fldI, o_fac, q_enum, r_enum1, r_enum2, r_enum3, q_dget, r_dget, q_dnew, q_dput, r_dput, q_clear, q_chain, r_chain, o_isN1, o_isN2, o_isN3, q_fs, r_fs3, r_fs4, r_fs5, at_i0, at_i1, at_i2, at_i3, q_fmt, q_txt, q_kd, r_kd, q_xl, r_xl, q_xpop, r_xpop, q_xnil, q_xcons, r_xc, r_xc2, q_xtup, r_xtup, q_appX, r_a0, r_a1, r_a2, q_setX, r_sx, o_ixK, o_slK, q39b, q_raise, q_metR, r_metR, q_fcx, hw']
        rfl
  unfold F_read_structure runX
  rw [if_pos (show [W.str (T t)].length = 1 from rfl)]
  show (match B_read_structure [some (.imm (.str (T t))), none, none] with
    | some (.rt sv) => some (RX.ret sv)
    | some (.nx _) => some (RX.ret (.imm .non))
    | some (.ex x fn w _) => some (RX.exc x fn w)
    | _ => none) = _
  rw [hB]
  cases rdStr t <;> rfl
end Qw
namespace Qw
open PySem PySem.Spec PyProof.Rows L2 Nz
def PLwd (l : List (List Nat)) (i : Nat) (e : En) : Prop := ∃ s2 : Option SV, e = [some (.imm (layW l)), some (.own (.lst (((l.take i).map rowL).map sW))), s2, none]
theorem take_snoc {α : Type} {l : List α} {i : Nat} {x : α} (h : l[i]? = some x) : l.take (i + 1) = l.take i ++ [x] := by
  rw [List.take_add_one, h]
  rfl
theorem layer_word_ok {l : List (List Nat)} (h : LOk l) : F_layer_word [layW l] = some (.imm (.str (T (layL l)))) := by
  have h0 := h.1
  unfold F_layer_word B_layer_word layL
  by_cases hl : l = []
  · subst hl
    unfold layW
    simp only [q_seq, q_if, q_fif, q_and, q_or, q_andV, q_orV, q_bin, q_binR, q_un, q_frz, q_imm, q_nil, q_cons, q_call, q_callW, q_c0, q_var, q_ret, q_set, q_aug, q_app, q_ext, q_pop, q_setIx, q_ixo, q_bor, q_tru, q_tst, q_not, q_notV, q_no, q_so, q_sl, q_sq, q_r1, q_r2, q_for, q_lc, q_asg, q_next, q_yes, q_fix, q_slot, q_drop, q_met, q_run, q1, q2, q2b, q2c, q3, q4, q5, q6, q7, q8, q9, q10, q11, q12, q13, q14, q15, q16, q17, q18, q19, q20, q21, q22, q23, q24, q25, q26, q27, q28, q29, q30, q31, q32, q33, q34, q35, q36, q37, q38, q39, q39b, q40, q41, q42, q44, q45, q46, q47, q48, o_add, o_sub, o_mulR, o_mulL, o_mod, o_div, o_addS, o_addI, o_addL, o_addT, o_p18, o_neg, o_cmp, o_eqI, o_eqS, o_eqB, o_neI, o_neS, o_len1, o_len2, o_len3, o_lenS, o_int, o_ix1, o_ix2, o_ix3, o_tup, o_lst, o_list1, o_list2, o_tuple1, o_tuple2, o_max, o_min, o_slL, o_slT, o_slS, o_mulSt, o_isIint, o_isIbool, o_isIstr, o_isIlist, o_isItuple, o_isBint, o_isBbool, o_isBstr, o_isBlist, o_isBtuple, o_isSint, o_isSbool, o_isSstr, o_isSlist, o_isStuple, o_isLint, o_isLbool, o_isLstr, o_isLlist, o_isLtuple, o_isTint, o_isTbool, o_isTstr, o_isTlist, o_isTtuple, o_isNint, o_isNbool, o_isNstr, o_isNlist, o_isNtuple, o_allT, o_truB, o_truN, o_truI, o_truL, o_truT, q_sv1, q_sv2, view, fixSlot, wipeE, aName, aTup, aCons, aNil, List.map_cons, List.map_nil, List.length_cons, List.length_nil, List.cons_append, List.nil_append, List.replicate_succ, List.replicate_zero, List.getElem?_cons_zero, List.getElem?_cons_succ, List.set_cons_zero, List.set_cons_succ, Option.map_some, Option.map_none, reduceIte, Nat.reduceAdd, Nat.reduceEqDiff, Option.some.injEq, List.length_map, List.length_append, and_true, true_and, and_self, decide_true, decide_false, Int.reduceLT, Int.reduceNeg, Int.reduceLE, Int.reduceEq, Int.reduceMul, Int.reduceAdd, Int.reduceSub, Int.reduceMod, Int.reduceDiv, Nat.reduceLT, Nat.reduceLeDiff, Int.reducePow, Nat.reducePow, Int.reduceToNat, SV.imm.injEq, SV.own.injEq, W.int.injEq, W.str.injEq, W.bl.injEq, W.lst.injEq, W.tup.injEq, id_eq, exists_eq', exists_eq_left', Out.nx.injEq, Out.rt.injEq, Nat.zero_le, Int.toNat_natCast, not_true_eq_false, not_false_eq_true, Bool.not_true, Bool.not_false, Bool.false_and, Bool.true_and, Bool.and_true, Bool.and_false, Bool.true_or, Bool.false_or, Bool.or_true, Bool.or_false, Bool.false_eq_true, q_fld, r_fld, q_lrg1, r_lrg1, q_mk, q_fldI, r_fldI, o_fac, q_enum, r_enum1, r_enum2, r_enum3, q_dget, r_dget, q_dnew, q_dput, r_dput, q_clear, q_chain, r_chain, o_isN1, o_isN2, o_isN3, q_fs, r_fs3, r_fs4, r_fs5, at_i0, at_i1, at_i2, at_i3, q_fmt, q_txt, q_kd, r_kd, q_xl, r_xl, q_xpop, r_xpop, q_xnil, q_xcons, r_xc, r_xc2, q_xtup, r_xtup, q_appX, r_a0, r_a1, r_a2, q_setX, r_sx, o_ixK, o_slK, q39b, q_raise, q_metR, r_metR, q_fcx, s_dot, Int.natCast_zero]
  · rw [if_neg hl]
    have hp : ¬ ((l.length : Int) = 0) := by
      have := List.length_pos_iff.mpr hl
      omega
    have lw : lenW [layW l] = some (.int (l.length : Int)) := by
      unfold layW
      rw [o_len2, List.length_map]
    have sq : bSeq (some (layW l)) = some (l.map rowW) := rfl
    simp only [q_seq, q_if, q_fif, q_and, q_or, q_andV, q_orV, q_bin, q_binR, q_un, q_frz, q_imm, q_nil, q_cons, q_call, q_callW, q_c0, q_var, q_ret, q_set, q_aug, q_app, q_ext, q_pop, q_setIx, q_ixo, q_bor, q_tru, q_tst, q_not, q_notV, q_no, q_so, q_sl, q_sq, q_r1, q_r2, q_for, q_lc, q_asg, q_next, q_yes, q_fix, q_slot, q_drop, q_met, q_run, q1, q2, q2b, q2c, q3, q4, q5, q6, q7, q8, q9, q10, q11, q12, q13, q14, q15, q16, q17, q18, q19, q20, q21, q22, q23, q24, q25, q26, q27, q28, q29, q30, q31, q32, q33, q34, q35, q36, q37, q38, q39, q39b, q40, q41, q42, q44, q45, q46, q47, q48, o_add, o_sub, o_mulR, o_mulL, o_mod, o_div, o_addS, o_addI, o_addL, o_addT, o_p18, o_neg, o_cmp, o_eqI, o_eqS, o_eqB, o_neI, o_neS, o_len1, o_len2, o_len3, o_lenS, o_int, o_ix1, o_ix2, o_ix3, o_tup, o_lst, o_list1, o_list2, o_tuple1, o_tuple2, o_max, o_min, o_slL, o_slT, o_slS, o_mulSt, o_isIint, o_isIbool, o_isIstr, o_isIlist, o_isItuple, o_isBint, o_isBbool, o_isBstr, o_isBlist, o_isBtuple, o_isSint, o_isSbool, o_isSstr, o_isSlist, o_isStuple, o_isLint, o_isLbool, o_isLstr, o_isLlist, o_isLtuple, o_isTint, o_isTbool, o_isTstr, o_isTlist, o_isTtuple, o_isNint, o_isNbool, o_isNstr, o_isNlist, o_isNtuple, o_allT, o_truB, o_truN, o_truI, o_truL, o_truT, q_sv1, q_sv2, view, fixSlot, wipeE, aName, aTup, aCons, aNil, List.map_cons, List.map_nil, List.length_cons, List.length_nil, List.cons_append, List.nil_append, List.replicate_succ, List.replicate_zero, List.getElem?_cons_zero, List.getElem?_cons_succ, List.set_cons_zero, List.set_cons_succ, Option.map_some, Option.map_none, reduceIte, Nat.reduceAdd, Nat.reduceEqDiff, Option.some.injEq, List.length_map, List.length_append, and_true, true_and, and_self, decide_true, decide_false, Int.reduceLT, Int.reduceNeg, Int.reduceLE, Int.reduceEq, Int.reduceMul, Int.reduceAdd, Int.reduceSub, Int.reduceMod, Int.reduceDiv, Nat.reduceLT, Nat.reduceLeDiff, Int.reducePow, Nat.reducePow, Int.reduceToNat, SV.imm.injEq, SV.own.injEq, W.int.injEq, W.str.injEq, W.bl.injEq, W.lst.injEq, W.tup.injEq, id_eq, exists_eq', exists_eq_left', Out.nx.injEq, Out.rt.injEq, Nat.zero_le, Int.toNat_natCast, not_true_eq_false, not_false_eq_true, Bool.not_true, Bool.not_false, Bool.false_and, Bool.true_and, Bool.and_true, Bool.and_false, Bool.true_or, Bool.false_or, Bool.or_true, Bool.or_false, Bool.false_eq_true, q_fld, r_fld, q_lrg1, r_lrg1, q_mk, q_fldI, r_fldI, o_fac, q_enum, r_enum1, r_enum2, r_enum3, q_dget, r_dget, q_dnew, q_dput, r_dput, q_clear, q_chain, r_chain, o_isN1, o_isN2, o_isN3, q_fs, r_fs3, r_fs4, r_fs5, at_i0, at_i1, at_i2, at_i3, q_fmt, q_txt, q_kd, r_kd, q_xl, r_xl, q_xpop, r_xpop, q_xnil, q_xcons, r_xc, r_xc2, q_xtup, r_xtup, q_appX, r_a0, r_a1, r_a2, q_setX, r_sx, o_ixK, o_slK, q39b, q_raise, q_metR, r_metR, q_fcx, lw, hp, sq]
    generalize hL : loopW _ _ _ _ = L
    obtain ⟨e', rfl, s2, rfl⟩ := loop_is hL (PLwd l) ⟨none, rfl⟩ (by
      rintro i w e hw ⟨s2, rfl⟩
      obtain ⟨r, hr, rfl⟩ := mget hw
      have hrm := h.2 r (List.mem_of_getElem? hr)
      have hi := (List.getElem?_eq_some_iff.mp hr).1
      have room : (l.take i).length < 16777216 := by rw [List.length_take]; omega
      have lr : lenW [rowW r] = some (.int (r.length : Int)) := by
        unfold rowW
        rw [o_len2, List.length_map]
      have sr : bSeq (some (rowW r)) = some (r.map nW) := rfl
      have fin : ∃ s2 : Option SV, ([some (.imm (layW l)), some (.own (.lst (((l.take i).map rowL).map sW ++ [sW (rowL r)]))), some (.imm (rowW r)), none] : En) = [some (.imm (layW l)), some (.own (.lst (((l.take (i + 1)).map rowL).map sW))), s2, none] :=
        ⟨_, by rw [take_snoc hr, List.map_append, List.map_append]; rfl⟩
      by_cases r0 : r = []
      · subst r0
        simp only [q_seq, q_if, q_fif, q_and, q_or, q_andV, q_orV, q_bin, q_binR, q_un, q_frz, q_imm, q_nil, q_cons, q_call, q_callW, q_c0, q_var, q_ret, q_set, q_aug, q_app, q_ext, q_pop, q_setIx, q_ixo, q_bor, q_tru, q_tst, q_not, q_notV, q_no, q_so, q_sl, q_sq, q_r1, q_r2, q_for, q_lc, q_asg, q_next, q_yes, q_fix, q_slot, q_drop, q_met, q_run, q1, q2, q2b, q2c, q3, q4, q5, q6, q7, q8, q9, q10, q11, q12, q13, q14, q15, q16, q17, q18, q19, q20, q21, q22, q23, q24, q25, q26, q27, q28, q29, q30, q31, q32, q33, q34, q35, q36, q37, q38, q39, q39b, q40, q41, q42, q44, q45, q46, q47, q48, o_add, o_sub, o_mulR, o_mulL, o_mod, o_div, o_addS, o_addI, o_addL, o_addT, o_p18, o_neg, o_cmp, o_eqI, o_eqS, o_eqB, o_neI, o_neS, o_len1, o_len2, o_len3, o_lenS, o_int, o_ix1, o_ix2, o_ix3, o_tup, o_lst, o_list1, o_list2, o_tuple1, o_tuple2, o_max, o_min, o_slL, o_slT, o_slS, o_mulSt, o_isIint, o_isIbool, o_isIstr, o_isIlist, o_isItuple, o_isBint, o_isBbool, o_isBstr, o_isBlist, o_isBtuple, o_isSint, o_isSbool, o_isSstr, o_isSlist, o_isStuple, o_isLint, o_isLbool, o_isLstr, o_isLlist, o_isLtuple, o_isTint, o_isTbool, o_isTstr, o_isTlist, o_isTtuple, o_isNint, o_isNbool, o_isNstr, o_isNlist, o_isNtuple, o_allT, o_truB, o_truN, o_truI, o_truL, o_truT, q_sv1, q_sv2, view, fixSlot, wipeE, aName, aTup, aCons, aNil, List.map_cons, List.map_nil, List.length_cons, List.length_nil, List.cons_append, List.nil_append, List.replicate_succ, List.replicate_zero, List.getElem?_cons_zero, List.getElem?_cons_succ, List.set_cons_zero, List.set_cons_succ, Option.map_some, Option.map_none, reduceIte, Nat.reduceAdd, Nat.reduceEqDiff, Option.some.injEq, List.length_map, List.length_append, and_true, true_and, and_self, decide_true, decide_false, Int.reduceLT, Int.reduceNeg, Int.reduceLE, Int.reduceEq, Int.reduceMul, Int.reduceAdd, Int.reduceSub, Int.reduceMod, Int.reduceDiv, Nat.reduceLT, Nat.reduceLeDiff, Int.reducePow, Nat.reducePow, Int.reduceToNat, SV.imm.injEq, SV.own.injEq, W.int.injEq, W.str.injEq, W.bl.injEq, W.lst.injEq, W.tup.injEq, id_eq, exists_eq', exists_eq_left', Out.nx.injEq, Out.rt.injEq, Nat.zero_le, Int.toNat_natCast, not_true_eq_false, not_false_eq_true, Bool.not_true, Bool.not_false, Bool.false_and, Bool.true_and, Bool.and_true, Bool.and_false, Bool.true_or, Bool.false_or, Bool.or_true, Bool.or_false, Bool.false_eq_true, q_fld, r_fld, q_lrg1, r_lrg1, q_mk, q_fldI, r_fldI, o_fac, q_enum, r_enum1, r_enum2, r_enum3, q_dget, r_dget, q_dnew, q_dput, r_dput, q_clear, q_chain, r_chain, o_isN1, o_isN2, o_isN3, q_fs, r_fs3, r_fs4, r_fs5, at_i0, at_i1, at_i2, at_i3, q_fmt, q_txt, q_kd, r_kd, q_xl, r_xl, q_xpop, r_xpop, q_xnil, q_xcons, r_xc, r_xc2, q_xtup, r_xtup, q_appX, r_a0, r_a1, r_a2, q_setX, r_sx, o_ixK, o_slK, q39b, q_raise, q_metR, r_metR, q_fcx, lr, s_minus, room, Int.natCast_zero]
        exact fin
      · have rp : ¬ ((r.length : Int) = 0) := by
          have := List.length_pos_iff.mpr r0
          omega
        simp only [q_seq, q_if, q_fif, q_and, q_or, q_andV, q_orV, q_bin, q_binR, q_un, q_frz, q_imm, q_nil, q_cons, q_call, q_callW, q_c0, q_var, q_ret, q_set, q_aug, q_app, q_ext, q_pop, q_setIx, q_ixo, q_bor, q_tru, q_tst, q_not, q_notV, q_no, q_so, q_sl, q_sq, q_r1, q_r2, q_for, q_lc, q_asg, q_next, q_yes, q_fix, q_slot, q_drop, q_met, q_run, q1, q2, q2b, q2c, q3, q4, q5, q6, q7, q8, q9, q10, q11, q12, q13, q14, q15, q16, q17, q18, q19, q20, q21, q22, q23, q24, q25, q26, q27, q28, q29, q30, q31, q32, q33, q34, q35, q36, q37, q38, q39, q39b, q40, q41, q42, q44, q45, q46, q47, q48, o_add, o_sub, o_mulR, o_mulL, o_mod, o_div, o_addS, o_addI, o_addL, o_addT, o_p18, o_neg, o_cmp, o_eqI, o_eqS, o_eqB, o_neI, o_neS, o_len1, o_len2, o_len3, o_lenS, o_int, o_ix1, o_ix2, o_ix3, o_tup, o_lst, o_list1, o_list2, o_tuple1, o_tuple2, o_max, o_min, o_slL, o_slT, o_slS, o_mulSt, o_isIint, o_isIbool, o_isIstr, o_isIlist, o_isItuple, o_isBint, o_isBbool, o_isBstr, o_isBlist, o_isBtuple, o_isSint, o_isSbool, o_isSstr, o_isSlist, o_isStuple, o_isLint, o_isLbool, o_isLstr, o_isLlist, o_isLtuple, o_isTint, o_isTbool, o_isTstr, o_isTlist, o_isTtuple, o_isNint, o_isNbool, o_isNstr, o_isNlist, o_isNtuple, o_allT, o_truB, o_truN, o_truI, o_truL, o_truT, q_sv1, q_sv2, view, fixSlot, wipeE, aName, aTup, aCons, aNil, List.map_cons, List.map_nil, List.length_cons, List.length_nil, List.cons_append, List.nil_append, List.replicate_succ, List.replicate_zero, List.getElem?_cons_zero, List.getElem?_cons_succ, List.set_cons_zero, List.set_cons_succ, Option.map_some, Option.map_none, reduceIte, Nat.reduceAdd, Nat.reduceEqDiff, Option.some.injEq, List.length_map, List.length_append, and_true, true_and, and_self, decide_true, decide_false, Int.reduceLT, Int.reduceNeg, Int.reduceLE, Int.reduceEq, Int.reduceMul, Int.reduceAdd, Int.reduceSub, Int.reduceMod, Int.reduceDiv, Nat.reduceLT, Nat.reduceLeDiff, Int.reducePow, Nat.reducePow, Int.reduceToNat, SV.imm.injEq, SV.own.injEq, W.int.injEq, W.str.injEq, W.bl.injEq, W.lst.injEq, W.tup.injEq, id_eq, exists_eq', exists_eq_left', Out.nx.injEq, Out.rt.injEq, Nat.zero_le, Int.toNat_natCast, not_true_eq_false, not_false_eq_true, Bool.not_true, Bool.not_false, Bool.false_and, Bool.true_and, Bool.and_true, Bool.and_false, Bool.true_or, Bool.false_or, Bool.or_true, Bool.or_false, Bool.false_eq_true, q_fld, r_fld, q_lrg1, r_lrg1, q_mk, q_fldI, r_fldI, o_fac, q_enum, r_enum1, r_enum2, r_enum3, q_dget, r_dget, q_dnew, q_dput, r_dput, q_clear, q_chain, r_chain, o_isN1, o_isN2, o_isN3, q_fs, r_fs3, r_fs4, r_fs5, at_i0, at_i1, at_i2, at_i3, q_fmt, q_txt, q_kd, r_kd, q_xl, r_xl, q_xpop, r_xpop, q_xnil, q_xcons, r_xc, r_xc2, q_xtup, r_xtup, q_appX, r_a0, r_a1, r_a2, q_setX, r_sx, o_ixK, o_slK, q39b, q_raise, q_metR, r_metR, q_fcx, lr, rp, s_comma, sr]
        rw [q43 (lc_map (g' := sW) (k := TL.numL) fun n hn => by
          have sv := str_num (hrm.2 n hn)
          unfold nW
          simp only [q_seq, q_if, q_fif, q_and, q_or, q_andV, q_orV, q_bin, q_binR, q_un, q_frz, q_imm, q_nil, q_cons, q_call, q_callW, q_c0, q_var, q_ret, q_set, q_aug, q_app, q_ext, q_pop, q_setIx, q_ixo, q_bor, q_tru, q_tst, q_not, q_notV, q_no, q_so, q_sl, q_sq, q_r1, q_r2, q_for, q_lc, q_asg, q_next, q_yes, q_fix, q_slot, q_drop, q_met, q_run, q1, q2, q2b, q2c, q3, q4, q5, q6, q7, q8, q9, q10, q11, q12, q13, q14, q15, q16, q17, q18, q19, q20, q21, q22, q23, q24, q25, q26, q27, q28, q29, q30, q31, q32, q33, q34, q35, q36, q37, q38, q39, q39b, q40, q41, q42, q44, q45, q46, q47, q48, o_add, o_sub, o_mulR, o_mulL, o_mod, o_div, o_addS, o_addI, o_addL, o_addT, o_p18, o_neg, o_cmp, o_eqI, o_eqS, o_eqB, o_neI, o_neS, o_len1, o_len2, o_len3, o_lenS, o_int, o_ix1, o_ix2, o_ix3, o_tup, o_lst, o_list1, o_list2, o_tuple1, o_tuple2, o_max, o_min, o_slL, o_slT, o_slS, o_mulSt, o_isIint, o_isIbool, o_isIstr, o_isIlist, o_isItuple, o_isBint, o_isBbool, o_isBstr, o_isBlist, o_isBtuple, o_isSint, o_isSbool, o_isSstr, o_isSlist, o_isStuple, o_isLint, o_isLbool, o_isLstr, o_isLlist, o_isLtuple, o_isTint, o_isTbool, o_isTstr, o_isTlist, o_isTtuple, o_isNint, o_isNbool, o_isNstr, o_isNlist, o_isNtuple, o_allT, o_truB, o_truN, o_truI, o_truL, o_truT, q_sv1, q_sv2, view, fixSlot, wipeE, aName, aTup, aCons, aNil, List.map_cons, List.map_nil, List.length_cons, List.length_nil, List.cons_append, List.nil_append, List.replicate_succ, List.replicate_zero, List.getElem?_cons_zero, List.getElem?_cons_succ, List.set_cons_zero, List.set_cons_succ, Option.map_some, Option.map_none, reduceIte, Nat.reduceAdd, Nat.reduceEqDiff, Option.some.injEq, List.length_map, List.length_append, and_true, true_and, and_self, decide_true, decide_false, Int.reduceLT, Int.reduceNeg, Int.reduceLE, Int.reduceEq, Int.reduceMul, Int.reduceAdd, Int.reduceSub, Int.reduceMod, Int.reduceDiv, Nat.reduceLT, Nat.reduceLeDiff, Int.reducePow, Nat.reducePow, Int.reduceToNat, SV.imm.injEq, SV.own.injEq, W.int.injEq, W.str.injEq, W.bl.injEq, W.lst.injEq, W.tup.injEq, id_eq, exists_eq', exists_eq_left', Out.nx.injEq, Out.rt.injEq, Nat.zero_le, Int.toNat_natCast, not_true_eq_false, not_false_eq_true, Bool.not_true, Bool.not_false, Bool.false_and, Bool.true_and, Bool.and_true, Bool.and_false, Bool.true_or, Bool.false_or, Bool.or_true, Bool.or_false, Bool.false_eq_true, q_fld, r_fld, q_lrg1, r_lrg1, q_mk, q_fldI, r_fldI, o_fac, q_enum, r_enum1, r_enum2, r_enum3, q_dget, r_dget, q_dnew, q_dput, r_dput, q_clear, q_chain, r_chain, o_isN1, o_isN2, o_isN3, q_fs, r_fs3, r_fs4, r_fs5, at_i0, at_i1, at_i2, at_i3, q_fmt, q_txt, q_kd, r_kd, q_xl, r_xl, q_xpop, r_xpop, q_xnil, q_xcons, r_xc, r_xc2, q_xtup, r_xtup, q_appX, r_a0, r_a1, r_a2, q_setX, r_sx, o_ixK, o_slK, q39b, q_raise, q_metR, r_metR, q_fcx, sv]) (by have := hrm.1; simp; omega)]
        have jn := jn1 (c := 44) (ls := r.map TL.numL) (by have := nums_sz hrm; omega)
        have er : rowL r = TL.joinL [44] (r.map TL.numL) := if_neg r0
        rw [er] at fin
        simp only [q_seq, q_if, q_fif, q_and, q_or, q_andV, q_orV, q_bin, q_binR, q_un, q_frz, q_imm, q_nil, q_cons, q_call, q_callW, q_c0, q_var, q_ret, q_set, q_aug, q_app, q_ext, q_pop, q_setIx, q_ixo, q_bor, q_tru, q_tst, q_not, q_notV, q_no, q_so, q_sl, q_sq, q_r1, q_r2, q_for, q_lc, q_asg, q_next, q_yes, q_fix, q_slot, q_drop, q_met, q_run, q1, q2, q2b, q2c, q3, q4, q5, q6, q7, q8, q9, q10, q11, q12, q13, q14, q15, q16, q17, q18, q19, q20, q21, q22, q23, q24, q25, q26, q27, q28, q29, q30, q31, q32, q33, q34, q35, q36, q37, q38, q39, q39b, q40, q41, q42, q44, q45, q46, q47, q48, o_add, o_sub, o_mulR, o_mulL, o_mod, o_div, o_addS, o_addI, o_addL, o_addT, o_p18, o_neg, o_cmp, o_eqI, o_eqS, o_eqB, o_neI, o_neS, o_len1, o_len2, o_len3, o_lenS, o_int, o_ix1, o_ix2, o_ix3, o_tup, o_lst, o_list1, o_list2, o_tuple1, o_tuple2, o_max, o_min, o_slL, o_slT, o_slS, o_mulSt, o_isIint, o_isIbool, o_isIstr, o_isIlist, o_isItuple, o_isBint, o_isBbool, o_isBstr, o_isBlist, o_isBtuple, o_isSint, o_isSbool, o_isSstr, o_isSlist, o_isStuple, o_isLint, o_isLbool, o_isLstr, o_isLlist, o_isLtuple, o_isTint, o_isTbool, o_isTstr, o_isTlist, o_isTtuple, o_isNint, o_isNbool, o_isNstr, o_isNlist, o_isNtuple, o_allT, o_truB, o_truN, o_truI, o_truL, o_truT, q_sv1, q_sv2, view, fixSlot, wipeE, aName, aTup, aCons, aNil, List.map_cons, List.map_nil, List.length_cons, List.length_nil, List.cons_append, List.nil_append, List.replicate_succ, List.replicate_zero, List.getElem?_cons_zero, List.getElem?_cons_succ, List.set_cons_zero, List.set_cons_succ, Option.map_some, Option.map_none, reduceIte, Nat.reduceAdd, Nat.reduceEqDiff, Option.some.injEq, List.length_map, List.length_append, and_true, true_and, and_self, decide_true, decide_false, Int.reduceLT, Int.reduceNeg, Int.reduceLE, Int.reduceEq, Int.reduceMul, Int.reduceAdd, Int.reduceSub, Int.reduceMod, Int.reduceDiv, Nat.reduceLT, Nat.reduceLeDiff, Int.reducePow, Nat.reducePow, Int.reduceToNat, SV.imm.injEq, SV.own.injEq, W.int.injEq, W.str.injEq, W.bl.injEq, W.lst.injEq, W.tup.injEq, id_eq, exists_eq', exists_eq_left', Out.nx.injEq, Out.rt.injEq, Nat.zero_le, Int.toNat_natCast, not_true_eq_false, not_false_eq_true, Bool.not_true, Bool.not_false, Bool.false_and, Bool.true_and, Bool.and_true, Bool.and_false, Bool.true_or, Bool.false_or, Bool.or_true, Bool.or_false, Bool.false_eq_true, q_fld, r_fld, q_lrg1, r_lrg1, q_mk, q_fldI, r_fldI, o_fac, q_enum, r_enum1, r_enum2, r_enum3, q_dget, r_dget, q_dnew, q_dput, r_dput, q_clear, q_chain, r_chain, o_isN1, o_isN2, o_isN3, q_fs, r_fs3, r_fs4, r_fs5, at_i0, at_i1, at_i2, at_i3, q_fmt, q_txt, q_kd, r_kd, q_xl, r_xl, q_xpop, r_xpop, q_xnil, q_xcons, r_xc, r_xc2, q_xtup, r_xtup, q_appX, r_a0, r_a1, r_a2, q_setX, r_sx, o_ixK, o_slK, q39b, q_raise, q_metR, r_metR, q_fcx, jn, room]
        exact fin)
    rw [List.length_map, List.take_length]
    have jn := jn1 (c := 47) (ls := l.map rowL) (by have := lay_sz h; omega)
    simp only [q_seq, q_if, q_fif, q_and, q_or, q_andV, q_orV, q_bin, q_binR, q_un, q_frz, q_imm, q_nil, q_cons, q_call, q_callW, q_c0, q_var, q_ret, q_set, q_aug, q_app, q_ext, q_pop, q_setIx, q_ixo, q_bor, q_tru, q_tst, q_not, q_notV, q_no, q_so, q_sl, q_sq, q_r1, q_r2, q_for, q_lc, q_asg, q_next, q_yes, q_fix, q_slot, q_drop, q_met, q_run, q1, q2, q2b, q2c, q3, q4, q5, q6, q7, q8, q9, q10, q11, q12, q13, q14, q15, q16, q17, q18, q19, q20, q21, q22, q23, q24, q25, q26, q27, q28, q29, q30, q31, q32, q33, q34, q35, q36, q37, q38, q39, q39b, q40, q41, q42, q44, q45, q46, q47, q48, o_add, o_sub, o_mulR, o_mulL, o_mod, o_div, o_addS, o_addI, o_addL, o_addT, o_p18, o_neg, o_cmp, o_eqI, o_eqS, o_eqB, o_neI, o_neS, o_len1, o_len2, o_len3, o_lenS, o_int, o_ix1, o_ix2, o_ix3, o_tup, o_lst, o_list1, o_list2, o_tuple1, o_tuple2, o_max, o_min, o_slL, o_slT, o_slS, o_mulSt, o_isIint, o_isIbool, o_isIstr, o_isIlist, o_isItuple, o_isBint, o_isBbool, o_isBstr, o_isBlist, o_isBtuple, o_isSint, o_isSbool, o_isSstr, o_isSlist, o_isStuple, o_isLint, o_isLbool, o_isLstr, o_isLlist, o_isLtuple, o_isTint, o_isTbool, o_isTstr, o_isTlist, o_isTtuple, o_isNint, o_isNbool, o_isNstr, o_isNlist, o_isNtuple, o_allT, o_truB, o_truN, o_truI, o_truL, o_truT, q_sv1, q_sv2, view, fixSlot, wipeE, aName, aTup, aCons, aNil, List.map_cons, List.map_nil, List.length_cons, List.length_nil, List.cons_append, List.nil_append, List.replicate_succ, List.replicate_zero, List.getElem?_cons_zero, List.getElem?_cons_succ, List.set_cons_zero, List.set_cons_succ, Option.map_some, Option.map_none, reduceIte, Nat.reduceAdd, Nat.reduceEqDiff, Option.some.injEq, List.length_map, List.length_append, and_true, true_and, and_self, decide_true, decide_false, Int.reduceLT, Int.reduceNeg, Int.reduceLE, Int.reduceEq, Int.reduceMul, Int.reduceAdd, Int.reduceSub, Int.reduceMod, Int.reduceDiv, Nat.reduceLT, Nat.reduceLeDiff, Int.reducePow, Nat.reducePow, Int.reduceToNat, SV.imm.injEq, SV.own.injEq, W.int.injEq, W.str.injEq, W.bl.injEq, W.lst.injEq, W.tup.injEq, id_eq, exists_eq', exists_eq_left', Out.nx.injEq, Out.rt.injEq, Nat.zero_le, Int.toNat_natCast, not_true_eq_false, not_false_eq_true, Bool.not_true, Bool.not_false, Bool.false_and, Bool.true_and, Bool.and_true, Bool.and_false, Bool.true_or, Bool.false_or, Bool.or_true, Bool.or_false, Bool.false_eq_true, q_fld, r_fld, q_lrg1, r_lrg1, q_mk, q_fldI, r_fldI, o_fac, q_enum, r_enum1, r_enum2, r_enum3, q_dget, r_dget, q_dnew, q_dput, r_dput, q_clear, q_chain, r_chain, o_isN1, o_isN2, o_isN3, q_fs, r_fs3, r_fs4, r_fs5, at_i0, at_i1, at_i2, at_i3, q_fmt, q_txt, q_kd, r_kd, q_xl, r_xl, q_xpop, r_xpop, q_xnil, q_xcons, r_xc, r_xc2, q_xtup, r_xtup, q_appX, r_a0, r_a1, r_a2, q_setX, r_sx, o_ixK, o_slK, q39b, q_raise, q_metR, r_metR, q_fcx, s_slash]
    generalize (l.map rowL).map sW = X at jn
    simp only [q_seq, q_if, q_fif, q_and, q_or, q_andV, q_orV, q_bin, q_binR, q_un, q_frz, q_imm, q_nil, q_cons, q_call, q_callW, q_c0, q_var, q_ret, q_set, q_aug, q_app, q_ext, q_pop, q_setIx, q_ixo, q_bor, q_tru, q_tst, q_not, q_notV, q_no, q_so, q_sl, q_sq, q_r1, q_r2, q_for, q_lc, q_asg, q_next, q_yes, q_fix, q_slot, q_drop, q_met, q_run, q1, q2, q2b, q2c, q3, q4, q5, q6, q7, q8, q9, q10, q11, q12, q13, q14, q15, q16, q17, q18, q19, q20, q21, q22, q23, q24, q25, q26, q27, q28, q29, q30, q31, q32, q33, q34, q35, q36, q37, q38, q39, q39b, q40, q41, q42, q44, q45, q46, q47, q48, o_add, o_sub, o_mulR, o_mulL, o_mod, o_div, o_addS, o_addI, o_addL, o_addT, o_p18, o_neg, o_cmp, o_eqI, o_eqS, o_eqB, o_neI, o_neS, o_len1, o_len2, o_len3, o_lenS, o_int, o_ix1, o_ix2, o_ix3, o_tup, o_lst, o_list1, o_list2, o_tuple1, o_tuple2, o_max, o_min, o_slL, o_slT, o_slS, o_mulSt, o_isIint, o_isIbool, o_isIstr, o_isIlist, o_isItuple, o_isBint, o_isBbool, o_isBstr, o_isBlist, o_isBtuple, o_isSint, o_isSbool, o_isSstr, o_isSlist, o_isStuple, o_isLint, o_isLbool, o_isLstr, o_isLlist, o_isLtuple, o_isTint, o_isTbool, o_isTstr, o_isTlist, o_isTtuple, o_isNint, o_isNbool, o_isNstr, o_isNlist, o_isNtuple, o_allT, o_truB, o_truN, o_truI, o_truL, o_truT, q_sv1, q_sv2, view, fixSlot, wipeE, aName, aTup, aCons, aNil, List.map_cons, List.map_nil, List.length_cons, List.length_nil, List.cons_append, List.nil_append, List.replicate_succ, List.replicate_zero, List.getElem?_cons_zero, List.getElem?_cons_succ, List.set_cons_zero, List.set_cons_succ, Option.map_some, Option.map_none, reduceIte, Nat.reduceAdd, Nat.reduceEqDiff, Option.some.injEq, List.length_map, List.length_append, and_true, true_and, and_self, decide_true, decide_false, Int.reduceLT, Int.reduceNeg, Int.reduceLE, Int.reduceEq, Int.reduceMul, Int.reduceAdd, Int.reduceSub, Int.reduceMod, Int.reduceDiv, Nat.reduceLT, Nat.reduceLeDiff, Int.reducePow, Nat.reducePow, Int.reduceToNat, SV.imm.injEq, SV.own.injEq, W.int.injEq, W.str.injEq, W.bl.injEq, W.lst.injEq, W.tup.injEq, id_eq, exists_eq', exists_eq_left', Out.nx.injEq, Out.rt.injEq, Nat.zero_le, Int.toNat_natCast, not_true_eq_false, not_false_eq_true, Bool.not_true, Bool.not_false, Bool.false_and, Bool.true_and, Bool.and_true, Bool.and_false, Bool.true_or, Bool.false_or, Bool.or_true, Bool.or_false, Bool.false_eq_true, q_fld, r_fld, q_lrg1, r_lrg1, q_mk, q_fldI, r_fldI, o_fac, q_enum, r_enum1, r_enum2, r_enum3, q_dget, r_dget, q_dnew, q_dput, r_dput, q_clear, q_chain, r_chain, o_isN1, o_isN2, o_isN3, q_fs, r_fs3, r_fs4, r_fs5, at_i0, at_i1, at_i2, at_i3, q_fmt, q_txt, q_kd, r_kd, q_xl, r_xl, q_xpop, r_xpop, q_xnil, q_xcons, r_xc, r_xc2, q_xtup, r_xtup, q_appX, r_a0, r_a1, r_a2, q_setX, r_sx, o_ixK, o_slK, q39b, q_raise, q_metR, r_metR, q_fcx, jn]
theorem mem_dig (c : Nat) : decide (c ∈ digL) = isD c := by
  have : c ∈ digL ↔ (48 ≤ c ∧ c ≤ 57) := by
    simp [digL]
    omega
  unfold isD
  rw [Bool.eq_iff_iff]
  simp only [decide_eq_true_eq, Bool.and_eq_true]
  exact this
abbrev FIs : En → Option Out := sIf (fTst (fBin notInW (fVar 1) (fC (.str "0123456789"))))
    (sRet (fImm (fC (.bl false))))
    sNext
theorem isn_loop (c0 : W) : ∀ (m : List Nat) (s1 : Option SV), (m.all isD = true → ∃ s1' : Option SV, loopW (aName 1) FIs (m.map fun c => W.str ⟨#[c]⟩) [some (.imm c0), s1] = some (.nx [some (.imm c0), s1'])) ∧
    (m.all isD = false → loopW (aName 1) FIs (m.map fun c => W.str ⟨#[c]⟩) [some (.imm c0), s1] = some (.rt (.imm (.bl false))))
  | [], s1 => ⟨fun _ => ⟨s1, rfl⟩, fun h => by simp at h⟩
  | c :: m, s1 => by
    have hin : notInW (.str ⟨#[c]⟩) (.str (T digL)) = some (.bl (!isD c)) := by
      have := t_notIn1 (l := digL) (c := c)
      rw [mem_dig] at this
      exact this
    obtain ⟨ih1, ih2⟩ := isn_loop c0 m (some (.imm (.str ⟨#[c]⟩)))
    cases hc : isD c with
    | true =>
      rw [hc] at hin
      refine ⟨fun h => ?_, fun h => ?_⟩
      · rw [List.all_cons, hc, Bool.true_and] at h
        obtain ⟨s', e⟩ := ih1 h
        exact ⟨s', by simp only [q_seq, q_if, q_fif, q_and, q_or, q_andV, q_orV, q_bin, q_binR, q_un, q_frz, q_imm, q_nil, q_cons, q_call, q_callW, q_c0, q_var, q_ret, q_set, q_aug, q_app, q_ext, q_pop, q_setIx, q_ixo, q_bor, q_tru, q_tst, q_not, q_notV, q_no, q_so, q_sl, q_sq, q_r1, q_r2, q_for, q_lc, q_asg, q_next, q_yes, q_fix, q_slot, q_drop, q_met, q_run, q1, q2, q2b, q2c, q3, q4, q5, q6, q7, q8, q9, q10, q11, q12, q13, q14, q15, q16, q17, q18, q19, q20, q21, q22, q23, q24, q25, q26, q27, q28, q29, q30, q31, q32, q33, q34, q35, q36, q37, q38, q39, q39b, q40, q41, q42, q44, q45, q46, q47, q48, o_add, o_sub, o_mulR, o_mulL, o_mod, o_div, o_addS, o_addI, o_addL, o_addT, o_p18, o_neg, o_cmp, o_eqI, o_eqS, o_eqB, o_neI, o_neS, o_len1, o_len2, o_len3, o_lenS, o_int, o_ix1, o_ix2, o_ix3, o_tup, o_lst, o_list1, o_list2, o_tuple1, o_tuple2, o_max, o_min, o_slL, o_slT, o_slS, o_mulSt, o_isIint, o_isIbool, o_isIstr, o_isIlist, o_isItuple, o_isBint, o_isBbool, o_isBstr, o_isBlist, o_isBtuple, o_isSint, o_isSbool, o_isSstr, o_isSlist, o_isStuple, o_isLint, o_isLbool, o_isLstr, o_isLlist, o_isLtuple, o_isTint, o_isTbool, o_isTstr, o_isTlist, o_isTtuple, o_isNint, o_isNbool, o_isNstr, o_isNlist, o_isNtuple, o_allT, o_truB, o_truN, o_truI, o_truL, o_truT, q_sv1, q_sv2, view, fixSlot, wipeE, aName, aTup, aCons, aNil, List.map_cons, List.map_nil, List.length_cons, List.length_nil, List.cons_append, List.nil_append, List.replicate_succ, List.replicate_zero, List.getElem?_cons_zero, List.getElem?_cons_succ, List.set_cons_zero, List.set_cons_succ, Option.map_some, Option.map_none, reduceIte, Nat.reduceAdd, Nat.reduceEqDiff, Option.some.injEq, List.length_map, List.length_append, and_true, true_and, and_self, decide_true, decide_false, Int.reduceLT, Int.reduceNeg, Int.reduceLE, Int.reduceEq, Int.reduceMul, Int.reduceAdd, Int.reduceSub, Int.reduceMod, Int.reduceDiv, Nat.reduceLT, Nat.reduceLeDiff, Int.reducePow, Nat.reducePow, Int.reduceToNat, SV.imm.injEq, SV.own.injEq, W.int.injEq, W.str.injEq, W.bl.injEq, W.lst.injEq, W.tup.injEq, id_eq, exists_eq', exists_eq_left', Out.nx.injEq, Out.rt.injEq, Nat.zero_le, Int.toNat_natCast, not_true_eq_false, not_false_eq_true, Bool.not_true, Bool.not_false, Bool.false_and, Bool.true_and, Bool.and_true, Bool.and_false, Bool.true_or, Bool.false_or, Bool.or_true, Bool.or_false, Bool.false_eq_true, q_fld, r_fld, q_lrg1, r_lrg1, q_mk, q_fldI, r_fldI, o_fac, q_enum, r_enum1, r_enum2, r_enum3, q_dget, r_dget, q_dnew, q_dput, r_dput, q_clear, q_chain, r_chain, o_isN1, o_isN2, o_isN3, q_fs, r_fs3, r_fs4, r_fs5, at_i0, at_i1, at_i2, at_i3, q_fmt, q_txt, q_kd, r_kd, q_xl, r_xl, q_xpop, r_xpop, q_xnil, q_xcons, r_xc, r_xc2, q_xtup, r_xtup, q_appX, r_a0, r_a1, r_a2, q_setX, r_sx, o_ixK, o_slK, q39b, q_raise, q_metR, r_metR, q_fcx, q_loop, s_dig, hin, e]⟩
      · rw [List.all_cons, hc, Bool.true_and] at h
        have e := ih2 h
        simp only [q_seq, q_if, q_fif, q_and, q_or, q_andV, q_orV, q_bin, q_binR, q_un, q_frz, q_imm, q_nil, q_cons, q_call, q_callW, q_c0, q_var, q_ret, q_set, q_aug, q_app, q_ext, q_pop, q_setIx, q_ixo, q_bor, q_tru, q_tst, q_not, q_notV, q_no, q_so, q_sl, q_sq, q_r1, q_r2, q_for, q_lc, q_asg, q_next, q_yes, q_fix, q_slot, q_drop, q_met, q_run, q1, q2, q2b, q2c, q3, q4, q5, q6, q7, q8, q9, q10, q11, q12, q13, q14, q15, q16, q17, q18, q19, q20, q21, q22, q23, q24, q25, q26, q27, q28, q29, q30, q31, q32, q33, q34, q35, q36, q37, q38, q39, q39b, q40, q41, q42, q44, q45, q46, q47, q48, o_add, o_sub, o_mulR, o_mulL, o_mod, o_div, o_addS, o_addI, o_addL, o_addT, o_p18, o_neg, o_cmp, o_eqI, o_eqS, o_eqB, o_neI, o_neS, o_len1, o_len2, o_len3, o_lenS, o_int, o_ix1, o_ix2, o_ix3, o_tup, o_lst, o_list1, o_list2, o_tuple1, o_tuple2, o_max, o_min, o_slL, o_slT, o_slS, o_mulSt, o_isIint, o_isIbool, o_isIstr, o_isIlist, o_isItuple, o_isBint, o_isBbool, o_isBstr, o_isBlist, o_isBtuple, o_isSint, o_isSbool, o_isSstr, o_isSlist, o_isStuple, o_isLint, o_isLbool, o_isLstr, o_isLlist, o_isLtuple, o_isTint, o_isTbool, o_isTstr, o_isTlist, o_isTtuple, o_isNint, o_isNbool, o_isNstr, o_isNlist, o_isNtuple, o_allT, o_truB, o_truN, o_truI, o_truL, o_truT, q_sv1, q_sv2, view, fixSlot, wipeE, aName, aTup, aCons, aNil, List.map_cons, List.map_nil, List.length_cons, List.length_nil, List.cons_append, List.nil_append, List.replicate_succ, List.replicate_zero, List.getElem?_cons_zero, List.getElem?_cons_succ, List.set_cons_zero, List.set_cons_succ, Option.map_some, Option.map_none, reduceIte, Nat.reduceAdd, Nat.reduceEqDiff, Option.some.injEq, List.length_map, List.length_append, and_true, true_and, and_self, decide_true, decide_false, Int.reduceLT, Int.reduceNeg, Int.reduceLE, Int.reduceEq, Int.reduceMul, Int.reduceAdd, Int.reduceSub, Int.reduceMod, Int.reduceDiv, Nat.reduceLT, Nat.reduceLeDiff, Int.reducePow, Nat.reducePow, Int.reduceToNat, SV.imm.injEq, SV.own.injEq, W.int.injEq, W.str.injEq, W.bl.injEq, W.lst.injEq, W.tup.injEq, id_eq, exists_eq', exists_eq_left', Out.nx.injEq, Out.rt.injEq, Nat.zero_le, Int.toNat_natCast, not_true_eq_false, not_false_eq_true, Bool.not_true, Bool.not_false, Bool.false_and, Bool.true_and, Bool.and_true, Bool.and_false, Bool.true_or, Bool.false_or, Bool.or_true, Bool.or_false, Bool.false_eq_true, q_fld, r_fld, q_lrg1, r_lrg1, q_mk, q_fldI, r_fldI, o_fac, q_enum, r_enum1, r_enum2, r_enum3, q_dget, r_dget, q_dnew, q_dput, r_dput, q_clear, q_chain, r_chain, o_isN1, o_isN2, o_isN3, q_fs, r_fs3, r_fs4, r_fs5, at_i0, at_i1, at_i2, at_i3, q_fmt, q_txt, q_kd, r_kd, q_xl, r_xl, q_xpop, r_xpop, q_xnil, q_xcons, r_xc, r_xc2, q_xtup, r_xtup, q_appX, r_a0, r_a1, r_a2, q_setX, r_sx, o_ixK, o_slK, q39b, q_raise, q_metR, r_metR, q_fcx, q_loop, s_dig, hin, e]
    | false =>
      rw [hc] at hin
      refine ⟨fun h => ?_, fun h => ?_⟩
      · rw [List.all_cons, hc, Bool.false_and] at h
        cases h
      · simp only [q_seq, q_if, q_fif, q_and, q_or, q_andV, q_orV, q_bin, q_binR, q_un, q_frz, q_imm, q_nil, q_cons, q_call, q_callW, q_c0, q_var, q_ret, q_set, q_aug, q_app, q_ext, q_pop, q_setIx, q_ixo, q_bor, q_tru, q_tst, q_not, q_notV, q_no, q_so, q_sl, q_sq, q_r1, q_r2, q_for, q_lc, q_asg, q_next, q_yes, q_fix, q_slot, q_drop, q_met, q_run, q1, q2, q2b, q2c, q3, q4, q5, q6, q7, q8, q9, q10, q11, q12, q13, q14, q15, q16, q17, q18, q19, q20, q21, q22, q23, q24, q25, q26, q27, q28, q29, q30, q31, q32, q33, q34, q35, q36, q37, q38, q39, q39b, q40, q41, q42, q44, q45, q46, q47, q48, o_add, o_sub, o_mulR, o_mulL, o_mod, o_div, o_addS, o_addI, o_addL, o_addT, o_p18, o_neg, o_cmp, o_eqI, o_eqS, o_eqB, o_neI, o_neS, o_len1, o_len2, o_len3, o_lenS, o_int, o_ix1, o_ix2, o_ix3, o_tup, o_lst, o_list1, o_list2, o_tuple1, o_tuple2, o_max, o_min, o_slL, o_slT, o_slS, o_mulSt, o_isIint, o_isIbool, o_isIstr, o_isIlist, o_isItuple, o_isBint, o_isBbool, o_isBstr, o_isBlist, o_isBtuple, o_isSint, o_isSbool, o_isSstr, o_isSlist, o_isStuple, o_isLint, o_isLbool, o_isLstr, o_isLlist, o_isLtuple, o_isTint, o_isTbool, o_isTstr, o_isTlist, o_isTtuple, o_isNint, o_isNbool, o_isNstr, o_isNlist, o_isNtuple, o_allT, o_truB, o_truN, o_truI, o_truL, o_truT, q_sv1, q_sv2, view, fixSlot, wipeE, aName, aTup, aCons, aNil, List.map_cons, List.map_nil, List.length_cons, List.length_nil, List.cons_append, List.nil_append, List.replicate_succ, List.replicate_zero, List.getElem?_cons_zero, List.getElem?_cons_succ, List.set_cons_zero, List.set_cons_succ, Option.map_some, Option.map_none, reduceIte, Nat.reduceAdd, Nat.reduceEqDiff, Option.some.injEq, List.length_map, List.length_append, and_true, true_and, and_self, decide_true, decide_false, Int.reduceLT, Int.reduceNeg, Int.reduceLE, Int.reduceEq, Int.reduceMul, Int.reduceAdd, Int.reduceSub, Int.reduceMod, Int.reduceDiv, Nat.reduceLT, Nat.reduceLeDiff, Int.reducePow, Nat.reducePow, Int.reduceToNat, SV.imm.injEq, SV.own.injEq, W.int.injEq, W.str.injEq, W.bl.injEq, W.lst.injEq, W.tup.injEq, id_eq, exists_eq', exists_eq_left', Out.nx.injEq, Out.rt.injEq, Nat.zero_le, Int.toNat_natCast, not_true_eq_false, not_false_eq_true, Bool.not_true, Bool.not_false, Bool.false_and, Bool.true_and, Bool.and_true, Bool.and_false, Bool.true_or, Bool.false_or, Bool.or_true, Bool.or_false, Bool.false_eq_true, q_fld, r_fld, q_lrg1, r_lrg1, q_mk, q_fldI, r_fldI, o_fac, q_enum, r_enum1, r_enum2, r_enum3, q_dget, r_dget, q_dnew, q_dput, r_dput, q_clear, q_chain, r_chain, o_isN1, o_isN2, o_isN3, q_fs, r_fs3, r_fs4, r_fs5, at_i0, at_i1, at_i2, at_i3, q_fmt, q_txt, q_kd, r_kd, q_xl, r_xl, q_xpop, r_xpop, q_xnil, q_xcons, r_xc, r_xc2, q_xtup, r_xtup, q_appX, r_a0, r_a1, r_a2, q_setX, r_sx, o_ixK, o_slK, q39b, q_raise, q_metR, r_metR, q_fcx, q_loop, s_dig, hin, q47]
theorem is_number_ok {l : List Nat} (h : Asc l) : F_is_number [.str (T l)] = some (.imm (.bl (isN l))) := by
  have hl := h.2
  have lt := lenT (l := l) (by omega)
  have de : decide (T l = T []) = decide (l = []) := t_dec
  unfold F_is_number B_is_number
  by_cases h0 : l = []
  · rw [decide_eq_true h0] at de
    have hN : isN l = false := by
      rw [h0]
      rfl
    rw [hN]
    simp only [q_seq, q_if, q_fif, q_and, q_or, q_andV, q_orV, q_bin, q_binR, q_un, q_frz, q_imm, q_nil, q_cons, q_call, q_callW, q_c0, q_var, q_ret, q_set, q_aug, q_app, q_ext, q_pop, q_setIx, q_ixo, q_bor, q_tru, q_tst, q_not, q_notV, q_no, q_so, q_sl, q_sq, q_r1, q_r2, q_for, q_lc, q_asg, q_next, q_yes, q_fix, q_slot, q_drop, q_met, q_run, q1, q2, q2b, q2c, q3, q4, q5, q6, q7, q8, q9, q10, q11, q12, q13, q14, q15, q16, q17, q18, q19, q20, q21, q22, q23, q24, q25, q26, q27, q28, q29, q30, q31, q32, q33, q34, q35, q36, q37, q38, q39, q39b, q40, q41, q42, q44, q45, q46, q47, q48, o_add, o_sub, o_mulR, o_mulL, o_mod, o_div, o_addS, o_addI, o_addL, o_addT, o_p18, o_neg, o_cmp, o_eqI, o_eqS, o_eqB, o_neI, o_neS, o_len1, o_len2, o_len3, o_lenS, o_int, o_ix1, o_ix2, o_ix3, o_tup, o_lst, o_list1, o_list2, o_tuple1, o_tuple2, o_max, o_min, o_slL, o_slT, o_slS, o_mulSt, o_isIint, o_isIbool, o_isIstr, o_isIlist, o_isItuple, o_isBint, o_isBbool, o_isBstr, o_isBlist, o_isBtuple, o_isSint, o_isSbool, o_isSstr, o_isSlist, o_isStuple, o_isLint, o_isLbool, o_isLstr, o_isLlist, o_isLtuple, o_isTint, o_isTbool, o_isTstr, o_isTlist, o_isTtuple, o_isNint, o_isNbool, o_isNstr, o_isNlist, o_isNtuple, o_allT, o_truB, o_truN, o_truI, o_truL, o_truT, q_sv1, q_sv2, view, fixSlot, wipeE, aName, aTup, aCons, aNil, List.map_cons, List.map_nil, List.length_cons, List.length_nil, List.cons_append, List.nil_append, List.replicate_succ, List.replicate_zero, List.getElem?_cons_zero, List.getElem?_cons_succ, List.set_cons_zero, List.set_cons_succ, Option.map_some, Option.map_none, reduceIte, Nat.reduceAdd, Nat.reduceEqDiff, Option.some.injEq, List.length_map, List.length_append, and_true, true_and, and_self, decide_true, decide_false, Int.reduceLT, Int.reduceNeg, Int.reduceLE, Int.reduceEq, Int.reduceMul, Int.reduceAdd, Int.reduceSub, Int.reduceMod, Int.reduceDiv, Nat.reduceLT, Nat.reduceLeDiff, Int.reducePow, Nat.reducePow, Int.reduceToNat, SV.imm.injEq, SV.own.injEq, W.int.injEq, W.str.injEq, W.bl.injEq, W.lst.injEq, W.tup.injEq, id_eq, exists_eq', exists_eq_left', Out.nx.injEq, Out.rt.injEq, Nat.zero_le, Int.toNat_natCast, not_true_eq_false, not_false_eq_true, Bool.not_true, Bool.not_false, Bool.false_and, Bool.true_and, Bool.and_true, Bool.and_false, Bool.true_or, Bool.false_or, Bool.or_true, Bool.or_false, Bool.false_eq_true, q_fld, r_fld, q_lrg1, r_lrg1, q_mk, q_fldI, r_fldI, o_fac, q_enum, r_enum1, r_enum2, r_enum3, q_dget, r_dget, q_dnew, q_dput, r_dput, q_clear, q_chain, r_chain, o_isN1, o_isN2, o_isN3, q_fs, r_fs3, r_fs4, r_fs5, at_i0, at_i1, at_i2, at_i3, q_fmt, q_txt, q_kd, r_kd, q_xl, r_xl, q_xpop, r_xpop, q_xnil, q_xcons, r_xc, r_xc2, q_xtup, r_xtup, q_appX, r_a0, r_a1, r_a2, q_setX, r_sx, o_ixK, o_slK, q39b, q_raise, q_metR, r_metR, q_fcx, s_e, de]
  · rw [decide_eq_false h0] at de
    by_cases h9 : l.length ≤ 9
    · have n9 : ¬ (9 : Int) < (l.length : Int) := by omega
      obtain ⟨c, r, hcr⟩ : ∃ c r, l = c :: r := by
        cases l with
        | nil => exact absurd rfl h0
        | cons c r => exact ⟨c, r, rfl⟩
      have ix0 : ixW (.str (T l)) (.int 0) = some (.str (T [c])) := t_ix (i := 0) (by omega) (by rw [hcr]; rfl)
      have dc : decide (T [c] = T [48]) = decide (c = 48) := by rw [t_dec]; exact decide_eq_decide.mpr (by simp)
      have dl : decide (T l = T [48]) = decide (l = [48]) := t_dec
      have hh : l.headD 0 = c := by rw [hcr]; rfl
      obtain ⟨k1, k2⟩ := isn_loop (.str (T l)) l none
      cases ha : l.all isD with
      | false =>
        have e := k2 ha
        have hN : isN l = false := by
          unfold isN
          rw [ha]
          rfl
        rw [hN]
        simp only [q_seq, q_if, q_fif, q_and, q_or, q_andV, q_orV, q_bin, q_binR, q_un, q_frz, q_imm, q_nil, q_cons, q_call, q_callW, q_c0, q_var, q_ret, q_set, q_aug, q_app, q_ext, q_pop, q_setIx, q_ixo, q_bor, q_tru, q_tst, q_not, q_notV, q_no, q_so, q_sl, q_sq, q_r1, q_r2, q_for, q_lc, q_asg, q_next, q_yes, q_fix, q_slot, q_drop, q_met, q_run, q1, q2, q2b, q2c, q3, q4, q5, q6, q7, q8, q9, q10, q11, q12, q13, q14, q15, q16, q17, q18, q19, q20, q21, q22, q23, q24, q25, q26, q27, q28, q29, q30, q31, q32, q33, q34, q35, q36, q37, q38, q39, q39b, q40, q41, q42, q44, q45, q46, q47, q48, o_add, o_sub, o_mulR, o_mulL, o_mod, o_div, o_addS, o_addI, o_addL, o_addT, o_p18, o_neg, o_cmp, o_eqI, o_eqS, o_eqB, o_neI, o_neS, o_len1, o_len2, o_len3, o_lenS, o_int, o_ix1, o_ix2, o_ix3, o_tup, o_lst, o_list1, o_list2, o_tuple1, o_tuple2, o_max, o_min, o_slL, o_slT, o_slS, o_mulSt, o_isIint, o_isIbool, o_isIstr, o_isIlist, o_isItuple, o_isBint, o_isBbool, o_isBstr, o_isBlist, o_isBtuple, o_isSint, o_isSbool, o_isSstr, o_isSlist, o_isStuple, o_isLint, o_isLbool, o_isLstr, o_isLlist, o_isLtuple, o_isTint, o_isTbool, o_isTstr, o_isTlist, o_isTtuple, o_isNint, o_isNbool, o_isNstr, o_isNlist, o_isNtuple, o_allT, o_truB, o_truN, o_truI, o_truL, o_truT, q_sv1, q_sv2, view, fixSlot, wipeE, aName, aTup, aCons, aNil, List.map_cons, List.map_nil, List.length_cons, List.length_nil, List.cons_append, List.nil_append, List.replicate_succ, List.replicate_zero, List.getElem?_cons_zero, List.getElem?_cons_succ, List.set_cons_zero, List.set_cons_succ, Option.map_some, Option.map_none, reduceIte, Nat.reduceAdd, Nat.reduceEqDiff, Option.some.injEq, List.length_map, List.length_append, and_true, true_and, and_self, decide_true, decide_false, Int.reduceLT, Int.reduceNeg, Int.reduceLE, Int.reduceEq, Int.reduceMul, Int.reduceAdd, Int.reduceSub, Int.reduceMod, Int.reduceDiv, Nat.reduceLT, Nat.reduceLeDiff, Int.reducePow, Nat.reducePow, Int.reduceToNat, SV.imm.injEq, SV.own.injEq, W.int.injEq, W.str.injEq, W.bl.injEq, W.lst.injEq, W.tup.injEq, id_eq, exists_eq', exists_eq_left', Out.nx.injEq, Out.rt.injEq, Nat.zero_le, Int.toNat_natCast, not_true_eq_false, not_false_eq_true, Bool.not_true, Bool.not_false, Bool.false_and, Bool.true_and, Bool.and_true, Bool.and_false, Bool.true_or, Bool.false_or, Bool.or_true, Bool.or_false, Bool.false_eq_true, q_fld, r_fld, q_lrg1, r_lrg1, q_mk, q_fldI, r_fldI, o_fac, q_enum, r_enum1, r_enum2, r_enum3, q_dget, r_dget, q_dnew, q_dput, r_dput, q_clear, q_chain, r_chain, o_isN1, o_isN2, o_isN3, q_fs, r_fs3, r_fs4, r_fs5, at_i0, at_i1, at_i2, at_i3, q_fmt, q_txt, q_kd, r_kd, q_xl, r_xl, q_xpop, r_xpop, q_xnil, q_xcons, r_xc, r_xc2, q_xtup, r_xtup, q_appX, r_a0, r_a1, r_a2, q_setX, r_sx, o_ixK, o_slK, q39b, q_raise, q_metR, r_metR, q_fcx, s_e, de, lt, n9, t_toL, e]
      | true =>
        obtain ⟨s1', e⟩ := k1 ha
        have hN : isN l = (decide (l = [48]) || decide (c ≠ 48)) := by
          unfold isN
          rw [ha, decide_eq_true h0, decide_eq_true h9, hh]
          rfl
        rw [hN]
        have dn : decide (c ≠ 48) = !decide (c = 48) := by simp
        rw [dn]
        generalize decide (c = 48) = b1 at dc
        generalize decide (l = [48]) = b2 at dl
        cases b1 <;> cases b2 <;> simp only [q_seq, q_if, q_fif, q_and, q_or, q_andV, q_orV, q_bin, q_binR, q_un, q_frz, q_imm, q_nil, q_cons, q_call, q_callW, q_c0, q_var, q_ret, q_set, q_aug, q_app, q_ext, q_pop, q_setIx, q_ixo, q_bor, q_tru, q_tst, q_not, q_notV, q_no, q_so, q_sl, q_sq, q_r1, q_r2, q_for, q_lc, q_asg, q_next, q_yes, q_fix, q_slot, q_drop, q_met, q_run, q1, q2, q2b, q2c, q3, q4, q5, q6, q7, q8, q9, q10, q11, q12, q13, q14, q15, q16, q17, q18, q19, q20, q21, q22, q23, q24, q25, q26, q27, q28, q29, q30, q31, q32, q33, q34, q35, q36, q37, q38, q39, q39b, q40, q41, q42, q44, q45, q46, q47, q48, o_add, o_sub, o_mulR, o_mulL, o_mod, o_div, o_addS, o_addI, o_addL, o_addT, o_p18, o_neg, o_cmp, o_eqI, o_eqS, o_eqB, o_neI, o_neS, o_len1, o_len2, o_len3, o_lenS, o_int, o_ix1, o_ix2, o_ix3, o_tup, o_lst, o_list1, o_list2, o_tuple1, o_tuple2, o_max, o_min, o_slL, o_slT, o_slS, o_mulSt, o_isIint, o_isIbool, o_isIstr, o_isIlist, o_isItuple, o_isBint, o_isBbool, o_isBstr, o_isBlist, o_isBtuple, o_isSint, o_isSbool, o_isSstr, o_isSlist, o_isStuple, o_isLint, o_isLbool, o_isLstr, o_isLlist, o_isLtuple, o_isTint, o_isTbool, o_isTstr, o_isTlist, o_isTtuple, o_isNint, o_isNbool, o_isNstr, o_isNlist, o_isNtuple, o_allT, o_truB, o_truN, o_truI, o_truL, o_truT, q_sv1, q_sv2, view, fixSlot, wipeE, aName, aTup, aCons, aNil, List.map_cons, List.map_nil, List.length_cons, List.length_nil, List.cons_append, List.nil_append, List.replicate_succ, List.replicate_zero, List.getElem?_cons_zero, List.getElem?_cons_succ, List.set_cons_zero, List.set_cons_succ, Option.map_some, Option.map_none, reduceIte, Nat.reduceAdd, Nat.reduceEqDiff, Option.some.injEq, List.length_map, List.length_append, and_true, true_and, and_self, decide_true, decide_false, Int.reduceLT, Int.reduceNeg, Int.reduceLE, Int.reduceEq, Int.reduceMul, Int.reduceAdd, Int.reduceSub, Int.reduceMod, Int.reduceDiv, Nat.reduceLT, Nat.reduceLeDiff, Int.reducePow, Nat.reducePow, Int.reduceToNat, SV.imm.injEq, SV.own.injEq, W.int.injEq, W.str.injEq, W.bl.injEq, W.lst.injEq, W.tup.injEq, id_eq, exists_eq', exists_eq_left', Out.nx.injEq, Out.rt.injEq, Nat.zero_le, Int.toNat_natCast, not_true_eq_false, not_false_eq_true, Bool.not_true, Bool.not_false, Bool.false_and, Bool.true_and, Bool.and_true, Bool.and_false, Bool.true_or, Bool.false_or, Bool.or_true, Bool.or_false, Bool.false_eq_true, q_fld, r_fld, q_lrg1, r_lrg1, q_mk, q_fldI, r_fldI, o_fac, q_enum, r_enum1, r_enum2, r_enum3, q_dget, r_dget, q_dnew, q_dput, r_dput, q_clear, q_chain, r_chain, o_isN1, o_isN2, o_isN3, q_fs, r_fs3, r_fs4, r_fs5, at_i0, at_i1, at_i2, at_i3, q_fmt, q_txt, q_kd, r_kd, q_xl, r_xl, q_xpop, r_xpop, q_xnil, q_xcons, r_xc, r_xc2, q_xtup, r_xtup, q_appX, r_a0, r_a1, r_a2, q_setX, r_sx, o_ixK, o_slK, q39b, q_raise, q_metR, r_metR, q_fcx, s_e, de, lt, n9, t_toL, e, s_zero, ix0, dc, dl]
    · have n9 : (9 : Int) < (l.length : Int) := by omega
      have hN : isN l = false := by
        unfold isN
        rw [decide_eq_false h9]
        simp
      rw [hN]
      simp only [q_seq, q_if, q_fif, q_and, q_or, q_andV, q_orV, q_bin, q_binR, q_un, q_frz, q_imm, q_nil, q_cons, q_call, q_callW, q_c0, q_var, q_ret, q_set, q_aug, q_app, q_ext, q_pop, q_setIx, q_ixo, q_bor, q_tru, q_tst, q_not, q_notV, q_no, q_so, q_sl, q_sq, q_r1, q_r2, q_for, q_lc, q_asg, q_next, q_yes, q_fix, q_slot, q_drop, q_met, q_run, q1, q2, q2b, q2c, q3, q4, q5, q6, q7, q8, q9, q10, q11, q12, q13, q14, q15, q16, q17, q18, q19, q20, q21, q22, q23, q24, q25, q26, q27, q28, q29, q30, q31, q32, q33, q34, q35, q36, q37, q38, q39, q39b, q40, q41, q42, q44, q45, q46, q47, q48, o_add, o_sub, o_mulR, o_mulL, o_mod, o_div, o_addS, o_addI, o_addL, o_addT, o_p18, o_neg, o_cmp, o_eqI, o_eqS, o_eqB, o_neI, o_neS, o_len1, o_len2, o_len3, o_lenS, o_int, o_ix1, o_ix2, o_ix3, o_tup, o_lst, o_list1, o_list2, o_tuple1, o_tuple2, o_max, o_min, o_slL, o_slT, o_slS, o_mulSt, o_isIint, o_isIbool, o_isIstr, o_isIlist, o_isItuple, o_isBint, o_isBbool, o_isBstr, o_isBlist, o_isBtuple, o_isSint, o_isSbool, o_isSstr, o_isSlist, o_isStuple, o_isLint, o_isLbool, o_isLstr, o_isLlist, o_isLtuple, o_isTint, o_isTbool, o_isTstr, o_isTlist, o_isTtuple, o_isNint, o_isNbool, o_isNstr, o_isNlist, o_isNtuple, o_allT, o_truB, o_truN, o_truI, o_truL, o_truT, q_sv1, q_sv2, view, fixSlot, wipeE, aName, aTup, aCons, aNil, List.map_cons, List.map_nil, List.length_cons, List.length_nil, List.cons_append, List.nil_append, List.replicate_succ, List.replicate_zero, List.getElem?_cons_zero, List.getElem?_cons_succ, List.set_cons_zero, List.set_cons_succ, Option.map_some, Option.map_none, reduceIte, Nat.reduceAdd, Nat.reduceEqDiff, Option.some.injEq, List.length_map, List.length_append, and_true, true_and, and_self, decide_true, decide_false, Int.reduceLT, Int.reduceNeg, Int.reduceLE, Int.reduceEq, Int.reduceMul, Int.reduceAdd, Int.reduceSub, Int.reduceMod, Int.reduceDiv, Nat.reduceLT, Nat.reduceLeDiff, Int.reducePow, Nat.reducePow, Int.reduceToNat, SV.imm.injEq, SV.own.injEq, W.int.injEq, W.str.injEq, W.bl.injEq, W.lst.injEq, W.tup.injEq, id_eq, exists_eq', exists_eq_left', Out.nx.injEq, Out.rt.injEq, Nat.zero_le, Int.toNat_natCast, not_true_eq_false, not_false_eq_true, Bool.not_true, Bool.not_false, Bool.false_and, Bool.true_and, Bool.and_true, Bool.and_false, Bool.true_or, Bool.false_or, Bool.or_true, Bool.or_false, Bool.false_eq_true, q_fld, r_fld, q_lrg1, r_lrg1, q_mk, q_fldI, r_fldI, o_fac, q_enum, r_enum1, r_enum2, r_enum3, q_dget, r_dget, q_dnew, q_dput, r_dput, q_clear, q_chain, r_chain, o_isN1, o_isN2, o_isN3, q_fs, r_fs3, r_fs4, r_fs5, at_i0, at_i1, at_i2, at_i3, q_fmt, q_txt, q_kd, r_kd, q_xl, r_xl, q_xpop, r_xpop, q_xnil, q_xcons, r_xc, r_xc2, q_xtup, r_xtup, q_appX, r_a0, r_a1, r_a2, q_setX, r_sx, o_ixK, o_slK, q39b, q_raise, q_metR, r_metR, q_fcx, s_e, de, lt, n9]
theorem seq_rdN (ls : List (List Nat)) : seqO (ls.map rdN) = if ls.all isN = true then some (ls.map NumText.digitsVal) else none := by
  cases h : ls.all isN with
  | true =>
    rw [if_pos rfl]
    have : ls.map rdN = (ls.map NumText.digitsVal).map some := by
      rw [List.map_map]
      refine List.map_congr_left fun l hl => ?_
      rw [List.all_eq_true] at h
      exact if_pos (h l hl)
    rw [this, seqO_some]
  | false =>
    rw [if_neg (by simp)]
    refine seqO_none ?_
    obtain ⟨l, hl, hn⟩ := List.all_eq_false.mp h
    exact List.mem_map.mpr ⟨l, hl, if_neg hn⟩
theorem allW_T {p : List Nat → Bool} {ls : List (List Nat)} : allW [.lst (ls.map fun l => W.bl (p l))] = some (.bl (ls.all p)) := by
  have : ∀ ls : List (List Nat), bools (ls.map fun l => W.bl (p l)) = some (ls.map p) := fun ls => by
    induction ls with
    | nil => rfl
    | cons c l ih => simp only [List.map_cons, bools, ih]
  simp only [allW, this, List.all_map]
  rfl
noncomputable abbrev FLy : En → Option Out := sSeq (sSet 3 (fImm (fFrz (fMetR splitW (fVar 2) (fCons (fC (.str ",")) fNil)))))
    (sIf (fTst (fBin eqW (fVar 2) (fC (.str "-"))))
    (sApp 1 (fCallW tupL fNil))
    (sIf (fTru (fCallW allW (fCons (fFrz (fLc (fSeq (fVar 3)) (aName 4) fYes (fFrz (fCall F_is_number (fCons (fVar 4) fNil))) [4])) fNil)))
    (sApp 1 (fCallW tupleW (fCons (fFrz (fLc (fSeq (fVar 3)) (aName 4) fYes (fCallW intW (fCons (fVar 4) fNil)) [4])) fNil)))
    (sRet (fImm (fC .non)))))
theorem lay_loop (c0 : W) : ∀ (ps : List (List Nat)), (∀ p ∈ ps, Asc p) → ∀ (acc : List (List Nat)) (s2 s3 : Option SV), acc.length + ps.length ≤ 2000000 →
    (∀ rs, seqO (ps.map rdRow) = some rs → ∃ s2' s3' : Option SV, loopW (aName 2) FLy (ps.map sW) [some (.imm c0), some (.own (.lst (acc.map rowW))), s2, s3, none] = some (.nx [some (.imm c0), some (.own (.lst ((acc ++ rs).map rowW))), s2', s3', none])) ∧
    (seqO (ps.map rdRow) = none → loopW (aName 2) FLy (ps.map sW) [some (.imm c0), some (.own (.lst (acc.map rowW))), s2, s3, none] = some (.rt (.imm .non)))
  | [], _, acc, s2, s3, _ => ⟨fun rs h => by cases h; exact ⟨s2, s3, by rw [List.append_nil]; rfl⟩, fun h => by cases h⟩
  | p :: ps, hp, acc, s2, s3, hz => by
    have ap := hp p List.mem_cons_self
    have hs := split_T (c := 44) ap (by decide)
    obtain ⟨ha, hc⟩ := cut_asc (c := 44) ap
    have hlp := ap.2
    have dp : decide (T p = T [45]) = decide (p = [45]) := t_dec
    have room : acc.length < 16777216 := by rw [List.length_cons] at hz; omega
    have go : ∀ r : List Nat, rdRow p = some r → (∀ s3 : Option SV, bO (some (.nx [some (.imm c0), some (.own (.lst (acc.map rowW))), some (.imm (sW p)), s3, none])) sNext = bO (some (.nx [some (.imm c0), some (.own (.lst (acc.map rowW))), some (.imm (sW p)), s3, none])) sNext) →
        ∀ s3 : Option SV, (∀ rs, seqO ((p :: ps).map rdRow) = some rs → ∃ s2' s3' : Option SV, loopW (aName 2) FLy (ps.map sW) [some (.imm c0), some (.own (.lst (acc.map rowW ++ [rowW r]))), some (.imm (sW p)), s3, none] = some (.nx [some (.imm c0), some (.own (.lst ((acc ++ rs).map rowW))), s2', s3', none])) ∧
        (seqO ((p :: ps).map rdRow) = none → loopW (aName 2) FLy (ps.map sW) [some (.imm c0), some (.own (.lst (acc.map rowW ++ [rowW r]))), some (.imm (sW p)), s3, none] = some (.rt (.imm .non))) := fun r hr _ s3 => by
      obtain ⟨k1, k2⟩ := lay_loop c0 ps (fun q hq => hp q (List.mem_cons_of_mem _ hq)) (acc ++ [r]) (some (.imm (sW p))) s3 (by rw [List.length_append, List.length_singleton]; rw [List.length_cons] at hz; omega)
      rw [List.map_append] at k1 k2
      rw [List.map_cons, hr]
      unfold seqO
      cases hq : seqO (ps.map rdRow) with
      | none => exact ⟨fun rs h => (by cases h), fun _ => k2 hq⟩
      | some xs =>
        refine ⟨fun rs h => ?_, fun h => by cases h⟩
        cases h
        obtain ⟨a, b, e⟩ := k1 xs hq
        exact ⟨a, b, by rw [show acc ++ r :: xs = acc ++ [r] ++ xs by simp]; exact e⟩
    by_cases hm : p = [45]
    · rw [decide_eq_true hm] at dp
      have hr : rdRow p = some [] := if_pos hm
      obtain ⟨k1, k2⟩ := go [] hr (fun _ => rfl) (some (.imm (.lst ((cut 44 p).map sW))))
      have er : rowW [] = .tup [] := rfl
      rw [er] at k1 k2
      refine ⟨fun rs h => ?_, fun h => ?_⟩
      · obtain ⟨a, b, e⟩ := k1 rs h
        exact ⟨a, b, by simp only [q_seq, q_if, q_fif, q_and, q_or, q_andV, q_orV, q_bin, q_binR, q_un, q_frz, q_imm, q_nil, q_cons, q_call, q_callW, q_c0, q_var, q_ret, q_set, q_aug, q_app, q_ext, q_pop, q_setIx, q_ixo, q_bor, q_tru, q_tst, q_not, q_notV, q_no, q_so, q_sl, q_sq, q_r1, q_r2, q_for, q_lc, q_asg, q_next, q_yes, q_fix, q_slot, q_drop, q_met, q_run, q1, q2, q2b, q2c, q3, q4, q5, q6, q7, q8, q9, q10, q11, q12, q13, q14, q15, q16, q17, q18, q19, q20, q21, q22, q23, q24, q25, q26, q27, q28, q29, q30, q31, q32, q33, q34, q35, q36, q37, q38, q39, q39b, q40, q41, q42, q44, q45, q46, q47, q48, o_add, o_sub, o_mulR, o_mulL, o_mod, o_div, o_addS, o_addI, o_addL, o_addT, o_p18, o_neg, o_cmp, o_eqI, o_eqS, o_eqB, o_neI, o_neS, o_len1, o_len2, o_len3, o_lenS, o_int, o_ix1, o_ix2, o_ix3, o_tup, o_lst, o_list1, o_list2, o_tuple1, o_tuple2, o_max, o_min, o_slL, o_slT, o_slS, o_mulSt, o_isIint, o_isIbool, o_isIstr, o_isIlist, o_isItuple, o_isBint, o_isBbool, o_isBstr, o_isBlist, o_isBtuple, o_isSint, o_isSbool, o_isSstr, o_isSlist, o_isStuple, o_isLint, o_isLbool, o_isLstr, o_isLlist, o_isLtuple, o_isTint, o_isTbool, o_isTstr, o_isTlist, o_isTtuple, o_isNint, o_isNbool, o_isNstr, o_isNlist, o_isNtuple, o_allT, o_truB, o_truN, o_truI, o_truL, o_truT, q_sv1, q_sv2, view, fixSlot, wipeE, aName, aTup, aCons, aNil, List.map_cons, List.map_nil, List.length_cons, List.length_nil, List.cons_append, List.nil_append, List.replicate_succ, List.replicate_zero, List.getElem?_cons_zero, List.getElem?_cons_succ, List.set_cons_zero, List.set_cons_succ, Option.map_some, Option.map_none, reduceIte, Nat.reduceAdd, Nat.reduceEqDiff, Option.some.injEq, List.length_map, List.length_append, and_true, true_and, and_self, decide_true, decide_false, Int.reduceLT, Int.reduceNeg, Int.reduceLE, Int.reduceEq, Int.reduceMul, Int.reduceAdd, Int.reduceSub, Int.reduceMod, Int.reduceDiv, Nat.reduceLT, Nat.reduceLeDiff, Int.reducePow, Nat.reducePow, Int.reduceToNat, SV.imm.injEq, SV.own.injEq, W.int.injEq, W.str.injEq, W.bl.injEq, W.lst.injEq, W.tup.injEq, id_eq, exists_eq', exists_eq_left', Out.nx.injEq, Out.rt.injEq, Nat.zero_le, Int.toNat_natCast, not_true_eq_false, not_false_eq_true, Bool.not_true, Bool.not_false, Bool.false_and, Bool.true_and, Bool.and_true, Bool.and_false, Bool.true_or, Bool.false_or, Bool.or_true, Bool.or_false, Bool.false_eq_true, q_fld, r_fld, q_lrg1, r_lrg1, q_mk, q_fldI, r_fldI, o_fac, q_enum, r_enum1, r_enum2, r_enum3, q_dget, r_dget, q_dnew, q_dput, r_dput, q_clear, q_chain, r_chain, o_isN1, o_isN2, o_isN3, q_fs, r_fs3, r_fs4, r_fs5, at_i0, at_i1, at_i2, at_i3, q_fmt, q_txt, q_kd, r_kd, q_xl, r_xl, q_xpop, r_xpop, q_xnil, q_xcons, r_xc, r_xc2, q_xtup, r_xtup, q_appX, r_a0, r_a1, r_a2, q_setX, r_sx, o_ixK, o_slK, q39b, q_raise, q_metR, r_metR, q_fcx, q_loop, s_comma, hs, s_minus, dp, room, e]⟩
      · have e := k2 h
        simp only [q_seq, q_if, q_fif, q_and, q_or, q_andV, q_orV, q_bin, q_binR, q_un, q_frz, q_imm, q_nil, q_cons, q_call, q_callW, q_c0, q_var, q_ret, q_set, q_aug, q_app, q_ext, q_pop, q_setIx, q_ixo, q_bor, q_tru, q_tst, q_not, q_notV, q_no, q_so, q_sl, q_sq, q_r1, q_r2, q_for, q_lc, q_asg, q_next, q_yes, q_fix, q_slot, q_drop, q_met, q_run, q1, q2, q2b, q2c, q3, q4, q5, q6, q7, q8, q9, q10, q11, q12, q13, q14, q15, q16, q17, q18, q19, q20, q21, q22, q23, q24, q25, q26, q27, q28, q29, q30, q31, q32, q33, q34, q35, q36, q37, q38, q39, q39b, q40, q41, q42, q44, q45, q46, q47, q48, o_add, o_sub, o_mulR, o_mulL, o_mod, o_div, o_addS, o_addI, o_addL, o_addT, o_p18, o_neg, o_cmp, o_eqI, o_eqS, o_eqB, o_neI, o_neS, o_len1, o_len2, o_len3, o_lenS, o_int, o_ix1, o_ix2, o_ix3, o_tup, o_lst, o_list1, o_list2, o_tuple1, o_tuple2, o_max, o_min, o_slL, o_slT, o_slS, o_mulSt, o_isIint, o_isIbool, o_isIstr, o_isIlist, o_isItuple, o_isBint, o_isBbool, o_isBstr, o_isBlist, o_isBtuple, o_isSint, o_isSbool, o_isSstr, o_isSlist, o_isStuple, o_isLint, o_isLbool, o_isLstr, o_isLlist, o_isLtuple, o_isTint, o_isTbool, o_isTstr, o_isTlist, o_isTtuple, o_isNint, o_isNbool, o_isNstr, o_isNlist, o_isNtuple, o_allT, o_truB, o_truN, o_truI, o_truL, o_truT, q_sv1, q_sv2, view, fixSlot, wipeE, aName, aTup, aCons, aNil, List.map_cons, List.map_nil, List.length_cons, List.length_nil, List.cons_append, List.nil_append, List.replicate_succ, List.replicate_zero, List.getElem?_cons_zero, List.getElem?_cons_succ, List.set_cons_zero, List.set_cons_succ, Option.map_some, Option.map_none, reduceIte, Nat.reduceAdd, Nat.reduceEqDiff, Option.some.injEq, List.length_map, List.length_append, and_true, true_and, and_self, decide_true, decide_false, Int.reduceLT, Int.reduceNeg, Int.reduceLE, Int.reduceEq, Int.reduceMul, Int.reduceAdd, Int.reduceSub, Int.reduceMod, Int.reduceDiv, Nat.reduceLT, Nat.reduceLeDiff, Int.reducePow, Nat.reducePow, Int.reduceToNat, SV.imm.injEq, SV.own.injEq, W.int.injEq, W.str.injEq, W.bl.injEq, W.lst.injEq, W.tup.injEq, id_eq, exists_eq', exists_eq_left', Out.nx.injEq, Out.rt.injEq, Nat.zero_le, Int.toNat_natCast, not_true_eq_false, not_false_eq_true, Bool.not_true, Bool.not_false, Bool.false_and, Bool.true_and, Bool.and_true, Bool.and_false, Bool.true_or, Bool.false_or, Bool.or_true, Bool.or_false, Bool.false_eq_true, q_fld, r_fld, q_lrg1, r_lrg1, q_mk, q_fldI, r_fldI, o_fac, q_enum, r_enum1, r_enum2, r_enum3, q_dget, r_dget, q_dnew, q_dput, r_dput, q_clear, q_chain, r_chain, o_isN1, o_isN2, o_isN3, q_fs, r_fs3, r_fs4, r_fs5, at_i0, at_i1, at_i2, at_i3, q_fmt, q_txt, q_kd, r_kd, q_xl, r_xl, q_xpop, r_xpop, q_xnil, q_xcons, r_xc, r_xc2, q_xtup, r_xtup, q_appX, r_a0, r_a1, r_a2, q_setX, r_sx, o_ixK, o_slK, q39b, q_raise, q_metR, r_metR, q_fcx, q_loop, s_comma, hs, s_minus, dp, room, e]
    · rw [decide_eq_false hm] at dp
      have hr : rdRow p = seqO ((cut 44 p).map rdN) := if_neg hm
      rw [seq_rdN] at hr
      have qa := q43 (A := aName 4) (t := fYes) (g := fFrz (fCall F_is_number (fCons (fVar 4) fNil))) (e := [some (.imm c0), some (.imm (.lst (acc.map rowW))), some (.imm (sW p)), some (.imm (.lst ((cut 44 p).map sW))), none]) (lc_map (f := sW) (l := cut 44 p) (g' := fun b => W.bl b) (k := isN) fun x hx => by
        have inn := is_number_ok (ha x hx)
        simp only [q_seq, q_if, q_fif, q_and, q_or, q_andV, q_orV, q_bin, q_binR, q_un, q_frz, q_imm, q_nil, q_cons, q_call, q_callW, q_c0, q_var, q_ret, q_set, q_aug, q_app, q_ext, q_pop, q_setIx, q_ixo, q_bor, q_tru, q_tst, q_not, q_notV, q_no, q_so, q_sl, q_sq, q_r1, q_r2, q_for, q_lc, q_asg, q_next, q_yes, q_fix, q_slot, q_drop, q_met, q_run, q1, q2, q2b, q2c, q3, q4, q5, q6, q7, q8, q9, q10, q11, q12, q13, q14, q15, q16, q17, q18, q19, q20, q21, q22, q23, q24, q25, q26, q27, q28, q29, q30, q31, q32, q33, q34, q35, q36, q37, q38, q39, q39b, q40, q41, q42, q44, q45, q46, q47, q48, o_add, o_sub, o_mulR, o_mulL, o_mod, o_div, o_addS, o_addI, o_addL, o_addT, o_p18, o_neg, o_cmp, o_eqI, o_eqS, o_eqB, o_neI, o_neS, o_len1, o_len2, o_len3, o_lenS, o_int, o_ix1, o_ix2, o_ix3, o_tup, o_lst, o_list1, o_list2, o_tuple1, o_tuple2, o_max, o_min, o_slL, o_slT, o_slS, o_mulSt, o_isIint, o_isIbool, o_isIstr, o_isIlist, o_isItuple, o_isBint, o_isBbool, o_isBstr, o_isBlist, o_isBtuple, o_isSint, o_isSbool, o_isSstr, o_isSlist, o_isStuple, o_isLint, o_isLbool, o_isLstr, o_isLlist, o_isLtuple, o_isTint, o_isTbool, o_isTstr, o_isTlist, o_isTtuple, o_isNint, o_isNbool, o_isNstr, o_isNlist, o_isNtuple, o_allT, o_truB, o_truN, o_truI, o_truL, o_truT, q_sv1, q_sv2, view, fixSlot, wipeE, aName, aTup, aCons, aNil, List.map_cons, List.map_nil, List.length_cons, List.length_nil, List.cons_append, List.nil_append, List.replicate_succ, List.replicate_zero, List.getElem?_cons_zero, List.getElem?_cons_succ, List.set_cons_zero, List.set_cons_succ, Option.map_some, Option.map_none, reduceIte, Nat.reduceAdd, Nat.reduceEqDiff, Option.some.injEq, List.length_map, List.length_append, and_true, true_and, and_self, decide_true, decide_false, Int.reduceLT, Int.reduceNeg, Int.reduceLE, Int.reduceEq, Int.reduceMul, Int.reduceAdd, Int.reduceSub, Int.reduceMod, Int.reduceDiv, Nat.reduceLT, Nat.reduceLeDiff, Int.reducePow, Nat.reducePow, Int.reduceToNat, SV.imm.injEq, SV.own.injEq, W.int.injEq, W.str.injEq, W.bl.injEq, W.lst.injEq, W.tup.injEq, id_eq, exists_eq', exists_eq_left', Out.nx.injEq, Out.rt.injEq, Nat.zero_le, Int.toNat_natCast, not_true_eq_false, not_false_eq_true, Bool.not_true, Bool.not_false, Bool.false_and, Bool.true_and, Bool.and_true, Bool.and_false, Bool.true_or, Bool.false_or, Bool.or_true, Bool.or_false, Bool.false_eq_true, q_fld, r_fld, q_lrg1, r_lrg1, q_mk, q_fldI, r_fldI, o_fac, q_enum, r_enum1, r_enum2, r_enum3, q_dget, r_dget, q_dnew, q_dput, r_dput, q_clear, q_chain, r_chain, o_isN1, o_isN2, o_isN3, q_fs, r_fs3, r_fs4, r_fs5, at_i0, at_i1, at_i2, at_i3, q_fmt, q_txt, q_kd, r_kd, q_xl, r_xl, q_xpop, r_xpop, q_xnil, q_xcons, r_xc, r_xc2, q_xtup, r_xtup, q_appX, r_a0, r_a1, r_a2, q_setX, r_sx, o_ixK, o_slK, q39b, q_raise, q_metR, r_metR, q_fcx, inn]) (by simp; omega)
      have qa' : bC (some ((cut 44 p).map sW)) (aName 4) fYes (fFrz (fCall F_is_number (fCons (fVar 4) fNil))) [some (.imm c0), some (.imm (.lst (acc.map rowW))), some (.imm (sW p)), some (.imm (.lst ((cut 44 p).map sW))), none] = some (.own (.lst ((cut 44 p).map fun l => W.bl (isN l)))) := by
        rw [qa, List.map_map]
        rfl
      have al := allW_T (p := isN) (ls := cut 44 p)
      cases hN : (cut 44 p).all isN with
      | true =>
        rw [hN] at al hr
        rw [if_pos rfl] at hr
        obtain ⟨k1, k2⟩ := go _ hr (fun _ => rfl) (some (.imm (.lst ((cut 44 p).map sW))))
        have qi := q43 (A := aName 4) (t := fYes) (g := fCallW intW (fCons (fVar 4) fNil)) (e := [some (.imm c0), some (.own (.lst (acc.map rowW))), some (.imm (sW p)), some (.imm (.lst ((cut 44 p).map sW))), none]) (lc_map (f := sW) (l := cut 44 p) (g' := nW) (k := NumText.digitsVal) fun x hx => by
          have iv := int_Tn (List.all_eq_true.mp hN x hx)
          simp only [q_seq, q_if, q_fif, q_and, q_or, q_andV, q_orV, q_bin, q_binR, q_un, q_frz, q_imm, q_nil, q_cons, q_call, q_callW, q_c0, q_var, q_ret, q_set, q_aug, q_app, q_ext, q_pop, q_setIx, q_ixo, q_bor, q_tru, q_tst, q_not, q_notV, q_no, q_so, q_sl, q_sq, q_r1, q_r2, q_for, q_lc, q_asg, q_next, q_yes, q_fix, q_slot, q_drop, q_met, q_run, q1, q2, q2b, q2c, q3, q4, q5, q6, q7, q8, q9, q10, q11, q12, q13, q14, q15, q16, q17, q18, q19, q20, q21, q22, q23, q24, q25, q26, q27, q28, q29, q30, q31, q32, q33, q34, q35, q36, q37, q38, q39, q39b, q40, q41, q42, q44, q45, q46, q47, q48, o_add, o_sub, o_mulR, o_mulL, o_mod, o_div, o_addS, o_addI, o_addL, o_addT, o_p18, o_neg, o_cmp, o_eqI, o_eqS, o_eqB, o_neI, o_neS, o_len1, o_len2, o_len3, o_lenS, o_int, o_ix1, o_ix2, o_ix3, o_tup, o_lst, o_list1, o_list2, o_tuple1, o_tuple2, o_max, o_min, o_slL, o_slT, o_slS, o_mulSt, o_isIint, o_isIbool, o_isIstr, o_isIlist, o_isItuple, o_isBint, o_isBbool, o_isBstr, o_isBlist, o_isBtuple, o_isSint, o_isSbool, o_isSstr, o_isSlist, o_isStuple, o_isLint, o_isLbool, o_isLstr, o_isLlist, o_isLtuple, o_isTint, o_isTbool, o_isTstr, o_isTlist, o_isTtuple, o_isNint, o_isNbool, o_isNstr, o_isNlist, o_isNtuple, o_allT, o_truB, o_truN, o_truI, o_truL, o_truT, q_sv1, q_sv2, view, fixSlot, wipeE, aName, aTup, aCons, aNil, List.map_cons, List.map_nil, List.length_cons, List.length_nil, List.cons_append, List.nil_append, List.replicate_succ, List.replicate_zero, List.getElem?_cons_zero, List.getElem?_cons_succ, List.set_cons_zero, List.set_cons_succ, Option.map_some, Option.map_none, reduceIte, Nat.reduceAdd, Nat.reduceEqDiff, Option.some.injEq, List.length_map, List.length_append, and_true, true_and, and_self, decide_true, decide_false, Int.reduceLT, Int.reduceNeg, Int.reduceLE, Int.reduceEq, Int.reduceMul, Int.reduceAdd, Int.reduceSub, Int.reduceMod, Int.reduceDiv, Nat.reduceLT, Nat.reduceLeDiff, Int.reducePow, Nat.reducePow, Int.reduceToNat, SV.imm.injEq, SV.own.injEq, W.int.injEq, W.str.injEq, W.bl.injEq, W.lst.injEq, W.tup.injEq, id_eq, exists_eq', exists_eq_left', Out.nx.injEq, Out.rt.injEq, Nat.zero_le, Int.toNat_natCast, not_true_eq_false, not_false_eq_true, Bool.not_true, Bool.not_false, Bool.false_and, Bool.true_and, Bool.and_true, Bool.and_false, Bool.true_or, Bool.false_or, Bool.or_true, Bool.or_false, Bool.false_eq_true, q_fld, r_fld, q_lrg1, r_lrg1, q_mk, q_fldI, r_fldI, o_fac, q_enum, r_enum1, r_enum2, r_enum3, q_dget, r_dget, q_dnew, q_dput, r_dput, q_clear, q_chain, r_chain, o_isN1, o_isN2, o_isN3, q_fs, r_fs3, r_fs4, r_fs5, at_i0, at_i1, at_i2, at_i3, q_fmt, q_txt, q_kd, r_kd, q_xl, r_xl, q_xpop, r_xpop, q_xnil, q_xcons, r_xc, r_xc2, q_xtup, r_xtup, q_appX, r_a0, r_a1, r_a2, q_setX, r_sx, o_ixK, o_slK, q39b, q_raise, q_metR, r_metR, q_fcx, iv]
          rfl) (by simp; omega)
        have er : rowW ((cut 44 p).map NumText.digitsVal) = .tup (((cut 44 p).map NumText.digitsVal).map nW) := rfl
        rw [er] at k1 k2
        generalize ((cut 44 p).map NumText.digitsVal).map nW = Y at k1 k2 qi
        generalize ((cut 44 p).map fun l => W.bl (isN l)) = Z at qa' al
        refine ⟨fun rs h => ?_, fun h => ?_⟩
        · obtain ⟨a, b, e⟩ := k1 rs h
          exact ⟨a, b, by simp only [q_seq, q_if, q_fif, q_and, q_or, q_andV, q_orV, q_bin, q_binR, q_un, q_frz, q_imm, q_nil, q_cons, q_call, q_callW, q_c0, q_var, q_ret, q_set, q_aug, q_app, q_ext, q_pop, q_setIx, q_ixo, q_bor, q_tru, q_tst, q_not, q_notV, q_no, q_so, q_sl, q_sq, q_r1, q_r2, q_for, q_lc, q_asg, q_next, q_yes, q_fix, q_slot, q_drop, q_met, q_run, q1, q2, q2b, q2c, q3, q4, q5, q6, q7, q8, q9, q10, q11, q12, q13, q14, q15, q16, q17, q18, q19, q20, q21, q22, q23, q24, q25, q26, q27, q28, q29, q30, q31, q32, q33, q34, q35, q36, q37, q38, q39, q39b, q40, q41, q42, q44, q45, q46, q47, q48, o_add, o_sub, o_mulR, o_mulL, o_mod, o_div, o_addS, o_addI, o_addL, o_addT, o_p18, o_neg, o_cmp, o_eqI, o_eqS, o_eqB, o_neI, o_neS, o_len1, o_len2, o_len3, o_lenS, o_int, o_ix1, o_ix2, o_ix3, o_tup, o_lst, o_list1, o_list2, o_tuple1, o_tuple2, o_max, o_min, o_slL, o_slT, o_slS, o_mulSt, o_isIint, o_isIbool, o_isIstr, o_isIlist, o_isItuple, o_isBint, o_isBbool, o_isBstr, o_isBlist, o_isBtuple, o_isSint, o_isSbool, o_isSstr, o_isSlist, o_isStuple, o_isLint, o_isLbool, o_isLstr, o_isLlist, o_isLtuple, o_isTint, o_isTbool, o_isTstr, o_isTlist, o_isTtuple, o_isNint, o_isNbool, o_isNstr, o_isNlist, o_isNtuple, o_allT, o_truB, o_truN, o_truI, o_truL, o_truT, q_sv1, q_sv2, view, fixSlot, wipeE, aName, aTup, aCons, aNil, List.map_cons, List.map_nil, List.length_cons, List.length_nil, List.cons_append, List.nil_append, List.replicate_succ, List.replicate_zero, List.getElem?_cons_zero, List.getElem?_cons_succ, List.set_cons_zero, List.set_cons_succ, Option.map_some, Option.map_none, reduceIte, Nat.reduceAdd, Nat.reduceEqDiff, Option.some.injEq, List.length_map, List.length_append, and_true, true_and, and_self, decide_true, decide_false, Int.reduceLT, Int.reduceNeg, Int.reduceLE, Int.reduceEq, Int.reduceMul, Int.reduceAdd, Int.reduceSub, Int.reduceMod, Int.reduceDiv, Nat.reduceLT, Nat.reduceLeDiff, Int.reducePow, Nat.reducePow, Int.reduceToNat, SV.imm.injEq, SV.own.injEq, W.int.injEq, W.str.injEq, W.bl.injEq, W.lst.injEq, W.tup.injEq, id_eq, exists_eq', exists_eq_left', Out.nx.injEq, Out.rt.injEq, Nat.zero_le, Int.toNat_natCast, not_true_eq_false, not_false_eq_true, Bool.not_true, Bool.not_false, Bool.false_and, Bool.true_and, Bool.and_true, Bool.and_false, Bool.true_or, Bool.false_or, Bool.or_true, Bool.or_false, Bool.false_eq_true, q_fld, r_fld, q_lrg1, r_lrg1, q_mk, q_fldI, r_fldI, o_fac, q_enum, r_enum1, r_enum2, r_enum3, q_dget, r_dget, q_dnew, q_dput, r_dput, q_clear, q_chain, r_chain, o_isN1, o_isN2, o_isN3, q_fs, r_fs3, r_fs4, r_fs5, at_i0, at_i1, at_i2, at_i3, q_fmt, q_txt, q_kd, r_kd, q_xl, r_xl, q_xpop, r_xpop, q_xnil, q_xcons, r_xc, r_xc2, q_xtup, r_xtup, q_appX, r_a0, r_a1, r_a2, q_setX, r_sx, o_ixK, o_slK, q39b, q_raise, q_metR, r_metR, q_fcx, q_loop, s_comma, hs, s_minus, dp, qa', al, qi, room, e]⟩
        · have e := k2 h
          simp only [q_seq, q_if, q_fif, q_and, q_or, q_andV, q_orV, q_bin, q_binR, q_un, q_frz, q_imm, q_nil, q_cons, q_call, q_callW, q_c0, q_var, q_ret, q_set, q_aug, q_app, q_ext, q_pop, q_setIx, q_ixo, q_bor, q_tru, q_tst, q_not, q_notV, q_no, q_so, q_sl, q_sq, q_r1, q_r2, q_for, q_lc, q_asg, q_next, q_yes, q_fix, q_slot, q_drop, q_met, q_run, q1, q2, q2b, q2c, q3, q4, q5, q6, q7, q8, q9, q10, q11, q12, q13, q14, q15, q16, q17, q18, q19, q20, q21, q22, q23, q24, q25, q26, q27, q28, q29, q30, q31, q32, q33, q34, q35, q36, q37, q38, q39, q39b, q40, q41, q42, q44, q45, q46, q47, q48, o_add, o_sub, o_mulR, o_mulL, o_mod, o_div, o_addS, o_addI, o_addL, o_addT, o_p18, o_neg, o_cmp, o_eqI, o_eqS, o_eqB, o_neI, o_neS, o_len1, o_len2, o_len3, o_lenS, o_int, o_ix1, o_ix2, o_ix3, o_tup, o_lst, o_list1, o_list2, o_tuple1, o_tuple2, o_max, o_min, o_slL, o_slT, o_slS, o_mulSt, o_isIint, o_isIbool, o_isIstr, o_isIlist, o_isItuple, o_isBint, o_isBbool, o_isBstr, o_isBlist, o_isBtuple, o_isSint, o_isSbool, o_isSstr, o_isSlist, o_isStuple, o_isLint, o_isLbool, o_isLstr, o_isLlist, o_isLtuple, o_isTint, o_isTbool, o_isTstr, o_isTlist, o_isTtuple, o_isNint, o_isNbool, o_isNstr, o_isNlist, o_isNtuple, o_allT, o_truB, o_truN, o_truI, o_truL, o_truT, q_sv1, q_sv2, view, fixSlot, wipeE, aName, aTup, aCons, aNil, List.map_cons, List.map_nil, List.length_cons, List.length_nil, List.cons_append, List.nil_append, List.replicate_succ, List.replicate_zero, List.getElem?_cons_zero, List.getElem?_cons_succ, List.set_cons_zero, List.set_cons_succ, Option.map_some, Option.map_none, reduceIte, Nat.reduceAdd, Nat.reduceEqDiff, Option.some.injEq, List.length_map, List.length_append, and_true, true_and, and_self, decide_true, decide_false, Int.reduceLT, Int.reduceNeg, Int.reduceLE, Int.reduceEq, Int.reduceMul, Int.reduceAdd, Int.reduceSub, Int.reduceMod, Int.reduceDiv, Nat.reduceLT, Nat.reduceLeDiff, Int.reducePow, Nat.reducePow, Int.reduceToNat, SV.imm.injEq, SV.own.injEq, W.int.injEq, W.str.injEq, W.bl.injEq, W.lst.injEq, W.tup.injEq, id_eq, exists_eq', exists_eq_left', Out.nx.injEq, Out.rt.injEq, Nat.zero_le, Int.toNat_natCast, not_true_eq_false, not_false_eq_true, Bool.not_true, Bool.not_false, Bool.false_and, Bool.true_and, Bool.and_true, Bool.and_false, Bool.true_or, Bool.false_or, Bool.or_true, Bool.or_false, Bool.false_eq_true, q_fld, r_fld, q_lrg1, r_lrg1, q_mk, q_fldI, r_fldI, o_fac, q_enum, r_enum1, r_enum2, r_enum3, q_dget, r_dget, q_dnew, q_dput, r_dput, q_clear, q_chain, r_chain, o_isN1, o_isN2, o_isN3, q_fs, r_fs3, r_fs4, r_fs5, at_i0, at_i1, at_i2, at_i3, q_fmt, q_txt, q_kd, r_kd, q_xl, r_xl, q_xpop, r_xpop, q_xnil, q_xcons, r_xc, r_xc2, q_xtup, r_xtup, q_appX, r_a0, r_a1, r_a2, q_setX, r_sx, o_ixK, o_slK, q39b, q_raise, q_metR, r_metR, q_fcx, q_loop, s_comma, hs, s_minus, dp, qa', al, qi, room, e]
      | false =>
        rw [hN] at al hr
        rw [if_neg (by simp)] at hr
        have hn : seqO ((p :: ps).map rdRow) = none := by
          rw [List.map_cons, hr]
          rfl
        generalize ((cut 44 p).map fun l => W.bl (isN l)) = Z at qa' al
        refine ⟨fun rs h => (by rw [hn] at h; cases h), fun _ => ?_⟩
        simp only [q_seq, q_if, q_fif, q_and, q_or, q_andV, q_orV, q_bin, q_binR, q_un, q_frz, q_imm, q_nil, q_cons, q_call, q_callW, q_c0, q_var, q_ret, q_set, q_aug, q_app, q_ext, q_pop, q_setIx, q_ixo, q_bor, q_tru, q_tst, q_not, q_notV, q_no, q_so, q_sl, q_sq, q_r1, q_r2, q_for, q_lc, q_asg, q_next, q_yes, q_fix, q_slot, q_drop, q_met, q_run, q1, q2, q2b, q2c, q3, q4, q5, q6, q7, q8, q9, q10, q11, q12, q13, q14, q15, q16, q17, q18, q19, q20, q21, q22, q23, q24, q25, q26, q27, q28, q29, q30, q31, q32, q33, q34, q35, q36, q37, q38, q39, q39b, q40, q41, q42, q44, q45, q46, q47, q48, o_add, o_sub, o_mulR, o_mulL, o_mod, o_div, o_addS, o_addI, o_addL, o_addT, o_p18, o_neg, o_cmp, o_eqI, o_eqS, o_eqB, o_neI, o_neS, o_len1, o_len2, o_len3, o_lenS, o_int, o_ix1, o_ix2, o_ix3, o_tup, o_lst, o_list1, o_list2, o_tuple1, o_tuple2, o_max, o_min, o_slL, o_slT, o_slS, o_mulSt, o_isIint, o_isIbool, o_isIstr, o_isIlist, o_isItuple, o_isBint, o_isBbool, o_isBstr, o_isBlist, o_isBtuple, o_isSint, o_isSbool, o_isSstr, o_isSlist, o_isStuple, o_isLint, o_isLbool, o_isLstr, o_isLlist, o_isLtuple, o_isTint, o_isTbool, o_isTstr, o_isTlist, o_isTtuple, o_isNint, o_isNbool, o_isNstr, o_isNlist, o_isNtuple, o_allT, o_truB, o_truN, o_truI, o_truL, o_truT, q_sv1, q_sv2, view, fixSlot, wipeE, aName, aTup, aCons, aNil, List.map_cons, List.map_nil, List.length_cons, List.length_nil, List.cons_append, List.nil_append, List.replicate_succ, List.replicate_zero, List.getElem?_cons_zero, List.getElem?_cons_succ, List.set_cons_zero, List.set_cons_succ, Option.map_some, Option.map_none, reduceIte, Nat.reduceAdd, Nat.reduceEqDiff, Option.some.injEq, List.length_map, List.length_append, and_true, true_and, and_self, decide_true, decide_false, Int.reduceLT, Int.reduceNeg, Int.reduceLE, Int.reduceEq, Int.reduceMul, Int.reduceAdd, Int.reduceSub, Int.reduceMod, Int.reduceDiv, Nat.reduceLT, Nat.reduceLeDiff, Int.reducePow, Nat.reducePow, Int.reduceToNat, SV.imm.injEq, SV.own.injEq, W.int.injEq, W.str.injEq, W.bl.injEq, W.lst.injEq, W.tup.injEq, id_eq, exists_eq', exists_eq_left', Out.nx.injEq, Out.rt.injEq, Nat.zero_le, Int.toNat_natCast, not_true_eq_false, not_false_eq_true, Bool.not_true, Bool.not_false, Bool.false_and, Bool.true_and, Bool.and_true, Bool.and_false, Bool.true_or, Bool.false_or, Bool.or_true, Bool.or_false, Bool.false_eq_true, q_fld, r_fld, q_lrg1, r_lrg1, q_mk, q_fldI, r_fldI, o_fac, q_enum, r_enum1, r_enum2, r_enum3, q_dget, r_dget, q_dnew, q_dput, r_dput, q_clear, q_chain, r_chain, o_isN1, o_isN2, o_isN3, q_fs, r_fs3, r_fs4, r_fs5, at_i0, at_i1, at_i2, at_i3, q_fmt, q_txt, q_kd, r_kd, q_xl, r_xl, q_xpop, r_xpop, q_xnil, q_xcons, r_xc, r_xc2, q_xtup, r_xtup, q_appX, r_a0, r_a1, r_a2, q_setX, r_sx, o_ixK, o_slK, q39b, q_raise, q_metR, r_metR, q_fcx, q_loop, s_comma, hs, s_minus, dp, qa', al, q47]
theorem layer_ok {t : List Nat} (h : Asc t) : F_layer [.str (T t)] = some (.imm (optW layW (rdLay t))) := by
  have hs := split_T (c := 47) h (by decide)
  obtain ⟨ha, hc⟩ := cut_asc (c := 47) h
  have hl := h.2
  have dt : decide (T t = T [46]) = decide (t = [46]) := t_dec
  unfold F_layer B_layer rdLay
  by_cases hm : t = [46]
  · rw [if_pos hm]
    rw [decide_eq_true hm] at dt
    simp only [q_seq, q_if, q_fif, q_and, q_or, q_andV, q_orV, q_bin, q_binR, q_un, q_frz, q_imm, q_nil, q_cons, q_call, q_callW, q_c0, q_var, q_ret, q_set, q_aug, q_app, q_ext, q_pop, q_setIx, q_ixo, q_bor, q_tru, q_tst, q_not, q_notV, q_no, q_so, q_sl, q_sq, q_r1, q_r2, q_for, q_lc, q_asg, q_next, q_yes, q_fix, q_slot, q_drop, q_met, q_run, q1, q2, q2b, q2c, q3, q4, q5, q6, q7, q8, q9, q10, q11, q12, q13, q14, q15, q16, q17, q18, q19, q20, q21, q22, q23, q24, q25, q26, q27, q28, q29, q30, q31, q32, q33, q34, q35, q36, q37, q38, q39, q39b, q40, q41, q42, q44, q45, q46, q47, q48, o_add, o_sub, o_mulR, o_mulL, o_mod, o_div, o_addS, o_addI, o_addL, o_addT, o_p18, o_neg, o_cmp, o_eqI, o_eqS, o_eqB, o_neI, o_neS, o_len1, o_len2, o_len3, o_lenS, o_int, o_ix1, o_ix2, o_ix3, o_tup, o_lst, o_list1, o_list2, o_tuple1, o_tuple2, o_max, o_min, o_slL, o_slT, o_slS, o_mulSt, o_isIint, o_isIbool, o_isIstr, o_isIlist, o_isItuple, o_isBint, o_isBbool, o_isBstr, o_isBlist, o_isBtuple, o_isSint, o_isSbool, o_isSstr, o_isSlist, o_isStuple, o_isLint, o_isLbool, o_isLstr, o_isLlist, o_isLtuple, o_isTint, o_isTbool, o_isTstr, o_isTlist, o_isTtuple, o_isNint, o_isNbool, o_isNstr, o_isNlist, o_isNtuple, o_allT, o_truB, o_truN, o_truI, o_truL, o_truT, q_sv1, q_sv2, view, fixSlot, wipeE, aName, aTup, aCons, aNil, List.map_cons, List.map_nil, List.length_cons, List.length_nil, List.cons_append, List.nil_append, List.replicate_succ, List.replicate_zero, List.getElem?_cons_zero, List.getElem?_cons_succ, List.set_cons_zero, List.set_cons_succ, Option.map_some, Option.map_none, reduceIte, Nat.reduceAdd, Nat.reduceEqDiff, Option.some.injEq, List.length_map, List.length_append, and_true, true_and, and_self, decide_true, decide_false, Int.reduceLT, Int.reduceNeg, Int.reduceLE, Int.reduceEq, Int.reduceMul, Int.reduceAdd, Int.reduceSub, Int.reduceMod, Int.reduceDiv, Nat.reduceLT, Nat.reduceLeDiff, Int.reducePow, Nat.reducePow, Int.reduceToNat, SV.imm.injEq, SV.own.injEq, W.int.injEq, W.str.injEq, W.bl.injEq, W.lst.injEq, W.tup.injEq, id_eq, exists_eq', exists_eq_left', Out.nx.injEq, Out.rt.injEq, Nat.zero_le, Int.toNat_natCast, not_true_eq_false, not_false_eq_true, Bool.not_true, Bool.not_false, Bool.false_and, Bool.true_and, Bool.and_true, Bool.and_false, Bool.true_or, Bool.false_or, Bool.or_true, Bool.or_false, Bool.false_eq_true, q_fld, r_fld, q_lrg1, r_lrg1, q_mk, q_fldI, r_fldI, o_fac, q_enum, r_enum1, r_enum2, r_enum3, q_dget, r_dget, q_dnew, q_dput, r_dput, q_clear, q_chain, r_chain, o_isN1, o_isN2, o_isN3, q_fs, r_fs3, r_fs4, r_fs5, at_i0, at_i1, at_i2, at_i3, q_fmt, q_txt, q_kd, r_kd, q_xl, r_xl, q_xpop, r_xpop, q_xnil, q_xcons, r_xc, r_xc2, q_xtup, r_xtup, q_appX, r_a0, r_a1, r_a2, q_setX, r_sx, o_ixK, o_slK, q39b, q_raise, q_metR, r_metR, q_fcx, s_dot, dt]
    rfl
  · rw [if_neg hm]
    rw [decide_eq_false hm] at dt
    obtain ⟨k1, k2⟩ := lay_loop (.str (T t)) (cut 47 t) ha [] none none (by simp; omega)
    cases hq : seqO ((cut 47 t).map rdRow) with
    | none =>
      have e := k2 hq
      rw [List.map_nil] at e
      simp only [q_seq, q_if, q_fif, q_and, q_or, q_andV, q_orV, q_bin, q_binR, q_un, q_frz, q_imm, q_nil, q_cons, q_call, q_callW, q_c0, q_var, q_ret, q_set, q_aug, q_app, q_ext, q_pop, q_setIx, q_ixo, q_bor, q_tru, q_tst, q_not, q_notV, q_no, q_so, q_sl, q_sq, q_r1, q_r2, q_for, q_lc, q_asg, q_next, q_yes, q_fix, q_slot, q_drop, q_met, q_run, q1, q2, q2b, q2c, q3, q4, q5, q6, q7, q8, q9, q10, q11, q12, q13, q14, q15, q16, q17, q18, q19, q20, q21, q22, q23, q24, q25, q26, q27, q28, q29, q30, q31, q32, q33, q34, q35, q36, q37, q38, q39, q39b, q40, q41, q42, q44, q45, q46, q47, q48, o_add, o_sub, o_mulR, o_mulL, o_mod, o_div, o_addS, o_addI, o_addL, o_addT, o_p18, o_neg, o_cmp, o_eqI, o_eqS, o_eqB, o_neI, o_neS, o_len1, o_len2, o_len3, o_lenS, o_int, o_ix1, o_ix2, o_ix3, o_tup, o_lst, o_list1, o_list2, o_tuple1, o_tuple2, o_max, o_min, o_slL, o_slT, o_slS, o_mulSt, o_isIint, o_isIbool, o_isIstr, o_isIlist, o_isItuple, o_isBint, o_isBbool, o_isBstr, o_isBlist, o_isBtuple, o_isSint, o_isSbool, o_isSstr, o_isSlist, o_isStuple, o_isLint, o_isLbool, o_isLstr, o_isLlist, o_isLtuple, o_isTint, o_isTbool, o_isTstr, o_isTlist, o_isTtuple, o_isNint, o_isNbool, o_isNstr, o_isNlist, o_isNtuple, o_allT, o_truB, o_truN, o_truI, o_truL, o_truT, q_sv1, q_sv2, view, fixSlot, wipeE, aName, aTup, aCons, aNil, List.map_cons, List.map_nil, List.length_cons, List.length_nil, List.cons_append, List.nil_append, List.replicate_succ, List.replicate_zero, List.getElem?_cons_zero, List.getElem?_cons_succ, List.set_cons_zero, List.set_cons_succ, Option.map_some, Option.map_none, reduceIte, Nat.reduceAdd, Nat.reduceEqDiff, Option.some.injEq, List.length_map, List.length_append, and_true, true_and, and_self, decide_true, decide_false, Int.reduceLT, Int.reduceNeg, Int.reduceLE, Int.reduceEq, Int.reduceMul, Int.reduceAdd, Int.reduceSub, Int.reduceMod, Int.reduceDiv, Nat.reduceLT, Nat.reduceLeDiff, Int.reducePow, Nat.reducePow, Int.reduceToNat, SV.imm.injEq, SV.own.injEq, W.int.injEq, W.str.injEq, W.bl.injEq, W.lst.injEq, W.tup.injEq, id_eq, exists_eq', exists_eq_left', Out.nx.injEq, Out.rt.injEq, Nat.zero_le, Int.toNat_natCast, not_true_eq_false, not_false_eq_true, Bool.not_true, Bool.not_false, Bool.false_and, Bool.true_and, Bool.and_true, Bool.and_false, Bool.true_or, Bool.false_or, Bool.or_true, Bool.or_false, Bool.false_eq_true, q_fld, r_fld, q_lrg1, r_lrg1, q_mk, q_fldI, r_fldI, o_fac, q_enum, r_enum1, r_enum2, r_enum3, q_dget, r_dget, q_dnew, q_dput, r_dput, q_clear, q_chain, r_chain, o_isN1, o_isN2, o_isN3, q_fs, r_fs3, r_fs4, r_fs5, at_i0, at_i1, at_i2, at_i3, q_fmt, q_txt, q_kd, r_kd, q_xl, r_xl, q_xpop, r_xpop, q_xnil, q_xcons, r_xc, r_xc2, q_xtup, r_xtup, q_appX, r_a0, r_a1, r_a2, q_setX, r_sx, o_ixK, o_slK, q39b, q_raise, q_metR, r_metR, q_fcx, s_dot, dt, s_slash, hs, e]
      rfl
    | some rs =>
      obtain ⟨a, b, e⟩ := k1 rs hq
      rw [List.map_nil, List.nil_append] at e
      simp only [q_seq, q_if, q_fif, q_and, q_or, q_andV, q_orV, q_bin, q_binR, q_un, q_frz, q_imm, q_nil, q_cons, q_call, q_callW, q_c0, q_var, q_ret, q_set, q_aug, q_app, q_ext, q_pop, q_setIx, q_ixo, q_bor, q_tru, q_tst, q_not, q_notV, q_no, q_so, q_sl, q_sq, q_r1, q_r2, q_for, q_lc, q_asg, q_next, q_yes, q_fix, q_slot, q_drop, q_met, q_run, q1, q2, q2b, q2c, q3, q4, q5, q6, q7, q8, q9, q10, q11, q12, q13, q14, q15, q16, q17, q18, q19, q20, q21, q22, q23, q24, q25, q26, q27, q28, q29, q30, q31, q32, q33, q34, q35, q36, q37, q38, q39, q39b, q40, q41, q42, q44, q45, q46, q47, q48, o_add, o_sub, o_mulR, o_mulL, o_mod, o_div, o_addS, o_addI, o_addL, o_addT, o_p18, o_neg, o_cmp, o_eqI, o_eqS, o_eqB, o_neI, o_neS, o_len1, o_len2, o_len3, o_lenS, o_int, o_ix1, o_ix2, o_ix3, o_tup, o_lst, o_list1, o_list2, o_tuple1, o_tuple2, o_max, o_min, o_slL, o_slT, o_slS, o_mulSt, o_isIint, o_isIbool, o_isIstr, o_isIlist, o_isItuple, o_isBint, o_isBbool, o_isBstr, o_isBlist, o_isBtuple, o_isSint, o_isSbool, o_isSstr, o_isSlist, o_isStuple, o_isLint, o_isLbool, o_isLstr, o_isLlist, o_isLtuple, o_isTint, o_isTbool, o_isTstr, o_isTlist, o_isTtuple, o_isNint, o_isNbool, o_isNstr, o_isNlist, o_isNtuple, o_allT, o_truB, o_truN, o_truI, o_truL, o_truT, q_sv1, q_sv2, view, fixSlot, wipeE, aName, aTup, aCons, aNil, List.map_cons, List.map_nil, List.length_cons, List.length_nil, List.cons_append, List.nil_append, List.replicate_succ, List.replicate_zero, List.getElem?_cons_zero, List.getElem?_cons_succ, List.set_cons_zero, List.set_cons_succ, Option.map_some, Option.map_none, reduceIte, Nat.reduceAdd, Nat.reduceEqDiff, Option.some.injEq, List.length_map, List.length_append, and_true, true_and, and_self, decide_true, decide_false, Int.reduceLT, Int.reduceNeg, Int.reduceLE, Int.reduceEq, Int.reduceMul, Int.reduceAdd, Int.reduceSub, Int.reduceMod, Int.reduceDiv, Nat.reduceLT, Nat.reduceLeDiff, Int.reducePow, Nat.reducePow, Int.reduceToNat, SV.imm.injEq, SV.own.injEq, W.int.injEq, W.str.injEq, W.bl.injEq, W.lst.injEq, W.tup.injEq, id_eq, exists_eq', exists_eq_left', Out.nx.injEq, Out.rt.injEq, Nat.zero_le, Int.toNat_natCast, not_true_eq_false, not_false_eq_true, Bool.not_true, Bool.not_false, Bool.false_and, Bool.true_and, Bool.and_true, Bool.and_false, Bool.true_or, Bool.false_or, Bool.or_true, Bool.or_false, Bool.false_eq_true, q_fld, r_fld, q_lrg1, r_lrg1, q_mk, q_fldI, r_fldI, o_fac, q_enum, r_enum1, r_enum2, r_enum3, q_dget, r_dget, q_dnew, q_dput, r_dput, q_clear, q_chain, r_chain, o_isN1, o_isN2, o_isN3, q_fs, r_fs3, r_fs4, r_fs5, at_i0, at_i1, at_i2, at_i3, q_fmt, q_txt, q_kd, r_kd, q_xl, r_xl, q_xpop, r_xpop, q_xnil, q_xcons, r_xc, r_xc2, q_xtup, r_xtup, q_appX, r_a0, r_a1, r_a2, q_setX, r_sx, o_ixK, o_slK, q39b, q_raise, q_metR, r_metR, q_fcx, s_dot, dt, s_slash, hs, e]
      rfl
abbrev FNn : En → Option Out := sIf (fTst (fBin isNonW (fVar 2) (fC .non)))
    (sRet (fImm (fC .non)))
    sNext
theorem nn_loop (c0 c1 : W) : ∀ (os : List (Option (List (List Nat)))) (s2 : Option SV), (os.any Option.isNone = false → ∃ s2' : Option SV, loopW (aName 2) FNn (os.map (optW layW)) [some (.imm c0), some (.imm c1), s2, none] = some (.nx [some (.imm c0), some (.imm c1), s2', none])) ∧
    (os.any Option.isNone = true → loopW (aName 2) FNn (os.map (optW layW)) [some (.imm c0), some (.imm c1), s2, none] = some (.rt (.imm .non)))
  | [], s2 => ⟨fun _ => ⟨s2, rfl⟩, fun h => by simp at h⟩
  | none :: os, s2 => by
    have e : optW layW none = .non := rfl
    exact ⟨fun h => by simp at h, fun _ => by simp only [q_seq, q_if, q_fif, q_and, q_or, q_andV, q_orV, q_bin, q_binR, q_un, q_frz, q_imm, q_nil, q_cons, q_call, q_callW, q_c0, q_var, q_ret, q_set, q_aug, q_app, q_ext, q_pop, q_setIx, q_ixo, q_bor, q_tru, q_tst, q_not, q_notV, q_no, q_so, q_sl, q_sq, q_r1, q_r2, q_for, q_lc, q_asg, q_next, q_yes, q_fix, q_slot, q_drop, q_met, q_run, q1, q2, q2b, q2c, q3, q4, q5, q6, q7, q8, q9, q10, q11, q12, q13, q14, q15, q16, q17, q18, q19, q20, q21, q22, q23, q24, q25, q26, q27, q28, q29, q30, q31, q32, q33, q34, q35, q36, q37, q38, q39, q39b, q40, q41, q42, q44, q45, q46, q47, q48, o_add, o_sub, o_mulR, o_mulL, o_mod, o_div, o_addS, o_addI, o_addL, o_addT, o_p18, o_neg, o_cmp, o_eqI, o_eqS, o_eqB, o_neI, o_neS, o_len1, o_len2, o_len3, o_lenS, o_int, o_ix1, o_ix2, o_ix3, o_tup, o_lst, o_list1, o_list2, o_tuple1, o_tuple2, o_max, o_min, o_slL, o_slT, o_slS, o_mulSt, o_isIint, o_isIbool, o_isIstr, o_isIlist, o_isItuple, o_isBint, o_isBbool, o_isBstr, o_isBlist, o_isBtuple, o_isSint, o_isSbool, o_isSstr, o_isSlist, o_isStuple, o_isLint, o_isLbool, o_isLstr, o_isLlist, o_isLtuple, o_isTint, o_isTbool, o_isTstr, o_isTlist, o_isTtuple, o_isNint, o_isNbool, o_isNstr, o_isNlist, o_isNtuple, o_allT, o_truB, o_truN, o_truI, o_truL, o_truT, q_sv1, q_sv2, view, fixSlot, wipeE, aName, aTup, aCons, aNil, List.map_cons, List.map_nil, List.length_cons, List.length_nil, List.cons_append, List.nil_append, List.replicate_succ, List.replicate_zero, List.getElem?_cons_zero, List.getElem?_cons_succ, List.set_cons_zero, List.set_cons_succ, Option.map_some, Option.map_none, reduceIte, Nat.reduceAdd, Nat.reduceEqDiff, Option.some.injEq, List.length_map, List.length_append, and_true, true_and, and_self, decide_true, decide_false, Int.reduceLT, Int.reduceNeg, Int.reduceLE, Int.reduceEq, Int.reduceMul, Int.reduceAdd, Int.reduceSub, Int.reduceMod, Int.reduceDiv, Nat.reduceLT, Nat.reduceLeDiff, Int.reducePow, Nat.reducePow, Int.reduceToNat, SV.imm.injEq, SV.own.injEq, W.int.injEq, W.str.injEq, W.bl.injEq, W.lst.injEq, W.tup.injEq, id_eq, exists_eq', exists_eq_left', Out.nx.injEq, Out.rt.injEq, Nat.zero_le, Int.toNat_natCast, not_true_eq_false, not_false_eq_true, Bool.not_true, Bool.not_false, Bool.false_and, Bool.true_and, Bool.and_true, Bool.and_false, Bool.true_or, Bool.false_or, Bool.or_true, Bool.or_false, Bool.false_eq_true, q_fld, r_fld, q_lrg1, r_lrg1, q_mk, q_fldI, r_fldI, o_fac, q_enum, r_enum1, r_enum2, r_enum3, q_dget, r_dget, q_dnew, q_dput, r_dput, q_clear, q_chain, r_chain, o_isN1, o_isN2, o_isN3, q_fs, r_fs3, r_fs4, r_fs5, at_i0, at_i1, at_i2, at_i3, q_fmt, q_txt, q_kd, r_kd, q_xl, r_xl, q_xpop, r_xpop, q_xnil, q_xcons, r_xc, r_xc2, q_xtup, r_xtup, q_appX, r_a0, r_a1, r_a2, q_setX, r_sx, o_ixK, o_slK, q39b, q_raise, q_metR, r_metR, q_fcx, q_loop, e, q47]⟩
  | some x :: os, s2 => by
    obtain ⟨k1, k2⟩ := nn_loop c0 c1 os (some (.imm (layW x)))
    have e0 : optW layW (some x) = layW x := rfl
    have e1 : isNonW (layW x) .non = some (.bl false) := rfl
    refine ⟨fun h => ?_, fun h => ?_⟩
    · obtain ⟨s', e⟩ := k1 (by simpa using h)
      exact ⟨s', by simp only [q_seq, q_if, q_fif, q_and, q_or, q_andV, q_orV, q_bin, q_binR, q_un, q_frz, q_imm, q_nil, q_cons, q_call, q_callW, q_c0, q_var, q_ret, q_set, q_aug, q_app, q_ext, q_pop, q_setIx, q_ixo, q_bor, q_tru, q_tst, q_not, q_notV, q_no, q_so, q_sl, q_sq, q_r1, q_r2, q_for, q_lc, q_asg, q_next, q_yes, q_fix, q_slot, q_drop, q_met, q_run, q1, q2, q2b, q2c, q3, q4, q5, q6, q7, q8, q9, q10, q11, q12, q13, q14, q15, q16, q17, q18, q19, q20, q21, q22, q23, q24, q25, q26, q27, q28, q29, q30, q31, q32, q33, q34, q35, q36, q37, q38, q39, q39b, q40, q41, q42, q44, q45, q46, q47, q48, o_add, o_sub, o_mulR, o_mulL, o_mod, o_div, o_addS, o_addI, o_addL, o_addT, o_p18, o_neg, o_cmp, o_eqI, o_eqS, o_eqB, o_neI, o_neS, o_len1, o_len2, o_len3, o_lenS, o_int, o_ix1, o_ix2, o_ix3, o_tup, o_lst, o_list1, o_list2, o_tuple1, o_tuple2, o_max, o_min, o_slL, o_slT, o_slS, o_mulSt, o_isIint, o_isIbool, o_isIstr, o_isIlist, o_isItuple, o_isBint, o_isBbool, o_isBstr, o_isBlist, o_isBtuple, o_isSint, o_isSbool, o_isSstr, o_isSlist, o_isStuple, o_isLint, o_isLbool, o_isLstr, o_isLlist, o_isLtuple, o_isTint, o_isTbool, o_isTstr, o_isTlist, o_isTtuple, o_isNint, o_isNbool, o_isNstr, o_isNlist, o_isNtuple, o_allT, o_truB, o_truN, o_truI, o_truL, o_truT, q_sv1, q_sv2, view, fixSlot, wipeE, aName, aTup, aCons, aNil, List.map_cons, List.map_nil, List.length_cons, List.length_nil, List.cons_append, List.nil_append, List.replicate_succ, List.replicate_zero, List.getElem?_cons_zero, List.getElem?_cons_succ, List.set_cons_zero, List.set_cons_succ, Option.map_some, Option.map_none, reduceIte, Nat.reduceAdd, Nat.reduceEqDiff, Option.some.injEq, List.length_map, List.length_append, and_true, true_and, and_self, decide_true, decide_false, Int.reduceLT, Int.reduceNeg, Int.reduceLE, Int.reduceEq, Int.reduceMul, Int.reduceAdd, Int.reduceSub, Int.reduceMod, Int.reduceDiv, Nat.reduceLT, Nat.reduceLeDiff, Int.reducePow, Nat.reducePow, Int.reduceToNat, SV.imm.injEq, SV.own.injEq, W.int.injEq, W.str.injEq, W.bl.injEq, W.lst.injEq, W.tup.injEq, id_eq, exists_eq', exists_eq_left', Out.nx.injEq, Out.rt.injEq, Nat.zero_le, Int.toNat_natCast, not_true_eq_false, not_false_eq_true, Bool.not_true, Bool.not_false, Bool.false_and, Bool.true_and, Bool.and_true, Bool.and_false, Bool.true_or, Bool.false_or, Bool.or_true, Bool.or_false, Bool.false_eq_true, q_fld, r_fld, q_lrg1, r_lrg1, q_mk, q_fldI, r_fldI, o_fac, q_enum, r_enum1, r_enum2, r_enum3, q_dget, r_dget, q_dnew, q_dput, r_dput, q_clear, q_chain, r_chain, o_isN1, o_isN2, o_isN3, q_fs, r_fs3, r_fs4, r_fs5, at_i0, at_i1, at_i2, at_i3, q_fmt, q_txt, q_kd, r_kd, q_xl, r_xl, q_xpop, r_xpop, q_xnil, q_xcons, r_xc, r_xc2, q_xtup, r_xtup, q_appX, r_a0, r_a1, r_a2, q_setX, r_sx, o_ixK, o_slK, q39b, q_raise, q_metR, r_metR, q_fcx, q_loop, e0, e1, e]⟩
    · have e := k2 (by simpa using h)
      simp only [q_seq, q_if, q_fif, q_and, q_or, q_andV, q_orV, q_bin, q_binR, q_un, q_frz, q_imm, q_nil, q_cons, q_call, q_callW, q_c0, q_var, q_ret, q_set, q_aug, q_app, q_ext, q_pop, q_setIx, q_ixo, q_bor, q_tru, q_tst, q_not, q_notV, q_no, q_so, q_sl, q_sq, q_r1, q_r2, q_for, q_lc, q_asg, q_next, q_yes, q_fix, q_slot, q_drop, q_met, q_run, q1, q2, q2b, q2c, q3, q4, q5, q6, q7, q8, q9, q10, q11, q12, q13, q14, q15, q16, q17, q18, q19, q20, q21, q22, q23, q24, q25, q26, q27, q28, q29, q30, q31, q32, q33, q34, q35, q36, q37, q38, q39, q39b, q40, q41, q42, q44, q45, q46, q47, q48, o_add, o_sub, o_mulR, o_mulL, o_mod, o_div, o_addS, o_addI, o_addL, o_addT, o_p18, o_neg, o_cmp, o_eqI, o_eqS, o_eqB, o_neI, o_neS, o_len1, o_len2, o_len3, o_lenS, o_int, o_ix1, o_ix2, o_ix3, o_tup, o_lst, o_list1, o_list2, o_tuple1, o_tuple2, o_max, o_min, o_slL, o_slT, o_slS, o_mulSt, o_isIint, o_isIbool, o_isIstr, o_isIlist, o_isItuple, o_isBint, o_isBbool, o_isBstr, o_isBlist, o_isBtuple, o_isSint, o_isSbool, o_isSstr, o_isSlist, o_isStuple, o_isLint, o_isLbool, o_isLstr, o_isLlist, o_isLtuple, o_isTint, o_isTbool, o_isTstr, o_isTlist, o_isTtuple, o_isNint, o_isNbool, o_isNstr, o_isNlist, o_isNtuple, o_allT, o_truB, o_truN, o_truI, o_truL, o_truT, q_sv1, q_sv2, view, fixSlot, wipeE, aName, aTup, aCons, aNil, List.map_cons, List.map_nil, List.length_cons, List.length_nil, List.cons_append, List.nil_append, List.replicate_succ, List.replicate_zero, List.getElem?_cons_zero, List.getElem?_cons_succ, List.set_cons_zero, List.set_cons_succ, Option.map_some, Option.map_none, reduceIte, Nat.reduceAdd, Nat.reduceEqDiff, Option.some.injEq, List.length_map, List.length_append, and_true, true_and, and_self, decide_true, decide_false, Int.reduceLT, Int.reduceNeg, Int.reduceLE, Int.reduceEq, Int.reduceMul, Int.reduceAdd, Int.reduceSub, Int.reduceMod, Int.reduceDiv, Nat.reduceLT, Nat.reduceLeDiff, Int.reducePow, Nat.reducePow, Int.reduceToNat, SV.imm.injEq, SV.own.injEq, W.int.injEq, W.str.injEq, W.bl.injEq, W.lst.injEq, W.tup.injEq, id_eq, exists_eq', exists_eq_left', Out.nx.injEq, Out.rt.injEq, Nat.zero_le, Int.toNat_natCast, not_true_eq_false, not_false_eq_true, Bool.not_true, Bool.not_false, Bool.false_and, Bool.true_and, Bool.and_true, Bool.and_false, Bool.true_or, Bool.false_or, Bool.or_true, Bool.or_false, Bool.false_eq_true, q_fld, r_fld, q_lrg1, r_lrg1, q_mk, q_fldI, r_fldI, o_fac, q_enum, r_enum1, r_enum2, r_enum3, q_dget, r_dget, q_dnew, q_dput, r_dput, q_clear, q_chain, r_chain, o_isN1, o_isN2, o_isN3, q_fs, r_fs3, r_fs4, r_fs5, at_i0, at_i1, at_i2, at_i3, q_fmt, q_txt, q_kd, r_kd, q_xl, r_xl, q_xpop, r_xpop, q_xnil, q_xcons, r_xc, r_xc2, q_xtup, r_xtup, q_appX, r_a0, r_a1, r_a2, q_setX, r_sx, o_ixK, o_slK, q39b, q_raise, q_metR, r_metR, q_fcx, q_loop, e0, e1, e]
theorem structure_ok {t : List Nat} (h : Asc t) : F_structure [.str (T t)] = some (.imm (optW strW3 (rdStr t))) := by
  have hs := split_T (c := 32) h (by decide)
  obtain ⟨ha, hc⟩ := cut_asc (c := 32) h
  have hl := h.2
  have dt : decide (T t = T []) = decide (t = []) := t_dec
  unfold F_structure B_structure rdStr
  by_cases hm : t = []
  · rw [if_pos hm]
    rw [decide_eq_true hm] at dt
    simp only [q_seq, q_if, q_fif, q_and, q_or, q_andV, q_orV, q_bin, q_binR, q_un, q_frz, q_imm, q_nil, q_cons, q_call, q_callW, q_c0, q_var, q_ret, q_set, q_aug, q_app, q_ext, q_pop, q_setIx, q_ixo, q_bor, q_tru, q_tst, q_not, q_notV, q_no, q_so, q_sl, q_sq, q_r1, q_r2, q_for, q_lc, q_asg, q_next, q_yes, q_fix, q_slot, q_drop, q_met, q_run, q1, q2, q2b, q2c, q3, q4, q5, q6, q7, q8, q9, q10, q11, q12, q13, q14, q15, q16, q17, q18, q19, q20, q21, q22, q23, q24, q25, q26, q27, q28, q29, q30, q31, q32, q33, q34, q35, q36, q37, q38, q39, q39b, q40, q41, q42, q44, q45, q46, q47, q48, o_add, o_sub, o_mulR, o_mulL, o_mod, o_div, o_addS, o_addI, o_addL, o_addT, o_p18, o_neg, o_cmp, o_eqI, o_eqS, o_eqB, o_neI, o_neS, o_len1, o_len2, o_len3, o_lenS, o_int, o_ix1, o_ix2, o_ix3, o_tup, o_lst, o_list1, o_list2, o_tuple1, o_tuple2, o_max, o_min, o_slL, o_slT, o_slS, o_mulSt, o_isIint, o_isIbool, o_isIstr, o_isIlist, o_isItuple, o_isBint, o_isBbool, o_isBstr, o_isBlist, o_isBtuple, o_isSint, o_isSbool, o_isSstr, o_isSlist, o_isStuple, o_isLint, o_isLbool, o_isLstr, o_isLlist, o_isLtuple, o_isTint, o_isTbool, o_isTstr, o_isTlist, o_isTtuple, o_isNint, o_isNbool, o_isNstr, o_isNlist, o_isNtuple, o_allT, o_truB, o_truN, o_truI, o_truL, o_truT, q_sv1, q_sv2, view, fixSlot, wipeE, aName, aTup, aCons, aNil, List.map_cons, List.map_nil, List.length_cons, List.length_nil, List.cons_append, List.nil_append, List.replicate_succ, List.replicate_zero, List.getElem?_cons_zero, List.getElem?_cons_succ, List.set_cons_zero, List.set_cons_succ, Option.map_some, Option.map_none, reduceIte, Nat.reduceAdd, Nat.reduceEqDiff, Option.some.injEq, List.length_map, List.length_append, and_true, true_and, and_self, decide_true, decide_false, Int.reduceLT, Int.reduceNeg, Int.reduceLE, Int.reduceEq, Int.reduceMul, Int.reduceAdd, Int.reduceSub, Int.reduceMod, Int.reduceDiv, Nat.reduceLT, Nat.reduceLeDiff, Int.reducePow, Nat.reducePow, Int.reduceToNat, SV.imm.injEq, SV.own.injEq, W.int.injEq, W.str.injEq, W.bl.injEq, W.lst.injEq, W.tup.injEq, id_eq, exists_eq', exists_eq_left', Out.nx.injEq, Out.rt.injEq, Nat.zero_le, Int.toNat_natCast, not_true_eq_false, not_false_eq_true, Bool.not_true, Bool.not_false, Bool.false_and, Bool.true_and, Bool.and_true, Bool.and_false, Bool.true_or, Bool.false_or, Bool.or_true, Bool.or_false, Bool.false_eq_true, q_fld, r_fld, q_lrg1, r_lrg1, q_mk, q_fldI, r_fldI, o_fac, q_enum, r_enum1, r_enum2, r_enum3, q_dget, r_dget, q_dnew, q_dput, r_dput, q_clear, q_chain, r_chain, o_isN1, o_isN2, o_isN3, q_fs, r_fs3, r_fs4, r_fs5, at_i0, at_i1, at_i2, at_i3, q_fmt, q_txt, q_kd, r_kd, q_xl, r_xl, q_xpop, r_xpop, q_xnil, q_xcons, r_xc, r_xc2, q_xtup, r_xtup, q_appX, r_a0, r_a1, r_a2, q_setX, r_sx, o_ixK, o_slK, q39b, q_raise, q_metR, r_metR, q_fcx, s_e, dt]
    rfl
  · rw [if_neg hm]
    rw [decide_eq_false hm] at dt
    simp only [q_seq, q_if, q_fif, q_and, q_or, q_andV, q_orV, q_bin, q_binR, q_un, q_frz, q_imm, q_nil, q_cons, q_call, q_callW, q_c0, q_var, q_ret, q_set, q_aug, q_app, q_ext, q_pop, q_setIx, q_ixo, q_bor, q_tru, q_tst, q_not, q_notV, q_no, q_so, q_sl, q_sq, q_r1, q_r2, q_for, q_lc, q_asg, q_next, q_yes, q_fix, q_slot, q_drop, q_met, q_run, q1, q2, q2b, q2c, q3, q4, q5, q6, q7, q8, q9, q10, q11, q12, q13, q14, q15, q16, q17, q18, q19, q20, q21, q22, q23, q24, q25, q26, q27, q28, q29, q30, q31, q32, q33, q34, q35, q36, q37, q38, q39, q39b, q40, q41, q42, q44, q45, q46, q47, q48, o_add, o_sub, o_mulR, o_mulL, o_mod, o_div, o_addS, o_addI, o_addL, o_addT, o_p18, o_neg, o_cmp, o_eqI, o_eqS, o_eqB, o_neI, o_neS, o_len1, o_len2, o_len3, o_lenS, o_int, o_ix1, o_ix2, o_ix3, o_tup, o_lst, o_list1, o_list2, o_tuple1, o_tuple2, o_max, o_min, o_slL, o_slT, o_slS, o_mulSt, o_isIint, o_isIbool, o_isIstr, o_isIlist, o_isItuple, o_isBint, o_isBbool, o_isBstr, o_isBlist, o_isBtuple, o_isSint, o_isSbool, o_isSstr, o_isSlist, o_isStuple, o_isLint, o_isLbool, o_isLstr, o_isLlist, o_isLtuple, o_isTint, o_isTbool, o_isTstr, o_isTlist, o_isTtuple, o_isNint, o_isNbool, o_isNstr, o_isNlist, o_isNtuple, o_allT, o_truB, o_truN, o_truI, o_truL, o_truT, q_sv1, q_sv2, view, fixSlot, wipeE, aName, aTup, aCons, aNil, List.map_cons, List.map_nil, List.length_cons, List.length_nil, List.cons_append, List.nil_append, List.replicate_succ, List.replicate_zero, List.getElem?_cons_zero, List.getElem?_cons_succ, List.set_cons_zero, List.set_cons_succ, Option.map_some, Option.map_none, reduceIte, Nat.reduceAdd, Nat.reduceEqDiff, Option.some.injEq, List.length_map, List.length_append, and_true, true_and, and_self, decide_true, decide_false, Int.reduceLT, Int.reduceNeg, Int.reduceLE, Int.reduceEq, Int.reduceMul, Int.reduceAdd, Int.reduceSub, Int.reduceMod, Int.reduceDiv, Nat.reduceLT, Nat.reduceLeDiff, Int.reducePow, Nat.reducePow, Int.reduceToNat, SV.imm.injEq, SV.own.injEq, W.int.injEq, W.str.injEq, W.bl.injEq, W.lst.injEq, W.tup.injEq, id_eq, exists_eq', exists_eq_left', Out.nx.injEq, Out.rt.injEq, Nat.zero_le, Int.toNat_natCast, not_true_eq_false, not_false_eq_true, Bool.not_true, Bool.not_false, Bool.false_and, Bool.true_and, Bool.and_true, Bool.and_false, Bool.true_or, Bool.false_or, Bool.or_true, Bool.or_false, Bool.false_eq_true, q_fld, r_fld, q_lrg1, r_lrg1, q_mk, q_fldI, r_fldI, o_fac, q_enum, r_enum1, r_enum2, r_enum3, q_dget, r_dget, q_dnew, q_dput, r_dput, q_clear, q_chain, r_chain, o_isN1, o_isN2, o_isN3, q_fs, r_fs3, r_fs4, r_fs5, at_i0, at_i1, at_i2, at_i3, q_fmt, q_txt, q_kd, r_kd, q_xl, r_xl, q_xpop, r_xpop, q_xnil, q_xcons, r_xc, r_xc2, q_xtup, r_xtup, q_appX, r_a0, r_a1, r_a2, q_setX, r_sx, o_ixK, o_slK, q39b, q_raise, q_metR, r_metR, q_fcx, s_e, dt, s_blank, hs]
    rw [q43 (lc_map (f := sW) (g' := optW layW) (k := rdLay) fun p hp => by
      have rn := layer_ok (ha p hp)
      simp only [q_seq, q_if, q_fif, q_and, q_or, q_andV, q_orV, q_bin, q_binR, q_un, q_frz, q_imm, q_nil, q_cons, q_call, q_callW, q_c0, q_var, q_ret, q_set, q_aug, q_app, q_ext, q_pop, q_setIx, q_ixo, q_bor, q_tru, q_tst, q_not, q_notV, q_no, q_so, q_sl, q_sq, q_r1, q_r2, q_for, q_lc, q_asg, q_next, q_yes, q_fix, q_slot, q_drop, q_met, q_run, q1, q2, q2b, q2c, q3, q4, q5, q6, q7, q8, q9, q10, q11, q12, q13, q14, q15, q16, q17, q18, q19, q20, q21, q22, q23, q24, q25, q26, q27, q28, q29, q30, q31, q32, q33, q34, q35, q36, q37, q38, q39, q39b, q40, q41, q42, q44, q45, q46, q47, q48, o_add, o_sub, o_mulR, o_mulL, o_mod, o_div, o_addS, o_addI, o_addL, o_addT, o_p18, o_neg, o_cmp, o_eqI, o_eqS, o_eqB, o_neI, o_neS, o_len1, o_len2, o_len3, o_lenS, o_int, o_ix1, o_ix2, o_ix3, o_tup, o_lst, o_list1, o_list2, o_tuple1, o_tuple2, o_max, o_min, o_slL, o_slT, o_slS, o_mulSt, o_isIint, o_isIbool, o_isIstr, o_isIlist, o_isItuple, o_isBint, o_isBbool, o_isBstr, o_isBlist, o_isBtuple, o_isSint, o_isSbool, o_isSstr, o_isSlist, o_isStuple, o_isLint, o_isLbool, o_isLstr, o_isLlist, o_isLtuple, o_isTint, o_isTbool, o_isTstr, o_isTlist, o_isTtuple, o_isNint, o_isNbool, o_isNstr, o_isNlist, o_isNtuple, o_allT, o_truB, o_truN, o_truI, o_truL, o_truT, q_sv1, q_sv2, view, fixSlot, wipeE, aName, aTup, aCons, aNil, List.map_cons, List.map_nil, List.length_cons, List.length_nil, List.cons_append, List.nil_append, List.replicate_succ, List.replicate_zero, List.getElem?_cons_zero, List.getElem?_cons_succ, List.set_cons_zero, List.set_cons_succ, Option.map_some, Option.map_none, reduceIte, Nat.reduceAdd, Nat.reduceEqDiff, Option.some.injEq, List.length_map, List.length_append, and_true, true_and, and_self, decide_true, decide_false, Int.reduceLT, Int.reduceNeg, Int.reduceLE, Int.reduceEq, Int.reduceMul, Int.reduceAdd, Int.reduceSub, Int.reduceMod, Int.reduceDiv, Nat.reduceLT, Nat.reduceLeDiff, Int.reducePow, Nat.reducePow, Int.reduceToNat, SV.imm.injEq, SV.own.injEq, W.int.injEq, W.str.injEq, W.bl.injEq, W.lst.injEq, W.tup.injEq, id_eq, exists_eq', exists_eq_left', Out.nx.injEq, Out.rt.injEq, Nat.zero_le, Int.toNat_natCast, not_true_eq_false, not_false_eq_true, Bool.not_true, Bool.not_false, Bool.false_and, Bool.true_and, Bool.and_true, Bool.and_false, Bool.true_or, Bool.false_or, Bool.or_true, Bool.or_false, Bool.false_eq_true, q_fld, r_fld, q_lrg1, r_lrg1, q_mk, q_fldI, r_fldI, o_fac, q_enum, r_enum1, r_enum2, r_enum3, q_dget, r_dget, q_dnew, q_dput, r_dput, q_clear, q_chain, r_chain, o_isN1, o_isN2, o_isN3, q_fs, r_fs3, r_fs4, r_fs5, at_i0, at_i1, at_i2, at_i3, q_fmt, q_txt, q_kd, r_kd, q_xl, r_xl, q_xpop, r_xpop, q_xnil, q_xcons, r_xc, r_xc2, q_xtup, r_xtup, q_appX, r_a0, r_a1, r_a2, q_setX, r_sx, o_ixK, o_slK, q39b, q_raise, q_metR, r_metR, q_fcx, rn]) (by simp; omega)]
    obtain ⟨k1, k2⟩ := nn_loop (.str (T t)) (.lst (((cut 32 t).map rdLay).map (optW layW))) ((cut 32 t).map rdLay) none
    cases hq : ((cut 32 t).map rdLay).any Option.isNone with
    | true =>
      have e := k2 hq
      have hn : seqO ((cut 32 t).map rdLay) = none := by
        obtain ⟨o, ho, hn⟩ := List.any_eq_true.mp hq
        cases o with
        | none => exact seqO_none ho
        | some x => cases hn
      rw [hn]
      generalize ((cut 32 t).map rdLay).map (optW layW) = Z at e
      simp only [q_seq, q_if, q_fif, q_and, q_or, q_andV, q_orV, q_bin, q_binR, q_un, q_frz, q_imm, q_nil, q_cons, q_call, q_callW, q_c0, q_var, q_ret, q_set, q_aug, q_app, q_ext, q_pop, q_setIx, q_ixo, q_bor, q_tru, q_tst, q_not, q_notV, q_no, q_so, q_sl, q_sq, q_r1, q_r2, q_for, q_lc, q_asg, q_next, q_yes, q_fix, q_slot, q_drop, q_met, q_run, q1, q2, q2b, q2c, q3, q4, q5, q6, q7, q8, q9, q10, q11, q12, q13, q14, q15, q16, q17, q18, q19, q20, q21, q22, q23, q24, q25, q26, q27, q28, q29, q30, q31, q32, q33, q34, q35, q36, q37, q38, q39, q39b, q40, q41, q42, q44, q45, q46, q47, q48, o_add, o_sub, o_mulR, o_mulL, o_mod, o_div, o_addS, o_addI, o_addL, o_addT, o_p18, o_neg, o_cmp, o_eqI, o_eqS, o_eqB, o_neI, o_neS, o_len1, o_len2, o_len3, o_lenS, o_int, o_ix1, o_ix2, o_ix3, o_tup, o_lst, o_list1, o_list2, o_tuple1, o_tuple2, o_max, o_min, o_slL, o_slT, o_slS, o_mulSt, o_isIint, o_isIbool, o_isIstr, o_isIlist, o_isItuple, o_isBint, o_isBbool, o_isBstr, o_isBlist, o_isBtuple, o_isSint, o_isSbool, o_isSstr, o_isSlist, o_isStuple, o_isLint, o_isLbool, o_isLstr, o_isLlist, o_isLtuple, o_isTint, o_isTbool, o_isTstr, o_isTlist, o_isTtuple, o_isNint, o_isNbool, o_isNstr, o_isNlist, o_isNtuple, o_allT, o_truB, o_truN, o_truI, o_truL, o_truT, q_sv1, q_sv2, view, fixSlot, wipeE, aName, aTup, aCons, aNil, List.map_cons, List.map_nil, List.length_cons, List.length_nil, List.cons_append, List.nil_append, List.replicate_succ, List.replicate_zero, List.getElem?_cons_zero, List.getElem?_cons_succ, List.set_cons_zero, List.set_cons_succ, Option.map_some, Option.map_none, reduceIte, Nat.reduceAdd, Nat.reduceEqDiff, Option.some.injEq, List.length_map, List.length_append, and_true, true_and, and_self, decide_true, decide_false, Int.reduceLT, Int.reduceNeg, Int.reduceLE, Int.reduceEq, Int.reduceMul, Int.reduceAdd, Int.reduceSub, Int.reduceMod, Int.reduceDiv, Nat.reduceLT, Nat.reduceLeDiff, Int.reducePow, Nat.reducePow, Int.reduceToNat, SV.imm.injEq, SV.own.injEq, W.int.injEq, W.str.injEq, W.bl.injEq, W.lst.injEq, W.tup.injEq, id_eq, exists_eq', exists_eq_left', Out.nx.injEq, Out.rt.injEq, Nat.zero_le, Int.toNat_natCast, not_true_eq_false, not_false_eq_true, Bool.not_true, Bool.not_false, Bool.false_and, Bool.true_and, Bool.and_true, Bool.and_false, Bool.true_or, Bool.false_or, Bool.or_true, Bool.or_false, Bool.false_eq_true, q_fld, r_fld, q_lrg1, r_lrg1, q_mk, q_fldI, r_fldI, o_fac, q_enum, r_enum1, r_enum2, r_enum3, q_dget, r_dget, q_dnew, q_dput, r_dput, q_clear, q_chain, r_chain, o_isN1, o_isN2, o_isN3, q_fs, r_fs3, r_fs4, r_fs5, at_i0, at_i1, at_i2, at_i3, q_fmt, q_txt, q_kd, r_kd, q_xl, r_xl, q_xpop, r_xpop, q_xnil, q_xcons, r_xc, r_xc2, q_xtup, r_xtup, q_appX, r_a0, r_a1, r_a2, q_setX, r_sx, o_ixK, o_slK, q39b, q_raise, q_metR, r_metR, q_fcx, e]
      rfl
    | false =>
      obtain ⟨s', e⟩ := k1 hq
      obtain ⟨xs, h1, h2⟩ := seqO_of (os := (cut 32 t).map rdLay) fun z => by
        have : ((cut 32 t).map rdLay).any Option.isNone = true := List.any_eq_true.mpr ⟨none, z, rfl⟩
        rw [hq] at this
        cases this
      rw [h2]
      rw [h1, List.map_map] at e ⊢
      generalize hZ : xs.map (optW layW ∘ some) = Z at e
      simp only [q_seq, q_if, q_fif, q_and, q_or, q_andV, q_orV, q_bin, q_binR, q_un, q_frz, q_imm, q_nil, q_cons, q_call, q_callW, q_c0, q_var, q_ret, q_set, q_aug, q_app, q_ext, q_pop, q_setIx, q_ixo, q_bor, q_tru, q_tst, q_not, q_notV, q_no, q_so, q_sl, q_sq, q_r1, q_r2, q_for, q_lc, q_asg, q_next, q_yes, q_fix, q_slot, q_drop, q_met, q_run, q1, q2, q2b, q2c, q3, q4, q5, q6, q7, q8, q9, q10, q11, q12, q13, q14, q15, q16, q17, q18, q19, q20, q21, q22, q23, q24, q25, q26, q27, q28, q29, q30, q31, q32, q33, q34, q35, q36, q37, q38, q39, q39b, q40, q41, q42, q44, q45, q46, q47, q48, o_add, o_sub, o_mulR, o_mulL, o_mod, o_div, o_addS, o_addI, o_addL, o_addT, o_p18, o_neg, o_cmp, o_eqI, o_eqS, o_eqB, o_neI, o_neS, o_len1, o_len2, o_len3, o_lenS, o_int, o_ix1, o_ix2, o_ix3, o_tup, o_lst, o_list1, o_list2, o_tuple1, o_tuple2, o_max, o_min, o_slL, o_slT, o_slS, o_mulSt, o_isIint, o_isIbool, o_isIstr, o_isIlist, o_isItuple, o_isBint, o_isBbool, o_isBstr, o_isBlist, o_isBtuple, o_isSint, o_isSbool, o_isSstr, o_isSlist, o_isStuple, o_isLint, o_isLbool, o_isLstr, o_isLlist, o_isLtuple, o_isTint, o_isTbool, o_isTstr, o_isTlist, o_isTtuple, o_isNint, o_isNbool, o_isNstr, o_isNlist, o_isNtuple, o_allT, o_truB, o_truN, o_truI, o_truL, o_truT, q_sv1, q_sv2, view, fixSlot, wipeE, aName, aTup, aCons, aNil, List.map_cons, List.map_nil, List.length_cons, List.length_nil, List.cons_append, List.nil_append, List.replicate_succ, List.replicate_zero, List.getElem?_cons_zero, List.getElem?_cons_succ, List.set_cons_zero, List.set_cons_succ, Option.map_some, Option.map_none, reduceIte, Nat.reduceAdd, Nat.reduceEqDiff, Option.some.injEq, List.length_map, List.length_append, and_true, true_and, and_self, decide_true, decide_false, Int.reduceLT, Int.reduceNeg, Int.reduceLE, Int.reduceEq, Int.reduceMul, Int.reduceAdd, Int.reduceSub, Int.reduceMod, Int.reduceDiv, Nat.reduceLT, Nat.reduceLeDiff, Int.reducePow, Nat.reducePow, Int.reduceToNat, SV.imm.injEq, SV.own.injEq, W.int.injEq, W.str.injEq, W.bl.injEq, W.lst.injEq, W.tup.injEq, id_eq, exists_eq', exists_eq_left', Out.nx.injEq, Out.rt.injEq, Nat.zero_le, Int.toNat_natCast, not_true_eq_false, not_false_eq_true, Bool.not_true, Bool.not_false, Bool.false_and, Bool.true_and, Bool.and_true, Bool.and_false, Bool.true_or, Bool.false_or, Bool.or_true, Bool.or_false, Bool.false_eq_true, q_fld, r_fld, q_lrg1, r_lrg1, q_mk, q_fldI, r_fldI, o_fac, q_enum, r_enum1, r_enum2, r_enum3, q_dget, r_dget, q_dnew, q_dput, r_dput, q_clear, q_chain, r_chain, o_isN1, o_isN2, o_isN3, q_fs, r_fs3, r_fs4, r_fs5, at_i0, at_i1, at_i2, at_i3, q_fmt, q_txt, q_kd, r_kd, q_xl, r_xl, q_xpop, r_xpop, q_xnil, q_xcons, r_xc, r_xc2, q_xtup, r_xtup, q_appX, r_a0, r_a1, r_a2, q_setX, r_sx, o_ixK, o_slK, q39b, q_raise, q_metR, r_metR, q_fcx, e]
      rw [← hZ]
      rfl
theorem refused_ok {t : List Nat} (h : Asc t) (hn : rdStr t = none) : F_refused [.str (T t)] = some (.imm (.int 1)) := by
  have hr := read_structure_ok h
  rw [hn] at hr
  have hT : sTry 2 "InvalidPaper" (cX F_read_structure (fCons (fVar 0) fNil) fun _ e => .nx e) (fun a d => (sSet 1 (fImm (fIf (fTru (fIsX a d 2 true)) (fXf a d 2 "line") (fBin subW (fC (.int 0)) (fC (.int 1)))))))
      [some (.imm (.str (T t))), some (.imm (.int 0)), none] = some (.nx [some (.imm (.str (T t))), some (.imm (.int 1)), none]) := by
    have hb : cX F_read_structure (fCons (fVar 0) fNil) (fun _ e => .nx e) [some (.imm (.str (T t))), some (.imm (.int 0)), none] = some (.ex "InvalidPaper" "line" (.int 1) [some (.imm (.str (T t))), some (.imm (.int 0)), none]) := by
      unfold cX
      simp only [q_seq, q_if, q_fif, q_and, q_or, q_andV, q_orV, q_bin, q_binR, q_un, q_frz, q_imm, q_nil, q_cons, q_call, q_callW, q_c0, q_var, q_ret, q_set, q_aug, q_app, q_ext, q_pop, q_setIx, q_ixo, q_bor, q_tru, q_tst, q_not, q_notV, q_no, q_so, q_sl, q_sq, q_r1, q_r2, q_for, q_lc, q_asg, q_next, q_yes, q_fix, q_slot, q_drop, q_met, q_run, q1, q2, q2b, q2c, q3, q4, q5, q6, q7, q8, q9, q10, q11, q12, q13, q14, q15, q16, q17, q18, q19, q20, q21, q22, q23, q24, q25, q26, q27, q28, q29, q30, q31, q32, q33, q34, q35, q36, q37, q38, q39, q39b, q40, q41, q42, q44, q45, q46, q47, q48, o_add, o_sub, o_mulR, o_mulL, o_mod, o_div, o_addS, o_addI, o_addL, o_addT, o_p18, o_neg, o_cmp, o_eqI, o_eqS, o_eqB, o_neI, o_neS, o_len1, o_len2, o_len3, o_lenS, o_int, o_ix1, o_ix2, o_ix3, o_tup, o_lst, o_list1, o_list2, o_tuple1, o_tuple2, o_max, o_min, o_slL, o_slT, o_slS, o_mulSt, o_isIint, o_isIbool, o_isIstr, o_isIlist, o_isItuple, o_isBint, o_isBbool, o_isBstr, o_isBlist, o_isBtuple, o_isSint, o_isSbool, o_isSstr, o_isSlist, o_isStuple, o_isLint, o_isLbool, o_isLstr, o_isLlist, o_isLtuple, o_isTint, o_isTbool, o_isTstr, o_isTlist, o_isTtuple, o_isNint, o_isNbool, o_isNstr, o_isNlist, o_isNtuple, o_allT, o_truB, o_truN, o_truI, o_truL, o_truT, q_sv1, q_sv2, view, fixSlot, wipeE, aName, aTup, aCons, aNil, List.map_cons, List.map_nil, List.length_cons, List.length_nil, List.cons_append, List.nil_append, List.replicate_succ, List.replicate_zero, List.getElem?_cons_zero, List.getElem?_cons_succ, List.set_cons_zero, List.set_cons_succ, Option.map_some, Option.map_none, reduceIte, Nat.reduceAdd, Nat.reduceEqDiff, Option.some.injEq, List.length_map, List.length_append, and_true, true_and, and_self, decide_true, decide_false, Int.reduceLT, Int.reduceNeg, Int.reduceLE, Int.reduceEq, Int.reduceMul, Int.reduceAdd, Int.reduceSub, Int.reduceMod, Int.reduceDiv, Nat.reduceLT, Nat.reduceLeDiff, Int.reducePow, Nat.reducePow, Int.reduceToNat, SV.imm.injEq, SV.own.injEq, W.int.injEq, W.str.injEq, W.bl.injEq, W.lst.injEq, W.tup.injEq, id_eq, exists_eq', exists_eq_left', Out.nx.injEq, Out.rt.injEq, Nat.zero_le, Int.toNat_natCast, not_true_eq_false, not_false_eq_true, Bool.not_true, Bool.not_false, Bool.false_and, Bool.true_and, Bool.and_true, Bool.and_false, Bool.true_or, Bool.false_or, Bool.or_true, Bool.or_false, Bool.false_eq_true, q_fld, r_fld, q_lrg1, r_lrg1, q_mk, q_fldI, r_fldI, o_fac, q_enum, r_enum1, r_enum2, r_enum3, q_dget, r_dget, q_dnew, q_dput, r_dput, q_clear, q_chain, r_chain, o_isN1, o_isN2, o_isN3, q_fs, r_fs3, r_fs4, r_fs5, at_i0, at_i1, at_i2, at_i3, q_fmt, q_txt, q_kd, r_kd, q_xl, r_xl, q_xpop, r_xpop, q_xnil, q_xcons, r_xc, r_xc2, q_xtup, r_xtup, q_appX, r_a0, r_a1, r_a2, q_setX, r_sx, o_ixK, o_slK, q39b, q_raise, q_metR, r_metR, q_fcx, hr]
    unfold sTry
    rw [hb]
    simp only
    rw [if_pos trivial]
    refine hdl_of fun a d => ?_
    simp [sSet, fImm, fIf, fTru, fIsX, fXf, view, truW, oB, offO]
  unfold F_refused B_refused
  simp only [q_seq, q_if, q_fif, q_and, q_or, q_andV, q_orV, q_bin, q_binR, q_un, q_frz, q_imm, q_nil, q_cons, q_call, q_callW, q_c0, q_var, q_ret, q_set, q_aug, q_app, q_ext, q_pop, q_setIx, q_ixo, q_bor, q_tru, q_tst, q_not, q_notV, q_no, q_so, q_sl, q_sq, q_r1, q_r2, q_for, q_lc, q_asg, q_next, q_yes, q_fix, q_slot, q_drop, q_met, q_run, q1, q2, q2b, q2c, q3, q4, q5, q6, q7, q8, q9, q10, q11, q12, q13, q14, q15, q16, q17, q18, q19, q20, q21, q22, q23, q24, q25, q26, q27, q28, q29, q30, q31, q32, q33, q34, q35, q36, q37, q38, q39, q39b, q40, q41, q42, q44, q45, q46, q47, q48, o_add, o_sub, o_mulR, o_mulL, o_mod, o_div, o_addS, o_addI, o_addL, o_addT, o_p18, o_neg, o_cmp, o_eqI, o_eqS, o_eqB, o_neI, o_neS, o_len1, o_len2, o_len3, o_lenS, o_int, o_ix1, o_ix2, o_ix3, o_tup, o_lst, o_list1, o_list2, o_tuple1, o_tuple2, o_max, o_min, o_slL, o_slT, o_slS, o_mulSt, o_isIint, o_isIbool, o_isIstr, o_isIlist, o_isItuple, o_isBint, o_isBbool, o_isBstr, o_isBlist, o_isBtuple, o_isSint, o_isSbool, o_isSstr, o_isSlist, o_isStuple, o_isLint, o_isLbool, o_isLstr, o_isLlist, o_isLtuple, o_isTint, o_isTbool, o_isTstr, o_isTlist, o_isTtuple, o_isNint, o_isNbool, o_isNstr, o_isNlist, o_isNtuple, o_allT, o_truB, o_truN, o_truI, o_truL, o_truT, q_sv1, q_sv2, view, fixSlot, wipeE, aName, aTup, aCons, aNil, List.map_cons, List.map_nil, List.length_cons, List.length_nil, List.cons_append, List.nil_append, List.replicate_succ, List.replicate_zero, List.getElem?_cons_zero, List.getElem?_cons_succ, List.set_cons_zero, List.set_cons_succ, Option.map_some, Option.map_none, reduceIte, Nat.reduceAdd, Nat.reduceEqDiff, Option.some.injEq, List.length_map, List.length_append, and_true, true_and, and_self, decide_true, decide_false, Int.reduceLT, Int.reduceNeg, Int.reduceLE, Int.reduceEq, Int.reduceMul, Int.reduceAdd, Int.reduceSub, Int.reduceMod, Int.reduceDiv, Nat.reduceLT, Nat.reduceLeDiff, Int.reducePow, Nat.reducePow, Int.reduceToNat, SV.imm.injEq, SV.own.injEq, W.int.injEq, W.str.injEq, W.bl.injEq, W.lst.injEq, W.tup.injEq, id_eq, exists_eq', exists_eq_left', Out.nx.injEq, Out.rt.injEq, Nat.zero_le, Int.toNat_natCast, not_true_eq_false, not_false_eq_true, Bool.not_true, Bool.not_false, Bool.false_and, Bool.true_and, Bool.and_true, Bool.and_false, Bool.true_or, Bool.false_or, Bool.or_true, Bool.or_false, Bool.false_eq_true, q_fld, r_fld, q_lrg1, r_lrg1, q_mk, q_fldI, r_fldI, o_fac, q_enum, r_enum1, r_enum2, r_enum3, q_dget, r_dget, q_dnew, q_dput, r_dput, q_clear, q_chain, r_chain, o_isN1, o_isN2, o_isN3, q_fs, r_fs3, r_fs4, r_fs5, at_i0, at_i1, at_i2, at_i3, q_fmt, q_txt, q_kd, r_kd, q_xl, r_xl, q_xpop, r_xpop, q_xnil, q_xcons, r_xc, r_xc2, q_xtup, r_xtup, q_appX, r_a0, r_a1, r_a2, q_setX, r_sx, o_ixK, o_slK, q39b, q_raise, q_metR, r_metR, q_fcx, hT]
end Qw
namespace Qw
open PySem PySem.Spec PyProof.Rows L2 Nz
theorem cell_ok (ns : List Int) (k : Nat) : ∃ c, F_cell [.klst (ns.map W.int), .int k] = some (.imm (.int c)) := by
  unfold F_cell B_cell
  by_cases h : (k : Int) < ns.length
  · have h' : k < ns.length := by omega
    simp only [q_seq, q_if, q_fif, q_and, q_or, q_andV, q_orV, q_bin, q_binR, q_un, q_frz, q_imm, q_nil, q_cons, q_call, q_callW, q_c0, q_var, q_ret, q_set, q_aug, q_app, q_ext, q_pop, q_setIx, q_ixo, q_bor, q_tru, q_tst, q_not, q_notV, q_no, q_so, q_sl, q_sq, q_r1, q_r2, q_for, q_lc, q_asg, q_next, q_yes, q_fix, q_slot, q_drop, q_met, q_run, q1, q2, q2b, q2c, q3, q4, q5, q6, q7, q8, q9, q10, q11, q12, q13, q14, q15, q16, q17, q18, q19, q20, q21, q22, q23, q24, q25, q26, q27, q28, q29, q30, q31, q32, q33, q34, q35, q36, q37, q38, q39, q39b, q40, q41, q42, q44, q45, q46, q47, q48, o_add, o_sub, o_mulR, o_mulL, o_mod, o_div, o_addS, o_addI, o_addL, o_addT, o_p18, o_neg, o_cmp, o_eqI, o_eqS, o_eqB, o_neI, o_neS, o_len1, o_len2, o_len3, o_lenS, o_int, o_ix1, o_ix2, o_ix3, o_tup, o_lst, o_list1, o_list2, o_tuple1, o_tuple2, o_max, o_min, o_slL, o_slT, o_slS, o_mulSt, o_isIint, o_isIbool, o_isIstr, o_isIlist, o_isItuple, o_isBint, o_isBbool, o_isBstr, o_isBlist, o_isBtuple, o_isSint, o_isSbool, o_isSstr, o_isSlist, o_isStuple, o_isLint, o_isLbool, o_isLstr, o_isLlist, o_isLtuple, o_isTint, o_isTbool, o_isTstr, o_isTlist, o_isTtuple, o_isNint, o_isNbool, o_isNstr, o_isNlist, o_isNtuple, o_allT, o_truB, o_truN, o_truI, o_truL, o_truT, q_sv1, q_sv2, view, fixSlot, wipeE, aName, aTup, aCons, aNil, List.map_cons, List.map_nil, List.length_cons, List.length_nil, List.cons_append, List.nil_append, List.replicate_succ, List.replicate_zero, List.getElem?_cons_zero, List.getElem?_cons_succ, List.set_cons_zero, List.set_cons_succ, Option.map_some, Option.map_none, reduceIte, Nat.reduceAdd, Nat.reduceEqDiff, Option.some.injEq, List.length_map, List.length_append, and_true, true_and, and_self, decide_true, decide_false, Int.reduceLT, Int.reduceNeg, Int.reduceLE, Int.reduceEq, Int.reduceMul, Int.reduceAdd, Int.reduceSub, Int.reduceMod, Int.reduceDiv, Nat.reduceLT, Nat.reduceLeDiff, Int.reducePow, Nat.reducePow, Int.reduceToNat, SV.imm.injEq, SV.own.injEq, W.int.injEq, W.str.injEq, W.bl.injEq, W.lst.injEq, W.tup.injEq, id_eq, exists_eq', exists_eq_left', Out.nx.injEq, Out.rt.injEq, Nat.zero_le, Int.toNat_natCast, not_true_eq_false, not_false_eq_true, Bool.not_true, Bool.not_false, Bool.false_and, Bool.true_and, Bool.and_true, Bool.and_false, Bool.true_or, Bool.false_or, Bool.or_true, Bool.or_false, Bool.false_eq_true, h, ints_at, h']
  · simp only [q_seq, q_if, q_fif, q_and, q_or, q_andV, q_orV, q_bin, q_binR, q_un, q_frz, q_imm, q_nil, q_cons, q_call, q_callW, q_c0, q_var, q_ret, q_set, q_aug, q_app, q_ext, q_pop, q_setIx, q_ixo, q_bor, q_tru, q_tst, q_not, q_notV, q_no, q_so, q_sl, q_sq, q_r1, q_r2, q_for, q_lc, q_asg, q_next, q_yes, q_fix, q_slot, q_drop, q_met, q_run, q1, q2, q2b, q2c, q3, q4, q5, q6, q7, q8, q9, q10, q11, q12, q13, q14, q15, q16, q17, q18, q19, q20, q21, q22, q23, q24, q25, q26, q27, q28, q29, q30, q31, q32, q33, q34, q35, q36, q37, q38, q39, q39b, q40, q41, q42, q44, q45, q46, q47, q48, o_add, o_sub, o_mulR, o_mulL, o_mod, o_div, o_addS, o_addI, o_addL, o_addT, o_p18, o_neg, o_cmp, o_eqI, o_eqS, o_eqB, o_neI, o_neS, o_len1, o_len2, o_len3, o_lenS, o_int, o_ix1, o_ix2, o_ix3, o_tup, o_lst, o_list1, o_list2, o_tuple1, o_tuple2, o_max, o_min, o_slL, o_slT, o_slS, o_mulSt, o_isIint, o_isIbool, o_isIstr, o_isIlist, o_isItuple, o_isBint, o_isBbool, o_isBstr, o_isBlist, o_isBtuple, o_isSint, o_isSbool, o_isSstr, o_isSlist, o_isStuple, o_isLint, o_isLbool, o_isLstr, o_isLlist, o_isLtuple, o_isTint, o_isTbool, o_isTstr, o_isTlist, o_isTtuple, o_isNint, o_isNbool, o_isNstr, o_isNlist, o_isNtuple, o_allT, o_truB, o_truN, o_truI, o_truL, o_truT, q_sv1, q_sv2, view, fixSlot, wipeE, aName, aTup, aCons, aNil, List.map_cons, List.map_nil, List.length_cons, List.length_nil, List.cons_append, List.nil_append, List.replicate_succ, List.replicate_zero, List.getElem?_cons_zero, List.getElem?_cons_succ, List.set_cons_zero, List.set_cons_succ, Option.map_some, Option.map_none, reduceIte, Nat.reduceAdd, Nat.reduceEqDiff, Option.some.injEq, List.length_map, List.length_append, and_true, true_and, and_self, decide_true, decide_false, Int.reduceLT, Int.reduceNeg, Int.reduceLE, Int.reduceEq, Int.reduceMul, Int.reduceAdd, Int.reduceSub, Int.reduceMod, Int.reduceDiv, Nat.reduceLT, Nat.reduceLeDiff, Int.reducePow, Nat.reducePow, Int.reduceToNat, SV.imm.injEq, SV.own.injEq, W.int.injEq, W.str.injEq, W.bl.injEq, W.lst.injEq, W.tup.injEq, id_eq, exists_eq', exists_eq_left', Out.nx.injEq, Out.rt.injEq, Nat.zero_le, Int.toNat_natCast, not_true_eq_false, not_false_eq_true, Bool.not_true, Bool.not_false, Bool.false_and, Bool.true_and, Bool.and_true, Bool.and_false, Bool.true_or, Bool.false_or, Bool.or_true, Bool.or_false, Bool.false_eq_true, h]
def PDig (c many n : Int) (i : Nat) (e : En) : Prop := ∃ (r : Int) (s5 s6 : Option SV) (ds : List Int), e = [some (.imm (.int c)), some (.imm (.int many)), some (.imm (.int n)), some (.own (.lst (ds.map W.int))), some (.imm (.int r)), s5, s6] ∧
    ds.length = i ∧ ∀ d ∈ ds, 0 ≤ d ∧ d < many
theorem digits_ok (c many : Int) (n : Int) (m0 : 0 < many) (m1 : many < 1606938044258990275541962092341162602522202993782792835301376) (n0 : 0 ≤ n) (hn : n ≤ 10000) :
    ∃ ds : List Int, F_digits [.int c, .int many, .int n] = some (.own (.lst (ds.map W.int))) ∧ ds.length = n.toNat ∧ ∀ d ∈ ds, 0 ≤ d ∧ d < many := by
  unfold F_digits B_digits
  have r1 : -4611686018427387904 ≤ n ∧ n < 4611686018427387904 := by omega
  simp only [q_seq, q_if, q_fif, q_and, q_or, q_andV, q_orV, q_bin, q_binR, q_un, q_frz, q_imm, q_nil, q_cons, q_call, q_callW, q_c0, q_var, q_ret, q_set, q_aug, q_app, q_ext, q_pop, q_setIx, q_ixo, q_bor, q_tru, q_tst, q_not, q_notV, q_no, q_so, q_sl, q_sq, q_r1, q_r2, q_for, q_lc, q_asg, q_next, q_yes, q_fix, q_slot, q_drop, q_met, q_run, q1, q2, q2b, q2c, q3, q4, q5, q6, q7, q8, q9, q10, q11, q12, q13, q14, q15, q16, q17, q18, q19, q20, q21, q22, q23, q24, q25, q26, q27, q28, q29, q30, q31, q32, q33, q34, q35, q36, q37, q38, q39, q39b, q40, q41, q42, q44, q45, q46, q47, q48, o_add, o_sub, o_mulR, o_mulL, o_mod, o_div, o_addS, o_addI, o_addL, o_addT, o_p18, o_neg, o_cmp, o_eqI, o_eqS, o_eqB, o_neI, o_neS, o_len1, o_len2, o_len3, o_lenS, o_int, o_ix1, o_ix2, o_ix3, o_tup, o_lst, o_list1, o_list2, o_tuple1, o_tuple2, o_max, o_min, o_slL, o_slT, o_slS, o_mulSt, o_isIint, o_isIbool, o_isIstr, o_isIlist, o_isItuple, o_isBint, o_isBbool, o_isBstr, o_isBlist, o_isBtuple, o_isSint, o_isSbool, o_isSstr, o_isSlist, o_isStuple, o_isLint, o_isLbool, o_isLstr, o_isLlist, o_isLtuple, o_isTint, o_isTbool, o_isTstr, o_isTlist, o_isTtuple, o_isNint, o_isNbool, o_isNstr, o_isNlist, o_isNtuple, o_allT, o_truB, o_truN, o_truI, o_truL, o_truT, q_sv1, q_sv2, view, fixSlot, wipeE, aName, aTup, aCons, aNil, List.map_cons, List.map_nil, List.length_cons, List.length_nil, List.cons_append, List.nil_append, List.replicate_succ, List.replicate_zero, List.getElem?_cons_zero, List.getElem?_cons_succ, List.set_cons_zero, List.set_cons_succ, Option.map_some, Option.map_none, reduceIte, Nat.reduceAdd, Nat.reduceEqDiff, Option.some.injEq, List.length_map, List.length_append, and_true, true_and, and_self, decide_true, decide_false, Int.reduceLT, Int.reduceNeg, Int.reduceLE, Int.reduceEq, Int.reduceMul, Int.reduceAdd, Int.reduceSub, Int.reduceMod, Int.reduceDiv, Nat.reduceLT, Nat.reduceLeDiff, Int.reducePow, Nat.reducePow, Int.reduceToNat, SV.imm.injEq, SV.own.injEq, W.int.injEq, W.str.injEq, W.bl.injEq, W.lst.injEq, W.tup.injEq, id_eq, exists_eq', exists_eq_left', Out.nx.injEq, Out.rt.injEq, Nat.zero_le, Int.toNat_natCast, not_true_eq_false, not_false_eq_true, Bool.not_true, Bool.not_false, Bool.false_and, Bool.true_and, Bool.and_true, Bool.and_false, Bool.true_or, Bool.false_or, Bool.or_true, Bool.or_false, Bool.false_eq_true, m0, r1]
  generalize hL : loopW _ _ _ _ = L
  obtain ⟨e', rfl, r, s5, s6, ds, rfl, hl, hd⟩ := loop_is hL (PDig c many n) ⟨c, none, none, [], rfl, rfl, by simp⟩ (by
    rintro i w e hw ⟨r, s5, s6, ds, rfl, hl, hd⟩
    obtain ⟨hi, rfl⟩ := rngW_get hw
    have more : ∀ x : Int, ∀ d ∈ ds ++ [x % many], 0 ≤ d ∧ d < many := fun x d hm => by
      rcases List.mem_append.mp hm with h | h
      · exact hd d h
      · rw [List.mem_singleton.mp h]
        exact ⟨Int.emod_nonneg _ (by omega), Int.emod_lt_of_pos _ m0⟩
    have room : ds.length < 16777216 := by omega
    by_cases hc : (1000000000000000000 : Int) ≤ c
    · simp only [q_seq, q_if, q_fif, q_and, q_or, q_andV, q_orV, q_bin, q_binR, q_un, q_frz, q_imm, q_nil, q_cons, q_call, q_callW, q_c0, q_var, q_ret, q_set, q_aug, q_app, q_ext, q_pop, q_setIx, q_ixo, q_bor, q_tru, q_tst, q_not, q_notV, q_no, q_so, q_sl, q_sq, q_r1, q_r2, q_for, q_lc, q_asg, q_next, q_yes, q_fix, q_slot, q_drop, q_met, q_run, q1, q2, q2b, q2c, q3, q4, q5, q6, q7, q8, q9, q10, q11, q12, q13, q14, q15, q16, q17, q18, q19, q20, q21, q22, q23, q24, q25, q26, q27, q28, q29, q30, q31, q32, q33, q34, q35, q36, q37, q38, q39, q39b, q40, q41, q42, q44, q45, q46, q47, q48, o_add, o_sub, o_mulR, o_mulL, o_mod, o_div, o_addS, o_addI, o_addL, o_addT, o_p18, o_neg, o_cmp, o_eqI, o_eqS, o_eqB, o_neI, o_neS, o_len1, o_len2, o_len3, o_lenS, o_int, o_ix1, o_ix2, o_ix3, o_tup, o_lst, o_list1, o_list2, o_tuple1, o_tuple2, o_max, o_min, o_slL, o_slT, o_slS, o_mulSt, o_isIint, o_isIbool, o_isIstr, o_isIlist, o_isItuple, o_isBint, o_isBbool, o_isBstr, o_isBlist, o_isBtuple, o_isSint, o_isSbool, o_isSstr, o_isSlist, o_isStuple, o_isLint, o_isLbool, o_isLstr, o_isLlist, o_isLtuple, o_isTint, o_isTbool, o_isTstr, o_isTlist, o_isTtuple, o_isNint, o_isNbool, o_isNstr, o_isNlist, o_isNtuple, o_allT, o_truB, o_truN, o_truI, o_truL, o_truT, q_sv1, q_sv2, view, fixSlot, wipeE, aName, aTup, aCons, aNil, List.map_cons, List.map_nil, List.length_cons, List.length_nil, List.cons_append, List.nil_append, List.replicate_succ, List.replicate_zero, List.getElem?_cons_zero, List.getElem?_cons_succ, List.set_cons_zero, List.set_cons_succ, Option.map_some, Option.map_none, reduceIte, Nat.reduceAdd, Nat.reduceEqDiff, Option.some.injEq, List.length_map, List.length_append, and_true, true_and, and_self, decide_true, decide_false, Int.reduceLT, Int.reduceNeg, Int.reduceLE, Int.reduceEq, Int.reduceMul, Int.reduceAdd, Int.reduceSub, Int.reduceMod, Int.reduceDiv, Nat.reduceLT, Nat.reduceLeDiff, Int.reducePow, Nat.reducePow, Int.reduceToNat, SV.imm.injEq, SV.own.injEq, W.int.injEq, W.str.injEq, W.bl.injEq, W.lst.injEq, W.tup.injEq, id_eq, exists_eq', exists_eq_left', Out.nx.injEq, Out.rt.injEq, Nat.zero_le, Int.toNat_natCast, not_true_eq_false, not_false_eq_true, Bool.not_true, Bool.not_false, Bool.false_and, Bool.true_and, Bool.and_true, Bool.and_false, Bool.true_or, Bool.false_or, Bool.or_true, Bool.or_false, Bool.false_eq_true, hc, m0, m1, room]
      exact ⟨_, _, _, ds ++ [r % many], by rw [List.map_append]; rfl, by simp [hl], more r⟩
    · have s1 := Int.emod_nonneg (c * 48271 + (0 + (i : Int)) * 69621 + 1013) (show (2147483647 : Int) ≠ 0 by decide)
      have s2 := Int.emod_lt_of_pos (c * 48271 + (0 + (i : Int)) * 69621 + 1013) (show (0 : Int) < 2147483647 by decide)
      generalize hm : (c * 48271 + (0 + (i : Int)) * 69621 + 1013) % 2147483647 = m at s1 s2
      have sm : -18446744073709551616 < m ∧ m < 18446744073709551616 := by omega
      simp only [q_seq, q_if, q_fif, q_and, q_or, q_andV, q_orV, q_bin, q_binR, q_un, q_frz, q_imm, q_nil, q_cons, q_call, q_callW, q_c0, q_var, q_ret, q_set, q_aug, q_app, q_ext, q_pop, q_setIx, q_ixo, q_bor, q_tru, q_tst, q_not, q_notV, q_no, q_so, q_sl, q_sq, q_r1, q_r2, q_for, q_lc, q_asg, q_next, q_yes, q_fix, q_slot, q_drop, q_met, q_run, q1, q2, q2b, q2c, q3, q4, q5, q6, q7, q8, q9, q10, q11, q12, q13, q14, q15, q16, q17, q18, q19, q20, q21, q22, q23, q24, q25, q26, q27, q28, q29, q30, q31, q32, q33, q34, q35, q36, q37, q38, q39, q39b, q40, q41, q42, q44, q45, q46, q47, q48, o_add, o_sub, o_mulR, o_mulL, o_mod, o_div, o_addS, o_addI, o_addL, o_addT, o_p18, o_neg, o_cmp, o_eqI, o_eqS, o_eqB, o_neI, o_neS, o_len1, o_len2, o_len3, o_lenS, o_int, o_ix1, o_ix2, o_ix3, o_tup, o_lst, o_list1, o_list2, o_tuple1, o_tuple2, o_max, o_min, o_slL, o_slT, o_slS, o_mulSt, o_isIint, o_isIbool, o_isIstr, o_isIlist, o_isItuple, o_isBint, o_isBbool, o_isBstr, o_isBlist, o_isBtuple, o_isSint, o_isSbool, o_isSstr, o_isSlist, o_isStuple, o_isLint, o_isLbool, o_isLstr, o_isLlist, o_isLtuple, o_isTint, o_isTbool, o_isTstr, o_isTlist, o_isTtuple, o_isNint, o_isNbool, o_isNstr, o_isNlist, o_isNtuple, o_allT, o_truB, o_truN, o_truI, o_truL, o_truT, q_sv1, q_sv2, view, fixSlot, wipeE, aName, aTup, aCons, aNil, List.map_cons, List.map_nil, List.length_cons, List.length_nil, List.cons_append, List.nil_append, List.replicate_succ, List.replicate_zero, List.getElem?_cons_zero, List.getElem?_cons_succ, List.set_cons_zero, List.set_cons_succ, Option.map_some, Option.map_none, reduceIte, Nat.reduceAdd, Nat.reduceEqDiff, Option.some.injEq, List.length_map, List.length_append, and_true, true_and, and_self, decide_true, decide_false, Int.reduceLT, Int.reduceNeg, Int.reduceLE, Int.reduceEq, Int.reduceMul, Int.reduceAdd, Int.reduceSub, Int.reduceMod, Int.reduceDiv, Nat.reduceLT, Nat.reduceLeDiff, Int.reducePow, Nat.reducePow, Int.reduceToNat, SV.imm.injEq, SV.own.injEq, W.int.injEq, W.str.injEq, W.bl.injEq, W.lst.injEq, W.tup.injEq, id_eq, exists_eq', exists_eq_left', Out.nx.injEq, Out.rt.injEq, Nat.zero_le, Int.toNat_natCast, not_true_eq_false, not_false_eq_true, Bool.not_true, Bool.not_false, Bool.false_and, Bool.true_and, Bool.and_true, Bool.and_false, Bool.true_or, Bool.false_or, Bool.or_true, Bool.or_false, Bool.false_eq_true, hc, m0, m1, room, hm, sm]
      exact ⟨_, _, _, ds ++ [_ % many], by rw [List.map_append]; rfl, by simp [hl], more _⟩)
  simp only [q_seq, q_if, q_fif, q_and, q_or, q_andV, q_orV, q_bin, q_binR, q_un, q_frz, q_imm, q_nil, q_cons, q_call, q_callW, q_c0, q_var, q_ret, q_set, q_aug, q_app, q_ext, q_pop, q_setIx, q_ixo, q_bor, q_tru, q_tst, q_not, q_notV, q_no, q_so, q_sl, q_sq, q_r1, q_r2, q_for, q_lc, q_asg, q_next, q_yes, q_fix, q_slot, q_drop, q_met, q_run, q1, q2, q2b, q2c, q3, q4, q5, q6, q7, q8, q9, q10, q11, q12, q13, q14, q15, q16, q17, q18, q19, q20, q21, q22, q23, q24, q25, q26, q27, q28, q29, q30, q31, q32, q33, q34, q35, q36, q37, q38, q39, q39b, q40, q41, q42, q44, q45, q46, q47, q48, o_add, o_sub, o_mulR, o_mulL, o_mod, o_div, o_addS, o_addI, o_addL, o_addT, o_p18, o_neg, o_cmp, o_eqI, o_eqS, o_eqB, o_neI, o_neS, o_len1, o_len2, o_len3, o_lenS, o_int, o_ix1, o_ix2, o_ix3, o_tup, o_lst, o_list1, o_list2, o_tuple1, o_tuple2, o_max, o_min, o_slL, o_slT, o_slS, o_mulSt, o_isIint, o_isIbool, o_isIstr, o_isIlist, o_isItuple, o_isBint, o_isBbool, o_isBstr, o_isBlist, o_isBtuple, o_isSint, o_isSbool, o_isSstr, o_isSlist, o_isStuple, o_isLint, o_isLbool, o_isLstr, o_isLlist, o_isLtuple, o_isTint, o_isTbool, o_isTstr, o_isTlist, o_isTtuple, o_isNint, o_isNbool, o_isNstr, o_isNlist, o_isNtuple, o_allT, o_truB, o_truN, o_truI, o_truL, o_truT, q_sv1, q_sv2, view, fixSlot, wipeE, aName, aTup, aCons, aNil, List.map_cons, List.map_nil, List.length_cons, List.length_nil, List.cons_append, List.nil_append, List.replicate_succ, List.replicate_zero, List.getElem?_cons_zero, List.getElem?_cons_succ, List.set_cons_zero, List.set_cons_succ, Option.map_some, Option.map_none, reduceIte, Nat.reduceAdd, Nat.reduceEqDiff, Option.some.injEq, List.length_map, List.length_append, and_true, true_and, and_self, decide_true, decide_false, Int.reduceLT, Int.reduceNeg, Int.reduceLE, Int.reduceEq, Int.reduceMul, Int.reduceAdd, Int.reduceSub, Int.reduceMod, Int.reduceDiv, Nat.reduceLT, Nat.reduceLeDiff, Int.reducePow, Nat.reducePow, Int.reduceToNat, SV.imm.injEq, SV.own.injEq, W.int.injEq, W.str.injEq, W.bl.injEq, W.lst.injEq, W.tup.injEq, id_eq, exists_eq', exists_eq_left', Out.nx.injEq, Out.rt.injEq, Nat.zero_le, Int.toNat_natCast, not_true_eq_false, not_false_eq_true, Bool.not_true, Bool.not_false, Bool.false_and, Bool.true_and, Bool.and_true, Bool.and_false, Bool.true_or, Bool.false_or, Bool.or_true, Bool.or_false, Bool.false_eq_true]
  exact ⟨ds, rfl, by rw [hl, rngW_len], hd⟩
theorem menu_at {m : Int} (h0 : 0 ≤ m) (h1 : m < 6) : ∃ n : Nat, atI [W.int 0, W.int 1, W.int 2, W.int 10, W.int 999999999, W.int 7] m = some (nW n) ∧ n < 1000000000 := by
  obtain rfl | rfl | rfl | rfl | rfl | rfl : m = 0 ∨ m = 1 ∨ m = 2 ∨ m = 3 ∨ m = 4 ∨ m = 5 := by omega
  · exact ⟨0, rfl, by decide⟩
  · exact ⟨1, rfl, by decide⟩
  · exact ⟨2, rfl, by decide⟩
  · exact ⟨10, rfl, by decide⟩
  · exact ⟨999999999, rfl, by decide⟩
  · exact ⟨7, rfl, by decide⟩
def PNum (dw : W) (at_ cnt : Int) (i : Nat) (e : En) : Prop := ∃ (r : List Nat) (s4 s5 : Option SV), e = [some (.imm dw), some (.imm (.int at_)), some (.imm (.int cnt)), some (.own (.lst (r.map nW))), s4, s5] ∧ r.length = i ∧ ∀ n ∈ r, n < 1000000000
theorem dig_at {ds : List Int} (hl : ds.length = 40) (x : Int) : ∃ d, atI (ds.map W.int) (x % 40) = some (.int d) ∧ d ∈ ds := by
  have e0 := Int.emod_nonneg x (show (40 : Int) ≠ 0 by decide)
  have e1 := Int.emod_lt_of_pos x (show (0 : Int) < 40 by decide)
  obtain ⟨j, hj⟩ : ∃ j : Nat, x % 40 = (j : Int) := ⟨(x % 40).toNat, by omega⟩
  have hlt : j < ds.length := by omega
  rw [hj]
  exact ⟨ds[j], ints_at hlt, List.getElem_mem hlt⟩
theorem nums_ok {ds : List Int} (hl : ds.length = 40) (at_ : Int) (cnt : Nat) (hc : cnt ≤ 100) : ∃ r : List Nat, F_numbers [.lst (ds.map W.int), .int at_, .int cnt] = some (.imm (rowW r)) ∧ ROk r := by
  have r1 : -4611686018427387904 ≤ (cnt : Int) ∧ (cnt : Int) < 4611686018427387904 := by omega
  have l40 : ((ds.length : Nat) : Int) = 40 := by rw [hl]; rfl
  have p40 : (0 : Int) < 40 := by decide
  unfold F_numbers B_numbers
  simp only [q_seq, q_if, q_fif, q_and, q_or, q_andV, q_orV, q_bin, q_binR, q_un, q_frz, q_imm, q_nil, q_cons, q_call, q_callW, q_c0, q_var, q_ret, q_set, q_aug, q_app, q_ext, q_pop, q_setIx, q_ixo, q_bor, q_tru, q_tst, q_not, q_notV, q_no, q_so, q_sl, q_sq, q_r1, q_r2, q_for, q_lc, q_asg, q_next, q_yes, q_fix, q_slot, q_drop, q_met, q_run, q1, q2, q2b, q2c, q3, q4, q5, q6, q7, q8, q9, q10, q11, q12, q13, q14, q15, q16, q17, q18, q19, q20, q21, q22, q23, q24, q25, q26, q27, q28, q29, q30, q31, q32, q33, q34, q35, q36, q37, q38, q39, q39b, q40, q41, q42, q44, q45, q46, q47, q48, o_add, o_sub, o_mulR, o_mulL, o_mod, o_div, o_addS, o_addI, o_addL, o_addT, o_p18, o_neg, o_cmp, o_eqI, o_eqS, o_eqB, o_neI, o_neS, o_len1, o_len2, o_len3, o_lenS, o_int, o_ix1, o_ix2, o_ix3, o_tup, o_lst, o_list1, o_list2, o_tuple1, o_tuple2, o_max, o_min, o_slL, o_slT, o_slS, o_mulSt, o_isIint, o_isIbool, o_isIstr, o_isIlist, o_isItuple, o_isBint, o_isBbool, o_isBstr, o_isBlist, o_isBtuple, o_isSint, o_isSbool, o_isSstr, o_isSlist, o_isStuple, o_isLint, o_isLbool, o_isLstr, o_isLlist, o_isLtuple, o_isTint, o_isTbool, o_isTstr, o_isTlist, o_isTtuple, o_isNint, o_isNbool, o_isNstr, o_isNlist, o_isNtuple, o_allT, o_truB, o_truN, o_truI, o_truL, o_truT, q_sv1, q_sv2, view, fixSlot, wipeE, aName, aTup, aCons, aNil, List.map_cons, List.map_nil, List.length_cons, List.length_nil, List.cons_append, List.nil_append, List.replicate_succ, List.replicate_zero, List.getElem?_cons_zero, List.getElem?_cons_succ, List.set_cons_zero, List.set_cons_succ, Option.map_some, Option.map_none, reduceIte, Nat.reduceAdd, Nat.reduceEqDiff, Option.some.injEq, List.length_map, List.length_append, and_true, true_and, and_self, decide_true, decide_false, Int.reduceLT, Int.reduceNeg, Int.reduceLE, Int.reduceEq, Int.reduceMul, Int.reduceAdd, Int.reduceSub, Int.reduceMod, Int.reduceDiv, Nat.reduceLT, Nat.reduceLeDiff, Int.reducePow, Nat.reducePow, Int.reduceToNat, SV.imm.injEq, SV.own.injEq, W.int.injEq, W.str.injEq, W.bl.injEq, W.lst.injEq, W.tup.injEq, id_eq, exists_eq', exists_eq_left', Out.nx.injEq, Out.rt.injEq, Nat.zero_le, Int.toNat_natCast, not_true_eq_false, not_false_eq_true, Bool.not_true, Bool.not_false, Bool.false_and, Bool.true_and, Bool.and_true, Bool.and_false, Bool.true_or, Bool.false_or, Bool.or_true, Bool.or_false, Bool.false_eq_true, q_fld, r_fld, q_lrg1, r_lrg1, q_mk, q_fldI, r_fldI, o_fac, q_enum, r_enum1, r_enum2, r_enum3, q_dget, r_dget, q_dnew, q_dput, r_dput, q_clear, q_chain, r_chain, o_isN1, o_isN2, o_isN3, q_fs, r_fs3, r_fs4, r_fs5, at_i0, at_i1, at_i2, at_i3, q_fmt, q_txt, q_kd, r_kd, q_xl, r_xl, q_xpop, r_xpop, q_xnil, q_xcons, r_xc, r_xc2, q_xtup, r_xtup, q_appX, r_a0, r_a1, r_a2, q_setX, r_sx, o_ixK, o_slK, q39b, q_raise, q_metR, r_metR, q_fcx, r1]
  generalize hL : loopW _ _ _ _ = L
  obtain ⟨e', rfl, r, s4, s5, rfl, h1, h2⟩ := loop_is hL (PNum (.lst (ds.map W.int)) at_ cnt) ⟨[], none, none, rfl, rfl, by simp⟩ (by
    rintro i w e hw ⟨r, s4, s5, rfl, h1, h2⟩
    obtain ⟨hi, rfl⟩ := rngW_get hw
    obtain ⟨d, hd, _⟩ := dig_at hl (at_ + (0 + (i : Int)))
    obtain ⟨n, hn, hn9⟩ := menu_at (Int.emod_nonneg d (show (6 : Int) ≠ 0 by decide)) (Int.emod_lt_of_pos d (show (0 : Int) < 6 by decide))
    have room : r.length < 16777216 := by omega
    simp only [q_seq, q_if, q_fif, q_and, q_or, q_andV, q_orV, q_bin, q_binR, q_un, q_frz, q_imm, q_nil, q_cons, q_call, q_callW, q_c0, q_var, q_ret, q_set, q_aug, q_app, q_ext, q_pop, q_setIx, q_ixo, q_bor, q_tru, q_tst, q_not, q_notV, q_no, q_so, q_sl, q_sq, q_r1, q_r2, q_for, q_lc, q_asg, q_next, q_yes, q_fix, q_slot, q_drop, q_met, q_run, q1, q2, q2b, q2c, q3, q4, q5, q6, q7, q8, q9, q10, q11, q12, q13, q14, q15, q16, q17, q18, q19, q20, q21, q22, q23, q24, q25, q26, q27, q28, q29, q30, q31, q32, q33, q34, q35, q36, q37, q38, q39, q39b, q40, q41, q42, q44, q45, q46, q47, q48, o_add, o_sub, o_mulR, o_mulL, o_mod, o_div, o_addS, o_addI, o_addL, o_addT, o_p18, o_neg, o_cmp, o_eqI, o_eqS, o_eqB, o_neI, o_neS, o_len1, o_len2, o_len3, o_lenS, o_int, o_ix1, o_ix2, o_ix3, o_tup, o_lst, o_list1, o_list2, o_tuple1, o_tuple2, o_max, o_min, o_slL, o_slT, o_slS, o_mulSt, o_isIint, o_isIbool, o_isIstr, o_isIlist, o_isItuple, o_isBint, o_isBbool, o_isBstr, o_isBlist, o_isBtuple, o_isSint, o_isSbool, o_isSstr, o_isSlist, o_isStuple, o_isLint, o_isLbool, o_isLstr, o_isLlist, o_isLtuple, o_isTint, o_isTbool, o_isTstr, o_isTlist, o_isTtuple, o_isNint, o_isNbool, o_isNstr, o_isNlist, o_isNtuple, o_allT, o_truB, o_truN, o_truI, o_truL, o_truT, q_sv1, q_sv2, view, fixSlot, wipeE, aName, aTup, aCons, aNil, List.map_cons, List.map_nil, List.length_cons, List.length_nil, List.cons_append, List.nil_append, List.replicate_succ, List.replicate_zero, List.getElem?_cons_zero, List.getElem?_cons_succ, List.set_cons_zero, List.set_cons_succ, Option.map_some, Option.map_none, reduceIte, Nat.reduceAdd, Nat.reduceEqDiff, Option.some.injEq, List.length_map, List.length_append, and_true, true_and, and_self, decide_true, decide_false, Int.reduceLT, Int.reduceNeg, Int.reduceLE, Int.reduceEq, Int.reduceMul, Int.reduceAdd, Int.reduceSub, Int.reduceMod, Int.reduceDiv, Nat.reduceLT, Nat.reduceLeDiff, Int.reducePow, Nat.reducePow, Int.reduceToNat, SV.imm.injEq, SV.own.injEq, W.int.injEq, W.str.injEq, W.bl.injEq, W.lst.injEq, W.tup.injEq, id_eq, exists_eq', exists_eq_left', Out.nx.injEq, Out.rt.injEq, Nat.zero_le, Int.toNat_natCast, not_true_eq_false, not_false_eq_true, Bool.not_true, Bool.not_false, Bool.false_and, Bool.true_and, Bool.and_true, Bool.and_false, Bool.true_or, Bool.false_or, Bool.or_true, Bool.or_false, Bool.false_eq_true, q_fld, r_fld, q_lrg1, r_lrg1, q_mk, q_fldI, r_fldI, o_fac, q_enum, r_enum1, r_enum2, r_enum3, q_dget, r_dget, q_dnew, q_dput, r_dput, q_clear, q_chain, r_chain, o_isN1, o_isN2, o_isN3, q_fs, r_fs3, r_fs4, r_fs5, at_i0, at_i1, at_i2, at_i3, q_fmt, q_txt, q_kd, r_kd, q_xl, r_xl, q_xpop, r_xpop, q_xnil, q_xcons, r_xc, r_xc2, q_xtup, r_xtup, q_appX, r_a0, r_a1, r_a2, q_setX, r_sx, o_ixK, o_slK, q39b, q_raise, q_metR, r_metR, q_fcx, l40, p40, hd, hn, room]
    refine ⟨r ++ [n], _, _, by rw [List.map_append]; rfl, by simp [h1], fun k hk => ?_⟩
    rcases List.mem_append.mp hk with z | z
    · exact h2 k z
    · rw [List.mem_singleton.mp z]
      exact hn9)
  rw [rngW_len] at h1
  simp only [q_seq, q_if, q_fif, q_and, q_or, q_andV, q_orV, q_bin, q_binR, q_un, q_frz, q_imm, q_nil, q_cons, q_call, q_callW, q_c0, q_var, q_ret, q_set, q_aug, q_app, q_ext, q_pop, q_setIx, q_ixo, q_bor, q_tru, q_tst, q_not, q_notV, q_no, q_so, q_sl, q_sq, q_r1, q_r2, q_for, q_lc, q_asg, q_next, q_yes, q_fix, q_slot, q_drop, q_met, q_run, q1, q2, q2b, q2c, q3, q4, q5, q6, q7, q8, q9, q10, q11, q12, q13, q14, q15, q16, q17, q18, q19, q20, q21, q22, q23, q24, q25, q26, q27, q28, q29, q30, q31, q32, q33, q34, q35, q36, q37, q38, q39, q39b, q40, q41, q42, q44, q45, q46, q47, q48, o_add, o_sub, o_mulR, o_mulL, o_mod, o_div, o_addS, o_addI, o_addL, o_addT, o_p18, o_neg, o_cmp, o_eqI, o_eqS, o_eqB, o_neI, o_neS, o_len1, o_len2, o_len3, o_lenS, o_int, o_ix1, o_ix2, o_ix3, o_tup, o_lst, o_list1, o_list2, o_tuple1, o_tuple2, o_max, o_min, o_slL, o_slT, o_slS, o_mulSt, o_isIint, o_isIbool, o_isIstr, o_isIlist, o_isItuple, o_isBint, o_isBbool, o_isBstr, o_isBlist, o_isBtuple, o_isSint, o_isSbool, o_isSstr, o_isSlist, o_isStuple, o_isLint, o_isLbool, o_isLstr, o_isLlist, o_isLtuple, o_isTint, o_isTbool, o_isTstr, o_isTlist, o_isTtuple, o_isNint, o_isNbool, o_isNstr, o_isNlist, o_isNtuple, o_allT, o_truB, o_truN, o_truI, o_truL, o_truT, q_sv1, q_sv2, view, fixSlot, wipeE, aName, aTup, aCons, aNil, List.map_cons, List.map_nil, List.length_cons, List.length_nil, List.cons_append, List.nil_append, List.replicate_succ, List.replicate_zero, List.getElem?_cons_zero, List.getElem?_cons_succ, List.set_cons_zero, List.set_cons_succ, Option.map_some, Option.map_none, reduceIte, Nat.reduceAdd, Nat.reduceEqDiff, Option.some.injEq, List.length_map, List.length_append, and_true, true_and, and_self, decide_true, decide_false, Int.reduceLT, Int.reduceNeg, Int.reduceLE, Int.reduceEq, Int.reduceMul, Int.reduceAdd, Int.reduceSub, Int.reduceMod, Int.reduceDiv, Nat.reduceLT, Nat.reduceLeDiff, Int.reducePow, Nat.reducePow, Int.reduceToNat, SV.imm.injEq, SV.own.injEq, W.int.injEq, W.str.injEq, W.bl.injEq, W.lst.injEq, W.tup.injEq, id_eq, exists_eq', exists_eq_left', Out.nx.injEq, Out.rt.injEq, Nat.zero_le, Int.toNat_natCast, not_true_eq_false, not_false_eq_true, Bool.not_true, Bool.not_false, Bool.false_and, Bool.true_and, Bool.and_true, Bool.and_false, Bool.true_or, Bool.false_or, Bool.or_true, Bool.or_false, Bool.false_eq_true, q_fld, r_fld, q_lrg1, r_lrg1, q_mk, q_fldI, r_fldI, o_fac, q_enum, r_enum1, r_enum2, r_enum3, q_dget, r_dget, q_dnew, q_dput, r_dput, q_clear, q_chain, r_chain, o_isN1, o_isN2, o_isN3, q_fs, r_fs3, r_fs4, r_fs5, at_i0, at_i1, at_i2, at_i3, q_fmt, q_txt, q_kd, r_kd, q_xl, r_xl, q_xpop, r_xpop, q_xnil, q_xcons, r_xc, r_xc2, q_xtup, r_xtup, q_appX, r_a0, r_a1, r_a2, q_setX, r_sx, o_ixK, o_slK, q39b, q_raise, q_metR, r_metR, q_fcx]
  exact ⟨r, rfl, by omega, h2⟩
theorem to_f {α : Type} {f : α → W} {P : α → Prop} : ∀ {us : List W}, (∀ (i : Nat) (u : W), us[i]? = some u → ∃ x, u = f x ∧ P x) → ∃ xs : List α, us = xs.map f ∧ ∀ x ∈ xs, P x
  | [], _ => ⟨[], rfl, by simp⟩
  | u :: us, h => by
    obtain ⟨x, rfl, px⟩ := h 0 u rfl
    obtain ⟨xs, rfl, pxs⟩ := to_f (us := us) fun i v hv => h (i + 1) v (by simpa using hv)
    refine ⟨x :: xs, rfl, fun y hy => ?_⟩
    rcases List.mem_cons.mp hy with rfl | hy
    · exact px
    · exact pxs y hy
theorem any_layer_ok {ds : List Int} (hl : ds.length = 40) (at_ : Int) (parts : Nat) (hp : parts ≤ 5) : ∃ l : List (List Nat), F_any_layer [.lst (ds.map W.int), .int at_, .int parts] = some (.imm (layW l)) ∧ LOk l := by
  have r1 : -4611686018427387904 ≤ (parts : Int) ∧ (parts : Int) < 4611686018427387904 := by omega
  have l40 : ((ds.length : Nat) : Int) = 40 := by rw [hl]; rfl
  have p40 : (0 : Int) < 40 := by decide
  have sm : -18446744073709551616 < (3 : Int) ∧ (3 : Int) < 18446744073709551616 := by decide
  unfold F_any_layer B_any_layer
  simp only [q_seq, q_if, q_fif, q_and, q_or, q_andV, q_orV, q_bin, q_binR, q_un, q_frz, q_imm, q_nil, q_cons, q_call, q_callW, q_c0, q_var, q_ret, q_set, q_aug, q_app, q_ext, q_pop, q_setIx, q_ixo, q_bor, q_tru, q_tst, q_not, q_notV, q_no, q_so, q_sl, q_sq, q_r1, q_r2, q_for, q_lc, q_asg, q_next, q_yes, q_fix, q_slot, q_drop, q_met, q_run, q1, q2, q2b, q2c, q3, q4, q5, q6, q7, q8, q9, q10, q11, q12, q13, q14, q15, q16, q17, q18, q19, q20, q21, q22, q23, q24, q25, q26, q27, q28, q29, q30, q31, q32, q33, q34, q35, q36, q37, q38, q39, q39b, q40, q41, q42, q44, q45, q46, q47, q48, o_add, o_sub, o_mulR, o_mulL, o_mod, o_div, o_addS, o_addI, o_addL, o_addT, o_p18, o_neg, o_cmp, o_eqI, o_eqS, o_eqB, o_neI, o_neS, o_len1, o_len2, o_len3, o_lenS, o_int, o_ix1, o_ix2, o_ix3, o_tup, o_lst, o_list1, o_list2, o_tuple1, o_tuple2, o_max, o_min, o_slL, o_slT, o_slS, o_mulSt, o_isIint, o_isIbool, o_isIstr, o_isIlist, o_isItuple, o_isBint, o_isBbool, o_isBstr, o_isBlist, o_isBtuple, o_isSint, o_isSbool, o_isSstr, o_isSlist, o_isStuple, o_isLint, o_isLbool, o_isLstr, o_isLlist, o_isLtuple, o_isTint, o_isTbool, o_isTstr, o_isTlist, o_isTtuple, o_isNint, o_isNbool, o_isNstr, o_isNlist, o_isNtuple, o_allT, o_truB, o_truN, o_truI, o_truL, o_truT, q_sv1, q_sv2, view, fixSlot, wipeE, aName, aTup, aCons, aNil, List.map_cons, List.map_nil, List.length_cons, List.length_nil, List.cons_append, List.nil_append, List.replicate_succ, List.replicate_zero, List.getElem?_cons_zero, List.getElem?_cons_succ, List.set_cons_zero, List.set_cons_succ, Option.map_some, Option.map_none, reduceIte, Nat.reduceAdd, Nat.reduceEqDiff, Option.some.injEq, List.length_map, List.length_append, and_true, true_and, and_self, decide_true, decide_false, Int.reduceLT, Int.reduceNeg, Int.reduceLE, Int.reduceEq, Int.reduceMul, Int.reduceAdd, Int.reduceSub, Int.reduceMod, Int.reduceDiv, Nat.reduceLT, Nat.reduceLeDiff, Int.reducePow, Nat.reducePow, Int.reduceToNat, SV.imm.injEq, SV.own.injEq, W.int.injEq, W.str.injEq, W.bl.injEq, W.lst.injEq, W.tup.injEq, id_eq, exists_eq', exists_eq_left', Out.nx.injEq, Out.rt.injEq, Nat.zero_le, Int.toNat_natCast, not_true_eq_false, not_false_eq_true, Bool.not_true, Bool.not_false, Bool.false_and, Bool.true_and, Bool.and_true, Bool.and_false, Bool.true_or, Bool.false_or, Bool.or_true, Bool.or_false, Bool.false_eq_true, q_fld, r_fld, q_lrg1, r_lrg1, q_mk, q_fldI, r_fldI, o_fac, q_enum, r_enum1, r_enum2, r_enum3, q_dget, r_dget, q_dnew, q_dput, r_dput, q_clear, q_chain, r_chain, o_isN1, o_isN2, o_isN3, q_fs, r_fs3, r_fs4, r_fs5, at_i0, at_i1, at_i2, at_i3, q_fmt, q_txt, q_kd, r_kd, q_xl, r_xl, q_xpop, r_xpop, q_xnil, q_xcons, r_xc, r_xc2, q_xtup, r_xtup, q_appX, r_a0, r_a1, r_a2, q_setX, r_sx, o_ixK, o_slK, q39b, q_raise, q_metR, r_metR, q_fcx, r1]
  obtain ⟨us, hus, ul, uR⟩ := lc_some (A := aName 3) (t := fYes) (g := fFrz (fCall F_numbers (fCons (fVar 0) (fCons (fBin addI (fVar 1) (fBin mulW (fC (.int 3)) (fVar 3))) (fCons (fBin modW (fCallW intW (fCons (fBin ixW (fVar 0) (fBin modW (fCallW intW (fCons (fFrz (fBinR addW (fVar 1) (fVar 3))) fNil)) (fCallW lenW (fCons (fVar 0) fNil)))) fNil)) (fC (.int 3))) fNil)))))
    (e := [some (.imm (.lst (ds.map W.int))), some (.imm (.int at_)), some (.imm (.int parts)), none]) (ws := rngW 0 parts) (R := fun _ u => ∃ r, u = rowW r ∧ ROk r) 0 (by
      intro i w hw
      obtain ⟨hi, rfl⟩ := rngW_get hw
      obtain ⟨d, hd, _⟩ := dig_at hl (at_ + (0 + (i : Int)))
      have e0 := Int.emod_nonneg d (show (3 : Int) ≠ 0 by decide)
      have e1 := Int.emod_lt_of_pos d (show (0 : Int) < 3 by decide)
      obtain ⟨c, hc⟩ : ∃ c : Nat, d % 3 = (c : Int) := ⟨(d % 3).toNat, by omega⟩
      obtain ⟨r, hr, rok⟩ := nums_ok hl (at_ + 3 * (0 + (i : Int))) c (by omega)
      simp only [q_seq, q_if, q_fif, q_and, q_or, q_andV, q_orV, q_bin, q_binR, q_un, q_frz, q_imm, q_nil, q_cons, q_call, q_callW, q_c0, q_var, q_ret, q_set, q_aug, q_app, q_ext, q_pop, q_setIx, q_ixo, q_bor, q_tru, q_tst, q_not, q_notV, q_no, q_so, q_sl, q_sq, q_r1, q_r2, q_for, q_lc, q_asg, q_next, q_yes, q_fix, q_slot, q_drop, q_met, q_run, q1, q2, q2b, q2c, q3, q4, q5, q6, q7, q8, q9, q10, q11, q12, q13, q14, q15, q16, q17, q18, q19, q20, q21, q22, q23, q24, q25, q26, q27, q28, q29, q30, q31, q32, q33, q34, q35, q36, q37, q38, q39, q39b, q40, q41, q42, q44, q45, q46, q47, q48, o_add, o_sub, o_mulR, o_mulL, o_mod, o_div, o_addS, o_addI, o_addL, o_addT, o_p18, o_neg, o_cmp, o_eqI, o_eqS, o_eqB, o_neI, o_neS, o_len1, o_len2, o_len3, o_lenS, o_int, o_ix1, o_ix2, o_ix3, o_tup, o_lst, o_list1, o_list2, o_tuple1, o_tuple2, o_max, o_min, o_slL, o_slT, o_slS, o_mulSt, o_isIint, o_isIbool, o_isIstr, o_isIlist, o_isItuple, o_isBint, o_isBbool, o_isBstr, o_isBlist, o_isBtuple, o_isSint, o_isSbool, o_isSstr, o_isSlist, o_isStuple, o_isLint, o_isLbool, o_isLstr, o_isLlist, o_isLtuple, o_isTint, o_isTbool, o_isTstr, o_isTlist, o_isTtuple, o_isNint, o_isNbool, o_isNstr, o_isNlist, o_isNtuple, o_allT, o_truB, o_truN, o_truI, o_truL, o_truT, q_sv1, q_sv2, view, fixSlot, wipeE, aName, aTup, aCons, aNil, List.map_cons, List.map_nil, List.length_cons, List.length_nil, List.cons_append, List.nil_append, List.replicate_succ, List.replicate_zero, List.getElem?_cons_zero, List.getElem?_cons_succ, List.set_cons_zero, List.set_cons_succ, Option.map_some, Option.map_none, reduceIte, Nat.reduceAdd, Nat.reduceEqDiff, Option.some.injEq, List.length_map, List.length_append, and_true, true_and, and_self, decide_true, decide_false, Int.reduceLT, Int.reduceNeg, Int.reduceLE, Int.reduceEq, Int.reduceMul, Int.reduceAdd, Int.reduceSub, Int.reduceMod, Int.reduceDiv, Nat.reduceLT, Nat.reduceLeDiff, Int.reducePow, Nat.reducePow, Int.reduceToNat, SV.imm.injEq, SV.own.injEq, W.int.injEq, W.str.injEq, W.bl.injEq, W.lst.injEq, W.tup.injEq, id_eq, exists_eq', exists_eq_left', Out.nx.injEq, Out.rt.injEq, Nat.zero_le, Int.toNat_natCast, not_true_eq_false, not_false_eq_true, Bool.not_true, Bool.not_false, Bool.false_and, Bool.true_and, Bool.and_true, Bool.and_false, Bool.true_or, Bool.false_or, Bool.or_true, Bool.or_false, Bool.false_eq_true, q_fld, r_fld, q_lrg1, r_lrg1, q_mk, q_fldI, r_fldI, o_fac, q_enum, r_enum1, r_enum2, r_enum3, q_dget, r_dget, q_dnew, q_dput, r_dput, q_clear, q_chain, r_chain, o_isN1, o_isN2, o_isN3, q_fs, r_fs3, r_fs4, r_fs5, at_i0, at_i1, at_i2, at_i3, q_fmt, q_txt, q_kd, r_kd, q_xl, r_xl, q_xpop, r_xpop, q_xnil, q_xcons, r_xc, r_xc2, q_xtup, r_xtup, q_appX, r_a0, r_a1, r_a2, q_setX, r_sx, o_ixK, o_slK, q39b, q_raise, q_metR, r_metR, q_fcx, l40, p40, hd, hc, sm, hr]
      exact ⟨r, rfl, rok⟩)
  rw [rngW_len] at ul
  rw [q43 hus (by omega)]
  obtain ⟨l, rfl, hl2⟩ := to_f uR
  simp only [q_seq, q_if, q_fif, q_and, q_or, q_andV, q_orV, q_bin, q_binR, q_un, q_frz, q_imm, q_nil, q_cons, q_call, q_callW, q_c0, q_var, q_ret, q_set, q_aug, q_app, q_ext, q_pop, q_setIx, q_ixo, q_bor, q_tru, q_tst, q_not, q_notV, q_no, q_so, q_sl, q_sq, q_r1, q_r2, q_for, q_lc, q_asg, q_next, q_yes, q_fix, q_slot, q_drop, q_met, q_run, q1, q2, q2b, q2c, q3, q4, q5, q6, q7, q8, q9, q10, q11, q12, q13, q14, q15, q16, q17, q18, q19, q20, q21, q22, q23, q24, q25, q26, q27, q28, q29, q30, q31, q32, q33, q34, q35, q36, q37, q38, q39, q39b, q40, q41, q42, q44, q45, q46, q47, q48, o_add, o_sub, o_mulR, o_mulL, o_mod, o_div, o_addS, o_addI, o_addL, o_addT, o_p18, o_neg, o_cmp, o_eqI, o_eqS, o_eqB, o_neI, o_neS, o_len1, o_len2, o_len3, o_lenS, o_int, o_ix1, o_ix2, o_ix3, o_tup, o_lst, o_list1, o_list2, o_tuple1, o_tuple2, o_max, o_min, o_slL, o_slT, o_slS, o_mulSt, o_isIint, o_isIbool, o_isIstr, o_isIlist, o_isItuple, o_isBint, o_isBbool, o_isBstr, o_isBlist, o_isBtuple, o_isSint, o_isSbool, o_isSstr, o_isSlist, o_isStuple, o_isLint, o_isLbool, o_isLstr, o_isLlist, o_isLtuple, o_isTint, o_isTbool, o_isTstr, o_isTlist, o_isTtuple, o_isNint, o_isNbool, o_isNstr, o_isNlist, o_isNtuple, o_allT, o_truB, o_truN, o_truI, o_truL, o_truT, q_sv1, q_sv2, view, fixSlot, wipeE, aName, aTup, aCons, aNil, List.map_cons, List.map_nil, List.length_cons, List.length_nil, List.cons_append, List.nil_append, List.replicate_succ, List.replicate_zero, List.getElem?_cons_zero, List.getElem?_cons_succ, List.set_cons_zero, List.set_cons_succ, Option.map_some, Option.map_none, reduceIte, Nat.reduceAdd, Nat.reduceEqDiff, Option.some.injEq, List.length_map, List.length_append, and_true, true_and, and_self, decide_true, decide_false, Int.reduceLT, Int.reduceNeg, Int.reduceLE, Int.reduceEq, Int.reduceMul, Int.reduceAdd, Int.reduceSub, Int.reduceMod, Int.reduceDiv, Nat.reduceLT, Nat.reduceLeDiff, Int.reducePow, Nat.reducePow, Int.reduceToNat, SV.imm.injEq, SV.own.injEq, W.int.injEq, W.str.injEq, W.bl.injEq, W.lst.injEq, W.tup.injEq, id_eq, exists_eq', exists_eq_left', Out.nx.injEq, Out.rt.injEq, Nat.zero_le, Int.toNat_natCast, not_true_eq_false, not_false_eq_true, Bool.not_true, Bool.not_false, Bool.false_and, Bool.true_and, Bool.and_true, Bool.and_false, Bool.true_or, Bool.false_or, Bool.or_true, Bool.or_false, Bool.false_eq_true, q_fld, r_fld, q_lrg1, r_lrg1, q_mk, q_fldI, r_fldI, o_fac, q_enum, r_enum1, r_enum2, r_enum3, q_dget, r_dget, q_dnew, q_dput, r_dput, q_clear, q_chain, r_chain, o_isN1, o_isN2, o_isN3, q_fs, r_fs3, r_fs4, r_fs5, at_i0, at_i1, at_i2, at_i3, q_fmt, q_txt, q_kd, r_kd, q_xl, r_xl, q_xpop, r_xpop, q_xnil, q_xcons, r_xc, r_xc2, q_xtup, r_xtup, q_appX, r_a0, r_a1, r_a2, q_setX, r_sx, o_ixK, o_slK, q39b, q_raise, q_metR, r_metR, q_fcx]
  exact ⟨l, rfl, by rw [List.length_map] at ul; omega, hl2⟩
theorem t_cutFrom2 (l : List Nat) (i : Nat) : cutS (T l) (some (i : Int)) none = T (l.drop i) := by
  unfold cutS
  rw [t_len, HT.sIx_nat, HT.sIx_none]
  show T _ = T _
  rw [t_inj]
  by_cases h : i ≤ l.length
  · rw [Nat.min_eq_left h, List.take_of_length_le (by rw [List.length_drop]; exact Nat.le_refl _)]
  · rw [Nat.min_eq_right (by omega), Nat.sub_self]
    simp
    omega
theorem char_at (x : Int) : ∃ c : Nat, ixW (.str " 0,/-.1\te9") (.int (x % 10)) = some (.str (T [c])) ∧ c < 128 := by
  have s : (" 0,/-.1\te9" : Str) = T [32, 48, 44, 47, 45, 46, 49, 9, 101, 57] := by decide +kernel
  rw [s]
  obtain ⟨c, h1, h2⟩ := at_mod (l := [32, 48, 44, 47, 45, 46, 49, 9, 101, 57]) (n := 10) (x := x) rfl (by decide) (by decide)
  refine ⟨c, h1, ?_⟩
  have q : ∀ c ∈ [32, 48, 44, 47, 45, 46, 49, 9, 101, 57], c < 128 := by decide
  exact q c h2
theorem eq_str3 (s : List (List (List Nat))) : eqB (strW3 s) (strW3 s) = some true := eq_tup (nd_str s) (by decide)
theorem law_true (ns : List Int) (h : ns.length ≤ 63) : F_law [.klst (ns.map W.int)] = some (.imm (.bl true)) := by
  obtain ⟨c0, hc0⟩ := cell_ok ns 0
  obtain ⟨c1, hc1⟩ := cell_ok ns 1
  obtain ⟨c2, hc2⟩ := cell_ok ns 2
  have hc0' : F_cell [.klst (ns.map W.int), .int 0] = some (.imm (.int c0)) := hc0
  have hc1' : F_cell [.klst (ns.map W.int), .int 1] = some (.imm (.int c1)) := hc1
  have hc2' : F_cell [.klst (ns.map W.int), .int 2] = some (.imm (.int c2)) := hc2
  obtain ⟨ds, hds, dl, db⟩ := digits_ok c0 60 40 (by decide) (by decide) (by decide) (by decide)
  have dl' : ds.length = 40 := dl
  have x0 : atI (ds.map W.int) 0 = some (.int (ds.getD 0 0)) := at_getD (j := 0) (by omega)
  have x1 : atI (ds.map W.int) 1 = some (.int (ds.getD 1 0)) := at_getD (j := 1) (by omega)
  have a0 := Int.emod_nonneg (ds.getD 0 0) (show (4 : Int) ≠ 0 by decide)
  have a1 := Int.emod_lt_of_pos (ds.getD 0 0) (show (0 : Int) < 4 by decide)
  obtain ⟨pt, hpt⟩ : ∃ pt : Nat, ds.getD 0 0 % 4 = (pt : Int) := ⟨(ds.getD 0 0 % 4).toNat, by omega⟩
  have b0 := Int.emod_nonneg (ds.getD 1 0) (show (5 : Int) ≠ 0 by decide)
  have b1 := Int.emod_lt_of_pos (ds.getD 1 0) (show (0 : Int) < 5 by decide)
  obtain ⟨sz, hsz⟩ : ∃ sz : Nat, ds.getD 1 0 % 5 = (sz : Int) := ⟨(ds.getD 1 0 % 5).toNat, by omega⟩
  have r1 : -4611686018427387904 ≤ (sz : Int) ∧ (sz : Int) < 4611686018427387904 := by omega
  have sm : -18446744073709551616 < (5 : Int) ∧ (5 : Int) < 18446744073709551616 := by decide
  unfold F_law B_law
  simp only [q_seq, q_if, q_fif, q_and, q_or, q_andV, q_orV, q_bin, q_binR, q_un, q_frz, q_imm, q_nil, q_cons, q_call, q_callW, q_c0, q_var, q_ret, q_set, q_aug, q_app, q_ext, q_pop, q_setIx, q_ixo, q_bor, q_tru, q_tst, q_not, q_notV, q_no, q_so, q_sl, q_sq, q_r1, q_r2, q_for, q_lc, q_asg, q_next, q_yes, q_fix, q_slot, q_drop, q_met, q_run, q1, q2, q2b, q2c, q3, q4, q5, q6, q7, q8, q9, q10, q11, q12, q13, q14, q15, q16, q17, q18, q19, q20, q21, q22, q23, q24, q25, q26, q27, q28, q29, q30, q31, q32, q33, q34, q35, q36, q37, q38, q39, q39b, q40, q41, q42, q44, q45, q46, q47, q48, o_add, o_sub, o_mulR, o_mulL, o_mod, o_div, o_addS, o_addI, o_addL, o_addT, o_p18, o_neg, o_cmp, o_eqI, o_eqS, o_eqB, o_neI, o_neS, o_len1, o_len2, o_len3, o_lenS, o_int, o_ix1, o_ix2, o_ix3, o_tup, o_lst, o_list1, o_list2, o_tuple1, o_tuple2, o_max, o_min, o_slL, o_slT, o_slS, o_mulSt, o_isIint, o_isIbool, o_isIstr, o_isIlist, o_isItuple, o_isBint, o_isBbool, o_isBstr, o_isBlist, o_isBtuple, o_isSint, o_isSbool, o_isSstr, o_isSlist, o_isStuple, o_isLint, o_isLbool, o_isLstr, o_isLlist, o_isLtuple, o_isTint, o_isTbool, o_isTstr, o_isTlist, o_isTtuple, o_isNint, o_isNbool, o_isNstr, o_isNlist, o_isNtuple, o_allT, o_truB, o_truN, o_truI, o_truL, o_truT, q_sv1, q_sv2, view, fixSlot, wipeE, aName, aTup, aCons, aNil, List.map_cons, List.map_nil, List.length_cons, List.length_nil, List.cons_append, List.nil_append, List.replicate_succ, List.replicate_zero, List.getElem?_cons_zero, List.getElem?_cons_succ, List.set_cons_zero, List.set_cons_succ, Option.map_some, Option.map_none, reduceIte, Nat.reduceAdd, Nat.reduceEqDiff, Option.some.injEq, List.length_map, List.length_append, and_true, true_and, and_self, decide_true, decide_false, Int.reduceLT, Int.reduceNeg, Int.reduceLE, Int.reduceEq, Int.reduceMul, Int.reduceAdd, Int.reduceSub, Int.reduceMod, Int.reduceDiv, Nat.reduceLT, Nat.reduceLeDiff, Int.reducePow, Nat.reducePow, Int.reduceToNat, SV.imm.injEq, SV.own.injEq, W.int.injEq, W.str.injEq, W.bl.injEq, W.lst.injEq, W.tup.injEq, id_eq, exists_eq', exists_eq_left', Out.nx.injEq, Out.rt.injEq, Nat.zero_le, Int.toNat_natCast, not_true_eq_false, not_false_eq_true, Bool.not_true, Bool.not_false, Bool.false_and, Bool.true_and, Bool.and_true, Bool.and_false, Bool.true_or, Bool.false_or, Bool.or_true, Bool.or_false, Bool.false_eq_true, q_fld, r_fld, q_lrg1, r_lrg1, q_mk, q_fldI, r_fldI, o_fac, q_enum, r_enum1, r_enum2, r_enum3, q_dget, r_dget, q_dnew, q_dput, r_dput, q_clear, q_chain, r_chain, o_isN1, o_isN2, o_isN3, q_fs, r_fs3, r_fs4, r_fs5, at_i0, at_i1, at_i2, at_i3, q_fmt, q_txt, q_kd, r_kd, q_xl, r_xl, q_xpop, r_xpop, q_xnil, q_xcons, r_xc, r_xc2, q_xtup, r_xtup, q_appX, r_a0, r_a1, r_a2, q_setX, r_sx, o_ixK, o_slK, q39b, q_raise, q_metR, r_metR, q_fcx, hc0', hc1', hc2', hds, x0, x1, hpt, hsz, r1]
  obtain ⟨us, hus, ul, uR⟩ := lc_some (A := aName 9) (t := fYes) (g := fFrz (fCall F_any_layer (fCons (fVar 1) (fCons (fBin addI (fBin mulW (fC (.int 5)) (fVar 9)) (fC (.int 2))) (fCons (fVar 2) fNil)))))
    (e := [some (.imm (.klst (ns.map W.int))), some (.imm (.lst (ds.map W.int))), some (.imm (.int pt)), none, none, none, none, none, none, none, none]) (ws := rngW 0 sz) (R := fun _ u => ∃ l, u = layW l ∧ LOk l) 0 (by
      intro i w hw
      obtain ⟨hi, rfl⟩ := rngW_get hw
      obtain ⟨l, hla, lok⟩ := any_layer_ok dl' (5 * (0 + (i : Int)) + 2) pt (by omega)
      simp only [q_seq, q_if, q_fif, q_and, q_or, q_andV, q_orV, q_bin, q_binR, q_un, q_frz, q_imm, q_nil, q_cons, q_call, q_callW, q_c0, q_var, q_ret, q_set, q_aug, q_app, q_ext, q_pop, q_setIx, q_ixo, q_bor, q_tru, q_tst, q_not, q_notV, q_no, q_so, q_sl, q_sq, q_r1, q_r2, q_for, q_lc, q_asg, q_next, q_yes, q_fix, q_slot, q_drop, q_met, q_run, q1, q2, q2b, q2c, q3, q4, q5, q6, q7, q8, q9, q10, q11, q12, q13, q14, q15, q16, q17, q18, q19, q20, q21, q22, q23, q24, q25, q26, q27, q28, q29, q30, q31, q32, q33, q34, q35, q36, q37, q38, q39, q39b, q40, q41, q42, q44, q45, q46, q47, q48, o_add, o_sub, o_mulR, o_mulL, o_mod, o_div, o_addS, o_addI, o_addL, o_addT, o_p18, o_neg, o_cmp, o_eqI, o_eqS, o_eqB, o_neI, o_neS, o_len1, o_len2, o_len3, o_lenS, o_int, o_ix1, o_ix2, o_ix3, o_tup, o_lst, o_list1, o_list2, o_tuple1, o_tuple2, o_max, o_min, o_slL, o_slT, o_slS, o_mulSt, o_isIint, o_isIbool, o_isIstr, o_isIlist, o_isItuple, o_isBint, o_isBbool, o_isBstr, o_isBlist, o_isBtuple, o_isSint, o_isSbool, o_isSstr, o_isSlist, o_isStuple, o_isLint, o_isLbool, o_isLstr, o_isLlist, o_isLtuple, o_isTint, o_isTbool, o_isTstr, o_isTlist, o_isTtuple, o_isNint, o_isNbool, o_isNstr, o_isNlist, o_isNtuple, o_allT, o_truB, o_truN, o_truI, o_truL, o_truT, q_sv1, q_sv2, view, fixSlot, wipeE, aName, aTup, aCons, aNil, List.map_cons, List.map_nil, List.length_cons, List.length_nil, List.cons_append, List.nil_append, List.replicate_succ, List.replicate_zero, List.getElem?_cons_zero, List.getElem?_cons_succ, List.set_cons_zero, List.set_cons_succ, Option.map_some, Option.map_none, reduceIte, Nat.reduceAdd, Nat.reduceEqDiff, Option.some.injEq, List.length_map, List.length_append, and_true, true_and, and_self, decide_true, decide_false, Int.reduceLT, Int.reduceNeg, Int.reduceLE, Int.reduceEq, Int.reduceMul, Int.reduceAdd, Int.reduceSub, Int.reduceMod, Int.reduceDiv, Nat.reduceLT, Nat.reduceLeDiff, Int.reducePow, Nat.reducePow, Int.reduceToNat, SV.imm.injEq, SV.own.injEq, W.int.injEq, W.str.injEq, W.bl.injEq, W.lst.injEq, W.tup.injEq, id_eq, exists_eq', exists_eq_left', Out.nx.injEq, Out.rt.injEq, Nat.zero_le, Int.toNat_natCast, not_true_eq_false, not_false_eq_true, Bool.not_true, Bool.not_false, Bool.false_and, Bool.true_and, Bool.and_true, Bool.and_false, Bool.true_or, Bool.false_or, Bool.or_true, Bool.or_false, Bool.false_eq_true, q_fld, r_fld, q_lrg1, r_lrg1, q_mk, q_fldI, r_fldI, o_fac, q_enum, r_enum1, r_enum2, r_enum3, q_dget, r_dget, q_dnew, q_dput, r_dput, q_clear, q_chain, r_chain, o_isN1, o_isN2, o_isN3, q_fs, r_fs3, r_fs4, r_fs5, at_i0, at_i1, at_i2, at_i3, q_fmt, q_txt, q_kd, r_kd, q_xl, r_xl, q_xpop, r_xpop, q_xnil, q_xcons, r_xc, r_xc2, q_xtup, r_xtup, q_appX, r_a0, r_a1, r_a2, q_setX, r_sx, o_ixK, o_slK, q39b, q_raise, q_metR, r_metR, q_fcx, sm, hla]
      exact ⟨l, rfl, lok⟩)
  rw [rngW_len] at ul
  rw [q43 hus (by omega)]
  obtain ⟨s, rfl, hs2⟩ := to_f uR
  have hsok : SOk s := ⟨by rw [List.length_map] at ul; omega, hs2⟩
  simp only [q_seq, q_if, q_fif, q_and, q_or, q_andV, q_orV, q_bin, q_binR, q_un, q_frz, q_imm, q_nil, q_cons, q_call, q_callW, q_c0, q_var, q_ret, q_set, q_aug, q_app, q_ext, q_pop, q_setIx, q_ixo, q_bor, q_tru, q_tst, q_not, q_notV, q_no, q_so, q_sl, q_sq, q_r1, q_r2, q_for, q_lc, q_asg, q_next, q_yes, q_fix, q_slot, q_drop, q_met, q_run, q1, q2, q2b, q2c, q3, q4, q5, q6, q7, q8, q9, q10, q11, q12, q13, q14, q15, q16, q17, q18, q19, q20, q21, q22, q23, q24, q25, q26, q27, q28, q29, q30, q31, q32, q33, q34, q35, q36, q37, q38, q39, q39b, q40, q41, q42, q44, q45, q46, q47, q48, o_add, o_sub, o_mulR, o_mulL, o_mod, o_div, o_addS, o_addI, o_addL, o_addT, o_p18, o_neg, o_cmp, o_eqI, o_eqS, o_eqB, o_neI, o_neS, o_len1, o_len2, o_len3, o_lenS, o_int, o_ix1, o_ix2, o_ix3, o_tup, o_lst, o_list1, o_list2, o_tuple1, o_tuple2, o_max, o_min, o_slL, o_slT, o_slS, o_mulSt, o_isIint, o_isIbool, o_isIstr, o_isIlist, o_isItuple, o_isBint, o_isBbool, o_isBstr, o_isBlist, o_isBtuple, o_isSint, o_isSbool, o_isSstr, o_isSlist, o_isStuple, o_isLint, o_isLbool, o_isLstr, o_isLlist, o_isLtuple, o_isTint, o_isTbool, o_isTstr, o_isTlist, o_isTtuple, o_isNint, o_isNbool, o_isNstr, o_isNlist, o_isNtuple, o_allT, o_truB, o_truN, o_truI, o_truL, o_truT, q_sv1, q_sv2, view, fixSlot, wipeE, aName, aTup, aCons, aNil, List.map_cons, List.map_nil, List.length_cons, List.length_nil, List.cons_append, List.nil_append, List.replicate_succ, List.replicate_zero, List.getElem?_cons_zero, List.getElem?_cons_succ, List.set_cons_zero, List.set_cons_succ, Option.map_some, Option.map_none, reduceIte, Nat.reduceAdd, Nat.reduceEqDiff, Option.some.injEq, List.length_map, List.length_append, and_true, true_and, and_self, decide_true, decide_false, Int.reduceLT, Int.reduceNeg, Int.reduceLE, Int.reduceEq, Int.reduceMul, Int.reduceAdd, Int.reduceSub, Int.reduceMod, Int.reduceDiv, Nat.reduceLT, Nat.reduceLeDiff, Int.reducePow, Nat.reducePow, Int.reduceToNat, SV.imm.injEq, SV.own.injEq, W.int.injEq, W.str.injEq, W.bl.injEq, W.lst.injEq, W.tup.injEq, id_eq, exists_eq', exists_eq_left', Out.nx.injEq, Out.rt.injEq, Nat.zero_le, Int.toNat_natCast, not_true_eq_false, not_false_eq_true, Bool.not_true, Bool.not_false, Bool.false_and, Bool.true_and, Bool.and_true, Bool.and_false, Bool.true_or, Bool.false_or, Bool.or_true, Bool.or_false, Bool.false_eq_true, q_fld, r_fld, q_lrg1, r_lrg1, q_mk, q_fldI, r_fldI, o_fac, q_enum, r_enum1, r_enum2, r_enum3, q_dget, r_dget, q_dnew, q_dput, r_dput, q_clear, q_chain, r_chain, o_isN1, o_isN2, o_isN3, q_fs, r_fs3, r_fs4, r_fs5, at_i0, at_i1, at_i2, at_i3, q_fmt, q_txt, q_kd, r_kd, q_xl, r_xl, q_xpop, r_xpop, q_xnil, q_xcons, r_xc, r_xc2, q_xtup, r_xtup, q_appX, r_a0, r_a1, r_a2, q_setX, r_sx, o_ixK, o_slK, q39b, q_raise, q_metR, r_metR, q_fcx]
  rw [q43 (lc_map (g' := sW) (k := layL) fun l hl => by
    have lw := layer_word_ok (hs2 l hl)
    simp only [q_seq, q_if, q_fif, q_and, q_or, q_andV, q_orV, q_bin, q_binR, q_un, q_frz, q_imm, q_nil, q_cons, q_call, q_callW, q_c0, q_var, q_ret, q_set, q_aug, q_app, q_ext, q_pop, q_setIx, q_ixo, q_bor, q_tru, q_tst, q_not, q_notV, q_no, q_so, q_sl, q_sq, q_r1, q_r2, q_for, q_lc, q_asg, q_next, q_yes, q_fix, q_slot, q_drop, q_met, q_run, q1, q2, q2b, q2c, q3, q4, q5, q6, q7, q8, q9, q10, q11, q12, q13, q14, q15, q16, q17, q18, q19, q20, q21, q22, q23, q24, q25, q26, q27, q28, q29, q30, q31, q32, q33, q34, q35, q36, q37, q38, q39, q39b, q40, q41, q42, q44, q45, q46, q47, q48, o_add, o_sub, o_mulR, o_mulL, o_mod, o_div, o_addS, o_addI, o_addL, o_addT, o_p18, o_neg, o_cmp, o_eqI, o_eqS, o_eqB, o_neI, o_neS, o_len1, o_len2, o_len3, o_lenS, o_int, o_ix1, o_ix2, o_ix3, o_tup, o_lst, o_list1, o_list2, o_tuple1, o_tuple2, o_max, o_min, o_slL, o_slT, o_slS, o_mulSt, o_isIint, o_isIbool, o_isIstr, o_isIlist, o_isItuple, o_isBint, o_isBbool, o_isBstr, o_isBlist, o_isBtuple, o_isSint, o_isSbool, o_isSstr, o_isSlist, o_isStuple, o_isLint, o_isLbool, o_isLstr, o_isLlist, o_isLtuple, o_isTint, o_isTbool, o_isTstr, o_isTlist, o_isTtuple, o_isNint, o_isNbool, o_isNstr, o_isNlist, o_isNtuple, o_allT, o_truB, o_truN, o_truI, o_truL, o_truT, q_sv1, q_sv2, view, fixSlot, wipeE, aName, aTup, aCons, aNil, List.map_cons, List.map_nil, List.length_cons, List.length_nil, List.cons_append, List.nil_append, List.replicate_succ, List.replicate_zero, List.getElem?_cons_zero, List.getElem?_cons_succ, List.set_cons_zero, List.set_cons_succ, Option.map_some, Option.map_none, reduceIte, Nat.reduceAdd, Nat.reduceEqDiff, Option.some.injEq, List.length_map, List.length_append, and_true, true_and, and_self, decide_true, decide_false, Int.reduceLT, Int.reduceNeg, Int.reduceLE, Int.reduceEq, Int.reduceMul, Int.reduceAdd, Int.reduceSub, Int.reduceMod, Int.reduceDiv, Nat.reduceLT, Nat.reduceLeDiff, Int.reducePow, Nat.reducePow, Int.reduceToNat, SV.imm.injEq, SV.own.injEq, W.int.injEq, W.str.injEq, W.bl.injEq, W.lst.injEq, W.tup.injEq, id_eq, exists_eq', exists_eq_left', Out.nx.injEq, Out.rt.injEq, Nat.zero_le, Int.toNat_natCast, not_true_eq_false, not_false_eq_true, Bool.not_true, Bool.not_false, Bool.false_and, Bool.true_and, Bool.and_true, Bool.and_false, Bool.true_or, Bool.false_or, Bool.or_true, Bool.or_false, Bool.false_eq_true, q_fld, r_fld, q_lrg1, r_lrg1, q_mk, q_fldI, r_fldI, o_fac, q_enum, r_enum1, r_enum2, r_enum3, q_dget, r_dget, q_dnew, q_dput, r_dput, q_clear, q_chain, r_chain, o_isN1, o_isN2, o_isN3, q_fs, r_fs3, r_fs4, r_fs5, at_i0, at_i1, at_i2, at_i3, q_fmt, q_txt, q_kd, r_kd, q_xl, r_xl, q_xpop, r_xpop, q_xnil, q_xcons, r_xc, r_xc2, q_xtup, r_xtup, q_appX, r_a0, r_a1, r_a2, q_setX, r_sx, o_ixK, o_slK, q39b, q_raise, q_metR, r_metR, q_fcx, lw]) (by have := hsok.1; simp; omega)]
  have jn := jn1 (c := 32) (ls := s.map layL) (by have := str_sz hsok; omega)
  have jn' : joinW (.str (T [32])) (.lst ((s.map layL).map sW)) = some (.str (T (strL s))) := jn
  have asc := str_asc hsok
  have ww := str_w hsok
  have rr := read_structure_ok asc
  have hrd := str_rd (fun l hl r hr n hn => ((hsok.2 l hl).2 r hr).2 n hn)
  rw [hrd] at rr
  have eqs := eq_str3 s
  unfold strW3 at ww rr eqs
  have ne0 : neW (.tup (s.map layW)) (.tup (s.map layW)) = some (.bl false) := by
    unfold neW
    rw [eqs]
    rfl
  have fcx : bCX F_read_structure (some [.str (T (strL s))]) = some (.imm (.tup (s.map layW))) := r_fcx rr
  have slen := str_len hsok
  have lt := lenT (l := strL s) (by omega)
  have pp : (0 : Int) < ((strL s).length : Int) + 1 := by omega
  have g0 := Int.emod_nonneg (c1 / 6) (show ((strL s).length : Int) + 1 ≠ 0 by omega)
  have g1 := Int.emod_lt_of_pos (c1 / 6) pp
  obtain ⟨p, hp⟩ : ∃ p : Nat, c1 / 6 % (((strL s).length : Int) + 1) = (p : Int) := ⟨(c1 / 6 % (((strL s).length : Int) + 1)).toNat, by omega⟩
  have hpl : p ≤ (strL s).length := by omega
  obtain ⟨ch, hch, ch128⟩ := char_at c2
  have f0 := Int.emod_nonneg c1 (show (6 : Int) ≠ 0 by decide)
  have f1 := Int.emod_lt_of_pos c1 (show (0 : Int) < 6 by decide)
  have tS : (T (strL s)).length ≤ 16777216 := by rw [t_len]; omega
  have cA : cutS (T (strL s)) none (some (p : Int)) = T ((strL s).take p) := t_cutTo _ p
  -- what is left, for the text that is read at last
  have fin : ∀ t : List Nat, Asc t → (∀ G : En, (match rdStr t with
      | some s' => F_structure [.str (T t)] = some (.imm (strW3 s')) ∧ isNonW (strW3 s') .non = some (.bl false) ∧ bCX F_read_structure (some [.str (T t)]) = some (.imm (strW3 s')) ∧ eqW (strW3 s') (strW3 s') = some (.bl true)
      | none => F_structure [.str (T t)] = some (.imm .non) ∧ F_refused [.str (T t)] = some (.imm (.int 1)))) := fun t ht _ => by
    have st := structure_ok ht
    have rs := read_structure_ok ht
    cases hq : rdStr t with
    | none =>
      rw [hq] at st
      exact ⟨st, refused_ok ht hq⟩
    | some s' =>
      rw [hq] at st rs
      refine ⟨st, rfl, r_fcx rs, ?_⟩
      unfold eqW
      rw [eq_str3]
      rfl
  have asc2 : ∀ (m : List Nat) (k : Nat), (∀ x ∈ m, x < 128) → m.length ≤ 1 → Asc ((strL s).take p ++ m ++ (strL s).drop k) := fun m k hm hml => by
    refine ⟨fun x hx => ?_, ?_⟩
    · rcases List.mem_append.mp hx with z | z
      · rcases List.mem_append.mp z with z | z
        · exact asc.1 x (List.mem_of_mem_take z)
        · exact hm x z
      · exact asc.1 x (List.mem_of_mem_drop z)
    · simp only [List.length_append, List.length_take, List.length_drop]
      omega
  generalize hcm : c1 % 6 = cm at f0 f1
  by_cases k3 : cm < 3
  · have key : ∀ (m : List Nat) (k : Nat), (∀ x ∈ m, x < 128) → m.length ≤ 1 → atI [W.str (T []), W.str (T [ch]), W.str (T [ch])] cm = some (.str (T m)) → ∀ d : Int, atI [W.int 1, W.int 1, W.int 0] cm = some (.int d) → (p : Int) + d = (k : Int) →
        True := fun _ _ _ _ _ _ _ _ => trivial
    obtain ⟨m, d, k, hm, hml, am, ad, ak⟩ : ∃ (m : List Nat) (d : Int) (k : Nat), (∀ x ∈ m, x < 128) ∧ m.length ≤ 1 ∧ atI [W.str (T []), W.str (T [ch]), W.str (T [ch])] cm = some (.str (T m)) ∧ atI [W.int 1, W.int 1, W.int 0] cm = some (.int d) ∧ (p : Int) + d = (k : Int) := by
      obtain rfl | rfl | rfl : cm = 0 ∨ cm = 1 ∨ cm = 2 := by omega
      · exact ⟨[], 1, p + 1, by simp, by simp, rfl, rfl, by omega⟩
      · exact ⟨[ch], 1, p + 1, by simpa using ch128, by simp, rfl, rfl, by omega⟩
      · exact ⟨[ch], 0, p, by simpa using ch128, by simp, rfl, rfl, by omega⟩
    have cB : cutS (T (strL s)) (some (k : Int)) none = T ((strL s).drop k) := t_cutFrom2 _ k
    have l1 : addW (.str (T ((strL s).take p))) (.str (T m)) = some (.imm (.str (T ((strL s).take p ++ m)))) := addT (by simp; omega)
    have l2 : addW (.str (T ((strL s).take p ++ m))) (.str (T ((strL s).drop k))) = some (.imm (.str (T ((strL s).take p ++ m ++ (strL s).drop k)))) := addT (by simp; omega)
    have as := asc2 m k hm hml
    generalize (strL s).take p ++ m ++ (strL s).drop k = t at as l2
    generalize (strL s).take p ++ m = t1 at l1 l2
    generalize (strL s).take p = t0 at l1 cA
    have ft := fin t as []
    generalize (s.map layL).map sW = Z at jn'
    generalize s.map layW = Y at ww ne0 fcx
    cases hq : rdStr t with
    | none =>
      rw [hq] at ft
      obtain ⟨u1, u2⟩ := ft
      simp only [q_seq, q_if, q_fif, q_and, q_or, q_andV, q_orV, q_bin, q_binR, q_un, q_frz, q_imm, q_nil, q_cons, q_call, q_callW, q_c0, q_var, q_ret, q_set, q_aug, q_app, q_ext, q_pop, q_setIx, q_ixo, q_bor, q_tru, q_tst, q_not, q_notV, q_no, q_so, q_sl, q_sq, q_r1, q_r2, q_for, q_lc, q_asg, q_next, q_yes, q_fix, q_slot, q_drop, q_met, q_run, q1, q2, q2b, q2c, q3, q4, q5, q6, q7, q8, q9, q10, q11, q12, q13, q14, q15, q16, q17, q18, q19, q20, q21, q22, q23, q24, q25, q26, q27, q28, q29, q30, q31, q32, q33, q34, q35, q36, q37, q38, q39, q39b, q40, q41, q42, q44, q45, q46, q47, q48, o_add, o_sub, o_mulR, o_mulL, o_mod, o_div, o_addS, o_addI, o_addL, o_addT, o_p18, o_neg, o_cmp, o_eqI, o_eqS, o_eqB, o_neI, o_neS, o_len1, o_len2, o_len3, o_lenS, o_int, o_ix1, o_ix2, o_ix3, o_tup, o_lst, o_list1, o_list2, o_tuple1, o_tuple2, o_max, o_min, o_slL, o_slT, o_slS, o_mulSt, o_isIint, o_isIbool, o_isIstr, o_isIlist, o_isItuple, o_isBint, o_isBbool, o_isBstr, o_isBlist, o_isBtuple, o_isSint, o_isSbool, o_isSstr, o_isSlist, o_isStuple, o_isLint, o_isLbool, o_isLstr, o_isLlist, o_isLtuple, o_isTint, o_isTbool, o_isTstr, o_isTlist, o_isTtuple, o_isNint, o_isNbool, o_isNstr, o_isNlist, o_isNtuple, o_allT, o_truB, o_truN, o_truI, o_truL, o_truT, q_sv1, q_sv2, view, fixSlot, wipeE, aName, aTup, aCons, aNil, List.map_cons, List.map_nil, List.length_cons, List.length_nil, List.cons_append, List.nil_append, List.replicate_succ, List.replicate_zero, List.getElem?_cons_zero, List.getElem?_cons_succ, List.set_cons_zero, List.set_cons_succ, Option.map_some, Option.map_none, reduceIte, Nat.reduceAdd, Nat.reduceEqDiff, Option.some.injEq, List.length_map, List.length_append, and_true, true_and, and_self, decide_true, decide_false, Int.reduceLT, Int.reduceNeg, Int.reduceLE, Int.reduceEq, Int.reduceMul, Int.reduceAdd, Int.reduceSub, Int.reduceMod, Int.reduceDiv, Nat.reduceLT, Nat.reduceLeDiff, Int.reducePow, Nat.reducePow, Int.reduceToNat, SV.imm.injEq, SV.own.injEq, W.int.injEq, W.str.injEq, W.bl.injEq, W.lst.injEq, W.tup.injEq, id_eq, exists_eq', exists_eq_left', Out.nx.injEq, Out.rt.injEq, Nat.zero_le, Int.toNat_natCast, not_true_eq_false, not_false_eq_true, Bool.not_true, Bool.not_false, Bool.false_and, Bool.true_and, Bool.and_true, Bool.and_false, Bool.true_or, Bool.false_or, Bool.or_true, Bool.or_false, Bool.false_eq_true, q_fld, r_fld, q_lrg1, r_lrg1, q_mk, q_fldI, r_fldI, o_fac, q_enum, r_enum1, r_enum2, r_enum3, q_dget, r_dget, q_dnew, q_dput, r_dput, q_clear, q_chain, r_chain, o_isN1, o_isN2, o_isN3, q_fs, r_fs3, r_fs4, r_fs5, at_i0, at_i1, at_i2, at_i3, q_fmt, q_txt, q_kd, r_kd, q_xl, r_xl, q_xpop, r_xpop, q_xnil, q_xcons, r_xc, r_xc2, q_xtup, r_xtup, q_appX, r_a0, r_a1, r_a2, q_setX, r_sx, o_ixK, o_slK, q39b, q_raise, q_metR, r_metR, q_fcx, s_blank, jn', ww, ne0, fcx, hc1', hc2', lt, pp, hp, hch, hcm, k3, tS, cA, s_e, am, ad, ak, cB, l1, l2, u1, u2]
    | some s' =>
      rw [hq] at ft
      obtain ⟨u1, u2, u3, u4⟩ := ft
      simp only [q_seq, q_if, q_fif, q_and, q_or, q_andV, q_orV, q_bin, q_binR, q_un, q_frz, q_imm, q_nil, q_cons, q_call, q_callW, q_c0, q_var, q_ret, q_set, q_aug, q_app, q_ext, q_pop, q_setIx, q_ixo, q_bor, q_tru, q_tst, q_not, q_notV, q_no, q_so, q_sl, q_sq, q_r1, q_r2, q_for, q_lc, q_asg, q_next, q_yes, q_fix, q_slot, q_drop, q_met, q_run, q1, q2, q2b, q2c, q3, q4, q5, q6, q7, q8, q9, q10, q11, q12, q13, q14, q15, q16, q17, q18, q19, q20, q21, q22, q23, q24, q25, q26, q27, q28, q29, q30, q31, q32, q33, q34, q35, q36, q37, q38, q39, q39b, q40, q41, q42, q44, q45, q46, q47, q48, o_add, o_sub, o_mulR, o_mulL, o_mod, o_div, o_addS, o_addI, o_addL, o_addT, o_p18, o_neg, o_cmp, o_eqI, o_eqS, o_eqB, o_neI, o_neS, o_len1, o_len2, o_len3, o_lenS, o_int, o_ix1, o_ix2, o_ix3, o_tup, o_lst, o_list1, o_list2, o_tuple1, o_tuple2, o_max, o_min, o_slL, o_slT, o_slS, o_mulSt, o_isIint, o_isIbool, o_isIstr, o_isIlist, o_isItuple, o_isBint, o_isBbool, o_isBstr, o_isBlist, o_isBtuple, o_isSint, o_isSbool, o_isSstr, o_isSlist, o_isStuple, o_isLint, o_isLbool, o_isLstr, o_isLlist, o_isLtuple, o_isTint, o_isTbool, o_isTstr, o_isTlist, o_isTtuple, o_isNint, o_isNbool, o_isNstr, o_isNlist, o_isNtuple, o_allT, o_truB, o_truN, o_truI, o_truL, o_truT, q_sv1, q_sv2, view, fixSlot, wipeE, aName, aTup, aCons, aNil, List.map_cons, List.map_nil, List.length_cons, List.length_nil, List.cons_append, List.nil_append, List.replicate_succ, List.replicate_zero, List.getElem?_cons_zero, List.getElem?_cons_succ, List.set_cons_zero, List.set_cons_succ, Option.map_some, Option.map_none, reduceIte, Nat.reduceAdd, Nat.reduceEqDiff, Option.some.injEq, List.length_map, List.length_append, and_true, true_and, and_self, decide_true, decide_false, Int.reduceLT, Int.reduceNeg, Int.reduceLE, Int.reduceEq, Int.reduceMul, Int.reduceAdd, Int.reduceSub, Int.reduceMod, Int.reduceDiv, Nat.reduceLT, Nat.reduceLeDiff, Int.reducePow, Nat.reducePow, Int.reduceToNat, SV.imm.injEq, SV.own.injEq, W.int.injEq, W.str.injEq, W.bl.injEq, W.lst.injEq, W.tup.injEq, id_eq, exists_eq', exists_eq_left', Out.nx.injEq, Out.rt.injEq, Nat.zero_le, Int.toNat_natCast, not_true_eq_false, not_false_eq_true, Bool.not_true, Bool.not_false, Bool.false_and, Bool.true_and, Bool.and_true, Bool.and_false, Bool.true_or, Bool.false_or, Bool.or_true, Bool.or_false, Bool.false_eq_true, q_fld, r_fld, q_lrg1, r_lrg1, q_mk, q_fldI, r_fldI, o_fac, q_enum, r_enum1, r_enum2, r_enum3, q_dget, r_dget, q_dnew, q_dput, r_dput, q_clear, q_chain, r_chain, o_isN1, o_isN2, o_isN3, q_fs, r_fs3, r_fs4, r_fs5, at_i0, at_i1, at_i2, at_i3, q_fmt, q_txt, q_kd, r_kd, q_xl, r_xl, q_xpop, r_xpop, q_xnil, q_xcons, r_xc, r_xc2, q_xtup, r_xtup, q_appX, r_a0, r_a1, r_a2, q_setX, r_sx, o_ixK, o_slK, q39b, q_raise, q_metR, r_metR, q_fcx, s_blank, jn', ww, ne0, fcx, hc1', hc2', lt, pp, hp, hch, hcm, k3, tS, cA, s_e, am, ad, ak, cB, l1, l2, u1, u2, u3, u4]
  · have st := structure_ok asc
    rw [hrd] at st
    have st' : F_structure [.str (T (strL s))] = some (.imm (.tup (s.map layW))) := st
    have ee : eqW (.tup (s.map layW)) (.tup (s.map layW)) = some (.bl true) := by
      unfold eqW
      rw [eqs]
      rfl
    generalize (s.map layL).map sW = Z at jn'
    generalize s.map layW = Y at ww ne0 fcx st' ee
    simp only [q_seq, q_if, q_fif, q_and, q_or, q_andV, q_orV, q_bin, q_binR, q_un, q_frz, q_imm, q_nil, q_cons, q_call, q_callW, q_c0, q_var, q_ret, q_set, q_aug, q_app, q_ext, q_pop, q_setIx, q_ixo, q_bor, q_tru, q_tst, q_not, q_notV, q_no, q_so, q_sl, q_sq, q_r1, q_r2, q_for, q_lc, q_asg, q_next, q_yes, q_fix, q_slot, q_drop, q_met, q_run, q1, q2, q2b, q2c, q3, q4, q5, q6, q7, q8, q9, q10, q11, q12, q13, q14, q15, q16, q17, q18, q19, q20, q21, q22, q23, q24, q25, q26, q27, q28, q29, q30, q31, q32, q33, q34, q35, q36, q37, q38, q39, q39b, q40, q41, q42, q44, q45, q46, q47, q48, o_add, o_sub, o_mulR, o_mulL, o_mod, o_div, o_addS, o_addI, o_addL, o_addT, o_p18, o_neg, o_cmp, o_eqI, o_eqS, o_eqB, o_neI, o_neS, o_len1, o_len2, o_len3, o_lenS, o_int, o_ix1, o_ix2, o_ix3, o_tup, o_lst, o_list1, o_list2, o_tuple1, o_tuple2, o_max, o_min, o_slL, o_slT, o_slS, o_mulSt, o_isIint, o_isIbool, o_isIstr, o_isIlist, o_isItuple, o_isBint, o_isBbool, o_isBstr, o_isBlist, o_isBtuple, o_isSint, o_isSbool, o_isSstr, o_isSlist, o_isStuple, o_isLint, o_isLbool, o_isLstr, o_isLlist, o_isLtuple, o_isTint, o_isTbool, o_isTstr, o_isTlist, o_isTtuple, o_isNint, o_isNbool, o_isNstr, o_isNlist, o_isNtuple, o_allT, o_truB, o_truN, o_truI, o_truL, o_truT, q_sv1, q_sv2, view, fixSlot, wipeE, aName, aTup, aCons, aNil, List.map_cons, List.map_nil, List.length_cons, List.length_nil, List.cons_append, List.nil_append, List.replicate_succ, List.replicate_zero, List.getElem?_cons_zero, List.getElem?_cons_succ, List.set_cons_zero, List.set_cons_succ, Option.map_some, Option.map_none, reduceIte, Nat.reduceAdd, Nat.reduceEqDiff, Option.some.injEq, List.length_map, List.length_append, and_true, true_and, and_self, decide_true, decide_false, Int.reduceLT, Int.reduceNeg, Int.reduceLE, Int.reduceEq, Int.reduceMul, Int.reduceAdd, Int.reduceSub, Int.reduceMod, Int.reduceDiv, Nat.reduceLT, Nat.reduceLeDiff, Int.reducePow, Nat.reducePow, Int.reduceToNat, SV.imm.injEq, SV.own.injEq, W.int.injEq, W.str.injEq, W.bl.injEq, W.lst.injEq, W.tup.injEq, id_eq, exists_eq', exists_eq_left', Out.nx.injEq, Out.rt.injEq, Nat.zero_le, Int.toNat_natCast, not_true_eq_false, not_false_eq_true, Bool.not_true, Bool.not_false, Bool.false_and, Bool.true_and, Bool.and_true, Bool.and_false, Bool.true_or, Bool.false_or, Bool.or_true, Bool.or_false, Bool.false_eq_true, q_fld, r_fld, q_lrg1, r_lrg1, q_mk, q_fldI, r_fldI, o_fac, q_enum, r_enum1, r_enum2, r_enum3, q_dget, r_dget, q_dnew, q_dput, r_dput, q_clear, q_chain, r_chain, o_isN1, o_isN2, o_isN3, q_fs, r_fs3, r_fs4, r_fs5, at_i0, at_i1, at_i2, at_i3, q_fmt, q_txt, q_kd, r_kd, q_xl, r_xl, q_xpop, r_xpop, q_xnil, q_xcons, r_xc, r_xc2, q_xtup, r_xtup, q_appX, r_a0, r_a1, r_a2, q_setX, r_sx, o_ixK, o_slK, q39b, q_raise, q_metR, r_metR, q_fcx, s_blank, jn', ww, ne0, hc1', hc2', lt, pp, hp, hch, hcm, k3, fcx, st', ee]
end Qw
namespace Qw
open PySem PySem.Spec PyProof.Rows L2 Nz
open Evl (Ex)
def spLaw (K : PySem.W.Frag) : Sp := fun vs H Q _ => ∃ (a : Addr) (ns : List Int), vs = [.ref a] ∧ SqL K H a (ns.map V.int) ∧ ns.length ≤ 63 ∧ ∀ H', Q (.bl true) H'
theorem law_sp {K : PySem.W.Frag} {vs : List V} {H : Hp} {Q : VK} {E : XK} (h : spLaw K vs H Q E) : spQ K 1 F_law vs H Q E := by
  obtain ⟨a, ns, rfl, hS, hl, q⟩ := h
  refine ⟨H, [.klst (ns.map W.int)], .imm (.bl true), Ex.refl _, IsWs.cons ?_ IsWs.nil, rfl, law_true ns hl, fun I' H' v _ r => ?_⟩
  · simp only [IsW]
    exact ⟨a, _, rfl, hS, IsWs.ofInts⟩
  · have e : v = .bl true := by simpa [Res, IsW] using r
    subst e
    exact q H'
theorem all_mk {l : PySem.W.OpenLaw} {w : World} {K : PySem.W.Frag} {h : Heap} {mg : Str → Option Value} {fa f1 f2 f3 f4 f5 f6 f7 f8 f9 f10 f11 f12 f13 f14 f15 f16 f17 f18 f19 f20 : Addr} (X : K.In h) (G : h.Ns mainGlobals mg) (hfa : mg "law" = some (.ref fa))
    {od1 an1 od2 an2 od3 an3 od4 an4 od5 an5 od6 an6 od7 an7 od8 an8 od9 an9 od10 an10 od11 an11 od12 an12 od13 an13 od14 an14 od15 an15 od16 an16 od17 an17 od18 an18 od19 an19 od20 an20 : Option Addr} {sl1 sl2 sl3 sl4 sl5 sl6 sl7 sl8 sl9 sl10 sl11 sl12 sl13 sl14 sl15 sl16 sl17 sl18 sl19 sl20 : Array (Option Value)} {oc1 kV1 dc1 pm1 cd1 ct1 oc2 kV2 dc2 pm2 cd2 ct2 oc3 kV3 dc3 pm3 cd3 ct3 oc4 kV4 dc4 pm4 cd4 ct4 oc5 kV5 dc5 pm5 cd5 ct5 oc6 kV6 dc6 pm6 cd6 ct6 oc7 kV7 dc7 pm7 cd7 ct7 oc8 kV8 dc8 pm8 cd8 ct8 oc9 kV9 dc9 pm9 cd9 ct9 oc10 kV10 dc10 pm10 cd10 ct10 oc11 kV11 dc11 pm11 cd11 ct11 oc12 kV12 dc12 pm12 cd12 ct12 oc13 kV13 dc13 pm13 cd13 ct13 oc14 kV14 dc14 pm14 cd14 ct14 oc15 kV15 dc15 pm15 cd15 ct15 oc16 kV16 dc16 pm16 cd16 ct16 oc17 kV17 dc17 pm17 cd17 ct17 oc18 kV18 dc18 pm18 cd18 ct18 oc19 kV19 dc19 pm19 cd19 ct19 oc20 kV20 dc20 pm20 cd20 ct20 : Value}
    {C_CensusError : Addr}
    (aECensusError : PySem.W.nsIn K mainGlobals "CensusError" = some (some (.ref C_CensusError)))
    (tyECensusError : PySem.W.typeIn K (.ref C_CensusError) = some (.type "type"))
    (bxECensusError : PySem.W.subIn K (.ref C_CensusError) (.type "BaseException") = some true)
    (hdECensusError : PySem.W.hasDictIn K C_CensusError = true)
    (rdE : PySem.W.readsIn K C_CensusError (.type "type") = true)
    (gtE : PySem.W.specialIn K (.ref C_CensusError) "__getattribute__" = some (some (.builtin "type.__getattribute__")))
    (fiE : PySem.W.findCls K (.ref C_CensusError) (.type "type") "__init__" = some (.val (.builtin "ValueError.__init__")))
    {C_InvalidPaper : Addr}
    (aEInvalidPaper : PySem.W.nsIn K mainGlobals "InvalidPaper" = some (some (.ref C_InvalidPaper)))
    (tyEInvalidPaper : PySem.W.typeIn K (.ref C_InvalidPaper) = some (.type "type"))
    (bxEInvalidPaper : PySem.W.subIn K (.ref C_InvalidPaper) (.type "BaseException") = some true)
    (hdEInvalidPaper : PySem.W.hasDictIn K C_InvalidPaper = true)
    {nmEInvalidPaper qEInvalidPaper : Str} {NEInvalidPaper : Addr} {bsEInvalidPaper : List Value} {snEInvalidPaper : List Str} {sbEInvalidPaper : List Value} {abEInvalidPaper : Bool} {clEInvalidPaper : Option Bool} {ddEInvalidPaper : Option Addr} {m0EInvalidPaper m1EInvalidPaper m2EInvalidPaper m3EInvalidPaper m5EInvalidPaper : Option Value} {f_InvalidPaper : Addr} {odEInvalidPaper anEInvalidPaper : Option Addr} {slEInvalidPaper : Array (Option Value)} {ocEInvalidPaper kVEInvalidPaper dcEInvalidPaper pmEInvalidPaper cdEInvalidPaper ctEInvalidPaper : Value}
    (xEInvalidPaper : K.lookup C_InvalidPaper = some (excClassObj nmEInvalidPaper qEInvalidPaper C_InvalidPaper NEInvalidPaper bsEInvalidPaper [.ref C_CensusError, .type "ValueError", .type "Exception", .type "BaseException", .type "object"] true snEInvalidPaper sbEInvalidPaper abEInvalidPaper clEInvalidPaper ddEInvalidPaper m0EInvalidPaper m1EInvalidPaper m2EInvalidPaper m3EInvalidPaper m5EInvalidPaper "ValueError.__new__"))
    (saEInvalidPaper : PySem.W.findIn K (.ref C_InvalidPaper) "__setattr__" = some (some (.builtin "object.__setattr__")))
    (kcEInvalidPaper : PySem.W.keepIn K (.ref C_InvalidPaper) = true)
    (noEInvalidPaper : PySem.W.findIn K (.ref C_InvalidPaper) "line" = some none)
    (iEInvalidPaper : PySem.W.findIn K (.ref C_InvalidPaper) "__init__" = some (some (.ref f_InvalidPaper)))
    (tEInvalidPaper : PySem.W.typeIn K (.ref f_InvalidPaper) = some (.type "function"))
    (lEInvalidPaper : K.lookup f_InvalidPaper = some ⟨ocEInvalidPaper, odEInvalidPaper, .func (PySem.W.fnOf "__init__" "InvalidPaper.__init__" (defArgs s_InvalidPaper) (defBody s_InvalidPaper) (defScope s_InvalidPaper) .none kVEInvalidPaper dcEInvalidPaper pmEInvalidPaper anEInvalidPaper cdEInvalidPaper ctEInvalidPaper), slEInvalidPaper⟩)
    (cEInvalidPaper : PySem.W.codeIn K cdEInvalidPaper "InvalidPaper.__init__" = true)
    (kEInvalidPaper : PySem.W.keepIn K (.ref f_InvalidPaper) = true)
    (gaEInvalidPaper : PySem.W.findIn K (.ref C_InvalidPaper) "__getattribute__" = some (some (.builtin "BaseException.__getattribute__")))
    (ggEInvalidPaper : PySem.W.findIn K (.ref C_InvalidPaper) "__getattr__" = some none)
    (haEInvalidPaper : PySem.W.findIn K (.ref C_InvalidPaper) "__class__" = some (some (.builtin "object.__class__")))
    (hmEInvalidPaper : PySem.W.mroIn K C_InvalidPaper (.type "object") = some true)
    (meEInvalidPaper : PySem.W.subIn K (.ref C_InvalidPaper) (.ref C_InvalidPaper) = some true)
    (ocG : PySem.W.specialIn K (.builtin "object.__class__") "__get__" = some (some (.builtin "getset_descriptor.__get__")))
    (ocT : PySem.W.takesIn K (.builtin "object.__class__") = some true)
    (suEInvalidPaper_CensusError : PySem.W.subIn K (.ref C_InvalidPaper) (.ref C_CensusError) = some true)
    (a1 : PySem.W.nsIn K mainGlobals "write_numbers" = some (some (.ref f1)))
    (l1 : K.lookup f1 = some ⟨oc1, od1, .func (PySem.W.fnOf "write_numbers" "write_numbers" (defArgs s_write_numbers) (defBody s_write_numbers) (defScope s_write_numbers) .none kV1 dc1 pm1 an1 cd1 ct1), sl1⟩)
    (c1 : PySem.W.codeIn K cd1 "write_numbers" = true) (k1 : PySem.W.keepIn K (.ref f1) = true)
    (a2 : PySem.W.nsIn K mainGlobals "write_part" = some (some (.ref f2)))
    (l2 : K.lookup f2 = some ⟨oc2, od2, .func (PySem.W.fnOf "write_part" "write_part" (defArgs s_write_part) (defBody s_write_part) (defScope s_write_part) .none kV2 dc2 pm2 an2 cd2 ct2), sl2⟩)
    (c2 : PySem.W.codeIn K cd2 "write_part" = true) (k2 : PySem.W.keepIn K (.ref f2) = true)
    (a3 : PySem.W.nsIn K mainGlobals "write_layer" = some (some (.ref f3)))
    (l3 : K.lookup f3 = some ⟨oc3, od3, .func (PySem.W.fnOf "write_layer" "write_layer" (defArgs s_write_layer) (defBody s_write_layer) (defScope s_write_layer) .none kV3 dc3 pm3 an3 cd3 ct3), sl3⟩)
    (c3 : PySem.W.codeIn K cd3 "write_layer" = true) (k3 : PySem.W.keepIn K (.ref f3) = true)
    (a4 : PySem.W.nsIn K mainGlobals "write_structure" = some (some (.ref f4)))
    (l4 : K.lookup f4 = some ⟨oc4, od4, .func (PySem.W.fnOf "write_structure" "write_structure" (defArgs s_write_structure) (defBody s_write_structure) (defScope s_write_structure) .none kV4 dc4 pm4 an4 cd4 ct4), sl4⟩)
    (c4 : PySem.W.codeIn K cd4 "write_structure" = true) (k4 : PySem.W.keepIn K (.ref f4) = true)
    (a5 : PySem.W.nsIn K mainGlobals "read_number" = some (some (.ref f5)))
    (l5 : K.lookup f5 = some ⟨oc5, od5, .func (PySem.W.fnOf "read_number" "read_number" (defArgs s_read_number) (defBody s_read_number) (defScope s_read_number) .none kV5 dc5 pm5 an5 cd5 ct5), sl5⟩)
    (c5 : PySem.W.codeIn K cd5 "read_number" = true) (k5 : PySem.W.keepIn K (.ref f5) = true)
    (a6 : PySem.W.nsIn K mainGlobals "whole" = some (some (.ref f6)))
    (l6 : K.lookup f6 = some ⟨oc6, od6, .func (PySem.W.fnOf "whole" "whole" (defArgs s_whole) (defBody s_whole) (defScope s_whole) .none kV6 dc6 pm6 an6 cd6 ct6), sl6⟩)
    (c6 : PySem.W.codeIn K cd6 "whole" = true) (k6 : PySem.W.keepIn K (.ref f6) = true)
    (a7 : PySem.W.nsIn K mainGlobals "read_numbers" = some (some (.ref f7)))
    (l7 : K.lookup f7 = some ⟨oc7, od7, .func (PySem.W.fnOf "read_numbers" "read_numbers" (defArgs s_read_numbers) (defBody s_read_numbers) (defScope s_read_numbers) .none kV7 dc7 pm7 an7 cd7 ct7), sl7⟩)
    (c7 : PySem.W.codeIn K cd7 "read_numbers" = true) (k7 : PySem.W.keepIn K (.ref f7) = true)
    (a8 : PySem.W.nsIn K mainGlobals "read_part" = some (some (.ref f8)))
    (l8 : K.lookup f8 = some ⟨oc8, od8, .func (PySem.W.fnOf "read_part" "read_part" (defArgs s_read_part) (defBody s_read_part) (defScope s_read_part) .none kV8 dc8 pm8 an8 cd8 ct8), sl8⟩)
    (c8 : PySem.W.codeIn K cd8 "read_part" = true) (k8 : PySem.W.keepIn K (.ref f8) = true)
    (a9 : PySem.W.nsIn K mainGlobals "read_layer" = some (some (.ref f9)))
    (l9 : K.lookup f9 = some ⟨oc9, od9, .func (PySem.W.fnOf "read_layer" "read_layer" (defArgs s_read_layer) (defBody s_read_layer) (defScope s_read_layer) .none kV9 dc9 pm9 an9 cd9 ct9), sl9⟩)
    (c9 : PySem.W.codeIn K cd9 "read_layer" = true) (k9 : PySem.W.keepIn K (.ref f9) = true)
    (a10 : PySem.W.nsIn K mainGlobals "read_structure" = some (some (.ref f10)))
    (l10 : K.lookup f10 = some ⟨oc10, od10, .func (PySem.W.fnOf "read_structure" "read_structure" (defArgs s_read_structure) (defBody s_read_structure) (defScope s_read_structure) .none kV10 dc10 pm10 an10 cd10 ct10), sl10⟩)
    (c10 : PySem.W.codeIn K cd10 "read_structure" = true) (k10 : PySem.W.keepIn K (.ref f10) = true)
    (a11 : PySem.W.nsIn K mainGlobals "_law_cell" = some (some (.ref f11)))
    (l11 : K.lookup f11 = some ⟨oc11, od11, .func (PySem.W.fnOf "_law_cell" "_law_cell" (defArgs s_cell) (defBody s_cell) (defScope s_cell) .none kV11 dc11 pm11 an11 cd11 ct11), sl11⟩)
    (c11 : PySem.W.codeIn K cd11 "_law_cell" = true) (k11 : PySem.W.keepIn K (.ref f11) = true)
    (a12 : PySem.W.nsIn K mainGlobals "_law_digits" = some (some (.ref f12)))
    (l12 : K.lookup f12 = some ⟨oc12, od12, .func (PySem.W.fnOf "_law_digits" "_law_digits" (defArgs s_digits) (defBody s_digits) (defScope s_digits) .none kV12 dc12 pm12 an12 cd12 ct12), sl12⟩)
    (c12 : PySem.W.codeIn K cd12 "_law_digits" = true) (k12 : PySem.W.keepIn K (.ref f12) = true)
    (a13 : PySem.W.nsIn K mainGlobals "_law_layer_word" = some (some (.ref f13)))
    (l13 : K.lookup f13 = some ⟨oc13, od13, .func (PySem.W.fnOf "_law_layer_word" "_law_layer_word" (defArgs s_layer_word) (defBody s_layer_word) (defScope s_layer_word) .none kV13 dc13 pm13 an13 cd13 ct13), sl13⟩)
    (c13 : PySem.W.codeIn K cd13 "_law_layer_word" = true) (k13 : PySem.W.keepIn K (.ref f13) = true)
    (a14 : PySem.W.nsIn K mainGlobals "_law_numbers" = some (some (.ref f14)))
    (l14 : K.lookup f14 = some ⟨oc14, od14, .func (PySem.W.fnOf "_law_numbers" "_law_numbers" (defArgs s_numbers) (defBody s_numbers) (defScope s_numbers) .none kV14 dc14 pm14 an14 cd14 ct14), sl14⟩)
    (c14 : PySem.W.codeIn K cd14 "_law_numbers" = true) (k14 : PySem.W.keepIn K (.ref f14) = true)
    (a15 : PySem.W.nsIn K mainGlobals "_law_any_layer" = some (some (.ref f15)))
    (l15 : K.lookup f15 = some ⟨oc15, od15, .func (PySem.W.fnOf "_law_any_layer" "_law_any_layer" (defArgs s_any_layer) (defBody s_any_layer) (defScope s_any_layer) .none kV15 dc15 pm15 an15 cd15 ct15), sl15⟩)
    (c15 : PySem.W.codeIn K cd15 "_law_any_layer" = true) (k15 : PySem.W.keepIn K (.ref f15) = true)
    (a16 : PySem.W.nsIn K mainGlobals "_law_is_number" = some (some (.ref f16)))
    (l16 : K.lookup f16 = some ⟨oc16, od16, .func (PySem.W.fnOf "_law_is_number" "_law_is_number" (defArgs s_is_number) (defBody s_is_number) (defScope s_is_number) .none kV16 dc16 pm16 an16 cd16 ct16), sl16⟩)
    (c16 : PySem.W.codeIn K cd16 "_law_is_number" = true) (k16 : PySem.W.keepIn K (.ref f16) = true)
    (a17 : PySem.W.nsIn K mainGlobals "_law_layer" = some (some (.ref f17)))
    (l17 : K.lookup f17 = some ⟨oc17, od17, .func (PySem.W.fnOf "_law_layer" "_law_layer" (defArgs s_layer) (defBody s_layer) (defScope s_layer) .none kV17 dc17 pm17 an17 cd17 ct17), sl17⟩)
    (c17 : PySem.W.codeIn K cd17 "_law_layer" = true) (k17 : PySem.W.keepIn K (.ref f17) = true)
    (a18 : PySem.W.nsIn K mainGlobals "_law_structure" = some (some (.ref f18)))
    (l18 : K.lookup f18 = some ⟨oc18, od18, .func (PySem.W.fnOf "_law_structure" "_law_structure" (defArgs s_structure) (defBody s_structure) (defScope s_structure) .none kV18 dc18 pm18 an18 cd18 ct18), sl18⟩)
    (c18 : PySem.W.codeIn K cd18 "_law_structure" = true) (k18 : PySem.W.keepIn K (.ref f18) = true)
    (a19 : PySem.W.nsIn K mainGlobals "_law_refused" = some (some (.ref f19)))
    (l19 : K.lookup f19 = some ⟨oc19, od19, .func (PySem.W.fnOf "_law_refused" "_law_refused" (defArgs s_refused) (defBody s_refused) (defScope s_refused) .none kV19 dc19 pm19 an19 cd19 ct19), sl19⟩)
    (c19 : PySem.W.codeIn K cd19 "_law_refused" = true) (k19 : PySem.W.keepIn K (.ref f19) = true)
    (a20 : PySem.W.nsIn K mainGlobals "law" = some (some (.ref f20)))
    (l20 : K.lookup f20 = some ⟨oc20, od20, .func (PySem.W.fnOf "law" "law" (defArgs s_law) (defBody s_law) (defScope s_law) .none kV20 dc20 pm20 an20 cd20 ct20), sl20⟩)
    (c20 : PySem.W.codeIn K cd20 "law" = true) (k20 : PySem.W.keepIn K (.ref f20) = true)
    {t_MOST_DIGITS : Tok} (a_MOST_DIGITS : PySem.W.nsIn K mainGlobals "MOST_DIGITS" = some (some (Value.int 9 t_MOST_DIGITS)))
    (z_all : PySem.W.nsIn K mainGlobals "all" = some none) (z_int : PySem.W.nsIn K mainGlobals "int" = some none) (z_isinstance : PySem.W.nsIn K mainGlobals "isinstance" = some none) (z_len : PySem.W.nsIn K mainGlobals "len" = some none) (z_range : PySem.W.nsIn K mainGlobals "range" = some none) (z_str : PySem.W.nsIn K mainGlobals "str" = some none) (z_tuple : PySem.W.nsIn K mainGlobals "tuple" = some none) :
    ∃ fd : FuncData, (∀ (s : Shared) (v : Value), BindsTo s fd ⟨[v], []⟩ [("script", v)]) ∧ ∀ base : Heap, K.In base → base.Ns mainGlobals mg → FnOk l.prog w K mg base CX0 7 fa fd ["script"] (spLaw K) := by
  have e := hfa.symm.trans (PySem.W.mg_of X G a20)
  cases e
  have F_write_numbers := fun_mk (st := s_write_numbers) l1 c1 k1
  have g_write_numbers := PySem.W.mg_of X G a1
  have b_write_numbers := F_write_numbers.binds (ps := ["numbers"]) fun _ _ _ _ _ _ us hl => match us, hl with | [_], _ => rfl
  have F_write_part := fun_mk (st := s_write_part) l2 c2 k2
  have g_write_part := PySem.W.mg_of X G a2
  have b_write_part := F_write_part.binds (ps := ["numbers"]) fun _ _ _ _ _ _ us hl => match us, hl with | [_], _ => rfl
  have F_write_layer := fun_mk (st := s_write_layer) l3 c3 k3
  have g_write_layer := PySem.W.mg_of X G a3
  have b_write_layer := F_write_layer.binds (ps := ["layer"]) fun _ _ _ _ _ _ us hl => match us, hl with | [_], _ => rfl
  have F_write_structure := fun_mk (st := s_write_structure) l4 c4 k4
  have g_write_structure := PySem.W.mg_of X G a4
  have b_write_structure := F_write_structure.binds (ps := ["structure"]) fun _ _ _ _ _ _ us hl => match us, hl with | [_], _ => rfl
  have F_read_number := fun_mk (st := s_read_number) l5 c5 k5
  have g_read_number := PySem.W.mg_of X G a5
  have b_read_number := F_read_number.binds (ps := ["word"]) fun _ _ _ _ _ _ us hl => match us, hl with | [_], _ => rfl
  have F_whole := fun_mk (st := s_whole) l6 c6 k6
  have g_whole := PySem.W.mg_of X G a6
  have b_whole := F_whole.binds (ps := ["found"]) fun _ _ _ _ _ _ us hl => match us, hl with | [_], _ => rfl
  have F_read_numbers := fun_mk (st := s_read_numbers) l7 c7 k7
  have g_read_numbers := PySem.W.mg_of X G a7
  have b_read_numbers := F_read_numbers.binds (ps := ["text"]) fun _ _ _ _ _ _ us hl => match us, hl with | [_], _ => rfl
  have F_read_part := fun_mk (st := s_read_part) l8 c8 k8
  have g_read_part := PySem.W.mg_of X G a8
  have b_read_part := F_read_part.binds (ps := ["text"]) fun _ _ _ _ _ _ us hl => match us, hl with | [_], _ => rfl
  have F_read_layer := fun_mk (st := s_read_layer) l9 c9 k9
  have g_read_layer := PySem.W.mg_of X G a9
  have b_read_layer := F_read_layer.binds (ps := ["word"]) fun _ _ _ _ _ _ us hl => match us, hl with | [_], _ => rfl
  have F_read_structure := fun_mk (st := s_read_structure) l10 c10 k10
  have g_read_structure := PySem.W.mg_of X G a10
  have b_read_structure := F_read_structure.binds (ps := ["text"]) fun _ _ _ _ _ _ us hl => match us, hl with | [_], _ => rfl
  have F_cell := fun_mk (st := s_cell) l11 c11 k11
  have g_cell := PySem.W.mg_of X G a11
  have b_cell := F_cell.binds (ps := ["script", "k"]) fun _ _ _ _ _ _ us hl => match us, hl with | [_, _], _ => rfl
  have F_digits := fun_mk (st := s_digits) l12 c12 k12
  have g_digits := PySem.W.mg_of X G a12
  have b_digits := F_digits.binds (ps := ["cell", "many", "count"]) fun _ _ _ _ _ _ us hl => match us, hl with | [_, _, _], _ => rfl
  have F_layer_word := fun_mk (st := s_layer_word) l13 c13 k13
  have g_layer_word := PySem.W.mg_of X G a13
  have b_layer_word := F_layer_word.binds (ps := ["layer"]) fun _ _ _ _ _ _ us hl => match us, hl with | [_], _ => rfl
  have F_numbers := fun_mk (st := s_numbers) l14 c14 k14
  have g_numbers := PySem.W.mg_of X G a14
  have b_numbers := F_numbers.binds (ps := ["digits", "at", "count"]) fun _ _ _ _ _ _ us hl => match us, hl with | [_, _, _], _ => rfl
  have F_any_layer := fun_mk (st := s_any_layer) l15 c15 k15
  have g_any_layer := PySem.W.mg_of X G a15
  have b_any_layer := F_any_layer.binds (ps := ["digits", "at", "parts"]) fun _ _ _ _ _ _ us hl => match us, hl with | [_, _, _], _ => rfl
  have F_is_number := fun_mk (st := s_is_number) l16 c16 k16
  have g_is_number := PySem.W.mg_of X G a16
  have b_is_number := F_is_number.binds (ps := ["word"]) fun _ _ _ _ _ _ us hl => match us, hl with | [_], _ => rfl
  have F_layer := fun_mk (st := s_layer) l17 c17 k17
  have g_layer := PySem.W.mg_of X G a17
  have b_layer := F_layer.binds (ps := ["word"]) fun _ _ _ _ _ _ us hl => match us, hl with | [_], _ => rfl
  have F_structure := fun_mk (st := s_structure) l18 c18 k18
  have g_structure := PySem.W.mg_of X G a18
  have b_structure := F_structure.binds (ps := ["text"]) fun _ _ _ _ _ _ us hl => match us, hl with | [_], _ => rfl
  have F_refused := fun_mk (st := s_refused) l19 c19 k19
  have g_refused := PySem.W.mg_of X G a19
  have b_refused := F_refused.binds (ps := ["text"]) fun _ _ _ _ _ _ us hl => match us, hl with | [_], _ => rfl
  have F_law := fun_mk (st := s_law) l20 c20 k20
  have g_law := PySem.W.mg_of X G a20
  have b_law := F_law.binds (ps := ["script"]) fun _ _ _ _ _ _ us hl => match us, hl with | [_], _ => rfl
  have g_MOST_DIGITS := PySem.W.mg_of X G a_MOST_DIGITS
  have TB : BaseQ K mg "CensusError" C_CensusError := ⟨PySem.W.mg_of X G aECensusError, ⟨rdE, gtE⟩, fiE⟩
  have g_CensusError := PySem.W.mg_of X G aECensusError
  have gd_CensusError := PySem.W.mg_of X G aECensusError
  have hd_CensusError := hdECensusError
  have ty_CensusError := tyECensusError
  have g_InvalidPaper := PySem.W.mg_of X G aEInvalidPaper
  have gd_InvalidPaper := PySem.W.mg_of X G aEInvalidPaper
  have hd_InvalidPaper := hdEInvalidPaper
  have ty_InvalidPaper := tyEInvalidPaper
  have OEInvalidPaper : OexC K C_InvalidPaper := ⟨⟨_, _, _, _, _, _, _, _, _, _, _, _, _, _, _, xEInvalidPaper, (show PySem.HandSPX.refsVE [Value.type "ValueError", .type "Exception", .type "BaseException", .type "object"] = true by decide +kernel)⟩, saEInvalidPaper, bxEInvalidPaper, tyEInvalidPaper, kcEInvalidPaper⟩
  have E_InvalidPaper : ErrQ K mg "InvalidPaper" "line" C_InvalidPaper f_InvalidPaper := ⟨PySem.W.mg_of X G aEInvalidPaper, OEInvalidPaper, iEInvalidPaper, tEInvalidPaper, noEInvalidPaper⟩
  have FEInvalidPaper := fun_mk (st := s_InvalidPaper) lEInvalidPaper cEInvalidPaper kEInvalidPaper
  have b_InvalidPaper := FEInvalidPaper.binds (ps := ["self", "line"]) fun _ _ _ _ _ _ us hl => match us, hl with | [_, _], _ => rfl
  have EC_InvalidPaper : ErrC K C_InvalidPaper "line" := ⟨gaEInvalidPaper, ggEInvalidPaper, bxEInvalidPaper, hdEInvalidPaper, haEInvalidPaper, ocG, ocT, hmEInvalidPaper, noEInvalidPaper, meEInvalidPaper, tyEInvalidPaper⟩
  have su_InvalidPaper_CensusError := suEInvalidPaper_CensusError
  have m_all := PySem.W.mg_none_of X G z_all
  have m_int := PySem.W.mg_none_of X G z_int
  have m_isinstance := PySem.W.mg_none_of X G z_isinstance
  have m_len := PySem.W.mg_none_of X G z_len
  have m_range := PySem.W.mg_none_of X G z_range
  have m_str := PySem.W.mg_none_of X G z_str
  have m_tuple := PySem.W.mg_none_of X G z_tuple
  refine ⟨PySem.W.fnOf "law" "law" (defArgs s_law) (defBody s_law) (defScope s_law) .none kV20 dc20 pm20 an20 cd20 ct20, fun s v => .of_eq rfl, fun base _ _ => ?_⟩
  have G_InvalidPaper := ok_InvalidPaper (P := l.prog) (w := w) (mg := mg) (base := base) (k := 0) FEInvalidPaper TB E_InvalidPaper
  have G_write_numbers := ok_write_numbers (P := l.prog) (w := w) (mg := mg) (base := base) F_write_numbers m_str
  have G_write_part := ok_write_part (P := l.prog) (w := w) (mg := mg) (base := base) F_write_part G_write_numbers b_write_numbers k1 g_write_numbers
  have G_write_layer := ok_write_layer (P := l.prog) (w := w) (mg := mg) (base := base) F_write_layer G_write_part b_write_part k2 g_write_part
  have G_write_structure := ok_write_structure (P := l.prog) (w := w) (mg := mg) (base := base) F_write_structure G_write_layer b_write_layer k3 g_write_layer
  have G_read_number := ok_read_number (P := l.prog) (w := w) (mg := mg) (base := base) F_read_number g_MOST_DIGITS m_int m_len
  have G_whole := ok_whole (P := l.prog) (w := w) (mg := mg) (base := base) F_whole m_tuple
  have G_read_numbers := ok_read_numbers (P := l.prog) (w := w) (mg := mg) (base := base) F_read_numbers G_read_number b_read_number k5 g_read_number G_whole b_whole k6 g_whole
  have G_read_part := ok_read_part (P := l.prog) (w := w) (mg := mg) (base := base) F_read_part G_read_numbers b_read_numbers k7 g_read_numbers
  have G_read_layer := ok_read_layer (P := l.prog) (w := w) (mg := mg) (base := base) F_read_layer G_read_part b_read_part k8 g_read_part G_whole b_whole k6 g_whole
  have G_read_structure := ok_read_structure (P := l.prog) (w := w) (mg := mg) (base := base) F_read_structure G_read_layer b_read_layer k9 g_read_layer G_whole b_whole k6 g_whole E_InvalidPaper G_InvalidPaper b_InvalidPaper
  have G_cell := ok_cell (P := l.prog) (w := w) (mg := mg) (base := base) F_cell m_len
  have G_digits := ok_digits (P := l.prog) (w := w) (mg := mg) (base := base) F_digits m_int m_range
  have G_layer_word := ok_layer_word (P := l.prog) (w := w) (mg := mg) (base := base) F_layer_word m_len m_str
  have G_numbers := ok_numbers (P := l.prog) (w := w) (mg := mg) (base := base) F_numbers m_int m_len m_range m_tuple
  have G_any_layer := ok_any_layer (P := l.prog) (w := w) (mg := mg) (base := base) F_any_layer G_numbers b_numbers k14 g_numbers m_int m_len m_range m_tuple
  have G_is_number := ok_is_number (P := l.prog) (w := w) (mg := mg) (base := base) F_is_number m_len
  have G_layer := ok_layer (P := l.prog) (w := w) (mg := mg) (base := base) F_layer G_is_number b_is_number k16 g_is_number m_all m_int m_tuple
  have G_structure := ok_structure (P := l.prog) (w := w) (mg := mg) (base := base) F_structure G_layer b_layer k17 g_layer m_tuple
  have G_refused := ok_refused (P := l.prog) (w := w) (mg := mg) (base := base) F_refused G_read_structure b_read_structure k10 g_read_structure EC_InvalidPaper gd_CensusError hd_CensusError ty_CensusError g_InvalidPaper su_InvalidPaper_CensusError m_isinstance
  have G_law := ok_law (P := l.prog) (w := w) (mg := mg) (base := base) F_law G_write_structure b_write_structure k4 g_write_structure G_read_structure b_read_structure k10 g_read_structure G_cell b_cell k11 g_cell G_digits b_digits k12 g_digits G_layer_word b_layer_word k13 g_layer_word G_any_layer b_any_layer k15 g_any_layer G_structure b_structure k18 g_structure G_refused b_refused k19 g_refused m_int m_len m_range m_tuple
  exact G_law.imp fun vs H Q E q => law_sp q
end Qw
open PySem PySem.W PyProof.Rows
set_option maxHeartbeats 0 in
theorem PySem.Challenge.cw_oneofeach_k59_structures_written_and_rea_holds : PySem.Challenge.rw_oneofeach_k59_structures_written_and_rea.Holds := by
  w_on; o_law; k_head; (case hw => w_witness2)
  k_fill
  refine L2.walk_of (l := PySem.Challenge.rw_oneofeach_k59_structures_written_and_rea) (n := 63) (k := 7) (x := "script") (CX := fun _ => L2.CX0) (sp := fun w => Qw.spLaw _) rfl (by decide) rfl ⟨rfl, by decide, by decide⟩
    (fun w h Y => PySem.W.kIn_of Y) ?F (fun _ _ a ns hl _ hS => ⟨a, ns, rfl, hS, hl, fun _ => rfl⟩) (fun _ _ _ _ _ h => h)
  case F =>
    intro w mg fa h KX G hmg
    refine' Qw.all_mk KX G hmg ?aECensusError ?tyECensusError ?bxECensusError ?hdECensusError ?rdE ?gtE ?fiE ?aEInvalidPaper ?tyEInvalidPaper ?bxEInvalidPaper ?hdEInvalidPaper ?xEInvalidPaper ?saEInvalidPaper ?kcEInvalidPaper ?noEInvalidPaper ?iEInvalidPaper ?tEInvalidPaper ?lEInvalidPaper ?cEInvalidPaper ?kEInvalidPaper ?gaEInvalidPaper ?ggEInvalidPaper ?haEInvalidPaper ?hmEInvalidPaper ?meEInvalidPaper ?ocG ?ocT ?suEInvalidPaper_CensusError ?a1 ?l1 ?c1 ?k1 ?a2 ?l2 ?c2 ?k2 ?a3 ?l3 ?c3 ?k3 ?a4 ?l4 ?c4 ?k4 ?a5 ?l5 ?c5 ?k5 ?a6 ?l6 ?c6 ?k6 ?a7 ?l7 ?c7 ?k7 ?a8 ?l8 ?c8 ?k8 ?a9 ?l9 ?c9 ?k9 ?a10 ?l10 ?c10 ?k10 ?a11 ?l11 ?c11 ?k11 ?a12 ?l12 ?c12 ?k12 ?a13 ?l13 ?c13 ?k13 ?a14 ?l14 ?c14 ?k14 ?a15 ?l15 ?c15 ?k15 ?a16 ?l16 ?c16 ?k16 ?a17 ?l17 ?c17 ?k17 ?a18 ?l18 ?c18 ?k18 ?a19 ?l19 ?c19 ?k19 ?a20 ?l20 ?c20 ?k20 ?a_MOST_DIGITS ?z_all ?z_int ?z_isinstance ?z_len ?z_range ?z_str ?z_tuple
    (case aECensusError => k_is)
    (case tyECensusError => k_is)
    (case bxECensusError => k_is)
    (case hdECensusError => k_is)
    (case rdE => k_is)
    (case gtE => k_is)
    (case fiE => k_is)
    (case aEInvalidPaper => k_is)
    (case tyEInvalidPaper => k_is)
    (case bxEInvalidPaper => k_is)
    (case hdEInvalidPaper => k_is)
    (case xEInvalidPaper => k_is)
    (case saEInvalidPaper => k_is)
    (case kcEInvalidPaper => k_is)
    (case noEInvalidPaper => k_is)
    (case iEInvalidPaper => k_is)
    (case tEInvalidPaper => k_is)
    (case lEInvalidPaper => k_is)
    (case cEInvalidPaper => k_is)
    (case kEInvalidPaper => k_is)
    (case gaEInvalidPaper => k_is)
    (case ggEInvalidPaper => k_is)
    (case haEInvalidPaper => k_is)
    (case hmEInvalidPaper => k_is)
    (case meEInvalidPaper => k_is)
    (case ocG => k_is)
    (case ocT => k_is)
    (case suEInvalidPaper_CensusError => k_is)
    (case a1 => k_is)
    (case l1 => k_is)
    (case c1 => k_is)
    (case k1 => k_is)
    (case a2 => k_is)
    (case l2 => k_is)
    (case c2 => k_is)
    (case k2 => k_is)
    (case a3 => k_is)
    (case l3 => k_is)
    (case c3 => k_is)
    (case k3 => k_is)
    (case a4 => k_is)
    (case l4 => k_is)
    (case c4 => k_is)
    (case k4 => k_is)
    (case a5 => k_is)
    (case l5 => k_is)
    (case c5 => k_is)
    (case k5 => k_is)
    (case a6 => k_is)
    (case l6 => k_is)
    (case c6 => k_is)
    (case k6 => k_is)
    (case a7 => k_is)
    (case l7 => k_is)
    (case c7 => k_is)
    (case k7 => k_is)
    (case a8 => k_is)
    (case l8 => k_is)
    (case c8 => k_is)
    (case k8 => k_is)
    (case a9 => k_is)
    (case l9 => k_is)
    (case c9 => k_is)
    (case k9 => k_is)
    (case a10 => k_is)
    (case l10 => k_is)
    (case c10 => k_is)
    (case k10 => k_is)
    (case a11 => k_is)
    (case l11 => k_is)
    (case c11 => k_is)
    (case k11 => k_is)
    (case a12 => k_is)
    (case l12 => k_is)
    (case c12 => k_is)
    (case k12 => k_is)
    (case a13 => k_is)
    (case l13 => k_is)
    (case c13 => k_is)
    (case k13 => k_is)
    (case a14 => k_is)
    (case l14 => k_is)
    (case c14 => k_is)
    (case k14 => k_is)
    (case a15 => k_is)
    (case l15 => k_is)
    (case c15 => k_is)
    (case k15 => k_is)
    (case a16 => k_is)
    (case l16 => k_is)
    (case c16 => k_is)
    (case k16 => k_is)
    (case a17 => k_is)
    (case l17 => k_is)
    (case c17 => k_is)
    (case k17 => k_is)
    (case a18 => k_is)
    (case l18 => k_is)
    (case c18 => k_is)
    (case k18 => k_is)
    (case a19 => k_is)
    (case l19 => k_is)
    (case c19 => k_is)
    (case k19 => k_is)
    (case a20 => k_is)
    (case l20 => k_is)
    (case c20 => k_is)
    (case k20 => k_is)
    (case a_MOST_DIGITS => k_is)
    (case z_all => k_is)
    (case z_int => k_is)
    (case z_isinstance => k_is)
    (case z_len => k_is)
    (case z_range => k_is)
    (case z_str => k_is)
    (case z_tuple => k_is)
