import PyProof.Rows.All
import Wide.All
import OpenK.AllK
import Wide.FinOn
import HandS.ForMost
import HandS.TupAny
import HandS.Conv
import HandS.IsInst
import HandS.Style
import HandS.Walk
import KE.GoesEnum
import KE.GoesMore
import KE.KSortedM
import PyProof.TupleOfSeq
import PySem.Challenge.RW_oneofeach_k20_renamings
set_option Elab.async false
set_option linter.all false
set_option maxRecDepth 100000
namespace Nz
open PySem PySem.Spec PyProof.Rows L2
/-! ### sorted(t), t a tuple of ints -/
section
variable {prog : Program} {w : World} {A : Around} {E : Value → Shared → Prop} {s : Shared}
/-- the heap behind the collecting of vs -/
def gath (h : Heap) (vs : List Value) : Heap :=
  (h.push (seqObj "list" #[] 0)).update h.objs.size (Obj.mapSeq (· ++ vs.toArray))
theorem gath_size (h : Heap) (vs : List Value) : (gath h vs).objs.size = h.objs.size + 1 :=
  (Heap.size_update ..).trans (size_push' _ _)
theorem gath_old {h : Heap} {vs : List Value} {b : Addr} {o : Obj} (e : h.get? b = some o) : (gath h vs).get? b = some o :=
  (Heap.get?_update_other _ _ (Nat.ne_of_gt (Heap.lt_size e))).trans (Heap.get?_push_of_some _ e)
set_option maxHeartbeats 1000000 in
theorem gather_tup {t : Addr} {vs : List Value} {Q : List Value → Shared → Prop} (ht : IsTup s.heap t vs.toArray)
    (hz : vs.length ≤ sizeLine) (fin : Q vs { s with heap := gath s.heap vs }) : wpAny (model prog w) A (collect (.ref t)) Q E s := by
  obtain ⟨o, ho, hc, n, hd⟩ := ht
  have new0 : (s.heap.push (seqObj "list" #[] 0)).get? s.heap.objs.size = some (seqObj "list" #[] 0) := Heap.get?_push_size _ rfl
  have old : (s.heap.push (seqObj "list" #[] 0)).get? t = some o := Heap.get?_push_of_some _ ho
  unfold collect
  refine wpAny_bind (wpAny_runValue (codeAny_builtin entry_proto_collect' (?k : wpAny _ _
    (do again (.builtin "list.__iadd__" ⟨[← newList [], .ref t], []⟩)) _ _ s)))
  refine wpAny_bind (wpAny_newList (wpAny_pure ⟨Code.quiet_builtin _ (by decide +kernel), codeAny_builtin entry_list_iadd'
    (?k2 : wpAny _ _ (Builtin.List.listExtendWith (.ref s.heap.objs.size) (.ref t) (.ref s.heap.objs.size)) _ _
      { s with heap := s.heap.push (seqObj "list" #[] 0) })⟩))
  unfold Builtin.List.listExtendWith
  refine wpAny_bind (wpAny_typeOf (T := "tuple") ⟨o, old, hc⟩ ?_)
  have tt : (Value.type "tuple" == Value.type "tuple") = true := by rfl
  rw [if_pos (by simp [tt])]
  refine wpAny_bind (listItems_at old hd (wpAny_bind (listItems_at (xs := #[]) (n := 0) new0 rfl ?_)))
  rw [if_neg (by simp)]
  refine wpAny_bind (listUpdate_at (xs := #[]) (n := 0) new0 rfl ?_ (Nat.zero_le _) (by
    show (#[] ++ vs.toArray).size ≤ sizeLine + 1
    simp only [Array.size_append, List.size_toArray, List.length_nil]
    omega))
  refine wpAny_pure (?k3 : wpAny (model prog w) A (do
      match (← load s.heap.objs.size).data with
      | .seq xs _ => pure xs.toList
      | _ => unsupported "internal:collect") Q E { s with heap := gath s.heap vs })
  refine wpAny_bind (wpAny_load (get?_update_seq new0 _) ?_)
  have e : ((#[] : Array Value) ++ vs.toArray).toList = vs := by simp
  exact wpAny_pure (e.symm ▸ fin)
set_option maxHeartbeats 1000000 in
theorem sort_tup {t : Addr} {vs : List Value} {ns : List Int} {Q : Value → Shared → Prop}
    (ht : IsTup s.heap t vs.toArray) (hI : IntsAre vs ns) (lt : vs.length < 64)
    (fin : ∀ (out : List Value) (ms : List Int) (p : Addr) (g : Heap) (ep : Nat), IntsAre out ms → ms.Perm ns →
      ms.Pairwise (· ≤ ·) → s.heap.objs.size ≤ p → (∀ b o, s.heap.get? b = some o → g.get? b = some o) →
      g.get? p = some (seqObj "list" out.toArray ep) → Q (.ref p) { s with heap := g }) :
    wpAny (model prog w) A (call (.builtin "sorted") [.ref t]) Q E s := by
  have hz : vs.length ≤ sizeLine := by
    rw [sizeLine_eq]
    omega
  refine (fun z => Calls.call_function_entry kind_sorted plain_sorted entry_sorted (args_sorted1 _) z) ?_
  unfold Builtin.«sorted»
  refine wpAny_bind (m := checkCount "sorted" 1 1 [Value.ref t].length) (wpAny_pure (wpAny_bind (gather_tup ht hz (wpAny_bind (wpAny_newList ?_ hz)))))
  have hoL : ((gath s.heap vs).push (seqObj "list" vs.toArray 0)).get? (gath s.heap vs).objs.size = some (seqObj "list" vs.toArray 0) :=
    Heap.get?_push_size _ rfl
  refine wpAny_bind (s := { s with heap := (gath s.heap vs).push (seqObj "list" vs.toArray 0) }) (wpAny_holding (wpAny_call_entry slot_list_sort
    ⟨_, hoL, rfl⟩ entry_list_sort (list_sort_tree hoL hI lt fun out ms a1 a2 a3 => ⟨_, rfl, ?_⟩) (args_list_sort _)))
  obtain ⟨ep, he⟩ := sortedHeap_at (vs := vs) (out := out) hoL
  have hgs : s.heap.objs.size ≤ (gath s.heap vs).objs.size := by
    rw [gath_size]
    exact Nat.le_succ _
  refine wpAny_pure ⟨_, rfl, fin out.toList ms _ _ ep a1 a2 a3 hgs (fun b u hb => ?_) ?_⟩
  · have hb1 := gath_old (vs := vs) hb
    have hb2 := Heap.get?_push_of_some (seqObj "list" vs.toArray 0) hb1
    rw [sortedHeap_old (Nat.ne_of_lt (Heap.lt_size hb1)) (Heap.lt_size hb2)]
    exact hb2
  · exact he
end
section
variable {X : Cx}
def rSortT (K : PySem.W.Frag) : List V → Hp → VK → Prop := fun vs H Q => ∃ (a : Addr) (ns : List Int), vs = [V.ref a] ∧
  SqT K H a (ns.map V.int) ∧ ns.length < 64 ∧
  ∀ (ms : List Int) (p : Addr), ms.Perm ns → ms.Pairwise (· ≤ ·) → H p = none → Q (.ref p) (upd H p (.lst (ms.map V.int)))
theorem cr_sortTup : CallR X (.builtin "sorted") (rSortT X.K) := by
  intro pins s σ H vs us Q I r ⟨a, ns, e0, hs, h64, q⟩
  subst e0
  obtain ⟨its, rv, hl, _⟩ := I.tuple hs
  rw [Vals.ref1 r]
  have hi := rv.ints
  refine sort_tup hl hi (by rw [hi.length]; exact h64) fun out ms p g ep h1 h2 h3 hp hk he => ?_
  have hlen : (ms.map V.int).length ≤ sizeLine := by
    rw [List.length_map, h2.length_eq]
    exact small64 h64
  exact ⟨.ref p, upd H p (.lst (ms.map V.int)), I.laid (t' := s.toks) hk hp ⟨hlen, out, ep, vals_of_ints h1, he⟩, rfl,
    q ms p h2 h3 (I.hok.fresh hp)⟩
end
end Nz
namespace Nz
open PySem PySem.Spec PyProof.Rows L2
/-! ### enumerate(t), t a tuple -/
abbrev enumO (n : Nat) : Obj :=
  { cls := .type "enumerate", data := .fields #[.none, .bool false, .ref n, rawInt 0, .none, .none] }
set_option maxHeartbeats 1000000 in
theorem meets_enumT {t : Addr} {o : Obj} {H : Heap → Prop} (B : Begins (.ref t) o H) :
    Meets (Builtin.«enumerate.__new__» ⟨[.type "enumerate", .ref t], []⟩) (fun _ R s => H s.heap ∧
      R (.ok (.ret (.ref (s.heap.push o).objs.size))) { s with heap := (s.heap.push o).push (enumO s.heap.objs.size) }) :=
  .of_wp fun prog w A R s h => by
    obtain ⟨hp, g, d, tk, os⟩ := s
    obtain ⟨h1, h⟩ := h
    have hsub := sub_enumerate
    have q1 : ∀ {A' : Around} {E : Value → Shared → Prop} {Q : Value → Shared → Prop}, Q (.ref hp.objs.size) ⟨hp.push o, g, d, tk, os⟩ →
        wpAny (model prog w) A' (pyIter (.ref t)) Q E ⟨hp, g, d, tk, os⟩ := fun q => B.iter prog w _ _ ⟨hp, g, d, tk, os⟩ _ h1 q
    wp_walk using q1
    refine wpAny_stack_any fun st => wpAny_pure ?_
    split
    · rename_i c _ _ _ _ _
      cases (c == Value.type "enumerate")
      all_goals
        wp_walk using q1
        exact ⟨_, rfl, h⟩
    · wp_walk using q1
      exact ⟨_, rfl, h⟩
section
variable {prog : Program} {w : World} {A : Around} {E : Value → Shared → Prop} {s : Shared}
theorem call_enumT {t : Addr} {o : Obj} {H : Heap → Prop} {Q : Value → Shared → Prop} (B : Begins (.ref t) o H) (h1 : H s.heap)
    (fin : ∀ g, IsEnum g (s.heap.objs.size + 1) s.heap.objs.size 0 .none → g.get? s.heap.objs.size = some o →
      g.objs.size = s.heap.objs.size + 2 → (∀ b u, s.heap.get? b = some u → g.get? b = some u) → Q (.ref (s.heap.objs.size + 1)) { s with heap := g }) :
    wpAny (model prog w) A (call (.type "enumerate") [.ref t]) Q E s := by
  have hz : (s.heap.push o).objs.size = s.heap.objs.size + 1 := Heap.size_push ..
  have new := Heap.get?_push_size (s.heap.push o)
    (o := enumO s.heap.objs.size) rfl
  rw [hz] at new
  refine callType_new F.called_enumerate (by decide) (F.typeCall_enumerate_1 _) (F.newCall_enumerate_1 _)
    (fun obj => F.args_object_init_2 obj _) F.entry_enumerate_new (meets_enumT B) ⟨h1, ?_⟩
  refine (?g : _ ∧ _)
  rw [hz]
  exact ⟨⟨_, new, rfl⟩, fin _ new (Heap.get?_push_of_some _ (Heap.get?_push_size _ B.free)) (by rw [Heap.size_push, hz])
    fun b u x => Heap.get?_push_of_some _ (Heap.get?_push_of_some _ x)⟩
end
/-- the tuple at a, item by item, each in a new pair with its place -/
def IteT (K : PySem.W.Frag) (a : Addr) : It :=
  ⟨fun i H => ∃ (xs : List V) (x : V), SqT K H a xs ∧ xs[i]? = some x,
   fun i H v H' => ∃ T x, v = .ref T ∧ H T = none ∧ H' = upd H T (.tup [.int (i : Nat), x]) ∧ ∀ xs, SqT K H a xs → xs[i]? = some x,
   fun i H => ∃ xs : List V, SqT K H a xs ∧ xs.length ≤ i⟩
theorem apartE {h : Heap} {a e it : Addr} {k : Int} {old : Value} {its : Array Value} {i : Nat} (ht : h.IsTuple a its)
    (he : IsEnum h e it k old) (hi : h.IsTupleIter it a i) : a ≠ it ∧ e ∉ [it, a] ∧ e ≠ it := by
  obtain ⟨o1, g1, c1, _⟩ := ht
  obtain ⟨o2, g2, c2, _⟩ := hi
  have g3 : h.get? e = some _ := he
  have ne1 : a ≠ it := fun z => by
    subst z
    rw [g1] at g2
    cases g2
    rw [c1] at c2
    revert c2
    decide
  have ne2 : e ≠ it := fun z => by
    subst z
    rw [g3] at g2
    cases g2
    exact absurd (show Value.type "enumerate" = .type "tuple_iterator" from c2) (by simp)
  have ne3 : e ≠ a := fun z => by
    subst z
    rw [g3] at g1
    cases g1
    exact absurd (show Value.type "enumerate" = .type "tuple" from c1) (by simp)
  exact ⟨ne1, by simp [ne2, ne3], ne2⟩
theorem turn_enumT {P : Program} {w : World} {K : PySem.W.Frag} {elts : List Expr} {kk : Nat} {tpos : Pos} (a e it : Addr) :
    Turn P w K (.Tuple elts kk tpos) (IteT K a) [e, it] e
      (fun i h => (∃ old, IsEnum h e it ((i : Nat) : Int) old) ∧ h.IsTupleIter it a i) where
  mem := by simp
  obj := fun i h st b hb => by
    obtain ⟨⟨old, he⟩, o, ho, hc, hd⟩ := st
    rcases (show b = e ∨ b = it by simpa using hb) with rfl | rfl
    · exact ⟨_, he, fun v q => nomatch q⟩
    · exact ⟨o, ho, fun v q => by rw [hd] at q; cases q⟩
  keep := fun i h h' ⟨⟨old, he⟩, hi⟩ k => ⟨⟨old, k e (by simp) _ he⟩, hi.at fun o q => k it (by simp) o q⟩
  item := by
    intro X hP hw hK hc i pins s σ H E I hf st hg
    subst hP hw hK
    obtain ⟨⟨old, he⟩, hit⟩ := st
    obtain ⟨xs, x, hq, hx⟩ := hg
    obtain ⟨its, rv, p, hz⟩ := I.tuple hq
    obtain ⟨u, hu, ru⟩ := rv.get hx
    have p' : s.heap.IsTuple a its.toArray := p
    obtain ⟨na, nin, ne⟩ := apartE p' he hit
    have hel : e < s.heap.objs.size := Heap.lt_size he
    have hil : it < s.heap.objs.size := by
      obtain ⟨_, q, _⟩ := hit
      exact Heap.lt_size q
    have hlt : i < its.toArray.size := by
      have := (List.getElem?_eq_some_iff.mp hu).1
      simpa using this
    refine wpAny_pyNext_enum_itemD (Draws.tuple (A := X.A.in1) (I.ok.hd hc) it a na its.toArray) he ⟨hit, p'⟩ hlt ne nin
      fun y g tk hy ho st1 hT hsz hk => ?_
    have ey : y = u := by
      have h2 : its.toArray[i]? = some u := by simpa using hu
      exact Option.some.inj (hy.symm.trans h2)
    subst ey
    refine ⟨_, rfl, wpAny_letOwnedTupleGo_enum (s := { s with heap := g, toks := tk + 1 }) ho fun g2 he2 sb => ?_⟩
    have hT2 : g2.get? s.heap.objs.size = some { cls := .type "tuple", data := .seq #[.int i tk, y] } :=
      (sb.2 _ (Nat.ne_of_gt hel)).trans hT
    have new : ObjOk X.prog X.w (upd H s.heap.objs.size (.tup [.int (i : Nat), x])) g2 s.heap.objs.size (.tup [.int (i : Nat), x]) :=
      ⟨by show 2 ≤ sizeLine; decide, [.int i tk, y], .cons ⟨_, rfl⟩ (.cons ru .nil), ⟨_, hT2, rfl, _, rfl⟩⟩
    have I1 : Inv X pins σ (upd H s.heap.objs.size (.tup [.int (i : Nat), x])) { s with heap := g2, toks := tk + 1 } :=
      I.turnedNew (ch := [e, it]) (fun b ob hb q => (sb.2 b (fun z => hb (by simp [z]))).trans
        (hk b ob (fun z => hb (by simp [z])) (fun z => hb (by simp [z])) q)) hf (Nat.le_refl _) new
    refine ⟨.ref s.heap.objs.size, _, I1, rfl, ⟨_, x, rfl, I.hok.fresh (Nat.le_refl _), rfl, fun ys hy => by
      rw [I.tuple_inj hy hq]
      exact hx⟩, ⟨⟨y, ?_⟩, st1.1.at fun o q => (sb.2 it (Ne.symm ne)).trans q⟩, fun b hb => ?_⟩
    · rw [show ((i + 1 : Nat) : Int) = (i : Int) + 1 by omega]
      exact he2
    · have hb' : b < s.heap.objs.size := by
        rcases (show b = e ∨ b = it by simpa using hb) with rfl | rfl
        · exact hel
        · exact hil
      rw [upd_ne (Nat.ne_of_lt hb')]
      exact (hf b hb).1
  done := by
    intro X hP hw hK hc i pins s σ H E I hf st hg
    subst hP hw hK
    obtain ⟨⟨old, he⟩, hit⟩ := st
    obtain ⟨xs, hq, hx⟩ := hg
    obtain ⟨its, rv, p, hz⟩ := I.tuple hq
    have p' : s.heap.IsTuple a its.toArray := p
    obtain ⟨na, nin, ne⟩ := apartE p' he hit
    obtain ⟨f0, f1, f2, f3, f4, f5⟩ := hf it (by simp)
    have hl := rv.length
    have none_at : its.toArray[i]? = none := by
      simp
      omega
    unfold pyNext
    have hT : s.TypeIs (.ref e) "enumerate" := ⟨_, he, rfl⟩
    refine wpAny_bind (wpAny_attempt (wpAny_callSpecial?_slot (name := Str.ofString "__next__") hT F.slot_enumerate_next (wpAny_call_entry
      F.slot_enumerate_next hT F.entry_enumerate_next (?g : wpAny _ _ (field (.ref e) 2 >>= _) _ _ _) (F.args_enumerate_next_1 _))))
    refine wpAny_bind (wpAny_field he rfl (x := .ref it) rfl (wpAny_bind (wpAny_nextOf_tuple_end (I.ok.hd hc) hit p' none_at fun g x hx' hs => ?_)))
    obtain ⟨o, ho, hcls⟩ := hs
    refine wpAny_bind (wpAny_isInstance (T := "StopIteration") (b := true) ⟨o, ho, hcls⟩ isSubtype_stop (wpAny_pure ⟨rfl, ?_⟩))
    exact I.turned (t' := s.toks) (fun b o hb q => hx' b o hb q) f0 f1 f3 f4 f5
  self := fun A i s Q E ⟨⟨_, he⟩, _⟩ h => wpAny_pyIter_enum he h
end Nz
namespace Nz
open PySem PySem.Spec PyProof.Rows L2
def iEnumT (K : PySem.W.Frag) (ta : TA) : TI := fun σ H R => ta σ H fun vs H1 => ∃ a xs, vs = [.ref a] ∧ SqT K H1 a xs ∧ R (IteT K a) H1
theorem pi_enumT {X : Cx} {e : Expr} {ta : TA} {p pos tpos : Pos} {elts : List Expr} {kk : Nat} (hg : Gl X "enumerate")
    (hm : X.mg "enumerate" = none) (ha : PA X [e] ta) (hs : starEach [e] X.env = [(false, eval e X.env)] := by rfl) :
    PI X (.Tuple elts kk tpos) (.Call (.Name "enumerate" p) [e] [] pos) (iEnumT X.K ta) := by
  refine ⟨fun pins s σ H R I h => Call_ (ld_blt I hg hm boot_enumerate (PyProof.Rows.callWith_type1 (thn (ha.run pos pins s σ H _ I h)
    fun us s1 ⟨vs, H1, I1, r1, a, xs, ex, hq, q⟩ => ?_) hs rfl))⟩
  subst ex
  rcases r1 with _ | ⟨r, rr⟩
  cases rr
  cases r
  obtain ⟨its, rv, p', hz⟩ := I1.tuple hq
  refine call_enumT (begins_tuple a its.toArray) (show s1.heap.IsTuple a its.toArray from p') fun g he hit hsz hk => wpAny_pyIter_enum he ?_
  have I2 : Inv X pins σ H1 { s1 with heap := g } := I1.kept (t' := s1.toks) hk
  refine ⟨s1.heap.objs.size + 1, [s1.heap.objs.size + 1, s1.heap.objs.size], _, _, H1, rfl, I2,
    turn_enumT a (s1.heap.objs.size + 1) s1.heap.objs.size, ⟨⟨.none, he⟩, ⟨_, hit, rfl, rfl⟩⟩, fun b hb => ?_, q⟩
  have hle : s1.heap.objs.size ≤ b := by
    rcases (show b = s1.heap.objs.size + 1 ∨ b = s1.heap.objs.size by simpa using hb) with z | z
    · rw [z]
      exact Nat.le_succ _
    · rw [z]
      exact Nat.le_refl _
  exact I1.fpOk hle (I1.hok.fresh hle)
end Nz
namespace Nz
open PySem PySem.Spec PyProof.Rows L2
/-! ### the text -/
def topS (i : Nat) : Stmt := PySem.Challenge.pw_oneofeach_k20_renamings.main.body.getD i (.Pass ⟨0, 0, 0, 0⟩)
abbrev sIsR : Stmt := topS 1
abbrev sInv : Stmt := topS 2
abbrev sFol : Stmt := topS 3
abbrev sCell : Stmt := topS 5
abbrev sDig : Stmt := topS 6
abbrev sRen : Stmt := topS 7
abbrev sLaw : Stmt := topS 8
theorem scIsR : FnScope ["names", "size"] ["names", "size"] (defScope sIsR) := ⟨rfl, rfl, rfl, by decide +kernel, rfl, by decide +kernel, by decide +kernel⟩
theorem scInv : FnScope ["renaming", "points", "point", "name"] ["renaming"] (defScope sInv) := ⟨rfl, rfl, rfl, by decide +kernel, rfl, by decide +kernel, by decide +kernel⟩
theorem scFol : FnScope ["first", "second", "name"] ["first", "second"] (defScope sFol) := ⟨rfl, rfl, rfl, by decide +kernel, rfl, by decide +kernel, by decide +kernel⟩
theorem scCell : FnScope ["script", "k"] ["script", "k"] (defScope sCell) := ⟨rfl, rfl, rfl, by decide +kernel, rfl, by decide +kernel, by decide +kernel⟩
theorem scDig : FnScope ["cell", "many", "count", "digits", "rest", "k", "mixed"] ["cell", "many", "count"] (defScope sDig) := ⟨rfl, rfl, rfl, by decide +kernel, rfl, by decide +kernel, by decide +kernel⟩
theorem scRen : FnScope ["cell", "size", "digits", "rest", "names", "k"] ["cell", "size"] (defScope sRen) := ⟨rfl, rfl, rfl, by decide +kernel, rfl, by decide +kernel, by decide +kernel⟩
theorem scLaw : FnScope ["script", "size", "first", "second", "back", "both", "odd", "names", "points", "k", "digit"] ["script"] (defScope sLaw) := ⟨rfl, rfl, rfl, by decide +kernel, rfl, by decide +kernel, by decide +kernel⟩
/-! ### the mathematics -/
def rng (n : Int) : List Int := (List.range n.toNat).map fun i => ((i : Nat) : Int)
theorem rng_length (n : Int) : (rng n).length = n.toNat := by
  unfold rng
  rw [List.length_map, List.length_range]
theorem rgV_rng (n : Int) : rgV 0 n = (rng n).map V.int := by
  unfold rgV rng
  rw [List.map_map, Int.sub_zero]
  refine List.map_congr_left fun i _ => ?_
  show V.int (0 + (i : Nat)) = V.int ((i : Nat) : Int)
  rw [Int.zero_add]
theorem rng_sorted (n : Int) : (rng n).Pairwise (· ≤ ·) := by
  unfold rng
  rw [List.pairwise_map]
  exact List.pairwise_lt_range.imp fun h => by omega
def isRen (ns : List Int) (n : Int) : Bool := (rng n).isPerm ns
theorem ren_eq {ns ms : List Int} (n : Int) (hp : ms.Perm ns) (hs : ms.Pairwise (· ≤ ·)) : decide (ms = rng n) = isRen ns n := by
  unfold isRen
  rw [Bool.eq_iff_iff, decide_eq_true_iff, List.isPerm_iff]
  exact ⟨fun e => e ▸ hp, fun h => PySem.W.ksm_same (hp.trans h.symm) hs (rng_sorted n)⟩
/-! ### data -/
theorem dpInts {K : PySem.W.Frag} {H : Hp} : ∀ ns : List Int, DpAll K H (ns.map V.int) (ns.map PyData.int)
  | [] => .nil
  | n :: r => .cons (.int n) (dpInts r)
theorem layInts : ∀ ns : List Int, PyData.canLayAll0 (ns.map PyData.int) = true
  | [] => by simp [PyData.canLayAll0]
  | n :: r => by simp [PyData.canLayAll0, PyData.canLay0, layInts r]
theorem depInts : ∀ ns : List Int, PyData.depthAll (ns.map PyData.int) ≤ 1
  | [] => by simp [PyData.depthAll]
  | n :: r => by
    have := depInts r
    simp [PyData.depthAll, PyData.depth]
    try omega
theorem shInts (ns : List Int) : SeqAt.shaped (.list (ns.map PyData.int)) = true := by
  have h := depInts ns
  have h2 : PyData.depthAll (ns.map PyData.int) + 1 ≤ 64 := by omega
  simpa [SeqAt.shaped, PyData.canLay0, layInts ns, PyData.depth] using h2
theorem shIntsT (ns : List Int) : SeqAt.shaped (.tuple (ns.map PyData.int)) = true := by
  have h := depInts ns
  have h2 : PyData.depthAll (ns.map PyData.int) + 1 ≤ 64 := by omega
  simpa [SeqAt.shaped, PyData.canLay0, layInts ns, PyData.depth] using h2
theorem eqvInts : ∀ ms ns : List Int, PyData.eqvAll (ms.map PyData.int) (ns.map PyData.int) = decide (ms = ns)
  | [], [] => by simp [PyData.eqvAll]
  | [], _ :: _ => by simp [PyData.eqvAll]
  | _ :: _, [] => by simp [PyData.eqvAll]
  | m :: r, n :: t => by
    simp only [List.map_cons, PyData.eqvAll, eqvInts r t]
    by_cases h : m = n <;> by_cases h2 : r = t <;> simp [h, h2, PyData.eqv]
theorem eqvL (ms ns : List Int) : PyData.eqv (.list (ms.map .int)) (.list (ns.map .int)) = decide (ms = ns) := by
  rw [← eqvInts]
  simp [PyData.eqv]
theorem eqvT (ms ns : List Int) : PyData.eqv (.tuple (ms.map .int)) (.tuple (ns.map .int)) = decide (ms = ns) := by
  rw [← eqvInts]
  simp [PyData.eqv]
end Nz
namespace Nz
open PySem PySem.Spec PyProof.Rows L2
section
variable {P : Program} {w : World} {K : PySem.W.Frag} {mg : Str → Option Value} {base : Heap}
theorem same_new {H : Hp} {p : Addr} {o : HO} (h : H p = none) : Same H (upd H p o) := fun b x e => by
  rw [upd_ne (ne_of_none e h)]
  exact e
theorem upd_more {H : Hp} {p : Addr} {o : HO} {ds : List Int} {d : Int} : upd (upd H p o) p (.lst (ds.map V.int ++ [.int d])) = upd H p (.lst ((ds ++ [d]).map V.int)) := by
  rw [upd_upd, List.map_append]
  rfl
/-! ### _law_cell -/
def spCell (K : PySem.W.Frag) : Sp := fun vs H Q _ => ∃ (a : Addr) (ns : List Int) (k : Nat), vs = [.ref a, .int k] ∧ SqL K H a (ns.map V.int) ∧ ns.length ≤ 63 ∧ ∀ c : Int, Q (.int c) H
theorem ok_cell {f : Addr} {fd : FuncData} {k : Nat} (F : Fun K "_law_cell" "_law_cell" sCell f fd) (ml : mg "len" = none) :
    FnOk P w K mg base CX0 (k + 1) f fd ["script", "k"] (spCell K) := by
  refine F.ok scCell (fun vs H Q E h => ?_) (fun cdv A outer s H vs Q E hr h => ?_)
  · obtain ⟨a, ns, k, rfl, _⟩ := h
    rfl
  obtain ⟨a, ns, k, rfl, hS, h63, q⟩ := h
  refine ⟨_, pss_cons (ps_if (pt_cmpR op_lt (pv 1) (pe_callB call_len_seq rfl ml PySem.boot_len (pa_cons (pv 0) pa_nil)) (nomark _))
      (pss_one (ps_ret (pe_ix ix_list (pv 0) (pv 1) (fun _ _ => rfl)))) pss_nil) (pss_one (ps_ret pe_int)), ?_⟩
  refine ⟨_, rfl, _, rfl, a, _, rfl, .inl hS, _, _, rfl, rfl, _, rfl, ?_⟩
  refine ite2 (fun c => ?_) (fun c => ?_)
  · have c' : (k : Int) < (((ns.map V.int).length : Nat) : Int) := of_decide_eq_true c
    rw [List.length_map] at c'
    have hk : k < ns.length := by omega
    exact ⟨_, rfl, _, rfl, a, _, _, _, rfl, rfl, hS, atI_nat (j := k) (by
      rw [List.getElem?_map, List.getElem?_eq_getElem hk]
      rfl), q _⟩
  · exact q 0
/-! ### _law_digits -/
def spDig (K : PySem.W.Frag) : Sp := fun vs H Q _ => ∃ (c many : Int) (n : Nat), vs = [.int c, .int many, .int n] ∧ 0 < many ∧ many < 1073741824 ∧ n ≤ 1000 ∧
  ∀ (ds : List Int) (p : Addr), ds.length = n → (∀ d ∈ ds, 0 ≤ d ∧ d < many) → H p = none → Q (.ref p) (upd H p (.lst (ds.map V.int)))
theorem ok_dig {f : Addr} {fd : FuncData} {k : Nat} (F : Fun K "_law_digits" "_law_digits" sDig f fd) (mr : mg "range" = none) (mi : mg "int" = none) :
    FnOk P w K mg base CX0 (k + 1) f fd ["cell", "many", "count"] (spDig K) := by
  refine F.ok scDig (fun vs H Q E h => ?_) (fun cdv A outer s H vs Q E hr h => ?_)
  · obtain ⟨c, many, n, rfl, _⟩ := h
    rfl
  obtain ⟨c, many, n, rfl, m0, m1, hn, q⟩ := h
  refine ⟨_, pss_cons (ps_set (i := 3) scDig.nd rfl (.inl rfl) (pe_lst pa_nil))
    (pss_cons (ps_set (i := 4) scDig.nd rfl (.inl rfl) (pv 0))
    (pss_cons (ps_for PassesOwn.never rfl (pi_range1 rfl mr (pa_cons (pv 2) pa_nil)) (pg_name (i := 5) scDig.nd rfl (.inl rfl))
      (pss_one (ps_if (pt_cmpR op_ge (pv 0) (pe_op op_pow pe_int pe_int) (nomark _))
        (pss_cons (ps_expr (pe_bm PySem.F.plainAttrs_list PySem.F.slot_list_append PySem.F.type_list_append mt_append (pv 3)
            (pa_cons (pe_op op_mod (pe_callTy call_int1 rfl mi (by decide +kernel) (pa_cons (pv 4) pa_nil)) (pv 1)) pa_nil)))
          (pss_one (ps_set (i := 4) scDig.nd rfl (.inl rfl) (pe_op op_fdiv (pv 4) (pv 1)))))
        (pss_cons (ps_set (i := 6) scDig.nd rfl (.inl rfl) (pe_op op_mod (pe_callTy call_int1 rfl mi (by decide +kernel)
            (pa_cons (pe_op op_add (pe_op op_add (pe_op op_mul (pv 0) pe_int) (pe_op op_mul (pv 5) pe_int)) pe_int) pa_nil)) pe_int))
          (pss_cons (ps_set (i := 6) scDig.nd rfl (.inl rfl) (pe_op op_mod (pe_callTy call_int1 rfl mi (by decide +kernel)
              (pa_cons (pe_op op_add (pe_op op_add (pe_op op_mul (pv 6) (pv 6)) (pe_op op_mul pe_int (pv 6))) (pv 5)) pa_nil)) pe_int))
            (pss_one (ps_expr (pe_bm PySem.F.plainAttrs_list PySem.F.slot_list_append PySem.F.type_list_append mt_append (pv 3)
              (pa_cons (pe_op op_mod (pe_callTy call_int1 rfl mi (by decide +kernel) (pa_cons (pe_op op_fdiv (pv 6) pe_int) pa_nil)) (pv 1)) pa_nil)))))))))
    (pss_one (ps_ret (pv 3))))), ?_⟩
  refine ⟨Nat.zero_le _, fun p np => ?_⟩
  refine ⟨.int c, rfl, .int n, rfl, n, rfl, by omega, by omega, ?_⟩
  refine for_range (lo := 0) (n := ((n : Nat) : Int).toNat) (fun i σ H1 => ∃ (r : Int) (kv mv : Option V) (ds : List Int),
      σ = [some (.int c), some (.int many), some (.int n), some (.ref p), some (.int r), kv, mv] ∧ ds.length = i ∧ (∀ d ∈ ds, 0 ≤ d ∧ d < many) ∧
      H1 = upd H p (.lst (ds.map V.int))) ⟨c, none, none, [], rfl, rfl, by simp, rfl⟩ ?_ ?_
  · rintro i σ H1 hi ⟨r, kv, mv, ds, rfl, hl, hd, rfl⟩
    have hi' : i < n := by omega
    have more : ∀ d : Int, 0 ≤ d → d < many → ∀ e ∈ ds ++ [d], 0 ≤ e ∧ e < many := fun d h1 h2 e he => by
      rcases List.mem_append.mp he with h | h
      · exact hd e h
      · rw [List.mem_singleton.mp h]
        exact ⟨h1, h2⟩
    have z : (ds.map V.int).length < sizeLine := by
      rw [List.length_map]
      exact small1000 (by omega)
    refine ⟨.int c, rfl, _, _, rfl, rfl, ⟨by decide, by decide, by decide⟩, _, _, rfl, rfl, _, rfl, ite2 (fun _ => ?_) (fun _ => ?_)⟩
    · refine ⟨.ref p, rfl, .inl ⟨rfl, _, .inl (.inl upd_same)⟩, .int r, rfl, .inl ⟨r, rfl, .int many, rfl, r, many, rfl, rfl, m0, p, _, _, rfl, rfl, upd_same, z, ?_⟩⟩
      refine ⟨.int r, rfl, .int many, rfl, r, many, rfl, rfl, ⟨m0, m1⟩, r / many, _, mv, ds ++ [r % many], rfl, by simp [hl],
        more _ (Int.emod_nonneg _ (by omega)) (Int.emod_lt_of_pos _ m0), ?_⟩
      rw [upd_upd, List.map_append]
      rfl
    · refine ⟨.int c, rfl, c, _, rfl, rfl, .inr ⟨by decide, by decide⟩, .int (0 + (i : Nat)), rfl, _, _, rfl, rfl, .inr ⟨by decide, by decide⟩, _, _, rfl, rfl, _, _, rfl, rfl,
        .inl ⟨_, rfl, _, _, rfl, rfl, (by decide : (0 : Int) < 2147483647), ?_⟩⟩
      refine ⟨_, rfl, _, rfl, _, _, rfl, rfl, .inl ⟨Int.lt_of_lt_of_le (by decide) (Int.emod_nonneg _ (by decide)), Int.lt_trans (Int.emod_lt_of_pos _ (by decide)) (by decide)⟩,
        _, rfl, _, _, rfl, rfl, .inl ⟨by decide, by decide⟩, _, _, rfl, rfl, .int (0 + (i : Nat)), rfl, _, _, rfl, rfl, .inl ⟨_, rfl, _, _, rfl, rfl, (by decide : (0 : Int) < 2147483629), ?_⟩⟩
      refine ⟨.ref p, rfl, .inl ⟨rfl, _, .inl (.inl upd_same)⟩, _, rfl, _, _, rfl, rfl, ⟨by decide, by decide⟩, .inl ⟨_, rfl, .int many, rfl, _, many, rfl, rfl, m0, p, _, _, rfl, rfl, upd_same, z, ?_⟩⟩
      refine ⟨r, _, _, ds ++ [_], rfl, by simp [hl], ?m, upd_more⟩
      exact more _ (Int.emod_nonneg _ (by omega)) (Int.emod_lt_of_pos _ m0)
  · rintro σ H1 ⟨r, kv, mv, ds, rfl, hl, hd, rfl⟩
    exact ⟨.ref p, rfl, q ds p (by omega) hd np⟩
end
end Nz
namespace Nz
open PySem PySem.Spec PyProof.Rows L2
theorem taken_perm {α : Type} {l : List α} {i : Nat} {y : α} (h : l[i]? = some y) : (y :: l.eraseIdx i).Perm l := by
  obtain ⟨hi, e⟩ := List.getElem?_eq_some_iff.mp h
  have e2 : l = l.take i ++ y :: l.drop (i + 1) := by
    rw [← e, ← List.drop_eq_getElem_cons hi, List.take_append_drop]
  rw [List.eraseIdx_eq_take_drop_succ]
  conv => rhs; rw [e2]
  exact List.perm_middle.symm
theorem pop_perm {α : Type} {ns rs all : List α} {i : Nat} {y : α} (h : rs[i]? = some y) (p : (ns ++ rs).Perm all) : ((ns ++ [y]) ++ rs.eraseIdx i).Perm all := by
  refine List.Perm.trans ?_ p
  rw [List.append_assoc]
  exact List.Perm.append_left ns (taken_perm h)
theorem mem_rng {n : Nat} {x : Int} (h : x ∈ rng n) : 0 ≤ x ∧ x < n := by
  unfold rng at h
  obtain ⟨i, hi, e⟩ := List.mem_map.mp h
  have := List.mem_range.mp hi
  omega
theorem nodup_rng (n : Int) : (rng n).Nodup := by
  unfold rng
  unfold List.Nodup
  rw [List.pairwise_map]
  exact List.pairwise_lt_range.imp fun h => by omega
theorem at_map {ns : List Int} {i : Nat} (h : i < ns.length) : (ns.map V.int)[i]? = some (.int ns[i]) := by
  rw [List.getElem?_map, List.getElem?_eq_getElem h]
  rfl
section
variable {P : Program} {w : World} {K : PySem.W.Frag} {mg : Str → Option Value} {base : Heap}
/-! ### _law_renaming -/
def spRen (K : PySem.W.Frag) : Sp := fun vs H Q _ => ∃ (c : Int) (n : Nat), vs = [.int c, .int n] ∧ n ≤ 1000 ∧
  ∀ (xs : List Int) (p : Addr) (H' : Hp), xs.Perm (rng n) → Same H H' → H p = none → H' p = some (.tup (xs.map V.int)) → Q (.ref p) H'
theorem ok_ren {f fD : Addr} {fd fdD : FuncData} {k : Nat} (F : Fun K "_law_renaming" "_law_renaming" sRen f fd)
    (GD : FnOk P w K mg base CX0 k fD fdD ["cell", "many", "count"] (spDig K)) (bD : Binds K fdD ["cell", "many", "count"] []) (kD : PySem.W.keepIn K (.ref fD) = true)
    (gD : mg "_law_digits" = some (.ref fD)) (mr : mg "range" = none) (mi : mg "int" = none) (mt : mg "tuple" = none) (ml : mg "list" = none) (mn : mg "len" = none) :
    FnOk P w K mg base CX0 (k + 1) f fd ["cell", "size"] (spRen K) := by
  refine F.ok scRen (fun vs H Q E h => ?_) (fun cdv A outer s H vs Q E hr h => ?_)
  · obtain ⟨c, n, rfl, _⟩ := h
    rfl
  obtain ⟨c, n, rfl, hn, q⟩ := h
  refine ⟨_, pss_cons (ps_set (i := 2) scRen.nd rfl (.inl rfl) (pe_call GD hr rfl gD kD bD .nil pass0 (pa_cons (pv 0) (pa_cons pe_int (pa_cons (pv 1) pa_nil)))))
    (pss_cons (ps_set (i := 3) scRen.nd rfl (.inl rfl) (pe_listRg rfl rfl ml (prg_1 rfl mr (pv 1))))
    (pss_cons (ps_set (i := 4) scRen.nd rfl (.inl rfl) (pe_lst pa_nil))
    (pss_cons (ps_for PassesOwn.never rfl (pi_range1 rfl mr (pa_cons (pv 1) pa_nil)) (pg_name (i := 5) scRen.nd rfl (.inl rfl))
      (pss_one (ps_expr (pe_bm PySem.F.plainAttrs_list PySem.F.slot_list_append PySem.F.type_list_append mt_append (pv 4)
        (pa_cons (pe_bm PySem.F.plainAttrs_list PySem.F.slot_list_pop PySem.F.type_list_pop mt_popAt (pv 3)
          (pa_cons (pe_op op_mod (pe_callTy call_int1 rfl mi (by decide +kernel) (pa_cons (pe_ix ix_list (pv 2) (pv 5) (fun _ _ => rfl)) pa_nil))
            (pe_callB call_len_seq rfl mn PySem.boot_len (pa_cons (pv 3) pa_nil))) pa_nil)) pa_nil)))))
    (pss_one (ps_ret (pe_callTy call_tuple_of rfl mt (by decide +kernel) (pa_cons (pv 4) pa_nil))))))), ?_⟩
  refine ⟨.int c, rfl, .int n, rfl, c, 60, n, rfl, by decide, by decide, hn, fun ds d hl hd nd => ?_⟩
  refine ⟨.int n, rfl, n, rfl, .of_le (by decide) (by omega) (by decide) (by omega), fun r nr => ?_⟩
  refine ⟨Nat.zero_le _, fun o no => ?_⟩
  refine ⟨.int n, rfl, n, rfl, by omega, by omega, ?_⟩
  rw [rgV_rng] at no ⊢
  have s1 : Same H (upd H d (.lst (ds.map V.int))) := same_new nd
  have s2 : Same _ (upd (upd H d (.lst (ds.map V.int))) r (.lst ((rng n).map V.int))) := same_new nr
  have s3 := same_new (o := .lst []) no
  have hrd : d ≠ r := fun z => by
    subst z
    rw [upd_same] at nr
    cases nr
  have hod : d ≠ o := fun z => by
    subst z
    rw [upd_ne hrd, upd_same] at no
    cases no
  have hor : r ≠ o := fun z => by
    subst z
    rw [upd_same] at no
    cases no
  have nr0 : H r = none := by
    rw [upd_ne hrd.symm] at nr
    exact nr
  have no0 : H o = none := by
    rw [upd_ne hor.symm, upd_ne hod.symm] at no
    exact no
  refine for_range (lo := 0) (n := ((n : Nat) : Int).toNat) (fun i σ H1 => ∃ (kv : Option V) (ns rs : List Int),
      σ = [some (.int c), some (.int n), some (.ref d), some (.ref r), some (.ref o), kv] ∧ ns.length = i ∧ (ns ++ rs).Perm (rng n) ∧
      Same H H1 ∧ H1 d = some (.lst (ds.map V.int)) ∧ H1 r = some (.lst (rs.map V.int)) ∧ H1 o = some (.lst (ns.map V.int)))
    ⟨none, [], rng n, rfl, rfl, .refl _, s1.trans (s2.trans s3), ?_, ?_, ?_⟩ ?_ ?_
  · rw [upd_ne hod, upd_ne hrd, upd_same]
  · rw [upd_ne hor, upd_same]
  · rw [upd_same]
    rfl
  · rintro i σ H1 hi ⟨kv, ns, rs, rfl, hln, hp, sm, eD, eR, eO⟩
    have hi' : i < n := by omega
    have hlr : rs.length = n - i := by
      have := hp.length_eq
      rw [List.length_append, rng_length] at this
      omega
    have hdi : i < ds.length := by omega
    have pos : 0 < (((rs.map V.int).length : Nat) : Int) := by
      rw [List.length_map]
      omega
    refine ⟨.ref o, rfl, .inl ⟨rfl, _, .inl (.inl eO)⟩, .ref r, rfl, .inl ⟨rfl, _, .inl (.inl eR)⟩, .ref d, rfl, .int (0 + (i : Nat)), rfl, d, _, _, .int ds[i], rfl, rfl, SqL.of eD, ?_, ?_⟩
    · rw [Int.zero_add]
      exact atI_nat (at_map hdi)
    refine .inl ⟨_, rfl, .ref r, rfl, r, _, rfl, .inl (SqL.of eR), _, _, rfl, rfl, pos, ?_⟩
    have k0 := Int.emod_nonneg ds[i] (show (((rs.map V.int).length : Nat) : Int) ≠ 0 by omega)
    have k1 := Int.emod_lt_of_pos ds[i] pos
    dsimp only
    generalize ds[i] % (((rs.map V.int).length : Nat) : Int) = j at k0 k1 ⊢
    rw [List.length_map] at k1
    have hj : j.toNat < rs.length := by omega
    refine ⟨r, rs.map V.int, j, j.toNat, .int rs[j.toNat], rfl, rfl, eR, by omega, by omega, seqIndex_of k0 (by rw [List.length_map]; exact k1), at_map hj, ?_⟩
    refine ⟨o, ns.map V.int, _, rfl, rfl, ?_, ?_, ?_⟩
    · rw [upd_ne hor.symm]
      exact eO
    · rw [List.length_map]
      exact small1000 (by omega)
    · refine ⟨_, ns ++ [rs[j.toNat]], rs.eraseIdx j.toNat, rfl, by simp [hln], pop_perm (List.getElem?_eq_getElem hj) hp, fun b u e => ?_, ?_, ?_, ?_⟩
      · rw [upd_ne (ne_of_none e no0), upd_ne (ne_of_none e nr0)]
        exact sm b u e
      · rw [upd_ne hod, upd_ne hrd]
        exact eD
      · rw [upd_ne hor, upd_same, List.eraseIdx_eq_take_drop_succ, List.eraseIdx_eq_take_drop_succ, List.map_append, List.map_take, List.map_drop]
      · rw [upd_same, List.map_append]
        rfl
  · rintro σ H1 ⟨kv, ns, rs, rfl, hln, hp, sm, eD, eR, eO⟩
    have hrs : rs = [] := by
      have := hp.length_eq
      rw [List.length_append, rng_length] at this
      exact List.length_eq_zero_iff.mp (by omega)
    subst hrs
    rw [List.append_nil] at hp
    refine ⟨.ref o, rfl, o, _, rfl, .inl ⟨SqL.of eO, fun t nt => ?_⟩⟩
    exact q ns t _ hp (sm.trans (same_new nt)) (sm.free nt) upd_same
/-! ### followed, inverted, is_renaming -/
theorem sameT {H H' : Hp} {a : Addr} {xs : List V} (e : Same H H') (h : SqT K H a xs) : SqT K H' a xs := by
  rcases h with (h | ⟨o, h⟩) | h
  · exact .inl (.inl (e _ _ h))
  · exact .inl (.inr ⟨o, e _ _ h⟩)
  · exact .inr h
def spFol (K : PySem.W.Frag) : Sp := fun vs H Q _ => ∃ (a b : Addr) (xs ys : List Int), vs = [.ref a, .ref b] ∧ SqT K H a (xs.map V.int) ∧ SqT K H b (ys.map V.int) ∧
  xs.length ≤ 1000 ∧ (∀ x ∈ xs, 0 ≤ x ∧ x < ys.length) ∧
  ∀ (p : Addr) (H' : Hp), Same H H' → H p = none → H' p = some (.tup ((xs.map fun x => ys.getD x.toNat 0).map V.int)) → Q (.ref p) H'
theorem ok_fol {f : Addr} {fd : FuncData} {k : Nat} (F : Fun K "followed" "followed" sFol f fd) (mt : mg "tuple" = none) :
    FnOk P w K mg base CX0 (k + 1) f fd ["first", "second"] (spFol K) := by
  refine F.ok scFol (fun vs H Q E h => ?_) (fun cdv A outer s H vs Q E hr h => ?_)
  · obtain ⟨a, b, xs, ys, rfl, _⟩ := h
    rfl
  obtain ⟨a, b, xs, ys, rfl, hA, hB, hl, hin, q⟩ := h
  refine ⟨_, pss_one (ps_ret (pe_callTy call_tuple_of rfl mt (by decide +kernel) (pa_cons
    (pe_lc (own := [("name", 2)]) (g := gName 2) rfl scFol.nd (pi_tup (pv 0)) (blkOk_by (own := [("name", 2)]) (N := ["first", "second", "name"]) (sc := defScope sFol) (by decide +kernel))
      (fun _ _ _ _ _ => pg_name (i := 2) scFol.nd rfl (.inl rfl)) (fun _ _ _ _ _ => pts_nil) (fun _ _ _ _ _ => pe_ix (r := rIxT K) ix_tup (pv 1) (pv 2) (fun _ _ => rfl))) pa_nil))), ?_⟩
  refine ⟨_, rfl, a, rfl, ⟨_, hA⟩, fun D nD => ?_⟩
  refine lc_tup (K := K) (xs := xs.map V.int) (fun i H1 => Same H H1 ∧ H1 D = some (.lst (((xs.map fun x => ys.getD x.toNat 0).take i).map V.int))) ⟨same_new nD, upd_same⟩ ?_ ?_ ?_
  · intro i H1 _ ⟨sm, _⟩
    exact sameT sm hA
  · rintro i x H1 hx ⟨sm, eD⟩
    rw [List.getElem?_map] at hx
    obtain ⟨x', hx', rfl⟩ := Option.map_eq_some_iff.mp hx
    obtain ⟨h0, h1⟩ := hin x' (List.mem_of_getElem? hx')
    have hk : x'.toNat < ys.length := by omega
    have ex : ((x'.toNat : Nat) : Int) = x' := by omega
    have hy := atI_nat (at_map (ns := ys) hk)
    rw [ex] at hy
    refine ⟨rfl, _, rfl, _, rfl, b, _, _, _, rfl, rfl, sameT sm hB, hy, ((xs.map fun x => ys.getD x.toNat 0).take i).map V.int, eD, ?_, fun c u e => ?_, ?_⟩
    · rw [List.length_map, List.length_take, List.length_map]
      exact small1000 (by omega)
    · rw [upd_ne (ne_of_none e nD)]
      exact sm c u e
    · rw [upd_same, List.take_add_one, List.getElem?_map, hx', List.map_append]
      simp [List.getElem?_eq_getElem hk]
  · rintro H1 ⟨sm, eD⟩
    rw [List.take_of_length_le (by simp)] at eD
    exact ⟨D, _, rfl, .inl ⟨SqL.of eD, fun t nt => q t _ (sm.trans (same_new nt)) (sm.free nt) upd_same⟩⟩
def spIsR (K : PySem.W.Frag) : Sp := fun vs H Q _ => ∃ (a : Addr) (ns : List Int) (n : Nat), vs = [.ref a, .int n] ∧ SqT K H a (ns.map V.int) ∧ ns.length < 64 ∧ n ≤ 1000 ∧
  ∀ H' : Hp, Same H H' → Q (.bl (isRen ns n)) H'
theorem ok_isR {f : Addr} {fd : FuncData} {k : Nat} (F : Fun K "is_renaming" "is_renaming" sIsR f fd) (ms : mg "sorted" = none) (ml : mg "list" = none) (mr : mg "range" = none) :
    FnOk P w K mg base CX0 (k + 1) f fd ["names", "size"] (spIsR K) := by
  refine F.ok scIsR (fun vs H Q E h => ?_) (fun cdv A outer s H vs Q E hr h => ?_)
  · obtain ⟨a, ns, n, rfl, _⟩ := h
    rfl
  obtain ⟨a, ns, n, rfl, hA, h64, hn, q⟩ := h
  refine ⟨_, pss_one (ps_ret (pe_cmpR (op_eqD hr.units) (pe_callB cr_sortTup rfl ms (by decide +kernel) (pa_cons (pv 0) pa_nil)) (pe_listRg rfl rfl ml (prg_1 rfl mr (pv 1))) (nomark _))), ?_⟩
  refine ⟨_, rfl, a, ns, rfl, hA, h64, fun os p hp hs np => ?_⟩
  refine ⟨_, rfl, n, rfl, .of_le (by decide) (by omega) (by decide) (by omega), fun r nr => ?_⟩
  rw [rgV_rng] at *
  have hrp : p ≠ r := fun z => by
    subst z
    rw [upd_same] at nr
    cases nr
  refine ⟨.list (os.map .int), .list ((rng n).map .int), .lst (SqL.of (by rw [upd_ne hrp, upd_same])) (dpInts os), .lst (SqL.of upd_same) (dpInts _), shInts _, shInts _, ?_⟩
  rw [eqvL, ren_eq n hp hs]
  exact q _ ((same_new np).trans (same_new nr))
end
end Nz
namespace Nz
open PySem PySem.Spec PyProof.Rows L2
theorem walk_enumT {K : PySem.W.Frag} {a : Addr} {xs : List V} : Walk (IteT K a) xs.length (fun H => SqT K H a xs) (YPair (fun i => some (.int (i : Nat))) (fun i => xs[i]?)) :=
  ⟨fun i H hi h => ⟨xs, xs[i], h, List.getElem?_eq_getElem hi⟩, fun H h => ⟨xs, h, Nat.le_refl _⟩, fun i H v H' hi h ⟨T, x, e, n, eH, f⟩ => ⟨T, .int i, x, e, n, eH, rfl, f xs h⟩⟩
theorem ixN_in {n : Nat} {i : Int} (h0 : 0 ≤ i) (h1 : i < n) : ixN n i = some i.toNat := by
  unfold ixN
  rw [if_pos h0, if_pos h1]
theorem rep_zero (n : Nat) : (List.replicate n [V.int 0]).flatten = (List.replicate n (0 : Int)).map V.int := by
  induction n with
  | zero => rfl
  | succ n ih => rw [List.replicate_succ, List.replicate_succ, List.flatten_cons, ih]; rfl
theorem nodup_at {xs : List Int} (h : xs.Nodup) {i j : Nat} (hi : i < xs.length) (hj : j < xs.length) (e : xs[i] = xs[j]) : i = j := by
  have p := List.pairwise_iff_getElem.mp h
  rcases Nat.lt_trichotomy i j with c | c | c
  · exact absurd e (p i j hi hj c)
  · exact c
  · exact absurd e.symm (p j i hj hi c)
/-- what an inverted renaming is -/
def Back (xs ys : List Int) (i : Nat) : Prop := ys.length = xs.length ∧ ∀ j x, j < i → xs[j]? = some x → ys[x.toNat]? = some ((j : Nat) : Int)
theorem back_step {xs ys : List Int} {i : Nat} {x : Int} (hp : xs.Perm (rng xs.length)) (hx : xs[i]? = some x) (h : Back xs ys i) : Back xs (ys.set x.toNat ((i : Nat) : Int)) (i + 1) := by
  obtain ⟨hl, hb⟩ := h
  have nd : xs.Nodup := hp.nodup_iff.mpr (nodup_rng _)
  have r1 := mem_rng (hp.mem_iff.mp (List.mem_of_getElem? hx))
  refine ⟨by rw [List.length_set, hl], fun j y hj hy => ?_⟩
  have r2 := mem_rng (hp.mem_iff.mp (List.mem_of_getElem? hy))
  by_cases e : j = i
  · subst e
    rw [hx] at hy
    cases hy
    rw [List.getElem?_set_self (by omega)]
  · have ne : x.toNat ≠ y.toNat := fun z => by
      have exy : x = y := by omega
      subst exy
      obtain ⟨q1, e1⟩ := List.getElem?_eq_some_iff.mp hx
      obtain ⟨q2, e2⟩ := List.getElem?_eq_some_iff.mp hy
      exact e (nodup_at nd q2 q1 (e2.trans e1.symm))
    rw [List.getElem?_set_ne ne]
    exact hb j y (by omega) hy
section
variable {P : Program} {w : World} {K : PySem.W.Frag} {mg : Str → Option Value} {base : Heap}
def spInv (K : PySem.W.Frag) : Sp := fun vs H Q _ => ∃ (a : Addr) (xs : List Int), vs = [.ref a] ∧ SqT K H a (xs.map V.int) ∧ xs.length ≤ 1000 ∧ xs.Perm (rng xs.length) ∧
  ∀ (ys : List Int) (p : Addr) (H' : Hp), Back xs ys xs.length → Same H H' → H p = none → H' p = some (.tup (ys.map V.int)) → Q (.ref p) H'
theorem ok_inv {f : Addr} {fd : FuncData} {k : Nat} (F : Fun K "inverted" "inverted" sInv f fd) (mn : mg "len" = none) (me : mg "enumerate" = none) (mt : mg "tuple" = none) :
    FnOk P w K mg base CX0 (k + 1) f fd ["renaming"] (spInv K) := by
  refine F.ok scInv (fun vs H Q E h => ?_) (fun cdv A outer s H vs Q E hr h => ?_)
  · obtain ⟨a, xs, rfl, _⟩ := h
    rfl
  obtain ⟨a, xs, rfl, hA, hl, hp, q⟩ := h
  refine ⟨_, pss_cons (ps_set (i := 1) scInv.nd rfl (.inl rfl) (pe_op op_rep (pe_lst (pa_cons pe_int pa_nil)) (pe_callB call_len_seq rfl mn PySem.boot_len (pa_cons (pv 0) pa_nil))))
    (pss_cons (ps_for PassesOwn.never rfl (pi_enumT rfl me (pa_cons (pv 0) pa_nil))
        (pg_tup rfl (pgs_cons (pg_name (i := 2) scInv.nd rfl (.inl rfl)) (pgs_cons (pg_name (i := 3) scInv.nd rfl (.inl rfl)) pgs_nil)))
      (pss_one (ps_asg (pv 2) (pg_sub (pv 1) (pv 3) set_list))))
    (pss_one (ps_ret (pe_callTy call_tuple_of rfl mt (by decide +kernel) (pa_cons (pv 1) pa_nil))))), ?_⟩
  refine ⟨by decide, fun z nz => ?_⟩
  have s1 : Same H (upd H z (.lst [.int 0])) := same_new nz
  refine ⟨_, rfl, a, _, rfl, .inr (sameT s1 hA), z, _, [.int 0], rfl, rfl, upd_same, by omega, by rw [List.length_map]; omega, ?_, fun p np => ?_⟩
  · rw [List.length_map, Int.toNat_natCast, List.length_singleton, Nat.one_mul]
    exact Nat.le_of_lt (small1000 hl)
  rw [List.length_map, Int.toNat_natCast, rep_zero] at *
  have s2 := s1.trans (same_new (o := .lst ((List.replicate xs.length (0 : Int)).map V.int)) np)
  have np0 : H p = none := s1.free np
  refine ⟨_, rfl, a, _, rfl, sameT s2 hA, ?_⟩
  refine for_it (walk_enumT (xs := xs.map V.int)) (fun i σ H1 => ∃ (kv nv : Option V) (ys : List Int), σ = [some (.ref a), some (.ref p), kv, nv] ∧ Same H H1 ∧ Back xs ys i ∧ H1 p = some (.lst (ys.map V.int)))
    ⟨none, none, _, rfl, s2, ⟨by simp, fun j x hj _ => absurd hj (Nat.not_lt_zero _)⟩, upd_same⟩ ?_ ?_ ?_
  · rintro i σ H1 _ ⟨kv, nv, ys, rfl, sm, _⟩
    exact sameT sm hA
  · rintro i v σ H1 H2 hi ⟨kv, nv, ys, rfl, sm, hb, eP⟩ ⟨T, x1, x2, rfl, nT, rfl, f1, f2⟩
    cases f1
    have f2 : (xs.map V.int)[i]? = some x2 := f2
    rw [List.getElem?_map] at f2
    obtain ⟨x, hx, rfl⟩ := Option.map_eq_some_iff.mp f2
    have r1 := mem_rng (hp.mem_iff.mp (List.mem_of_getElem? hx))
    have nTp : p ≠ T := ne_of_none eP nT
    refine ⟨T, _, rfl, .inl (.inl upd_same), rfl, _, _, rfl, _, _, rfl, rfl, ?_⟩
    refine ⟨_, rfl, _, rfl, _, rfl, p, _, x, _, rfl, rfl, (by rw [upd_ne nTp]; exact eP), ixN_in r1.1 (by rw [List.length_map, hb.1]; exact r1.2), ?_⟩
    refine ⟨_, _, ys.set x.toNat ((i : Nat) : Int), rfl, fun b u e => ?_, back_step hp hx hb, ?_⟩
    · rw [upd_ne (ne_of_none e np0)]
      exact same_new nT b u (sm b u e)
    · rw [upd_same, List.map_set]
  · rintro σ H1 ⟨kv, nv, ys, rfl, sm, hb, eP⟩
    rw [List.length_map] at hb
    exact ⟨_, rfl, p, _, rfl, .inl ⟨SqL.of eP, fun t nt => q ys t _ hb (sm.trans (same_new nt)) (sm.free nt) upd_same⟩⟩
end
end Nz
namespace Nz
open PySem PySem.Spec PyProof.Rows L2
theorem slA_read {K : PySem.W.Frag} {a : Addr} {ns : List Int} {lo hi : Option Int} {H : Hp} {Q : VK} (h : SqT K H a (ns.map V.int))
    (q : ∀ p (ms : List Int) H', Same H H' → SqT K H' p (ms.map V.int) → ms.length ≤ ns.length → Q (.ref p) H') : rSlA K (.ref a) lo hi H Q := by
  refine ⟨a, _, rfl, h, fun _ => q a ns H (Same.refl H) h (Nat.le_refl _), fun _ p np => ?_⟩
  have e : cutV (ns.map V.int) lo hi = (((ns.drop (HT.sIx (ns.map V.int).length 0 lo)).take (HT.sIx (ns.map V.int).length (ns.map V.int).length hi - HT.sIx (ns.map V.int).length 0 lo))).map V.int := by
    unfold cutV
    rw [List.map_take, List.map_drop]
  rw [e]
  refine q p _ _ (same_new np) (SqT.of upd_same) ?_
  rw [List.length_take, List.length_drop]
  omega
theorem catA_read {K : PySem.W.Frag} {a b : Addr} {ns ms : List Int} {H : Hp} {Q : VK} (h1 : SqT K H a (ns.map V.int)) (h2 : SqT K H b (ms.map V.int)) (hz : ns.length + ms.length ≤ 1000)
    (q : ∀ p (xs : List Int) H', Same H H' → SqT K H' p (xs.map V.int) → xs.length ≤ ns.length + ms.length → Q (.ref p) H') : rCatA K (.ref a) (.ref b) H Q := by
  refine ⟨a, b, _, _, rfl, rfl, h1, h2, ?_, fun _ => q b ms H (Same.refl H) h2 (Nat.le_add_left _ _), fun _ _ => q a ns H (Same.refl H) h1 (Nat.le_add_right _ _), fun _ _ p np => ?_⟩
  · rw [List.length_map, List.length_map]
    exact Nat.le_of_lt (small1000 hz)
  · rw [← List.map_append]
    refine q p _ _ (same_new np) (SqT.of upd_same) ?_
    rw [List.length_append]
    omega
/-- a tuple of few ints -/
def Few (K : PySem.W.Frag) (H : Hp) (x : V) : Prop := ∃ q ns, x = .ref q ∧ SqT K H q (List.map V.int ns) ∧ ns.length < 64
theorem Few.same {K : PySem.W.Frag} {H H' : Hp} {x : V} (e : Same H H') (h : Few K H x) : Few K H' x :=
  let ⟨q, ns, ex, hs, hl⟩ := h
  ⟨q, ns, ex, sameT e hs, hl⟩
def spLaw (K : PySem.W.Frag) : Sp := fun vs H Q _ => ∃ (a : Addr) (ns : List Int), vs = [.ref a] ∧ SqL K H a (ns.map V.int) ∧ ns.length ≤ 63 ∧ ∀ H', Q (.bl true) H'
section
variable {P : Program} {w : World} {K : PySem.W.Frag} {mg : Str → Option Value} {base : Heap}
set_option maxHeartbeats 2000000 in
theorem ok_law {f f1 f2 f3 f4 f5 f6 : Addr} {fd fd1 fd2 fd3 fd4 fd5 fd6 : FuncData} (F : Fun K "law" "law" sLaw f fd)
    (G1 : FnOk P w K mg base CX0 1 f1 fd1 ["names", "size"] (spIsR K)) (b1 : Binds K fd1 ["names", "size"] []) (k1 : PySem.W.keepIn K (.ref f1) = true) (g1 : mg "is_renaming" = some (.ref f1))
    (G2 : FnOk P w K mg base CX0 1 f2 fd2 ["renaming"] (spInv K)) (b2 : Binds K fd2 ["renaming"] []) (k2 : PySem.W.keepIn K (.ref f2) = true) (g2 : mg "inverted" = some (.ref f2))
    (G3 : FnOk P w K mg base CX0 1 f3 fd3 ["first", "second"] (spFol K)) (b3 : Binds K fd3 ["first", "second"] []) (k3 : PySem.W.keepIn K (.ref f3) = true) (g3 : mg "followed" = some (.ref f3))
    (G4 : FnOk P w K mg base CX0 1 f4 fd4 ["script", "k"] (spCell K)) (b4 : Binds K fd4 ["script", "k"] []) (k4 : PySem.W.keepIn K (.ref f4) = true) (g4 : mg "_law_cell" = some (.ref f4))
    (G5 : FnOk P w K mg base CX0 1 f5 fd5 ["cell", "many", "count"] (spDig K)) (b5 : Binds K fd5 ["cell", "many", "count"] []) (k5 : PySem.W.keepIn K (.ref f5) = true) (g5 : mg "_law_digits" = some (.ref f5))
    (G6 : FnOk P w K mg base CX0 2 f6 fd6 ["cell", "size"] (spRen K)) (b6 : Binds K fd6 ["cell", "size"] []) (k6 : PySem.W.keepIn K (.ref f6) = true) (g6 : mg "_law_renaming" = some (.ref f6))
    (mi : mg "int" = none) (mis : mg "isinstance" = none) (mt : mg "tuple" = none) (mn : mg "len" = none) (ma : mg "all" = none) (mr : mg "range" = none) (mm : mg "min" = none) (ms : mg "sorted" = none) (ml : mg "list" = none) :
    FnOk P w K mg base CX0 3 f fd ["script"] (spLaw K) := by
  refine F.ok scLaw (fun vs H Q E h => ?_) (fun cdv A outer s H vs Q E hr h => ?_)
  · obtain ⟨a, ns, rfl, _⟩ := h
    rfl
  obtain ⟨a, ns, rfl, hS, h63, q⟩ := h
  have hr1 := hr.mono (show 1 ≤ 2 by decide)
  refine ⟨_, pss_cons (ps_set (i := 1) scLaw.nd rfl (.inl rfl) (pe_op op_mod (pe_callTy call_int1 rfl mi (by decide +kernel) (pa_cons (pe_call G4 hr1 rfl g4 k4 b4 .nil pass0 (pa_cons (pv 0) (pa_cons pe_int pa_nil))) pa_nil)) pe_int))
    (pss_cons (ps_set (i := 2) scLaw.nd rfl (.inr rfl) (pe_call G6 hr rfl g6 k6 b6 .nil pass0 (pa_cons (pe_call G4 hr1 rfl g4 k4 b4 .nil pass0 (pa_cons (pv 0) (pa_cons pe_int pa_nil))) (pa_cons (pv 1) pa_nil))))
    (pss_cons (ps_set (i := 3) scLaw.nd rfl (.inr rfl) (pe_call G6 hr rfl g6 k6 b6 .nil pass0 (pa_cons (pe_call G4 hr1 rfl g4 k4 b4 .nil pass0 (pa_cons (pv 0) (pa_cons pe_int pa_nil))) (pa_cons (pv 1) pa_nil))))
    (pss_cons (ps_set (i := 4) scLaw.nd rfl (.inr rfl) (pe_call G2 hr1 rfl g2 k2 b2 .nil pass0 (pa_cons (pv 2) pa_nil)))
    (pss_cons (ps_if (PW.pt (pw_or (pt_not (pt_val (pe_callB call_isi rfl mis (by decide +kernel) (pa_cons (pv 4) (pa_cons (pe_bltn (v := .ty "tuple") (u := .type "tuple") rfl mt (by decide +kernel) rfl) pa_nil)))))
        (pw_or1 (pt_cmpR op_ne (pe_callB call_len_seq rfl mn PySem.boot_len (pa_cons (pv 4) pa_nil)) (pv 1) (nomark _))))) (pss_one (ps_ret pe_bl)) pss_nil)
    (pss_cons (ps_if (pt_not (pt_val (pe_callB (cr_all rfl) rfl ma (by decide +kernel) (pa_cons
        (pe_lc (own := [("k", 9)]) (g := gName 9) rfl scLaw.nd (pi_range1 rfl mr (pa_cons (pv 1) pa_nil)) (blkOk_by (own := [("k", 9)]) (N := ["script", "size", "first", "second", "back", "both", "odd", "names", "points", "k", "digit"]) (sc := defScope sLaw) (by decide +kernel))
          (fun _ _ _ _ _ => pg_name (i := 9) scLaw.nd rfl (.inl rfl)) (fun _ _ _ _ _ => pts_nil)
          (fun _ _ _ _ _ => pe_cmpR op_eq (pe_ix (r := rIxT K) ix_tup (pv 4) (pe_ix (r := rIxT K) ix_tup (pv 2) (pv 9) (fun _ _ => rfl)) (fun _ _ => rfl)) (pv 9) (nomark _))) pa_nil)))) (pss_one (ps_ret pe_bl)) pss_nil)
    (pss_cons (ps_set (i := 5) scLaw.nd rfl (.inl rfl) (pe_call G3 hr1 rfl g3 k3 b3 .nil pass0 (pa_cons (pv 2) (pa_cons (pv 3) pa_nil))))
    (pss_cons (ps_if (PW.pt (pw_or (pt_not (pt_val (pe_callB call_isi rfl mis (by decide +kernel) (pa_cons (pv 5) (pa_cons (pe_bltn (v := .ty "tuple") (u := .type "tuple") rfl mt (by decide +kernel) rfl) pa_nil)))))
        (pw_or1 (pt_cmpR (op_neD hr.units) (pv 5) (pe_callTy call_tuple_of rfl mt (by decide +kernel) (pa_cons
          (pe_lc (own := [("k", 9)]) (g := gName 9) rfl scLaw.nd (pi_range1 rfl mr (pa_cons (pv 1) pa_nil)) (blkOk_by (own := [("k", 9)]) (N := ["script", "size", "first", "second", "back", "both", "odd", "names", "points", "k", "digit"]) (sc := defScope sLaw) (by decide +kernel))
            (fun _ _ _ _ _ => pg_name (i := 9) scLaw.nd rfl (.inl rfl)) (fun _ _ _ _ _ => pts_nil)
            (fun _ _ _ _ _ => pe_ix (r := rIxT K) ix_tup (pv 3) (pe_ix (r := rIxT K) ix_tup (pv 2) (pv 9) (fun _ _ => rfl)) (fun _ _ => rfl))) pa_nil)) (nomark _))))) (pss_one (ps_ret pe_bl)) pss_nil)
    (pss_cons (ps_set (i := 6) scLaw.nd rfl (.inl rfl) (pe_callTy call_tuple_of rfl mt (by decide +kernel) (pa_cons
        (pe_lc (own := [("digit", 10)]) (g := gName 10) rfl scLaw.nd (pi_list (pe_call G5 hr1 rfl g5 k5 b5 .nil pass0 (pa_cons (pe_call G4 hr1 rfl g4 k4 b4 .nil pass0 (pa_cons (pv 0) (pa_cons pe_int pa_nil))) (pa_cons pe_int (pa_cons (pv 1) pa_nil)))))
          (blkOk_by (own := [("digit", 10)]) (N := ["script", "size", "first", "second", "back", "both", "odd", "names", "points", "k", "digit"]) (sc := defScope sLaw) (by decide +kernel))
          (fun _ _ _ _ _ => pg_name (i := 10) scLaw.nd rfl (.inl rfl)) (fun _ _ _ _ _ => pts_nil)
          (fun _ _ _ _ _ => pe_op op_sub (pe_callTy call_int1 rfl mi (by decide +kernel) (pa_cons (pv 10) pa_nil)) pe_int)) pa_nil)))
    (pss_cons (ps_for PassesOwn.never rfl (pi_list (pe_lst (pa_cons (pv 2) (pa_cons (pv 6) (pa_cons (pe_slice sl_tupA (pv 2) (po_some pe_int) po_none)
          (pa_cons (pe_op op_catA (pv 2) (pe_tup (pa_cons (pv 1) pa_nil))) (pa_cons (pe_op op_catA (pv 2) (pe_slice sl_tupA (pv 2) po_none (po_some pe_int)))
          (pa_cons (pe_op op_catA (pv 6) (pe_tup (pa_cons pe_int pa_nil))) pa_nil)))))))) (pg_name (i := 7) scLaw.nd rfl (.inl rfl))
      (pss_one (ps_for PassesOwn.never rfl (pi_list (pe_lst (pa_cons (pv 1) (pa_cons (pe_callB (call_min2 rfl) rfl mm (by decide +kernel) (pa_cons pe_int (pa_cons (pe_op op_add (pv 1) pe_int) pa_nil))) pa_nil)))) (pg_name (i := 8) scLaw.nd rfl (.inl rfl))
        (pss_cons (ps_if (PW.pt (pw_and (pt_cmpR op_notBl (pe_call G1 hr1 rfl g1 k1 b1 .nil pass0 (pa_cons (pv 7) (pa_cons (pv 8) pa_nil))) pe_bl (nomark _))
            (pw_and1 (pt_cmpR (op_eqD hr.units) (pe_callB cr_sortTup rfl ms (by decide +kernel) (pa_cons (pv 7) pa_nil)) (pe_listRg rfl rfl ml (prg_1 rfl mr (pv 8))) (nomark _))))) (pss_one (ps_ret pe_bl)) pss_nil)
        (pss_one (ps_if (PW.pt (pw_and (pt_cmpR op_notBl (pe_call G1 hr1 rfl g1 k1 b1 .nil pass0 (pa_cons (pv 7) (pa_cons (pv 8) pa_nil))) pe_bl (nomark _))
            (pw_and1 (pt_cmpR (op_neD hr.units) (pe_callB cr_sortTup rfl ms (by decide +kernel) (pa_cons (pv 7) pa_nil)) (pe_listRg rfl rfl ml (prg_1 rfl mr (pv 8))) (nomark _))))) (pss_one (ps_ret pe_bl)) pss_nil))))))
    (pss_one (ps_ret pe_bl))))))))))), ?_⟩
  -- size
  refine ⟨.ref a, rfl, a, ns, 0, rfl, hS, h63, fun c0 => .inl ⟨c0, rfl, c0, 8, rfl, rfl, (by decide : (0 : Int) < 8), ?_⟩⟩
  dsimp only
  obtain ⟨n, hn, hn8⟩ : ∃ n : Nat, c0 % 8 = n ∧ n < 8 := ⟨(c0 % 8).toNat, by omega, by omega⟩
  rw [hn]
  -- first, second
  refine ⟨.ref a, rfl, a, ns, 1, rfl, hS, h63, fun c1 => ⟨.int n, rfl, c1, n, rfl, by omega, fun xs p1 H1 pm1 s1 np1 e1 => ?_⟩⟩
  refine ⟨.ref a, rfl, a, ns, 2, rfl, s1.seq hS, h63, fun c2 => ⟨.int n, rfl, c2, n, rfl, by omega, fun zs p2 H2 pm2 s2 np2 e2 => ?_⟩⟩
  have lx : xs.length = n := by
    rw [pm1.length_eq, rng_length]
    omega
  have lz : zs.length = n := by
    rw [pm2.length_eq, rng_length]
    omega
  -- back
  refine ⟨.ref p1, rfl, p1, xs, rfl, SqT.of (s2 _ _ e1), by omega, by rw [lx]; exact pm1, fun ys p3 H3 hb s3 np3 e3 => ?_⟩
  refine ⟨.ref p3, rfl, .ref p3, .ty "tuple", .type "tuple", .type "tuple", true, rfl, .ty _, .base (.tup e3), kit_ty (by decide +kernel), true, rfl, iteF ?_⟩
  refine ⟨.ref p3, rfl, p3, _, rfl, .inr (SqT.of e3), .int n, rfl, rfl, _, rfl, iteNS (by rw [List.length_map, hb.1, lx]) ?_⟩
  have sx3 : SqT K H3 p1 (xs.map V.int) := SqT.of (s3 _ _ (s2 _ _ e1))
  have sy3 : SqT K H3 p3 (ys.map V.int) := SqT.of e3
  -- all(..)
  refine ⟨.int n, rfl, n, rfl, by omega, by omega, fun D nD => ?_⟩
  refine lc_range (lo := 0) (n := ((n : Nat) : Int).toNat) (fun i H4 => Same H3 H4 ∧ H4 D = some (.lst ((List.replicate i true).map V.bl))) ⟨same_new nD, upd_same⟩ ?_ ?_
  · rintro i H4 hi ⟨sm, eD⟩
    have hi' : i < n := by omega
    have hx : i < xs.length := by omega
    have r1 := mem_rng (pm1.mem_iff.mp (List.getElem_mem hx))
    have hy := hb.2 i xs[i] hx (List.getElem?_eq_getElem hx)
    have ax : atI (xs.map V.int) (0 + (i : Nat)) = some (.int xs[i]) := by
      rw [Int.zero_add]
      exact atI_nat (at_map hx)
    have ay : atI (ys.map V.int) xs[i] = some (.int (i : Nat)) := by
      have ex : ((xs[i].toNat : Nat) : Int) = xs[i] := by omega
      rw [← ex]
      refine atI_nat ?_
      rw [List.getElem?_map, hy]
      rfl
    refine ⟨rfl, .ref p3, rfl, .ref p1, rfl, .int (0 + (i : Nat)), rfl, p1, _, _, _, rfl, rfl, sameT sm sx3, ax, p3, _, _, _, rfl, rfl, sameT sm sy3, ay, .int (0 + (i : Nat)), rfl, rfl,
      (List.replicate i true).map V.bl, eD, ?_, fun b u e => ?_, ?_⟩
    · rw [List.length_map, List.length_replicate]
      exact small1000 (by omega)
    · rw [upd_ne (ne_of_none e nD)]
      exact sm b u e
    · have e0 : (decide (V.int (i : Nat) = V.int (0 + (i : Nat)))) = true := by
        rw [Int.zero_add]
        exact decide_eq_true rfl
      rw [upd_same, List.replicate_succ', List.map_append, e0]
      rfl
  rintro H4 ⟨s4, e4⟩
  have all1 : (List.replicate ((n : Nat) : Int).toNat true).all id = true := by simp
  refine ⟨D, List.replicate ((n : Nat) : Int).toNat true, rfl, SqL.of e4, true, by rw [all1], iteF ?_⟩
  -- both
  have fit : ∀ x ∈ xs, 0 ≤ x ∧ x < zs.length := fun x hx => by
    have := mem_rng (pm1.mem_iff.mp hx)
    omega
  have sx4 := sameT s4 sx3
  have sz4 : SqT K H4 p2 (zs.map V.int) := SqT.of (s4 _ _ (s3 _ _ e2))
  refine ⟨.ref p1, rfl, .ref p2, rfl, p1, p2, xs, zs, rfl, sx4, sz4, by omega, fit, fun p5 H5 s5 np5 e5 => ?_⟩
  refine ⟨.ref p5, rfl, .ref p5, .ty "tuple", .type "tuple", .type "tuple", true, rfl, .ty _, .base (.tup e5), kit_ty (by decide +kernel), true, rfl, iteF ?_⟩
  refine ⟨.ref p5, rfl, .int n, rfl, n, rfl, by omega, by omega, fun D2 nD2 => ?_⟩
  have sx5 := sameT s5 sx4
  have sz5 := sameT s5 sz4
  refine lc_range (lo := 0) (n := ((n : Nat) : Int).toNat) (fun i H6 => Same H5 H6 ∧ H6 D2 = some (.lst (((xs.map fun x => zs.getD x.toNat 0).take i).map V.int))) ⟨same_new nD2, upd_same⟩ ?_ ?_
  · rintro i H6 hi ⟨sm, eD⟩
    have hx : i < xs.length := by omega
    obtain ⟨r0, r1⟩ := fit _ (List.getElem_mem hx)
    have hk : xs[i].toNat < zs.length := by omega
    have ax : atI (xs.map V.int) (0 + (i : Nat)) = some (.int xs[i]) := by
      rw [Int.zero_add]
      exact atI_nat (at_map hx)
    have az : atI (zs.map V.int) xs[i] = some (.int zs[xs[i].toNat]) := by
      have ex : ((xs[i].toNat : Nat) : Int) = xs[i] := by omega
      have := atI_nat (at_map hk)
      rw [ex] at this
      exact this
    refine ⟨rfl, .ref p2, rfl, .ref p1, rfl, .int (0 + (i : Nat)), rfl, p1, _, _, _, rfl, rfl, sameT sm sx5, ax, p2, _, _, _, rfl, rfl, sameT sm sz5, az,
      ((xs.map fun x => zs.getD x.toNat 0).take i).map V.int, eD, ?_, fun b u e => ?_, ?_⟩
    · rw [List.length_map, List.length_take]
      exact small1000 (by omega)
    · rw [upd_ne (ne_of_none e nD2)]
      exact sm b u e
    · rw [upd_same, List.take_add_one, List.getElem?_map, List.getElem?_eq_getElem hx, List.map_append]
      simp [List.getElem?_eq_getElem hk]
  rintro H6 ⟨s6, e6⟩
  rw [List.take_of_length_le (by simp; omega)] at e6
  refine ⟨D2, _, rfl, .inl ⟨SqL.of e6, fun t nt => ?_⟩⟩
  have s7 : Same H6 (upd H6 t (.tup ((xs.map fun x => zs.getD x.toNat 0).map V.int))) := same_new nt
  refine ⟨.tuple ((xs.map fun x => zs.getD x.toNat 0).map .int), .tuple ((xs.map fun x => zs.getD x.toNat 0).map .int), .tup (SqT.of (s7 _ _ (s6 _ _ e5))) (dpInts _), .tup (SqT.of upd_same) (dpInts _),
    shIntsT _, shIntsT _, _, rfl, ?_⟩
  rw [eqvT, decide_eq_true rfl]
  refine iteF ?_
  have s17 : Same H1 _ := s2.trans (s3.trans (s4.trans (s5.trans (s6.trans s7))))
  generalize upd H6 t (.tup ((xs.map fun x => zs.getD x.toNat 0).map V.int)) = H7 at s17
  have sS7 : SqL K H7 a (ns.map V.int) := s17.seq (s1.seq hS)
  have sx7 : SqT K H7 p1 (xs.map V.int) := SqT.of (s17 _ _ e1)
  clear s7 s6 s5 s4 e4 e6 nt
  -- odd
  refine ⟨.ref a, rfl, a, ns, 3, rfl, sS7, h63, fun c3 => ⟨.int n, rfl, c3, 9, n, rfl, by decide, by decide, by omega, fun ds d hl _ nd => ?_⟩⟩
  have s8 : Same H7 (upd H7 d (.lst (ds.map V.int))) := same_new nd
  refine ⟨d, rfl, ⟨_, SqL.of upd_same⟩, fun D3 nD3 => ?_⟩
  refine lc_list (K := K) (a := d) (xs := ds.map V.int) (fun i H8 => Same (upd H7 d (.lst (ds.map V.int))) H8 ∧ H8 D3 = some (.lst (((ds.map fun x => x - 1).take i).map V.int))) ⟨same_new nD3, upd_same⟩ ?_ ?_ ?_
  · intro i H8 _ ⟨sm, _⟩
    exact sm.seq (SqL.of upd_same)
  · rintro i x H8 hx ⟨sm, eD⟩
    rw [List.getElem?_map] at hx
    obtain ⟨x', hx', rfl⟩ := Option.map_eq_some_iff.mp hx
    refine ⟨rfl, .int x', rfl, .inl ⟨x', rfl, x', 1, rfl, rfl, ((ds.map fun x => x - 1).take i).map V.int, eD, ?_, fun b u e => ?_, ?_⟩⟩
    · rw [List.length_map, List.length_take, List.length_map]
      exact small1000 (by omega)
    · rw [upd_ne (ne_of_none e nD3)]
      exact sm b u e
    · rw [upd_same, List.take_add_one, List.getElem?_map, hx', List.map_append]
      rfl
  rintro H8 ⟨s9, e9⟩
  rw [List.take_of_length_le (by simp)] at e9
  refine ⟨D3, _, rfl, .inl ⟨SqL.of e9, fun o no => ?_⟩⟩
  have s10 : Same H7 (upd H8 o (.tup ((ds.map fun x => x - 1).map V.int))) := s8.trans (s9.trans (same_new no))
  have so : SqT K (upd H8 o (.tup ((ds.map fun x => x - 1).map V.int))) o ((ds.map fun x => x - 1).map V.int) := SqT.of upd_same
  have sx : SqT K (upd H8 o (.tup ((ds.map fun x => x - 1).map V.int))) p1 (xs.map V.int) := sameT s10 sx7
  have lo : (ds.map fun x => x - 1).length = n := by
    rw [List.length_map]
    exact hl
  generalize upd H8 o (.tup ((ds.map fun x => x - 1).map V.int)) = H9 at so sx
  generalize (ds.map fun x => x - 1) = os at so lo
  clear s8 s9 s10 e9 no nd nD3 nD2 nD
  -- the list of tuples
  refine ⟨.ref p1, rfl, .ref o, rfl, .ref p1, rfl, 1, rfl, ?_⟩
  dsimp only [tNoPart]
  refine slA_read sx fun q3 m3 K1 t1 u3 l3 => ?_
  refine ⟨.ref p1, rfl, .int n, rfl, (by show 1 ≤ sizeLine; decide), fun q4 nq4 => ?_⟩
  have t2 : Same K1 (upd K1 q4 (.tup [.int n])) := same_new nq4
  refine catA_read (ms := [(n : Int)]) (sameT (t1.trans t2) sx) (SqT.of upd_same) (by simp; omega) fun q5 m5 K2 t3 u5 l5 => ?_
  refine ⟨.ref p1, rfl, .ref p1, rfl, 1, rfl, ?_⟩
  dsimp only [tNoPart]
  refine slA_read (sameT (t1.trans (t2.trans t3)) sx) fun q6 m6 K3 t4 u6 l6 => ?_
  refine catA_read (sameT (t1.trans (t2.trans (t3.trans t4))) sx) u6 (by omega) fun q7 m7 K4 t5 u7 l7 => ?_
  refine ⟨.ref o, rfl, (by show 1 ≤ sizeLine; decide), fun q8 nq8 => ?_⟩
  have t6 : Same K4 (upd K4 q8 (.tup [.int 0])) := same_new nq8
  refine catA_read (ms := [(0 : Int)]) (sameT (t1.trans (t2.trans (t3.trans (t4.trans (t5.trans t6))))) so) (SqT.of upd_same) (by simp; omega) fun q9 m9 K5 t7 u9 l9 => ?_
  have l5 : m5.length ≤ xs.length + 1 := l5
  have l9 : m9.length ≤ os.length + 1 := l9
  have T1 : Same H9 K5 := t1.trans (t2.trans (t3.trans (t4.trans (t5.trans (t6.trans t7)))))
  have T3 : Same K1 K5 := t2.trans (t3.trans (t4.trans (t5.trans (t6.trans t7))))
  have T5 : Same K2 K5 := t4.trans (t5.trans (t6.trans t7))
  have T7 : Same K4 K5 := t6.trans t7
  have few : ∀ x ∈ [V.ref p1, .ref o, .ref q3, .ref q5, .ref q7, .ref q9], Few K K5 x := by
    intro x hx
    simp only [List.mem_cons, List.not_mem_nil, or_false] at hx
    rcases hx with rfl | rfl | rfl | rfl | rfl | rfl
    · exact ⟨_, _, rfl, sameT T1 sx, by omega⟩
    · exact ⟨_, _, rfl, sameT T1 so, by omega⟩
    · exact ⟨_, _, rfl, sameT T3 u3, by omega⟩
    · exact ⟨_, _, rfl, sameT T5 u5, by omega⟩
    · exact ⟨_, _, rfl, sameT T7 u7, by omega⟩
    · exact ⟨_, _, rfl, u9, by omega⟩
  clear T1 T3 T5 T7 t1 t2 t3 t4 t5 t6 t7 u3 u5 u6 u7 u9
  refine ⟨(by show 6 ≤ sizeLine; decide), fun l nl => ?_⟩
  refine ⟨l, rfl, ⟨_, SqL.of upd_same⟩, ?_⟩
  have sl : Same K5 (upd K5 l (.lst [V.ref p1, .ref o, .ref q3, .ref q5, .ref q7, .ref q9])) := same_new nl
  refine for_list (K := K) (a := l) (D := { nx := tRet (tC (.bl true)) { nx := fun _ H' => Q .non H', rt := Q }, rt := Q }) (xs := [V.ref p1, .ref o, .ref q3, .ref q5, .ref q7, .ref q9])
    (fun i σ H' => ∃ v7 v8, σ = [some (.ref a), some (.int n), some (.ref p1), some (.ref p2), some (.ref p3), some (.ref p5), some (.ref o), v7, v8, none, none] ∧
      Same (upd K5 l (.lst [V.ref p1, .ref o, .ref q3, .ref q5, .ref q7, .ref q9])) H') ⟨none, none, rfl, Same.refl _⟩ ?_ ?_ ?_
  · rintro i σ H' _ ⟨v7, v8, _, sm⟩
    exact sm.seq (SqL.of upd_same)
  · rintro i x σ H' hx ⟨v7, v8, rfl, sm⟩
    obtain ⟨q0, ns0, rfl, hs, lt⟩ := (few x (List.mem_of_getElem? hx)).same (sl.trans sm)
    refine ⟨.int n, rfl, .int n, rfl, n, 1, rfl, rfl, 7, _, rfl, (by show 2 ≤ sizeLine; decide), fun l2 nl2 => ?_⟩
    refine ⟨l2, rfl, ⟨_, SqL.of upd_same⟩, ?_⟩
    have small : ∀ y ∈ [V.int n, V.int (if ((n : Nat) : Int) + 1 < 7 then (n : Int) + 1 else 7)], ∃ m : Nat, y = .int m ∧ m ≤ 1000 := by
      intro y hy
      simp only [List.mem_cons, List.not_mem_nil, or_false] at hy
      rcases hy with rfl | rfl
      · exact ⟨n, rfl, by omega⟩
      · split
        · exact ⟨n + 1, rfl, by omega⟩
        · exact ⟨7, rfl, by omega⟩
    have sl2 := same_new (o := .lst [V.int n, V.int (if ((n : Nat) : Int) + 1 < 7 then (n : Int) + 1 else 7)]) nl2
    refine for_list (K := K) (a := l2) (xs := [V.int n, V.int (if ((n : Nat) : Int) + 1 < 7 then (n : Int) + 1 else 7)])
      (fun i σ H'' => ∃ v8, σ = [some (.ref a), some (.int n), some (.ref p1), some (.ref p2), some (.ref p3), some (.ref p5), some (.ref o), some (.ref q0), v8, none, none] ∧
        Same (upd H' l2 (.lst [V.int n, V.int (if ((n : Nat) : Int) + 1 < 7 then (n : Int) + 1 else 7)])) H'') ⟨v8, rfl, Same.refl _⟩ ?_ ?_ ?_
    · rintro i σ H'' _ ⟨v8, _, sm⟩
      exact sm.seq (SqL.of upd_same)
    · rintro i y σ J hy ⟨v8, rfl, sJ⟩
      obtain ⟨m, rfl, hm⟩ := small y (List.mem_of_getElem? hy)
      have hJ : SqT K J q0 (ns0.map V.int) := sameT (sl2.trans sJ) hs
      refine ⟨.ref q0, rfl, .int m, rfl, q0, ns0, m, rfl, hJ, lt, hm, fun J1 j1 => ⟨isRen ns0 m, true, rfl, rfl, _, rfl, ?_⟩⟩
      have two : ∀ J2, Same J J2 → isRen ns0 m = true ∨ isRen ns0 m = false := fun _ _ => by
        cases isRen ns0 m
        · exact .inr rfl
        · exact .inl rfl
      cases hb0 : isRen ns0 m with
      | true =>
        refine iteF (iteF ?_)
        refine ⟨.ref q0, rfl, .int m, rfl, q0, ns0, m, rfl, sameT j1 hJ, lt, hm, fun J2 j2 => ⟨isRen ns0 m, false, rfl, rfl, _, rfl, ?_⟩⟩
        rw [hb0]
        refine iteT ?_
        refine ⟨.ref q0, rfl, q0, ns0, rfl, sameT (j1.trans j2) hJ, lt, fun os p hp hsr np => ?_⟩
        refine ⟨.int m, rfl, m, rfl, .of_le (by decide) (by omega) (by decide) (by omega), fun r nr => ?_⟩
        have hrp : p ≠ r := fun z => by
          subst z
          rw [upd_same] at nr
          cases nr
        have e := ren_eq m hp hsr
        rw [hb0] at e
        refine ⟨.list (os.map .int), .list ((rng m).map .int), .lst (SqL.of (by rw [upd_ne hrp, upd_same])) (dpInts os), .lst (SqL.of (by rw [rgV_rng]; exact upd_same)) (dpInts _), shInts _, shInts _, _, rfl, ?_⟩
        rw [eqvL, e]
        refine iteF ?_
        exact ⟨_, rfl, sJ.trans (j1.trans (j2.trans ((same_new np).trans (same_new nr))))⟩
      | false =>
        refine iteT ?_
        refine ⟨.ref q0, rfl, q0, ns0, rfl, sameT j1 hJ, lt, fun os p hp hsr np => ?_⟩
        refine ⟨.int m, rfl, m, rfl, .of_le (by decide) (by omega) (by decide) (by omega), fun r nr => ?_⟩
        have hrp : p ≠ r := fun z => by
          subst z
          rw [upd_same] at nr
          cases nr
        have e := ren_eq m hp hsr
        rw [hb0] at e
        refine ⟨.list (os.map .int), .list ((rng m).map .int), .lst (SqL.of (by rw [upd_ne hrp, upd_same])) (dpInts os), .lst (SqL.of (by rw [rgV_rng]; exact upd_same)) (dpInts _), shInts _, shInts _, _, rfl, ?_⟩
        rw [eqvL, e]
        refine iteF ?_
        have j3 := j1.trans ((same_new (o := .lst (os.map V.int)) np).trans (same_new (o := .lst (rgV 0 m)) nr))
        refine ⟨.ref q0, rfl, .int m, rfl, q0, ns0, m, rfl, sameT j3 hJ, lt, hm, fun J2 j2 => ⟨isRen ns0 m, false, rfl, rfl, _, rfl, ?_⟩⟩
        rw [hb0]
        refine iteF (iteF ?_)
        exact ⟨_, rfl, sJ.trans (j3.trans j2)⟩
    · rintro σ H'' ⟨v8, rfl, sm2⟩
      exact ⟨_, _, rfl, sm.trans (sl2.trans sm2)⟩
  · rintro σ H' ⟨v7, v8, rfl, sm⟩
    exact q H'
end
end Nz
namespace Nz
open PySem PySem.Spec PyProof.Rows L2
/-! ### what the top has left; the end -/
theorem all_mk {l : PySem.W.OpenLaw} {w : World} {K : PySem.W.Frag} {h : Heap} {mg : Str → Option Value} {fa f1 f2 f3 f4 f5 f6 f7 : Addr} (X : K.In h) (G : h.Ns mainGlobals mg) (hfa : mg "law" = some (.ref fa))
    {od1 an1 od2 an2 od3 an3 od4 an4 od5 an5 od6 an6 od7 an7 : Option Addr} {sl1 sl2 sl3 sl4 sl5 sl6 sl7 : Array (Option Value)} {oc1 kV1 dc1 pm1 cd1 ct1 oc2 kV2 dc2 pm2 cd2 ct2 oc3 kV3 dc3 pm3 cd3 ct3 oc4 kV4 dc4 pm4 cd4 ct4 oc5 kV5 dc5 pm5 cd5 ct5 oc6 kV6 dc6 pm6 cd6 ct6 oc7 kV7 dc7 pm7 cd7 ct7 : Value}
    (a1 : PySem.W.nsIn K mainGlobals "is_renaming" = some (some (.ref f1)))
    (l1 : K.lookup f1 = some ⟨oc1, od1, .func (PySem.W.fnOf "is_renaming" "is_renaming" (defArgs sIsR) (defBody sIsR) (defScope sIsR) .none kV1 dc1 pm1 an1 cd1 ct1), sl1⟩)
    (c1 : PySem.W.codeIn K cd1 "is_renaming" = true) (k1 : PySem.W.keepIn K (.ref f1) = true)
    (a2 : PySem.W.nsIn K mainGlobals "inverted" = some (some (.ref f2)))
    (l2 : K.lookup f2 = some ⟨oc2, od2, .func (PySem.W.fnOf "inverted" "inverted" (defArgs sInv) (defBody sInv) (defScope sInv) .none kV2 dc2 pm2 an2 cd2 ct2), sl2⟩)
    (c2 : PySem.W.codeIn K cd2 "inverted" = true) (k2 : PySem.W.keepIn K (.ref f2) = true)
    (a3 : PySem.W.nsIn K mainGlobals "followed" = some (some (.ref f3)))
    (l3 : K.lookup f3 = some ⟨oc3, od3, .func (PySem.W.fnOf "followed" "followed" (defArgs sFol) (defBody sFol) (defScope sFol) .none kV3 dc3 pm3 an3 cd3 ct3), sl3⟩)
    (c3 : PySem.W.codeIn K cd3 "followed" = true) (k3 : PySem.W.keepIn K (.ref f3) = true)
    (a4 : PySem.W.nsIn K mainGlobals "_law_cell" = some (some (.ref f4)))
    (l4 : K.lookup f4 = some ⟨oc4, od4, .func (PySem.W.fnOf "_law_cell" "_law_cell" (defArgs sCell) (defBody sCell) (defScope sCell) .none kV4 dc4 pm4 an4 cd4 ct4), sl4⟩)
    (c4 : PySem.W.codeIn K cd4 "_law_cell" = true) (k4 : PySem.W.keepIn K (.ref f4) = true)
    (a5 : PySem.W.nsIn K mainGlobals "_law_digits" = some (some (.ref f5)))
    (l5 : K.lookup f5 = some ⟨oc5, od5, .func (PySem.W.fnOf "_law_digits" "_law_digits" (defArgs sDig) (defBody sDig) (defScope sDig) .none kV5 dc5 pm5 an5 cd5 ct5), sl5⟩)
    (c5 : PySem.W.codeIn K cd5 "_law_digits" = true) (k5 : PySem.W.keepIn K (.ref f5) = true)
    (a6 : PySem.W.nsIn K mainGlobals "_law_renaming" = some (some (.ref f6)))
    (l6 : K.lookup f6 = some ⟨oc6, od6, .func (PySem.W.fnOf "_law_renaming" "_law_renaming" (defArgs sRen) (defBody sRen) (defScope sRen) .none kV6 dc6 pm6 an6 cd6 ct6), sl6⟩)
    (c6 : PySem.W.codeIn K cd6 "_law_renaming" = true) (k6 : PySem.W.keepIn K (.ref f6) = true)
    (a7 : PySem.W.nsIn K mainGlobals "law" = some (some (.ref f7)))
    (l7 : K.lookup f7 = some ⟨oc7, od7, .func (PySem.W.fnOf "law" "law" (defArgs sLaw) (defBody sLaw) (defScope sLaw) .none kV7 dc7 pm7 an7 cd7 ct7), sl7⟩)
    (c7 : PySem.W.codeIn K cd7 "law" = true) (k7 : PySem.W.keepIn K (.ref f7) = true)
    (z_sorted : PySem.W.nsIn K mainGlobals "sorted" = some none) (z_list : PySem.W.nsIn K mainGlobals "list" = some none) (z_range : PySem.W.nsIn K mainGlobals "range" = some none) (z_len : PySem.W.nsIn K mainGlobals "len" = some none) (z_enumerate : PySem.W.nsIn K mainGlobals "enumerate" = some none) (z_tuple : PySem.W.nsIn K mainGlobals "tuple" = some none) (z_int : PySem.W.nsIn K mainGlobals "int" = some none) (z_isinstance : PySem.W.nsIn K mainGlobals "isinstance" = some none) (z_all : PySem.W.nsIn K mainGlobals "all" = some none) (z_min : PySem.W.nsIn K mainGlobals "min" = some none) :
    ∃ fd : FuncData, (∀ (s : Shared) (v : Value), BindsTo s fd ⟨[v], []⟩ [("script", v)]) ∧ ∀ base : Heap, K.In base → base.Ns mainGlobals mg → FnOk l.prog w K mg base CX0 3 fa fd ["script"] (spLaw K) := by
  have e := hfa.symm.trans (PySem.W.mg_of X G a7)
  cases e
  have F1 := fun_mk (st := sIsR) l1 c1 k1
  have g1 := PySem.W.mg_of X G a1
  have F2 := fun_mk (st := sInv) l2 c2 k2
  have g2 := PySem.W.mg_of X G a2
  have F3 := fun_mk (st := sFol) l3 c3 k3
  have g3 := PySem.W.mg_of X G a3
  have F4 := fun_mk (st := sCell) l4 c4 k4
  have g4 := PySem.W.mg_of X G a4
  have F5 := fun_mk (st := sDig) l5 c5 k5
  have g5 := PySem.W.mg_of X G a5
  have F6 := fun_mk (st := sRen) l6 c6 k6
  have g6 := PySem.W.mg_of X G a6
  have F7 := fun_mk (st := sLaw) l7 c7 k7
  have g7 := PySem.W.mg_of X G a7
  have m_sorted := PySem.W.mg_none_of X G z_sorted
  have m_list := PySem.W.mg_none_of X G z_list
  have m_range := PySem.W.mg_none_of X G z_range
  have m_len := PySem.W.mg_none_of X G z_len
  have m_enumerate := PySem.W.mg_none_of X G z_enumerate
  have m_tuple := PySem.W.mg_none_of X G z_tuple
  have m_int := PySem.W.mg_none_of X G z_int
  have m_isinstance := PySem.W.mg_none_of X G z_isinstance
  have m_all := PySem.W.mg_none_of X G z_all
  have m_min := PySem.W.mg_none_of X G z_min
  have b1 := F1.binds (ps := ["names", "size"]) fun _ _ _ _ _ _ us hl => match us, hl with | [_, _], _ => rfl
  have b2 := F2.binds (ps := ["renaming"]) fun _ _ _ _ _ _ us hl => match us, hl with | [_], _ => rfl
  have b3 := F3.binds (ps := ["first", "second"]) fun _ _ _ _ _ _ us hl => match us, hl with | [_, _], _ => rfl
  have b4 := F4.binds (ps := ["script", "k"]) fun _ _ _ _ _ _ us hl => match us, hl with | [_, _], _ => rfl
  have b5 := F5.binds (ps := ["cell", "many", "count"]) fun _ _ _ _ _ _ us hl => match us, hl with | [_, _, _], _ => rfl
  have b6 := F6.binds (ps := ["cell", "size"]) fun _ _ _ _ _ _ us hl => match us, hl with | [_, _], _ => rfl
  refine ⟨PySem.W.fnOf "law" "law" (defArgs sLaw) (defBody sLaw) (defScope sLaw) .none kV7 dc7 pm7 an7 cd7 ct7, fun s v => .of_eq rfl, fun base _ _ => ?_⟩
  exact ok_law F7 (ok_isR F1 m_sorted m_list m_range) b1 k1 g1 (ok_inv F2 m_len m_enumerate m_tuple) b2 k2 g2 (ok_fol F3 m_tuple) b3 k3 g3
    (ok_cell F4 m_len) b4 k4 g4 (ok_dig F5 m_range m_int) b5 k5 g5 (ok_ren F6 (ok_dig F5 m_range m_int) b5 k5 g5 m_range m_int m_tuple m_list m_len) b6 k6 g6
    m_int m_isinstance m_tuple m_len m_all m_range m_min m_sorted m_list
end Nz
open PySem PySem.W PyProof.Rows
set_option maxHeartbeats 0 in
theorem PySem.Challenge.cw_oneofeach_k20_renamings_holds : PySem.Challenge.rw_oneofeach_k20_renamings.Holds := by
  w_on; o_law; k_head; (case hw => w_witness2)
  k_fill
  refine L2.walk_of (l := PySem.Challenge.rw_oneofeach_k20_renamings) (n := 63) (k := 3) (x := "script") (CX := fun _ => L2.CX0) (sp := fun w => Nz.spLaw _) rfl (by decide) rfl ⟨rfl, by decide, by decide⟩
    (fun w h Y => PySem.W.kIn_of Y) ?F (fun _ _ a ns hl _ hS => ⟨a, ns, rfl, hS, hl, fun _ => rfl⟩) (fun _ _ _ _ _ h => h)
  case F =>
    intro w mg fa h KX G hmg
    refine' Nz.all_mk KX G hmg ?a1 ?l1 ?c1 ?k1 ?a2 ?l2 ?c2 ?k2 ?a3 ?l3 ?c3 ?k3 ?a4 ?l4 ?c4 ?k4 ?a5 ?l5 ?c5 ?k5 ?a6 ?l6 ?c6 ?k6 ?a7 ?l7 ?c7 ?k7 ?z_sorted ?z_list ?z_range ?z_len ?z_enumerate ?z_tuple ?z_int ?z_isinstance ?z_all ?z_min
    (case a1 => k_is)
    (case l1 => k_is)
    (case c1 => k_is)
    (case k1 => k_is)
    (case a2 => k_is)
    (case l2 => k_is)
    (case c2 => k_is)
    (case k2 => k_is)
    (case a3 => k_is)
    (case l3 => k_is)
    (case c3 => k_is)
    (case k3 => k_is)
    (case a4 => k_is)
    (case l4 => k_is)
    (case c4 => k_is)
    (case k4 => k_is)
    (case a5 => k_is)
    (case l5 => k_is)
    (case c5 => k_is)
    (case k5 => k_is)
    (case a6 => k_is)
    (case l6 => k_is)
    (case c6 => k_is)
    (case k6 => k_is)
    (case a7 => k_is)
    (case l7 => k_is)
    (case c7 => k_is)
    (case k7 => k_is)
    (case z_sorted => k_is)
    (case z_list => k_is)
    (case z_range => k_is)
    (case z_len => k_is)
    (case z_enumerate => k_is)
    (case z_tuple => k_is)
    (case z_int => k_is)
    (case z_isinstance => k_is)
    (case z_all => k_is)
    (case z_min => k_is)

