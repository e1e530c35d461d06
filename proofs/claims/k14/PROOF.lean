import PyProof.Rows.All
import Wide.All
import OpenK.AllK
import Wide.FinOn
import HandS.ForMost
import HandS.IsInst
import HandS.Codes
import HandS.Conv
import HandS.Style
import KE.GoesEnum
import KE.GoesZip
import KE.GoesMore
import HandS.MapObj
import KE.KFromBytes
import HandS.Exc
import KE.KExcIs
import KE.KExcSuper
import HandS.Base
import HandS.Call
import HandS.ForSpec
import HandS.TryMany
import HandS.Lambda
import KE.KDflt
import HandS.DictComp
import HandS.DictTup
import HandS.WordsList
import HandS.Star
import HandS.MakeKw
import HandS.SortKw
import KE.GoesEnumKw
import HandS.Iter
import KE.KDictWalk
import HandS.Deep
import HandS.TupAny
import KE.KDictZip
import KE.KDictKeyed
import HandS.SetFor
import HandS.Strs
import HandS.TupMul
import HandS.Zip
import HandS.DictEq
import HandS.FStr
import HandS.TupSets
import HandS.SetBool
import HandS.SortRule
import HandS.SortInts
import HandS.NamedTupSort
import HandS.List
import PySem.Challenge.RW_signcleave_k14_rings_and_cuts_told
set_option Elab.async false
set_option linter.all false
set_option maxRecDepth 100000
namespace ET
open PySem PySem.Spec PyProof.Rows L2
/-! enumerate(t), t a tuple -/
theorem new_enumT {t : Addr} {items : Array Value} :
    Meets (Builtin.«enumerate.__new__» ⟨[.type "enumerate", .ref t], []⟩)
      (fun _ R s => s.heap.IsTuple t items ∧ R (.ok (.ret (.ref (s.heap.objs.size + 1))))
        { s with heap := (s.heap.push { cls := .type "tuple_iterator", data := .fields #[.ref t, .int 0 0] }).push { cls := .type "enumerate", data := .fields #[.none, .bool false, .ref s.heap.objs.size, rawInt 0, .none, .none] } }) :=
  .of_wp fun prog w A R s hyp => by
    obtain ⟨hp, g, d, tk, os⟩ := s
    obtain ⟨isT, rr⟩ := hyp
    have isSub := sub_enumerate
    have it1 : ∀ {A' : Around} {E Q : Value → Shared → Prop}, Q (.ref hp.objs.size) ⟨hp.push { cls := .type "tuple_iterator", data := .fields #[.ref t, .int 0 0] }, g, d, tk, os⟩ → wpAny (model prog w) A' (pyIter (.ref t)) Q E ⟨hp, g, d, tk, os⟩ :=
      fun q => wpAny_pyIter_tuple isT q
    have hz : (hp.push { cls := .type "tuple_iterator", data := .fields #[.ref t, .int 0 0] }).objs.size = hp.objs.size + 1 := Heap.size_push ..
    wp_walk using it1
    refine wpAny_stack_any fun st => wpAny_pure ?_
    split
    · rename_i c _ _ _ _ _
      cases (c == Value.type "enumerate") <;> (wp_walk using it1; rw [hz]; exact ⟨_, rfl, rr⟩)
    · wp_walk using it1
      rw [hz]
      exact ⟨_, rfl, rr⟩
theorem call_enumT {prog : Program} {w : World} {A : Around} {E : Value → Shared → Prop} {s : Shared} {t : Addr} {items : Array Value} {Q : Value → Shared → Prop} (isT : s.heap.IsTuple t items)
    (h : ∀ h', IsEnum h' (s.heap.objs.size + 1) s.heap.objs.size 0 .none → h'.IsTupleIter s.heap.objs.size t 0 →
      (∀ b o, s.heap.get? b = some o → h'.get? b = some o) → Q (.ref (s.heap.objs.size + 1)) { s with heap := h' }) :
    wpAny (model prog w) A (call (.type "enumerate") [.ref t]) Q E s := by
  refine callType_new F.called_enumerate (by decide) (F.typeCall_enumerate_1 _) (F.newCall_enumerate_1 _) (fun obj => F.args_object_init_2 obj _) F.entry_enumerate_new (new_enumT (items := items)) ⟨isT, ?_⟩
  have hz : (s.heap.push { cls := .type "tuple_iterator", data := .fields #[.ref t, .int 0 0] }).objs.size = s.heap.objs.size + 1 := Heap.size_push ..
  have he : ∀ o, o.isFreed = false → ((s.heap.push { cls := .type "tuple_iterator", data := .fields #[.ref t, .int 0 0] }).push o).get? (s.heap.objs.size + 1) = some o := fun o hf => by
    have q := Heap.get?_push_size (s.heap.push { cls := .type "tuple_iterator", data := .fields #[.ref t, .int 0 0] }) (o := o) hf
    rw [hz] at q
    exact q
  exact ⟨⟨_, he _ rfl, rfl⟩, h _ (he _ rfl) ⟨_, Heap.get?_push_of_some _ (Heap.get?_push_size _ rfl), rfl, rfl⟩ fun b o x => Heap.get?_push_of_some _ (Heap.get?_push_of_some _ x)⟩
/-- the tuple at a, item by item, each in a new pair -/
def IteT (K : PySem.W.Frag) (a : Addr) : It where
  go := fun i H => ∃ (xs : List V) (x : V), SqT K H a xs ∧ xs[i]? = some x
  yld := fun i H v H' => ∃ T x, v = .ref T ∧ H T = none ∧ H' = upd H T (.tup [.int (i : Nat), x]) ∧ ∀ xs, SqT K H a xs → xs[i]? = some x
  stop := fun i H => ∃ xs : List V, SqT K H a xs ∧ xs.length ≤ i
theorem turn_enumT {P : Program} {w : World} {K : PySem.W.Frag} {elts : List Expr} {kk : Nat} {tpos : Pos} (a e it : Addr) (hai : a ≠ it) (hae : a ≠ e) (hei : e ≠ it) :
    Turn P w K (.Tuple elts kk tpos) (IteT K a) [e, it] e (fun i h => (∃ old, IsEnum h e it ((i : Nat) : Int) old) ∧ h.IsTupleIter it a i) where
  mem := List.mem_cons_self
  obj := fun i h st b hb => by
    obtain ⟨⟨old, he⟩, o, ho, hc, hd⟩ := st
    rcases List.mem_cons.mp hb with z | z
    · subst z
      exact ⟨_, he, fun v q => nomatch q⟩
    · rw [List.mem_singleton.mp z]
      exact ⟨o, ho, fun v q => by rw [hd] at q; cases q⟩
  keep := fun i h h' st k => by
    obtain ⟨⟨old, he⟩, hi⟩ := st
    exact ⟨⟨old, k e (by simp) _ he⟩, hi.at fun o q => k it (by simp) o q⟩
  item := by
    rintro X rfl rfl rfl hc i pins s σ H E I hf ⟨⟨old, he⟩, hit⟩ ⟨xs, x, hq, hx⟩
    obtain ⟨its, rv, p, hz⟩ := I.tuple hq
    obtain ⟨u, hu, ru⟩ := rv.get hx
    have hp : s.heap.IsTuple a its.toArray := p
    have hel : e < s.heap.objs.size := Heap.lt_size he
    have hil : it < s.heap.objs.size := by
      obtain ⟨_, q, _⟩ := hit
      exact Heap.lt_size q
    have hlt : i < its.toArray.size := by
      have q := (List.getElem?_eq_some_iff.mp hu).1
      simpa using q
    refine wpAny_pyNext_enum_itemD (Draws.tuple (A := X.A.in1) (I.ok.hd hc) it a hai its.toArray) he ⟨hit, hp⟩ hlt hei (by simp [hei, Ne.symm hae]) fun y h' tk hy ho hit' hT hsz hk => ?_
    have ey : y = u := by
      have q : its[i]? = some y := by simpa using hy
      rw [hu] at q
      exact (Option.some.inj q).symm
    subst ey
    refine ⟨_, rfl, wpAny_letOwnedTupleGo_enum (s := { s with heap := h', toks := tk + 1 }) ho fun h'' he' sb => ?_⟩
    have hT2 : h''.get? s.heap.objs.size = some { cls := .type "tuple", data := .seq #[.int i tk, y] } := (sb.2 _ (Nat.ne_of_gt hel)).trans hT
    have pairOk : ObjOk X.prog X.w (upd H s.heap.objs.size (.tup [.int (i : Nat), x])) h'' s.heap.objs.size
        (.tup [.int (i : Nat), x]) := ⟨by show 2 ≤ sizeLine; decide, [.int i tk, y], .cons ⟨_, rfl⟩ (.cons ru .nil), _, hT2, rfl, _, rfl⟩
    have stays : ∀ c oc, c ∉ [e, it] → s.heap.get? c = some oc → h''.get? c = some oc := fun c oc hc' z => by
      have n1 : c ≠ e := fun z1 => hc' (by simp [z1])
      have n2 : c ≠ it := fun z1 => hc' (by simp [z1])
      exact (sb.2 c n1).trans (hk c oc n1 n2 z)
    have I1 : Inv X pins σ (upd H s.heap.objs.size (.tup [.int (i : Nat), x])) { s with heap := h'', toks := tk + 1 } :=
      I.turnedNew (ch := [e, it]) stays hf (Nat.le_refl _) pairOk
    have e1 : ((i + 1 : Nat) : Int) = (i : Int) + 1 := by omega
    refine ⟨.ref s.heap.objs.size, _, I1, rfl, ⟨_, x, rfl, I.hok.fresh (Nat.le_refl _), rfl, fun ys hy => by rw [I.tuple_inj hy hq]; exact hx⟩, ⟨⟨y, by rw [e1]; exact he'⟩, hit'.1.at fun o q => (sb.2 it (Ne.symm hei)).trans q⟩, fun b hb => ?_⟩
    have hb' : b < s.heap.objs.size := by
      rcases List.mem_cons.mp hb with z | z
      · rw [z]; exact hel
      · rw [List.mem_singleton.mp z]; exact hil
    rw [upd_ne (Nat.ne_of_lt hb')]
    exact (hf b hb).1
  done := by
    rintro X rfl rfl rfl hc i pins s σ H E I hf ⟨⟨old, he⟩, hit⟩ ⟨xs, hq, hx⟩
    obtain ⟨its, rv, p, hz⟩ := I.tuple hq
    have hp : s.heap.IsTuple a its.toArray := p
    obtain ⟨f0, f1, f2, f3, f4, f5⟩ := hf it (by simp)
    have hl := rv.length
    unfold pyNext
    refine wpAny_bind (wpAny_attempt (wpAny_callSpecial?_slot (name := Str.ofString "__next__") ⟨_, he, rfl⟩ F.slot_enumerate_next (wpAny_call_entry F.slot_enumerate_next ⟨_, he, rfl⟩ F.entry_enumerate_next ?_ (F.args_enumerate_next_1 _))))
    show wpAny _ _ (field (.ref e) 2 >>= _) _ _ _
    refine wpAny_bind (wpAny_field he rfl (x := .ref it) rfl (wpAny_bind (wpAny_nextOf_tuple_end (A := X.A.in1) (I.ok.hd hc) hit hp (by simp; omega) fun h' x eb hx' => ?_)))
    obtain ⟨o, ho, hcl⟩ := hx'
    exact wpAny_bind (wpAny_isInstance (T := "StopIteration") (b := true) ⟨o, ho, hcl⟩ isSubtype_stop (wpAny_pure ⟨rfl, I.turned (t' := s.toks) (fun b o hb q => eb b o hb q) f0 f1 f3 f4 f5⟩))
  self := fun A i s Q E st h => by
    obtain ⟨⟨_, he⟩, _⟩ := st
    exact wpAny_pyIter_enum he h
def iEnumT (K : PySem.W.Frag) (ta : TA) : TI := fun σ H R => ta σ H fun vs H1 => ∃ a xs, vs = [.ref a] ∧ SqT K H1 a xs ∧ R (IteT K a) H1
theorem pi_enumT {X : Cx} {e : Expr} {ta : TA} {p pos tpos : Pos} {elts : List Expr} {kk : Nat} (hg : Gl X "enumerate") (hm : X.mg "enumerate" = none) (ha : PA X [e] ta)
    (hs : starEach [e] X.env = [(false, eval e X.env)] := by rfl) : PI X (.Tuple elts kk tpos) (.Call (.Name "enumerate" p) [e] [] pos) (iEnumT X.K ta) := by
  refine ⟨fun pins s σ H R I h => Call_ (ld_blt I hg hm boot_enumerate (PyProof.Rows.callWith_type1 (thn (ha.run pos pins s σ H _ I h) fun us s1 h1 => ?_) hs rfl))⟩
  obtain ⟨vs, H1, I1, r1, a, xs, rfl, hq, q⟩ := h1
  cases r1 with
  | cons r rr =>
    cases rr
    cases r
    obtain ⟨its, rv, p', hz⟩ := I1.tuple hq
    have hp : s1.heap.IsTuple a its.toArray := p'
    have hlt : a < s1.heap.objs.size := IsTup.lt p'
    refine call_enumT hp fun h' he hit hk => wpAny_pyIter_enum he ?_
    have I2 : Inv X pins σ H1 { s1 with heap := h' } := I1.kept (t' := s1.toks) hk
    refine ⟨s1.heap.objs.size + 1, [s1.heap.objs.size + 1, s1.heap.objs.size], _, _, H1, rfl, I2, turn_enumT a (s1.heap.objs.size + 1) s1.heap.objs.size (Nat.ne_of_lt hlt) (Nat.ne_of_lt (Nat.lt_succ_of_lt hlt)) (Nat.succ_ne_self _), ⟨⟨.none, he⟩, hit⟩, fun b hb => ?_, q⟩
    have hb' : s1.heap.objs.size ≤ b := by
      rcases List.mem_cons.mp hb with z | z
      · rw [z]; exact Nat.le_succ _
      · rw [List.mem_singleton.mp z]; exact Nat.le_refl _
    exact I1.fpOk hb' (I1.hok.fresh hb')
end ET

namespace K14
open PySem PySem.Spec PyProof.Rows L2
def topS (i : Nat) : Stmt := PySem.Challenge.pw_signcleave_k14_rings_and_cuts_told.main.body.getD i (.Pass ⟨0, 0, 0, 0⟩)
abbrev sBag : Stmt := topS 37
abbrev sPull : Stmt := topS 38
abbrev sOf : Stmt := topS 39
theorem scPull : FnScope ["_law_bag_here", "_law_many", "_law_cell", "_law_got", "_law_base", "_law_twice"] ["_law_bag_here", "_law_many"] (defScope sPull) := ⟨rfl, rfl, rfl, by decide +kernel, rfl, by decide +kernel, by decide +kernel⟩
theorem scBag : FnScope ["_law_script", "_law_salt", "_law_cell"] ["_law_script"] (defScope sBag) := ⟨rfl, rfl, rfl, by decide +kernel, rfl, by decide +kernel, by decide +kernel⟩
theorem scOf : FnScope ["_law_bag_here", "_law_some"] ["_law_bag_here", "_law_some"] (defScope sOf) := ⟨rfl, rfl, rfl, by decide +kernel, rfl, by decide +kernel, by decide +kernel⟩

/-! ### the bag -/
def bagv (l : Addr) (i bank salt c : Int) : List V := [.ref l, .int i, .int bank, .int salt, .int c]
structure BagAt (l : Addr) (ns : List Int) (H : Hp) (b : Addr) : Prop where
  ne : l ≠ b
  ls : H l = some (.lst (ns.map V.int))
  ex : ∃ i bank salt c, H b = some (.lst (bagv l i bank salt c)) ∧ 0 ≤ i ∧ 0 ≤ bank ∧ 0 ≤ salt ∧ salt < 2147483629
def spPull : Sp := fun vs H Q _ => ∃ (b l : Addr) (m : Int) (ns : List Int), vs = [.ref b, .int m] ∧ 0 < m ∧ m < 1073741824 ∧ BagAt l ns H b ∧
  ∀ r xs, 0 ≤ r → r < m → BagAt l ns (upd H b (.lst xs)) b → Q (.int r) (upd H b (.lst xs))
theorem BagAt.put {l b : Addr} {ns : List Int} {H : Hp} (B : BagAt l ns H b) {i bank salt c : Int} (h1 : 0 ≤ i) (h2 : 0 ≤ bank) (h3 : 0 ≤ salt) (h4 : salt < 2147483629) : BagAt l ns (upd H b (.lst (bagv l i bank salt c))) b :=
  ⟨B.ne, by rw [upd_ne B.ne]; exact B.ls, i, bank, salt, c, upd_same, h1, h2, h3, h4⟩
theorem upd_self {H : Hp} {a : Addr} {o : HO} (h : H a = some o) : upd H a o = H := by
  funext b
  unfold upd
  split
  · rename_i e
    rw [e, h]
  · rfl
theorem mul_const {j : Int} (h : -(2 ^ 64) < j ∧ j < 2 ^ 64) (i : Int) : CMul i j := .inr h
section
variable {P : Program} {w : World} {K : PySem.W.Frag} {mg : Str → Option Value} {base : Heap}
theorem ok_pull {f : Addr} {fd : FuncData} {k : Nat} (F : Fun K "_law_pull" "_law_pull" sPull f fd) (ml : mg "len" = none) : FnOk P w K mg base CX0 (k + 1) f fd ["_law_bag_here", "_law_many"] spPull := by
  refine F.ok scPull (fun vs H Q E h => ?_) (fun cdv A outer s H vs Q E hr h => ?_)
  · obtain ⟨b, l, m, ns, rfl, _⟩ := h
    rfl
  · obtain ⟨b, l, m, ns, rfl, m0, m1, B, q⟩ := h
    refine ⟨_, C8.pss_cut (ps_if (PW.pt (pw_and (pt_cmpR op_lt (pe_ix ix_list (pv 0) pe_int (fun _ _ => rfl)) pe_int (nomark _))
          (pw_and1 (pt_cmpR op_lt (pe_ix ix_list (pv 0) pe_int (fun _ _ => rfl)) (pe_callB call_len_seq (by rfl) ml PySem.boot_len (pa_cons (pe_ix ix_list (pv 0) pe_int (fun _ _ => rfl)) pa_nil)) (nomark _)))))
        (pss_cons (ps_set (i := 2) scPull.nd rfl (Or.inl rfl) (pe_ix ix_list (pe_ix ix_list (pv 0) pe_int (fun _ _ => rfl)) (pe_ix ix_list (pv 0) pe_int (fun _ _ => rfl)) (fun _ _ => rfl)))
        (pss_cons (ps_asg (pe_op op_add (pe_ix ix_list (pv 0) pe_int (fun _ _ => rfl)) pe_int) (pg_sub (pv 0) pe_int set_list))
        (pss_one (ps_if (pt_cmpR op_ge (pv 2) (pe_op op_pow pe_int pe_int) (nomark _))
          (pss_one (ps_asg (pv 2) (pg_sub (pv 0) pe_int set_list)))
          (pss_one (ps_asg (pe_op op_mod (pe_op op_add (pe_op op_add (pe_op op_mul (pe_ix ix_list (pv 0) pe_int (fun _ _ => rfl)) pe_int) (pe_op op_mod (pv 2) pe_int)) pe_int) pe_int) (pg_sub (pv 0) pe_int set_list)))))))
        pss_nil)
      (pss_cons (ps_if (pt_cmpR op_gt (pe_ix ix_list (pv 0) pe_int (fun _ _ => rfl)) pe_int (nomark _))
        (pss_cons (ps_set (i := 3) scPull.nd rfl (Or.inl rfl) (pe_op op_mod (pe_ix ix_list (pv 0) pe_int (fun _ _ => rfl)) (pv 1)))
        (pss_cons (ps_asg (pe_op op_fdiv (pe_ix ix_list (pv 0) pe_int (fun _ _ => rfl)) (pv 1)) (pg_sub (pv 0) pe_int set_list))
        (pss_one (ps_ret (pv 3)))))
        pss_nil)
      (pss_cons (ps_asg (pe_op op_add (pe_ix ix_list (pv 0) pe_int (fun _ _ => rfl)) pe_int) (pg_sub (pv 0) pe_int set_list))
      (pss_cons (ps_set (i := 4) scPull.nd rfl (Or.inl rfl) (pe_op op_mod (pe_op op_add (pe_ix ix_list (pv 0) pe_int (fun _ _ => rfl)) (pe_op op_mul (pe_ix ix_list (pv 0) pe_int (fun _ _ => rfl)) pe_int)) pe_int))
      (pss_cons (ps_set (i := 5) scPull.nd rfl (Or.inl rfl) (pe_op op_mul (pe_op op_mod (pe_op op_mul (pv 4) (pv 4)) pe_int) (pe_op op_add (pe_op op_mod (pv 4) pe_int) pe_int)))
      (pss_cons (ps_asg (pe_op op_mod (pe_op op_add (pe_op op_add (pv 5) (pe_op op_mul pe_int (pv 4))) pe_int) pe_int) (pg_sub (pv 0) pe_int set_list))
      (pss_one (ps_ret (pe_op op_mod (pe_op op_add (pe_op op_fdiv (pe_ix ix_list (pv 0) pe_int (fun _ _ => rfl)) pe_int) (pe_op op_mul (pe_op op_mod (pe_ix ix_list (pv 0) pe_int (fun _ _ => rfl)) pe_int) pe_int)) (pv 1))))))))), ?_⟩
    obtain ⟨bl, ls, i, bank, salt, c, hB, i0, b0, s0, s1⟩ := id B
    have len5 : ∀ {i bank salt c : Int}, SqL K (upd H b (.lst (bagv l i bank salt c))) b (bagv l i bank salt c) := SqL.of upd_same
    have lsU : ∀ {xs : List V}, SqL K (upd H b (.lst xs)) l (ns.map V.int) := SqL.of (by rw [upd_ne bl]; exact ls)
    refine ⟨fun σ' H' => ∃ x2 i bank salt c, σ' = [some (.ref b), some (.int m), x2, none, none, none] ∧ H' = upd H b (.lst (bagv l i bank salt c)) ∧ 0 ≤ i ∧ 0 ≤ bank ∧ 0 ≤ salt ∧ salt < 2147483629, ?_, ?_⟩
    · have hself : upd H b (.lst (bagv l i bank salt c)) = H := upd_self hB
      refine ⟨_, rfl, b, _, 2, _, rfl, rfl, SqL.of hB, rfl, _, _, rfl, rfl, _, rfl, ite2 (fun h1 => ?_) (fun h1 => ?_)⟩
      · refine ⟨_, rfl, b, _, 1, _, rfl, rfl, SqL.of hB, rfl, _, rfl, b, _, 0, _, rfl, rfl, SqL.of hB, rfl, l, _, rfl, .inl (SqL.of ls), _, _, rfl, rfl, _, rfl, ite2 (fun h2 => ?_) (fun h2 => ?_)⟩
        · have hi : i < (ns.length : Int) := by
            have q := of_decide_eq_true h2
            rw [List.length_map] at q
            exact q
          obtain ⟨j, rfl⟩ : ∃ j : Nat, i = (j : Int) := ⟨i.toNat, by omega⟩
          have hj : j < ns.length := by omega
          refine ⟨_, rfl, b, _, 0, _, rfl, rfl, SqL.of hB, rfl, _, rfl, b, _, 1, _, rfl, rfl, SqL.of hB, rfl, l, _, _, .int ns[j], rfl, rfl, SqL.of ls, atI_nat (by rw [List.getElem?_map, List.getElem?_eq_getElem hj]; rfl), ?_⟩
          refine ⟨_, rfl, b, _, 1, _, rfl, rfl, SqL.of hB, rfl, _, _, rfl, rfl, _, rfl, b, _, 1, 1, rfl, rfl, hB, rfl, ?_⟩
          refine ⟨_, rfl, _, _, rfl, rfl, (by show (0:Int) ≤ 18 ∧ (18:Int) ≤ 1000000 ∧ (10 : Int).natAbs < 2 ^ 64; decide), _, _, rfl, rfl, _, rfl, ite2 (fun h3 => ?_) (fun h3 => ?_)⟩
          · have h3' : (10 : Int) ^ 18 ≤ ns[j] := of_decide_eq_true h3
            refine ⟨_, rfl, _, rfl, b, _, 2, 2, rfl, rfl, upd_same, rfl, ?_⟩
            refine ⟨_, (j : Int) + 1, ns[j], salt, c, rfl, upd_upd, by omega, by omega, s0, s1⟩
          · refine ⟨_, rfl, b, _, 3, _, rfl, rfl, SqL.of upd_same, rfl, _, _, rfl, rfl, mul_const (by decide) _, _, rfl, _, _, rfl, rfl, (by show (0 : Int) < 2147483587; decide), _, _, rfl, rfl, _, _, rfl, rfl, _, _, rfl, rfl, (by show (0 : Int) < 2147483629; decide), _, rfl, b, _, 3, 3, rfl, rfl, upd_same, rfl, ?_⟩
            refine ⟨_, (j : Int) + 1, bank, _, c, rfl, upd_upd, by omega, b0, Int.emod_nonneg _ (by decide), Int.emod_lt_of_pos _ (by decide)⟩
        · exact ⟨none, i, bank, salt, c, rfl, hself.symm, i0, b0, s0, s1⟩
      · exact iteF ⟨none, i, bank, salt, c, rfl, hself.symm, i0, b0, s0, s1⟩
    · clear hB i0 b0 s0 s1 i bank salt c
      rintro σ' H' ⟨x2, i, bank, salt, c, rfl, rfl, i0, b0, s0, s1⟩
      refine ⟨_, rfl, b, _, 2, _, rfl, rfl, len5, rfl, _, _, rfl, rfl, _, rfl, ite2 (fun h1 => ?_) (fun h1 => ?_)⟩
      · refine ⟨_, rfl, b, _, 2, _, rfl, rfl, len5, rfl, _, rfl, _, _, rfl, rfl, m0, ?_⟩
        refine ⟨_, rfl, b, _, 2, _, rfl, rfl, len5, rfl, _, rfl, _, _, rfl, rfl, ⟨m0, m1⟩, _, rfl, b, _, 2, 2, rfl, rfl, upd_same, rfl, ?_⟩
        refine ⟨_, rfl, ?_⟩
        rw [upd_upd]
        exact q _ _ (Int.emod_nonneg _ (by omega)) (Int.emod_lt_of_pos _ m0) (B.put i0 (Int.ediv_nonneg b0 (by omega)) s0 s1)
      · refine ⟨_, rfl, b, _, 4, _, rfl, rfl, len5, rfl, _, _, rfl, rfl, _, rfl, b, _, 4, 4, rfl, rfl, upd_same, rfl, ?_⟩
        rw [upd_upd]
        refine ⟨_, rfl, b, _, 3, _, rfl, rfl, len5, rfl, _, rfl, b, _, 4, _, rfl, rfl, len5, rfl, _, _, rfl, rfl, mul_const (by decide) _, _, _, rfl, rfl, _, _, rfl, rfl, (by show (0 : Int) < 2147483629; decide), ?_⟩
        have e0 := Int.emod_nonneg (salt + (c + 1) * 6151) (show (2147483629 : Int) ≠ 0 by decide)
        have e1 := Int.emod_lt_of_pos (salt + (c + 1) * 6151) (show (0 : Int) < 2147483629 by decide)
        generalize (salt + (c + 1) * 6151) % 2147483629 = ba at e0 e1 ⊢
        refine ⟨_, rfl, _, rfl, _, _, rfl, rfl, .inl (by omega), _, _, rfl, rfl, (by show (0 : Int) < 2147483587; decide), _, rfl, _, _, rfl, rfl, (by show (0 : Int) < 40009; decide), _, _, rfl, rfl, _, _, rfl, rfl, .inl ?_, ?_⟩
        · have a0 := Int.emod_nonneg (ba * ba) (show (2147483587 : Int) ≠ 0 by decide)
          have a1 := Int.emod_lt_of_pos (ba * ba) (show (0 : Int) < 2147483587 by decide)
          omega
        refine ⟨_, rfl, _, rfl, _, _, rfl, rfl, .inl (by decide), _, _, rfl, rfl, _, _, rfl, rfl, _, _, rfl, rfl, (by show (0 : Int) < 2147483629; decide), _, rfl, b, _, 3, 3, rfl, rfl, upd_same, rfl, ?_⟩
        rw [upd_upd]
        refine ⟨_, rfl, b, _, 3, _, rfl, rfl, len5, rfl, _, _, rfl, rfl, (by show (0:Int) < 67 ∧ (67:Int) < 1073741824; decide), _, rfl, b, _, 3, _, rfl, rfl, len5, rfl, _, _, rfl, rfl, (by show (0 : Int) < 8209; decide), _, _, rfl, rfl, mul_const (by decide) _, _, _, rfl, rfl, _, rfl, _, _, rfl, rfl, m0, ?_⟩
        exact q _ _ (Int.emod_nonneg _ (by omega)) (Int.emod_lt_of_pos _ m0) (B.put i0 b0 (Int.emod_nonneg _ (by decide)) (Int.emod_lt_of_pos _ (by decide)))
end
end K14

namespace K14
open PySem PySem.Spec PyProof.Rows L2
/-! ### f(k = e, ..) without written places -/
theorem pe_callKw {X : Cx} {CX : CXT} {k : Nat} {f : Addr} {fd : FuncData} {ps ks : List Str} {sp : Sp} {g : List Value → List Value → List Value} {gV : List V → List V → List V} {E : XK} {tk : TA} {x : Str} {kws : List Keyword} {p pos : Pos}
    (F : FnOk X.prog X.w X.K X.mg X.base CX k f fd ps sp) (hr : Room k X.A) (hg : Gl X x) (hm : X.mg x = some (.ref f)) (hk : PySem.W.keepIn X.K (.ref f) = true) (hb : KBinds X.K fd ps ks g gV) (hx : Passes CX X E)
    (hkw : PK X kws tk) (hall : (backToKw pos (keywordEach kws X.env)).all (·.1.isSome) = true := by rfl) (hks : (backToKw pos (keywordEach kws X.env)).filterMap (·.1) = ks := by rfl)
    (hdb : (x == ("__debug__" : Str)) = false := by decide) (hpl : ((backTo pos (starEach [] X.env)).any (·.1) || (backToKw pos (keywordEach kws X.env)).any (·.1.isNone)) = false := by rfl) :
    PE X (.Call (.Name x p) [] kws pos) (tCallK sp gV E tNil tk) := by
  refine ⟨fun pins s σ H Q I h => wpAny_Call_Name_kw (ld_glob I hg hm ?_ hdb)⟩
  refine PySem.W.callWith_KW0 (h₀ := X.base) I.ok.mod.kin hk hall (thn (hkw.run pos pins s σ H _ I h) fun ws s2 hh => ?_) hpl
  obtain ⟨zs, H2, I2, rz, q2⟩ := hh
  refine ⟨I2.kIn, ?_⟩
  rw [hks]
  exact run_fnk F hr hb hx I2 .nil rz q2
/-! ### lists cut -/
theorem cutTo (xs : List V) (k : Nat) : cutV xs none (some (k : Int)) = xs.take k := by
  unfold cutV
  rw [HT.sIx_none, HT.sIx_nat, List.drop_zero, Nat.sub_zero]
  by_cases h : k ≤ xs.length
  · rw [Nat.min_eq_left h]
  · rw [Nat.min_eq_right (by omega), List.take_of_length_le (Nat.le_refl _), List.take_of_length_le (by omega)]
theorem cutFrom (xs : List V) (k : Nat) : cutV xs (some (k : Int)) none = xs.drop k := by
  unfold cutV
  rw [HT.sIx_none, HT.sIx_nat]
  by_cases h : k ≤ xs.length
  · rw [Nat.min_eq_left h]
    exact List.take_of_length_le (by rw [List.length_drop]; exact Nat.le_refl _)
  · rw [Nat.min_eq_right (by omega), List.drop_of_length_le (Nat.le_refl _), List.drop_of_length_le (by omega), List.take_nil]
theorem same_new {H : Hp} {p : Addr} {o : HO} (h : H p = none) : Same H (upd H p o) := fun b x e => by
  rw [upd_ne (ne_of_none e h)]
  exact e
theorem get_ints {ns : List Int} {i : Nat} {x : V} (h : (ns.map V.int)[i]? = some x) : ∃ v, x = .int v ∧ ns[i]? = some v := by
  rw [List.getElem?_map] at h
  cases e : ns[i]? with
  | none => rw [e] at h; cases h
  | some v => rw [e] at h; exact ⟨v, (Option.some.inj h).symm, rfl⟩
theorem ne_new {H : Hp} {p : Addr} {o : HO} {b : Addr} (h : (upd H p o) b = none) : b ≠ p := fun e => by
  rw [e, upd_same] at h
  cases h
theorem old_new {H : Hp} {p : Addr} {o : HO} {b : Addr} (h : (upd H p o) b = none) : H b = none := by
  rw [upd_ne (ne_new h)] at h
  exact h
/-! ### the bag made -/
def spBag (K : PySem.W.Frag) : Sp := fun vs H Q _ => ∃ (a : Addr) (ns : List Int), vs = [.ref a] ∧ SqL K H a (ns.map V.int) ∧
  ∀ H' l b ms, Same H H' → H l = none → H b = none → BagAt l ms H' b → Q (.ref b) H'
section
variable {P : Program} {w : World} {K : PySem.W.Frag} {mg : Str → Option Value} {base : Heap}
theorem ok_bag {f : Addr} {fd : FuncData} {k : Nat} (F : Fun K "_law_bag" "_law_bag" sBag f fd) (ml : mg "list" = none) : FnOk P w K mg base CX0 (k + 1) f fd ["_law_script"] (spBag K) := by
  refine F.ok scBag (fun vs H Q E h => ?_) (fun cdv A outer s H vs Q E hr h => ?_)
  · obtain ⟨a, ns, rfl, _⟩ := h
    rfl
  · obtain ⟨a, ns, rfl, hS, q⟩ := h
    refine ⟨_, pss_cons (ps_set (i := 1) scBag.nd rfl (Or.inl rfl) pe_int)
      (pss_cons (ps_for PassesOwn.never rfl (pi_list (pe_slice sl_list (pv 0) po_none (po_some pe_int))) (pg_name (i := 2) scBag.nd rfl (Or.inl rfl))
        (pss_one (ps_set (i := 1) scBag.nd rfl (Or.inl rfl) (pe_op op_mod (pe_op op_add (pe_op op_add (pe_op op_mul (pv 1) pe_int) (pv 2)) pe_int) pe_int))))
      (pss_one (ps_ret (pe_lst (pa_cons (pe_callTy call_list_of (by rfl) ml (by decide +kernel) (pa_cons (pe_slice sl_list (pv 0) po_none (po_some pe_int)) pa_nil))
        (pa_cons pe_int (pa_cons pe_int (pa_cons (pv 1) (pa_cons pe_int pa_nil))))))))), ?_⟩
    have cutN : cutV (ns.map V.int) none (some 63) = (ns.take 63).map V.int := by
      rw [show (63 : Int) = ((63 : Nat) : Int) from rfl, cutTo, List.map_take]
    refine ⟨_, rfl, 63, rfl, a, ns.map V.int, rfl, hS, fun t nt => ?_⟩
    rw [cutN]
    refine ⟨t, rfl, ⟨_, SqL.of upd_same⟩, for_list (K := K) (a := t) (xs := (ns.take 63).map V.int) (fun i σ H' => ∃ salt y, σ = [some (.ref a), some (.int salt), y] ∧ H' = upd H t (.lst ((ns.take 63).map V.int)) ∧ 0 ≤ salt ∧ salt < 2147483629)
      ⟨977, none, rfl, rfl, by decide, by decide⟩ (fun i σ H' _ ⟨_, _, _, e, _⟩ => by subst e; exact SqL.of upd_same) ?_ ?_⟩
    · rintro i x σ H' hi ⟨salt, y, rfl, rfl, h0, h1⟩
      obtain ⟨v, rfl, _⟩ := get_ints hi
      refine ⟨_, rfl, _, _, rfl, rfl, mul_const (by decide) _, _, rfl, _, _, rfl, rfl, _, _, rfl, rfl, _, _, rfl, rfl, (by show (0 : Int) < 2147483629; decide), ?_⟩
      exact ⟨_, _, rfl, rfl, Int.emod_nonneg _ (by decide), Int.emod_lt_of_pos _ (by decide)⟩
    · rintro σ H' ⟨salt, y, rfl, rfl, h0, h1⟩
      refine ⟨_, rfl, 63, rfl, a, ns.map V.int, rfl, (same_new nt).seq hS, fun u nu => ?_⟩
      rw [cutN]
      refine ⟨u, _, rfl, .inl (SqL.of upd_same), fun l nl => ⟨_, rfl, (by show 5 ≤ sizeLine; decide), fun b nb => ?_⟩⟩
      have s1 := same_new (o := .lst ((ns.take 63).map V.int)) nt
      have s2 := same_new (o := .lst ((ns.take 63).map V.int)) nu
      have s3 := same_new (o := .lst ((ns.take 63).map V.int)) nl
      have s4 := same_new (o := .lst (bagv l 0 0 salt 0)) nb
      have lb : l ≠ b := (ne_new nb).symm
      refine q _ l b (ns.take 63) (s1.trans (s2.trans (s3.trans s4))) (s1.free (s2.free nl)) (s1.free (s2.free (s3.free nb))) ⟨lb, by rw [upd_ne lb]; exact upd_same, 0, 0, salt, 0, upd_same, by decide, by decide, h0, h1⟩
/-! ### one of some -/
def spOf (K : PySem.W.Frag) : Sp := fun vs H Q _ => ∃ (b l c : Addr) (ns : List Int) (xs : List V), vs = [.ref b, .ref c] ∧ BagAt l ns H b ∧ H c = some (.lst xs) ∧ c ≠ b ∧ 0 < xs.length ∧ xs.length < 1073741824 ∧
  ∀ v ys, v ∈ xs → BagAt l ns (upd H b (.lst ys)) b → Q v (upd H b (.lst ys))
theorem ok_of {f g : Addr} {fd gd : FuncData} {k : Nat} (F : Fun K "_law_of" "_law_of" sOf f fd) (G : FnOk P w K mg base CX0 k g gd ["_law_bag_here", "_law_many"] spPull) (kg : PySem.W.keepIn K (.ref g) = true) (bg : Binds K gd ["_law_bag_here", "_law_many"] [])
    (mgG : mg "_law_pull" = some (.ref g)) (ml : mg "len" = none) : FnOk P w K mg base CX0 (k + 1) f fd ["_law_bag_here", "_law_some"] (spOf K) := by
  refine F.ok scOf (fun vs H Q E h => ?_) (fun cdv A outer s H vs Q E hr h => ?_)
  · obtain ⟨b, l, c, ns, xs, rfl, _⟩ := h
    rfl
  · obtain ⟨b, l, c, ns, xs, rfl, B, hc, cb, x0, x1, q⟩ := h
    refine ⟨_, pss_one (ps_ret (pe_ix ix_list (pv 1) (pe_call G hr (by rfl) mgG kg bg .nil pass0 (pa_cons (pv 0) (pa_cons (pe_callB call_len_seq (by rfl) ml PySem.boot_len (pa_cons (pv 1) pa_nil)) pa_nil))) (fun _ _ => rfl))), ?_⟩
    refine ⟨_, rfl, _, rfl, _, rfl, c, xs, rfl, .inl (SqL.of hc), b, l, _, ns, rfl, by omega, by omega, B, fun r ys r0 r1 B' => ?_⟩
    obtain ⟨j, rfl⟩ : ∃ j : Nat, r = (j : Int) := ⟨r.toNat, by omega⟩
    have hj : j < xs.length := by omega
    refine ⟨c, xs, _, xs[j], rfl, rfl, SqL.of (by rw [upd_ne cb]; exact hc), atI_nat (List.getElem?_eq_getElem hj), ?_⟩
    exact q _ _ (List.getElem_mem hj) B'
end
end K14

namespace K14
open PySem PySem.Spec PyProof.Rows L2
/-! ### data -/
inductive Dt where
  | non
  | bl (b : Bool)
  | int (i : Int)
  | str (s : Str)
  | lst (ds : List Dt)
  | tup (ds : List Dt)
inductive Has (H : Hp) : Nat → V → Dt → Prop where
  | non {n : Nat} : Has H (n + 1) .non .non
  | bl {n : Nat} (b : Bool) : Has H (n + 1) (.bl b) (.bl b)
  | int {n : Nat} (i : Int) : Has H (n + 1) (.int i) (.int i)
  | str {n : Nat} (s : Str) : Has H (n + 1) (.str s) (.str s)
  | lst {n : Nat} {a : Addr} {xs : List V} {ds : List Dt} (e : H a = some (.lst xs)) (l : xs.length = ds.length) (z : ds.length ≤ 1000000) (m : ∀ (i : Nat) (x : V) (d : Dt), xs[i]? = some x → ds[i]? = some d → Has H n x d) : Has H (n + 1) (.ref a) (.lst ds)
  | tup {n : Nat} {a : Addr} {xs : List V} {ds : List Dt} (e : H a = some (.tup xs)) (l : xs.length = ds.length) (z : ds.length ≤ 1000000) (m : ∀ (i : Nat) (x : V) (d : Dt), xs[i]? = some x → ds[i]? = some d → Has H n x d) : Has H (n + 1) (.ref a) (.tup ds)
theorem Has.same {H H' : Hp} (s : Same H H') : ∀ {n : Nat} {x : V} {d : Dt}, Has H n x d → Has H' n x d := by
  intro n x d h
  induction h with
  | non => exact .non
  | bl b => exact .bl b
  | int i => exact .int i
  | str z => exact .str z
  | lst e l z m ih => exact .lst (s _ _ e) l z fun i x d h1 h2 => ih i x d h1 h2
  | tup e l z m ih => exact .tup (s _ _ e) l z fun i x d h1 h2 => ih i x d h1 h2
theorem Has.up {H : Hp} : ∀ {n m : Nat} {x : V} {d : Dt}, Has H n x d → n ≤ m → Has H m x d := by
  intro n m x d h
  induction h generalizing m with
  | non => intro q; cases m with | zero => omega | succ m => exact .non
  | bl b => intro q; cases m with | zero => omega | succ m => exact .bl b
  | int i => intro q; cases m with | zero => omega | succ m => exact .int i
  | str z => intro q; cases m with | zero => omega | succ m => exact .str z
  | lst e l z _ ih => intro q; cases m with | zero => omega | succ m => exact .lst e l z fun i x d h1 h2 => ih i x d h1 h2 (by omega)
  | tup e l z _ ih => intro q; cases m with | zero => omega | succ m => exact .tup e l z fun i x d h1 h2 => ih i x d h1 h2 (by omega)
theorem Has.ints {H : Hp} {a : Addr} {ns : List Int} {n : Nat} (e : H a = some (.lst (ns.map V.int))) (z : ns.length ≤ 1000000) : Has H (n + 2) (.ref a) (.lst (ns.map Dt.int)) := by
  refine .lst e (by rw [List.length_map, List.length_map]) (by rw [List.length_map]; exact z) fun i x d h1 h2 => ?_
  rw [List.getElem?_map] at h1 h2
  cases q : ns[i]? with
  | none => rw [q] at h1; cases h1
  | some v =>
    rw [q] at h1 h2
    have e1 : V.int v = x := Option.some.inj h1
    have e2 : Dt.int v = d := Option.some.inj h2
    rw [← e1, ← e2]
    exact .int v
def spSame (n : Nat) : Sp := fun vs H Q _ => ∃ (x y : V) (d : Dt), vs = [x, y] ∧ Has H n x d ∧ Has H n y d ∧ ∀ H', Same H H' → Q (.bl true) H'
abbrev sSame : Stmt := topS 40
theorem scSame : FnScope ["_law_found", "_law_due", "_law_k"] ["_law_found", "_law_due"] (defScope sSame) := ⟨rfl, rfl, rfl, by decide +kernel, rfl, by decide +kernel, by decide +kernel⟩
structure TS1 (mg : Str → Option Value) : Prop where
  isi : mg "isinstance" = none
  bool : mg "bool" = none
  int : mg "int" = none
  str : mg "str" = none
  list : mg "list" = none
  tuple : mg "tuple" = none
  len : mg "len" = none
  all : mg "all" = none
  range : mg "range" = none
section
variable {P : Program} {w : World} {K : PySem.W.Frag} {mg : Str → Option Value} {base : Heap}
theorem all_rep (n : Nat) : (List.replicate n true).all id = true := by
  induction n with
  | zero => rfl
  | succ n ih => rw [List.replicate_succ, List.all_cons, ih]; rfl
theorem same_at {H H' : Hp} {D : Addr} {o : HO} (hD : H D = none) (s : Same H H') : Same H (upd H' D o) := fun b x e => by
  rw [upd_ne (ne_of_none e hD)]
  exact s _ _ e
theorem kit2 {t : String} {r b1 b2 : Bool} (h1 : kitB t "int" = some b1) (h2 : kitB t "str" = some b2) (hr : (b1 || b2) = r) : PySem.W.kitAny K (.type t) [.type "int", .type "str"] = some r := by
  refine kitAny_cons (kit_ty h1) (fun e => kitAny_cons (kit_ty h2) (fun e2 => ?_) fun e2 => ?_) fun e => ?_
  · rw [e, e2] at hr
    rw [← hr]
    exact kitAny_nil
  · rw [e, e2] at hr
    exact hr.symm
  · rw [e] at hr
    exact hr.symm
theorem ok_same {f : Addr} {fd : FuncData} (F : Fun K "_law_same" "_law_same" sSame f fd) (T : TS1 mg) (bS : Binds K fd ["_law_found", "_law_due"] []) (mgS : mg "_law_same" = some (.ref f)) : ∀ n : Nat, FnOk P w K mg base CX0 n f fd ["_law_found", "_law_due"] (spSame n) := by
  intro n
  induction n with
  | zero => exact ⟨fun vs H Q E h => (by obtain ⟨x, y, d, _, h1, _⟩ := h; cases h1), fun A outer s H args us vs Q E hr he hb hv h => (by obtain ⟨x, y, d, _, h1, _⟩ := h; cases h1)⟩
  | succ n G =>
    refine F.ok scSame (fun vs H Q E h => ?_) (fun cdv A outer s H vs Q E hr h => ?_)
    · obtain ⟨x, y, d, rfl, _⟩ := h
      rfl
    · obtain ⟨x, y, d, rfl, hx, hy, q⟩ := h
      refine ⟨_, pss_cons (ps_if (PW.pt (pw_or (pt_cmpR op_isN (pv 1) pe_non (nomark _)) (pw_or1 (pt_cmpR op_isN (pv 0) pe_non (nomark _)))))
          (pss_one (ps_ret (pe_and (pe_cmpR op_isN (pv 0) pe_non (nomark _)) (pe_one (pe_cmpR op_isN (pv 1) pe_non (nomark _)))))) pss_nil)
        (pss_cons (ps_if (PW.pt (pw_or (pt_val (pe_callB call_isi (by rfl) T.isi (by decide +kernel) (pa_cons (pv 1) (pa_cons (pe_bltn (v := .ty "bool") (by rfl) T.bool (by decide +kernel) rfl) pa_nil))))
            (pw_or1 (pt_val (pe_callB call_isi (by rfl) T.isi (by decide +kernel) (pa_cons (pv 0) (pa_cons (pe_bltn (v := .ty "bool") (by rfl) T.bool (by decide +kernel) rfl) pa_nil)))))))
          (pss_one (ps_ret (pe_and (pe_callB call_isi (by rfl) T.isi (by decide +kernel) (pa_cons (pv 1) (pa_cons (pe_bltn (v := .ty "bool") (by rfl) T.bool (by decide +kernel) rfl) pa_nil)))
            (pe_and (pe_callB call_isi (by rfl) T.isi (by decide +kernel) (pa_cons (pv 0) (pa_cons (pe_bltn (v := .ty "bool") (by rfl) T.bool (by decide +kernel) rfl) pa_nil)))
              (pe_one (pe_cmpR op_eq (pv 0) (pv 1) (nomark _))))))) pss_nil)
        (pss_cons (ps_if (pt_val (pe_callB call_isiT (by rfl) T.isi (by decide +kernel) (pa_cons (pv 1) (pa_cons (pe_tup (pa_cons (pe_bltn (v := .ty "int") (by rfl) T.int (by decide +kernel) rfl) (pa_cons (pe_bltn (v := .ty "str") (by rfl) T.str (by decide +kernel) rfl) pa_nil))) pa_nil))))
          (pss_one (ps_ret (pe_and (pe_callB call_isiT (by rfl) T.isi (by decide +kernel) (pa_cons (pv 0) (pa_cons (pe_tup (pa_cons (pe_bltn (v := .ty "int") (by rfl) T.int (by decide +kernel) rfl) (pa_cons (pe_bltn (v := .ty "str") (by rfl) T.str (by decide +kernel) rfl) pa_nil))) pa_nil)))
            (pe_and (pe_cmpR op_eq (pe_callB call_isi (by rfl) T.isi (by decide +kernel) (pa_cons (pv 0) (pa_cons (pe_bltn (v := .ty "int") (by rfl) T.int (by decide +kernel) rfl) pa_nil)))
                (pe_callB call_isi (by rfl) T.isi (by decide +kernel) (pa_cons (pv 1) (pa_cons (pe_bltn (v := .ty "int") (by rfl) T.int (by decide +kernel) rfl) pa_nil))) (nomark _))
              (pe_one (pe_cmpR op_eq (pv 0) (pv 1) (nomark _))))))) pss_nil)
        (pss_cons (ps_if (PW.pt (pw_or (pt_cmpR op_ne (pe_callB call_isi (by rfl) T.isi (by decide +kernel) (pa_cons (pv 0) (pa_cons (pe_bltn (v := .ty "list") (by rfl) T.list (by decide +kernel) rfl) pa_nil)))
                (pe_callB call_isi (by rfl) T.isi (by decide +kernel) (pa_cons (pv 1) (pa_cons (pe_bltn (v := .ty "list") (by rfl) T.list (by decide +kernel) rfl) pa_nil))) (nomark _))
            (pw_or1 (pt_cmpR op_ne (pe_callB call_isi (by rfl) T.isi (by decide +kernel) (pa_cons (pv 0) (pa_cons (pe_bltn (v := .ty "tuple") (by rfl) T.tuple (by decide +kernel) rfl) pa_nil)))
                (pe_callB call_isi (by rfl) T.isi (by decide +kernel) (pa_cons (pv 1) (pa_cons (pe_bltn (v := .ty "tuple") (by rfl) T.tuple (by decide +kernel) rfl) pa_nil))) (nomark _)))))
          (pss_one (ps_ret pe_bl)) pss_nil)
        (pss_one (ps_ret (pe_and (pe_cmpR op_eq (pe_callB call_len_seq (by rfl) T.len PySem.boot_len (pa_cons (pv 0) pa_nil)) (pe_callB call_len_seq (by rfl) T.len PySem.boot_len (pa_cons (pv 1) pa_nil)) (nomark _))
          (pe_one (pe_callB (cr_all rfl) (by rfl) T.all (by decide +kernel) (pa_cons
            (pe_lc (own := [("_law_k", 2)]) (g := gName 2) (tt := tYes) rfl scSame.nd (pi_range1 (by rfl) T.range (pa_cons (pe_callB call_len_seq (by rfl) T.len PySem.boot_len (pa_cons (pv 1) pa_nil)) pa_nil))
              (blkOk_by (N := ["_law_found", "_law_due", "_law_k"]) (sc := defScope sSame) (by decide +kernel))
              (fun _ _ _ _ _ => pg_name (i := 2) scSame.nd rfl (Or.inl rfl)) (fun _ _ _ _ _ => pts_nil)
              (fun _ _ _ _ _ => pe_call G hr (by rfl) mgS F.kp bS .nil pass0 (pa_cons (pe_ix (r := rIx K) ix_seq (pv 0) (pv 2) (fun _ _ => rfl)) (pa_cons (pe_ix (r := rIx K) ix_seq (pv 1) (pv 2) (fun _ _ => rfl)) pa_nil)))) pa_nil))))))))), ?_⟩
      cases d with
      | non =>
        cases hx
        cases hy
        refine ⟨_, rfl, rfl, _, rfl, iteT ?_⟩
        exact ⟨_, rfl, rfl, _, rfl, iteT ⟨_, rfl, rfl, q _ (Same.refl _)⟩⟩
      | bl b =>
        cases hx
        cases hy
        refine ⟨_, rfl, rfl, _, rfl, iteF ⟨_, rfl, rfl, _, rfl, iteF ?_⟩⟩
        refine ⟨_, rfl, _, _, _, _, true, rfl, ClsV.ty _, (.base (.bl b)), kit_ty (by decide +kernel), _, rfl, iteT ?_⟩
        refine ⟨_, rfl, _, _, _, _, true, rfl, ClsV.ty _, (.base (.bl b)), kit_ty (by decide +kernel), _, rfl, iteT ?_⟩
        refine ⟨_, rfl, _, _, _, _, true, rfl, ClsV.ty _, (.base (.bl b)), kit_ty (by decide +kernel), _, rfl, iteT ?_⟩
        refine ⟨_, rfl, _, rfl, rfl, ?_⟩
        rw [decide_eq_true rfl]
        exact q _ (Same.refl _)
      | int i =>
        cases hx
        cases hy
        refine ⟨_, rfl, rfl, _, rfl, iteF ⟨_, rfl, rfl, _, rfl, iteF ?_⟩⟩
        refine ⟨_, rfl, _, _, _, _, false, rfl, ClsV.ty _, (.base (.int i)), kit_ty (by decide +kernel), _, rfl, iteF ?_⟩
        refine ⟨_, rfl, _, _, _, _, false, rfl, ClsV.ty _, (.base (.int i)), kit_ty (by decide +kernel), _, rfl, iteF ?_⟩
        refine ⟨_, rfl, (by show 2 ≤ sizeLine; decide), fun p np => ⟨_, _, _, _, _, true, rfl, upd_same, .cons (ClsV.ty _) (.cons (ClsV.ty _) .nil), (.base (.int i)), kit2 (b1 := true) (b2 := false) (by decide +kernel) (by decide +kernel) rfl, _, rfl, iteT ?_⟩⟩
        refine ⟨_, rfl, (by show 2 ≤ sizeLine; decide), fun p2 np2 => ⟨_, _, _, _, _, true, rfl, upd_same, .cons (ClsV.ty _) (.cons (ClsV.ty _) .nil), (.base (.int i)), kit2 (b1 := true) (b2 := false) (by decide +kernel) (by decide +kernel) rfl, _, rfl, iteT ?_⟩⟩
        refine ⟨_, rfl, _, _, _, _, true, rfl, ClsV.ty _, (.base (.int i)), kit_ty (by decide +kernel), _, rfl, _, _, _, _, true, rfl, ClsV.ty _, (.base (.int i)), kit_ty (by decide +kernel), rfl, _, rfl, iteT ?_⟩
        refine ⟨_, rfl, _, rfl, rfl, ?_⟩
        rw [decide_eq_true rfl]
        exact q _ ((same_new np).trans (same_new np2))
      | str i =>
        cases hx
        cases hy
        refine ⟨_, rfl, rfl, _, rfl, iteF ⟨_, rfl, rfl, _, rfl, iteF ?_⟩⟩
        refine ⟨_, rfl, _, _, _, _, false, rfl, ClsV.ty _, (.base (.str i)), kit_ty (by decide +kernel), _, rfl, iteF ?_⟩
        refine ⟨_, rfl, _, _, _, _, false, rfl, ClsV.ty _, (.base (.str i)), kit_ty (by decide +kernel), _, rfl, iteF ?_⟩
        refine ⟨_, rfl, (by show 2 ≤ sizeLine; decide), fun p np => ⟨_, _, _, _, _, true, rfl, upd_same, .cons (ClsV.ty _) (.cons (ClsV.ty _) .nil), (.base (.str i)), kit2 (b1 := false) (b2 := true) (by decide +kernel) (by decide +kernel) rfl, _, rfl, iteT ?_⟩⟩
        refine ⟨_, rfl, (by show 2 ≤ sizeLine; decide), fun p2 np2 => ⟨_, _, _, _, _, true, rfl, upd_same, .cons (ClsV.ty _) (.cons (ClsV.ty _) .nil), (.base (.str i)), kit2 (b1 := false) (b2 := true) (by decide +kernel) (by decide +kernel) rfl, _, rfl, iteT ?_⟩⟩
        refine ⟨_, rfl, _, _, _, _, false, rfl, ClsV.ty _, (.base (.str i)), kit_ty (by decide +kernel), _, rfl, _, _, _, _, false, rfl, ClsV.ty _, (.base (.str i)), kit_ty (by decide +kernel), rfl, _, rfl, iteT ?_⟩
        refine ⟨_, rfl, _, rfl, rfl, ?_⟩
        rw [decide_eq_true rfl]
        exact q _ ((same_new np).trans (same_new np2))
      | lst ds =>
        cases hx with
        | @lst _ a xs _ ea la za ma =>
        cases hy with
        | @lst _ b ys _ eb lb zb mb =>
        refine ⟨_, rfl, rfl, _, rfl, iteF ⟨_, rfl, rfl, _, rfl, iteF ?_⟩⟩
        refine ⟨_, rfl, _, _, _, _, false, rfl, ClsV.ty _, (.base (.lst eb)), kit_ty (by decide +kernel), _, rfl, iteF ?_⟩
        refine ⟨_, rfl, _, _, _, _, false, rfl, ClsV.ty _, (.base (.lst ea)), kit_ty (by decide +kernel), _, rfl, iteF ?_⟩
        refine ⟨_, rfl, (by show 2 ≤ sizeLine; decide), fun p np => ⟨_, _, _, _, _, false, rfl, upd_same, .cons (ClsV.ty _) (.cons (ClsV.ty _) .nil), (.base (.lst ((same_new np) _ _ eb))), kit2 (b1 := false) (b2 := false) (by decide +kernel) (by decide +kernel) rfl, _, rfl, iteF ?_⟩⟩
        have ea' := (same_new (o := .tup [.ty "int", .ty "str"]) np) _ _ ea
        have eb' := (same_new (o := .tup [.ty "int", .ty "str"]) np) _ _ eb
        refine ⟨_, rfl, _, _, _, _, true, rfl, ClsV.ty _, (.base (.lst ea')), kit_ty (by decide +kernel), _, rfl, _, _, _, _, true, rfl, ClsV.ty _, (.base (.lst eb')), kit_ty (by decide +kernel), rfl, _, rfl, iteF ?_⟩
        refine ⟨_, rfl, _, _, _, _, false, rfl, ClsV.ty _, (.base (.lst ea')), kit_ty (by decide +kernel), _, rfl, _, _, _, _, false, rfl, ClsV.ty _, (.base (.lst eb')), kit_ty (by decide +kernel), rfl, _, rfl, iteF ?_⟩
        refine ⟨_, rfl, a, xs, rfl, .inl (SqL.of ea'), _, rfl, b, ys, rfl, .inl (SqL.of eb'), rfl, _, rfl, ?_⟩
        rw [if_pos (by rw [la, lb]; exact decide_eq_true rfl)]
        have lxy : ys.length ≤ 1000000 := by rw [lb]; exact zb
        refine ⟨_, rfl, b, ys, rfl, .inl (SqL.of eb'), (ys.length : Int), rfl, by omega, by omega, fun D nD => ?_⟩
        have sD := same_new (o := .lst []) nD
        refine lc_range (lo := 0) (n := ys.length) (fun i H' => Same (upd H p (.tup [.ty "int", .ty "str"])) H' ∧ H' D = some (.lst ((List.replicate i true).map V.bl))) ⟨sD, upd_same⟩ ?_ ?_
        · rintro i H' hi ⟨sm, hD⟩
          have hix : i < xs.length := by omega
          have hid : i < ds.length := by omega
          refine ⟨rfl, ?_⟩
          refine ⟨_, rfl, _, rfl, .inl ⟨a, xs, _, xs[i], rfl, rfl, SqL.of (sm _ _ ea'), at_of (Int.zero_add _) (List.getElem?_eq_getElem hix), ?_⟩⟩
          refine ⟨_, rfl, _, rfl, .inl ⟨b, ys, _, ys[i], rfl, rfl, SqL.of (sm _ _ eb'), at_of (Int.zero_add _) (List.getElem?_eq_getElem hi), ?_⟩⟩
          have sH := (same_new (o := .tup [.ty "int", .ty "str"]) np).trans sm
          refine ⟨xs[i], ys[i], ds[i], rfl, (ma i _ _ (List.getElem?_eq_getElem hix) (List.getElem?_eq_getElem hid)).same sH, (mb i _ _ (List.getElem?_eq_getElem hi) (List.getElem?_eq_getElem hid)).same sH, fun H4 s4 => ?_⟩
          refine ⟨_, s4 _ _ hD, ?_, same_at nD (sm.trans s4), ?_⟩
          · rw [List.length_map, List.length_replicate]
            exact Nat.lt_of_lt_of_le (show i < 1000001 by omega) (by rw [sizeLine_eq]; decide)
          · rw [upd_same, List.replicate_succ', List.map_append]
            rfl
        · rintro H' ⟨sm, hD⟩
          refine ⟨D, List.replicate ys.length true, rfl, SqL.of hD, ?_⟩
          rw [all_rep]
          exact q _ ((same_new np).trans sm)
      | tup ds =>
        cases hx with
        | @tup _ a xs _ ea la za ma =>
        cases hy with
        | @tup _ b ys _ eb lb zb mb =>
        refine ⟨_, rfl, rfl, _, rfl, iteF ⟨_, rfl, rfl, _, rfl, iteF ?_⟩⟩
        refine ⟨_, rfl, _, _, _, _, false, rfl, ClsV.ty _, (.base (.tup eb)), kit_ty (by decide +kernel), _, rfl, iteF ?_⟩
        refine ⟨_, rfl, _, _, _, _, false, rfl, ClsV.ty _, (.base (.tup ea)), kit_ty (by decide +kernel), _, rfl, iteF ?_⟩
        refine ⟨_, rfl, (by show 2 ≤ sizeLine; decide), fun p np => ⟨_, _, _, _, _, false, rfl, upd_same, .cons (ClsV.ty _) (.cons (ClsV.ty _) .nil), (.base (.tup ((same_new np) _ _ eb))), kit2 (b1 := false) (b2 := false) (by decide +kernel) (by decide +kernel) rfl, _, rfl, iteF ?_⟩⟩
        have ea' := (same_new (o := .tup [.ty "int", .ty "str"]) np) _ _ ea
        have eb' := (same_new (o := .tup [.ty "int", .ty "str"]) np) _ _ eb
        refine ⟨_, rfl, _, _, _, _, false, rfl, ClsV.ty _, (.base (.tup ea')), kit_ty (by decide +kernel), _, rfl, _, _, _, _, false, rfl, ClsV.ty _, (.base (.tup eb')), kit_ty (by decide +kernel), rfl, _, rfl, iteF ?_⟩
        refine ⟨_, rfl, _, _, _, _, true, rfl, ClsV.ty _, (.base (.tup ea')), kit_ty (by decide +kernel), _, rfl, _, _, _, _, true, rfl, ClsV.ty _, (.base (.tup eb')), kit_ty (by decide +kernel), rfl, _, rfl, iteF ?_⟩
        refine ⟨_, rfl, a, xs, rfl, .inr (SqT.of ea'), _, rfl, b, ys, rfl, .inr (SqT.of eb'), rfl, _, rfl, ?_⟩
        rw [if_pos (by rw [la, lb]; exact decide_eq_true rfl)]
        have lxy : ys.length ≤ 1000000 := by rw [lb]; exact zb
        refine ⟨_, rfl, b, ys, rfl, .inr (SqT.of eb'), (ys.length : Int), rfl, by omega, by omega, fun D nD => ?_⟩
        have sD := same_new (o := .lst []) nD
        refine lc_range (lo := 0) (n := ys.length) (fun i H' => Same (upd H p (.tup [.ty "int", .ty "str"])) H' ∧ H' D = some (.lst ((List.replicate i true).map V.bl))) ⟨sD, upd_same⟩ ?_ ?_
        · rintro i H' hi ⟨sm, hD⟩
          have hix : i < xs.length := by omega
          have hid : i < ds.length := by omega
          refine ⟨rfl, ?_⟩
          refine ⟨_, rfl, _, rfl, .inr (.inl ⟨a, xs, _, xs[i], rfl, rfl, SqT.of (sm _ _ ea'), at_of (Int.zero_add _) (List.getElem?_eq_getElem hix), ?_⟩)⟩
          refine ⟨_, rfl, _, rfl, .inr (.inl ⟨b, ys, _, ys[i], rfl, rfl, SqT.of (sm _ _ eb'), at_of (Int.zero_add _) (List.getElem?_eq_getElem hi), ?_⟩)⟩
          have sH := (same_new (o := .tup [.ty "int", .ty "str"]) np).trans sm
          refine ⟨xs[i], ys[i], ds[i], rfl, (ma i _ _ (List.getElem?_eq_getElem hix) (List.getElem?_eq_getElem hid)).same sH, (mb i _ _ (List.getElem?_eq_getElem hi) (List.getElem?_eq_getElem hid)).same sH, fun H4 s4 => ?_⟩
          refine ⟨_, s4 _ _ hD, ?_, same_at nD (sm.trans s4), ?_⟩
          · rw [List.length_map, List.length_replicate]
            exact Nat.lt_of_lt_of_le (show i < 1000001 by omega) (by rw [sizeLine_eq]; decide)
          · rw [upd_same, List.replicate_succ', List.map_append]
            rfl
        · rintro H' ⟨sm, hD⟩
          refine ⟨D, List.replicate ys.length true, rfl, SqL.of hD, ?_⟩
          rw [all_rep]
          exact q _ ((same_new np).trans sm)
end
end K14

namespace K14
open PySem PySem.Spec PyProof.Rows L2
theorem BagAt.same {l b : Addr} {ns : List Int} {H H' : Hp} (B : BagAt l ns H b) (s : Same H H') : BagAt l ns H' b := by
  obtain ⟨i, bank, salt, c, hB, r⟩ := B.ex
  exact ⟨B.ne, s _ _ B.ls, i, bank, salt, c, s _ _ hB, r⟩
theorem BagAt.at {l b : Addr} {ns : List Int} {H : Hp} (B : BagAt l ns H b) : ∃ xs, H b = some (.lst xs) := by
  obtain ⟨i, bank, salt, c, hB, r⟩ := B.ex
  exact ⟨_, hB⟩
theorem BagAt.new {l b p : Addr} {ns : List Int} {H : Hp} {o : HO} (B : BagAt l ns H b) (n : H p = none) : BagAt l ns (upd H p o) b := B.same (same_new n)
/-- a store elsewhere -/
theorem BagAt.off {l b p : Addr} {ns : List Int} {H : Hp} {o : HO} (B : BagAt l ns H b) (h1 : p ≠ b) (h2 : p ≠ l) : BagAt l ns (upd H p o) b := by
  obtain ⟨i, bank, salt, c, hB, r⟩ := B.ex
  exact ⟨B.ne, by rw [upd_ne h2.symm]; exact B.ls, i, bank, salt, c, by rw [upd_ne h1.symm]; exact hB, r⟩
def spLaw (K : PySem.W.Frag) : Sp := fun vs H Q _ => ∃ (a : Addr) (ns : List Int), vs = [.ref a] ∧ SqL K H a (ns.map V.int) ∧ ns.length ≤ 63 ∧ ∀ H', Q (.bl true) H'
end K14

set_option maxHeartbeats 1000000
/-! zip(a, b), each of them a list, a tuple or a text -/
namespace ZM
open PySem PySem.Spec PyProof.Rows L2
/-- what is walked -/
inductive Sk where
  | lst (a : Addr)
  | tup (a : Addr)
  | txt (x : Str)
def Sk.v : Sk → V
  | .lst a => .ref a
  | .tup a => .ref a
  | .txt x => .str x
def Sk.at : Sk → List Addr
  | .lst a => [a]
  | .tup a => [a]
  | .txt _ => []
def signs (x : Str) : List V := x.cps.toList.map fun c => V.str ⟨#[c]⟩
def Src (K : PySem.W.Frag) (H : Hp) : Sk → List V → Prop
  | .lst a, xs => SqL K H a xs
  | .tup a, xs => SqT K H a xs
  | .txt x, xs => xs = signs x
/-- its iterator, at place i -/
def Stands (h : Heap) (it : Addr) (t : Tok) (i : Nat) : Sk → Prop
  | .lst a => h.IsListIter it a i
  | .tup a => h.IsTupleIter it a i
  | .txt x => h.IsStrIter it (strIterType x) x t i
def cells (it : Addr) (k : Sk) : List Addr := it :: k.at
theorem sqT_sm {K : PySem.W.Frag} {H H' : Hp} {a : Addr} {xs : List V} (s : Same H H') (h : SqT K H a xs) : SqT K H' a xs := by
  rcases h with h | h
  · rcases h with h | h
    · exact .inl (.inl (s _ _ h))
    · exact .inl (.inr (h.imp fun o q => s _ _ q))
  · exact .inr h
theorem find_rel {xs : List V} {us : List Value} (r : Vals xs us) {i : Nat} {u : Value} (h : us[i]? = some u) : ∃ x, xs[i]? = some x ∧ RelV x u := by
  have hi := (List.getElem?_eq_some_iff.mp h).1
  have hl := r.length
  have hx := List.getElem?_eq_getElem (show i < xs.length by omega)
  obtain ⟨v, hv, rv⟩ := r.get hx
  rw [h] at hv
  cases hv
  exact ⟨_, hx, rv⟩
theorem ad {a n m : Nat} (h : n ≠ m) : a + n ≠ a + m := by omega
theorem src_same {K : PySem.W.Frag} {H H' : Hp} {k : Sk} {xs : List V} (h : Src K H k xs) (s : Same H H') : Src K H' k xs := by
  cases k with
  | lst a => exact s.seq h
  | tup a => exact sqT_sm s h
  | txt x => exact h
section
variable {X : Cx} {pins : List (Addr × Obj)} {σ : L2.St} {H : Hp} {s : Shared} {k k1 k2 : Sk} {xs ys : List V} {it : Addr} {t t1 t2 : Tok} {i : Nat}
theorem src_inj (I : Inv X pins σ H s) (h1 : Src X.K H k xs) (h2 : Src X.K H k ys) : xs = ys := by
  cases k with
  | lst a => exact I.list_inj h1 h2
  | tup a => exact I.tuple_inj h1 h2
  | txt x => exact (show xs = signs x from h1).trans (show ys = signs x from h2).symm
theorem stands_at {h h' : Heap} (st : Stands h it t i k) (q : ∀ o, h.get? it = some o → h'.get? it = some o) : Stands h' it t i k := by
  cases k with
  | lst a => exact Heap.IsListIter.at (show h.IsListIter it a i from st) q
  | tup a => exact Heap.IsTupleIter.at (show h.IsTupleIter it a i from st) q
  | txt x => exact let ⟨o, ho, r⟩ := (show h.IsStrIter it (strIterType x) x t i from st); ⟨o, q o ho, r⟩
theorem stands_obj {h : Heap} (st : Stands h it t i k) : ∃ o, h.get? it = some o ∧ ∀ v, o.data ≠ .cell v := by
  cases k with
  | lst a => obtain ⟨o, e, _, d⟩ := (show h.IsListIter it a i from st); exact ⟨o, e, fun v q => by rw [d] at q; cases q⟩
  | tup a => obtain ⟨o, e, _, d⟩ := (show h.IsTupleIter it a i from st); exact ⟨o, e, fun v q => by rw [d] at q; cases q⟩
  | txt x => obtain ⟨o, e, _, d⟩ := (show h.IsStrIter it (strIterType x) x t i from st); exact ⟨o, e, fun v q => by rw [d] at q; cases q⟩
/-- what an iterator draws -/
theorem draws (I : Inv X pins σ H s) (hc : X.calm = true) (hq : Src X.K H k xs) (st : Stands s.heap it t i k) (ap : ∀ a ∈ k.at, a ≠ it) :
    ∃ (Pv : Nat → Value → Prop) (St : Nat → Heap → Prop), Draws X.prog X.w X.A.in1 it (cells it k) xs.length Pv St ∧ St i s.heap ∧ (∀ i h, St i h → Stands h it t i k) ∧ ∀ i u, Pv i u → ∃ x, xs[i]? = some x ∧ RelV x u := by
  cases k with
  | lst a =>
    obtain ⟨its, rv, p, _⟩ := I.list hq
    have D := Draws.list (prog := X.prog) (w := X.w) (A := X.A.in1) (I.ok.hd hc) it a (ap a (by simp [Sk.at])) its.toArray
    rw [List.size_toArray, ← rv.length] at D
    exact ⟨_, _, D, ⟨st, p.isList⟩, fun i h q => q.1, fun i u hu => by
      have hu' : its[i]? = some u := by simpa using hu
      exact find_rel rv hu'⟩
  | tup a =>
    obtain ⟨its, rv, p, _⟩ := I.tuple hq
    have D := Draws.tuple (prog := X.prog) (w := X.w) (A := X.A.in1) (I.ok.hd hc) it a (ap a (by simp [Sk.at])) its.toArray
    rw [List.size_toArray, ← rv.length] at D
    exact ⟨_, _, D, ⟨st, p⟩, fun i h q => q.1, fun i u hu => by
      have hu' : its[i]? = some u := by simpa using hu
      exact find_rel rv hu'⟩
  | txt x =>
    have e : xs = signs x := hq
    have D := Draws.text (prog := X.prog) (w := X.w) (A := X.A.in1) (I.ok.hd hc) it x t
    have l : x.cps.size = xs.length := by rw [e, signs, List.length_map, Array.length_toList]
    rw [l] at D
    refine ⟨_, _, D, st, fun i h q => q, fun i u hu => ?_⟩
    obtain ⟨c, tk, h1, rfl⟩ := hu
    refine ⟨.str ⟨#[c]⟩, ?_, _, rfl⟩
    rw [e, signs, List.getElem?_map, Array.getElem?_toList, h1]
    rfl
end
def ItZ (K : PySem.W.Frag) (k1 k2 : Sk) : It where
  go := fun i H => ∃ (xs ys : List V) (x y : V), Src K H k1 xs ∧ Src K H k2 ys ∧ xs[i]? = some x ∧ ys[i]? = some y
  yld := fun i H v H' => ∃ T x y, v = .ref T ∧ H T = none ∧ H' = upd H T (.tup [x, y]) ∧ (∀ xs, Src K H k1 xs → xs[i]? = some x) ∧ ∀ ys, Src K H k2 ys → ys[i]? = some y
  stop := fun i H => ∃ xs ys : List V, Src K H k1 xs ∧ Src K H k2 ys ∧ i ≤ xs.length ∧ i ≤ ys.length ∧ (i = xs.length ∨ i = ys.length)
theorem turn_z {P : Program} {w : World} {K : PySem.W.Frag} {elts : List Expr} {kk : Nat} {tpos : Pos} {k1 k2 : Sk} {t1 t2 : Tok} {z TI TO i1 i2 : Addr} (S : ZipSep2 z TI TO i1 i2 (cells i1 k1) (cells i2 k2)) (nI : i1 ≠ i2) (nd1 : ∀ a ∈ k1.at, a ≠ i1) (nd2 : ∀ a ∈ k2.at, a ≠ i2) :
    Turn P w K (.Tuple elts kk tpos) (ItZ K k1 k2) [z, TI, TO, i1, i2] z (fun i h => IsZip h z TI TO .none ∧ IsTupOf2 h TI (.ref i1) (.ref i2) ∧ (∃ x y, IsTupOf2 h TO x y) ∧ Stands h i1 t1 i k1 ∧ Stands h i2 t2 i k2) where
  mem := List.mem_cons_self
  obj := fun i h st c hc => by
    obtain ⟨hz, hTI, ⟨x, y, hTO⟩, h1, h2⟩ := st
    simp only [List.mem_cons, List.not_mem_nil, or_false] at hc
    rcases hc with rfl | rfl | rfl | rfl | rfl
    · exact ⟨_, hz, fun v q => nomatch q⟩
    · exact ⟨_, hTI, fun v q => nomatch q⟩
    · exact ⟨_, hTO, fun v q => nomatch q⟩
    · exact stands_obj h1
    · exact stands_obj h2
  keep := fun i h h' st k => by
    obtain ⟨hz, hTI, ⟨x, y, hTO⟩, h1, h2⟩ := st
    exact ⟨k _ (by simp) _ hz, k _ (by simp) _ hTI, ⟨x, y, k _ (by simp) _ hTO⟩, stands_at h1 fun o q => k _ (by simp) o q, stands_at h2 fun o q => k _ (by simp) o q⟩
  item := by
    rintro X rfl rfl rfl hc i pins s σ H E I hf ⟨hz, hTI, ⟨x0, y0, hTO⟩, h1, h2⟩ ⟨xs, ys, x, y, hqx, hqy, hx, hy⟩
    obtain ⟨P1, St1, D1, s1, b1, r1⟩ := draws I hc hqx h1 nd1
    obtain ⟨P2, St2, D2, s2, b2, r2⟩ := draws I hc hqy h2 nd2
    have zl : z < s.heap.objs.size := Heap.lt_size hz
    refine wpAny_pyNext_zipD2_item S D1 D2 hz hTI hTO s1 s2 (List.getElem?_eq_some_iff.mp hx).1 (List.getElem?_eq_some_iff.mp hy).1 fun u1 u2 h' tk p1 p2 z' TO' d1 d2 hT hsz hk => ?_
    obtain ⟨x', ex, rx⟩ := r1 _ _ p1
    obtain ⟨y', ey, ry⟩ := r2 _ _ p2
    refine ⟨_, rfl, wpAny_letOwnedTupleGo_zip (s := { s with heap := h', toks := tk }) z' fun h'' z'' sb => ?_⟩
    have hT2 : h''.get? s.heap.objs.size = some { cls := .type "tuple", data := .seq #[u1, u2] } := (sb.2 _ (Nat.ne_of_gt zl)).trans hT
    have pairOk : ObjOk X.prog X.w (upd H s.heap.objs.size (.tup [x', y'])) h'' s.heap.objs.size (.tup [x', y']) :=
      ⟨by show 2 ≤ sizeLine; decide, [u1, u2], .cons rx (.cons ry .nil), _, hT2, rfl, _, rfl⟩
    have stays : ∀ c oc, c ∉ [z, TI, TO, i1, i2] → s.heap.get? c = some oc → h''.get? c = some oc := fun c oc hn q => by
      simp only [List.mem_cons, List.not_mem_nil, or_false, not_or] at hn
      exact (sb.2 c hn.1).trans (hk c oc hn.1 hn.2.2.1 hn.2.2.2.1 hn.2.2.2.2 q)
    have I1 : Inv X pins σ (upd H s.heap.objs.size (.tup [x', y'])) { s with heap := h'', toks := tk } := I.turnedNew stays hf (Nat.le_refl _) pairOk
    refine ⟨.ref s.heap.objs.size, _, I1, rfl, ⟨_, x', y', rfl, I.hok.fresh (Nat.le_refl _), rfl, fun l hl => by rw [src_inj I hl hqx]; exact ex, fun l hl => by rw [src_inj I hl hqy]; exact ey⟩,
      ⟨z'', (sb.2 _ S.TIz).trans (hk _ _ S.TIz S.TITO S.TIi1 S.TIi2 hTI), ⟨u1, u2, (sb.2 _ S.TOz).trans TO'⟩, stands_at (b1 _ _ d1) fun o q => (sb.2 _ S.zi1.symm).trans q, stands_at (b2 _ _ d2) fun o q => (sb.2 _ S.zi2.symm).trans q⟩, fun c hcm => ?_⟩
    have hlt : c < s.heap.objs.size := by
      have hcm' := hcm
      simp only [List.mem_cons, List.not_mem_nil, or_false] at hcm'
      rcases hcm' with rfl | rfl | rfl | rfl | rfl
      · exact zl
      · exact Heap.lt_size hTI
      · exact Heap.lt_size hTO
      · obtain ⟨_, q, _⟩ := stands_obj h1; exact Heap.lt_size q
      · obtain ⟨_, q, _⟩ := stands_obj h2; exact Heap.lt_size q
    rw [upd_ne (Nat.ne_of_lt hlt)]
    exact (hf c hcm).1
  done := by
    rintro X rfl rfl rfl hc i pins s σ H E I hf ⟨hz, hTI, ⟨x0, y0, hTO⟩, h1, h2⟩ ⟨xs, ys, hqx, hqy, l1, l2, hend⟩
    obtain ⟨P1, St1, D1, s1, b1, r1⟩ := draws I hc hqx h1 nd1
    obtain ⟨P2, St2, D2, s2, b2, r2⟩ := draws I hc hqy h2 nd2
    refine wpAny_pyNext_zipD2_end S D1 D2 hz hTI hTO s1 s2 l1 l2 hend fun h' tk hk => ⟨rfl, ?_⟩
    exact I.turnedL (ch := [z, TI, TO, i1, i2]) (fun c o hb q => hk c o (fun e => hb (by simp [e])) (fun e => hb (by simp [e])) (fun e => hb (by simp [e])) (fun e => hb (by simp [e])) q) hf
  self := fun A i s Q E st h => wpAny_pyIter_zip st.1 h
def iZ (K : PySem.W.Frag) (ta : TA) : TI := fun σ H R => ta σ H fun vs H1 => ∃ (k1 k2 : Sk) (xs ys : List V), vs = [k1.v, k2.v] ∧ Src K H1 k1 xs ∧ Src K H1 k2 ys ∧ R (ItZ K k1 k2) H1
/-- how a source's walk begins -/
theorem begins {X : Cx} {pins : List (Addr × Obj)} {σ : L2.St} {H : Hp} {s : Shared} {k : Sk} {xs : List V} {u : Value} (I : Inv X pins σ H s) (hq : Src X.K H k xs) (r : RelV k.v u) :
    ∃ (o : Obj) (Hp : Heap → Prop) (t : Tok), Begins u o Hp ∧ Hp s.heap ∧ (∀ a ∈ k.at, a < s.heap.objs.size) ∧ ∀ (h : Heap) (it : Addr), h.get? it = some o → Stands h it t 0 k := by
  cases k with
  | lst a =>
    cases r
    obtain ⟨its, rv, p, _⟩ := I.list hq
    exact ⟨_, _, 0, begins_list a its.toArray, p.isList, fun b hb => by rw [List.mem_singleton.mp hb]; exact p.lt, fun h it e => ⟨_, e, rfl, rfl⟩⟩
  | tup a =>
    cases r
    obtain ⟨its, rv, p, _⟩ := I.tuple hq
    exact ⟨_, _, 0, begins_tuple a its.toArray, p, fun b hb => by rw [List.mem_singleton.mp hb]; exact IsTup.lt p, fun h it e => ⟨_, e, rfl, rfl⟩⟩
  | txt x =>
    obtain ⟨t, rfl⟩ := r
    exact ⟨_, _, t, begins_text x t, trivial, fun b hb => absurd hb (by simp [Sk.at]), fun h it e => ⟨_, e, rfl, rfl⟩⟩
theorem pi_z {X : Cx} {e e2 : Expr} {ta : TA} {p pos tpos : Pos} {elts : List Expr} {kk : Nat} (hg : Gl X "zip") (hm : X.mg "zip" = none) (ha : PA X [e, e2] ta)
    (hs : starEach [e, e2] X.env = (false, eval e X.env) :: starEach [e2] X.env := by rfl) (hpl : (backTo pos (starEach [e2] X.env)).any (·.1) = false := by rfl) :
    PI X (.Tuple elts kk tpos) (.Call (.Name "zip" p) [e, e2] [] pos) (iZ X.K ta) := by
  refine ⟨fun pins s σ H R I h => Call_ (ld_blt I hg hm PyProof.Rows.boot_zip (PyProof.Rows.callWith_type1 (thn (ha.run pos pins s σ H _ I h) fun us s1 h1 => ?_) hs hpl))⟩
  obtain ⟨vs, H1, I1, r1, k1, k2, xs, ys, rfl, hx, hy, q⟩ := h1
  cases r1 with
  | cons ru rr =>
    cases rr with
    | cons rw rr =>
      cases rr
      obtain ⟨o1, G1, t1, B1, g1, lt1, w1⟩ := begins I1 hx ru
      obtain ⟨o2, G2, t2, B2, g2, lt2, w2⟩ := begins I1 hy rw
      refine zip_begins2 B1 B2 g1 g2 fun h' hz hTI hTO e1 e2 hsz hk => wpAny_pyIter_zip hz ?_
      have I2 : Inv X pins σ H1 { s1 with heap := h' } := I1.kept (t' := s1.toks) hk
      have far : ∀ (k : Sk) (n j : Nat), (∀ a ∈ k.at, a < s1.heap.objs.size) → n ≠ j → s1.heap.objs.size + n ∉ cells (s1.heap.objs.size + j) k := fun k n j hl hn hc => by
        rcases List.mem_cons.mp hc with z | z
        · exact ad hn z
        · exact Nat.not_lt_of_le (Nat.le_add_right _ _) (hl _ z)
      have S : ZipSep2 (s1.heap.objs.size + 4) (s1.heap.objs.size + 2) (s1.heap.objs.size + 3) s1.heap.objs.size (s1.heap.objs.size + 1) (cells s1.heap.objs.size k1) (cells (s1.heap.objs.size + 1) k2) :=
        { TIz := ad (by decide), TOz := ad (by decide), TITO := ad (by decide), TIi1 := ad (n := 2) (m := 0) (by decide), TIi2 := ad (by decide), mem1 := List.mem_cons_self, mem2 := List.mem_cons_self,
          zf1 := far k1 4 0 lt1 (by decide), Tf1 := far k1 3 0 lt1 (by decide), zf2 := far k2 4 1 lt2 (by decide), Tf2 := far k2 3 1 lt2 (by decide), sep1_2 := far k2 0 1 lt2 (by decide), sep2_1 := far k1 1 0 lt1 (by decide) }
      refine ⟨s1.heap.objs.size + 4, [s1.heap.objs.size + 4, s1.heap.objs.size + 2, s1.heap.objs.size + 3, s1.heap.objs.size, s1.heap.objs.size + 1], _, _, H1, rfl, I2,
        turn_z (t1 := t1) (t2 := t2) S (ad (n := 0) (m := 1) (by decide)) (fun a h => Nat.ne_of_lt (lt1 a h)) (fun a h => Nat.ne_of_lt (Nat.lt_succ_of_lt (lt2 a h))), ⟨hz, hTI, ⟨_, _, hTO⟩, w1 _ _ e1, w2 _ _ e2⟩, fun c hc => ?_, q⟩
      have hle : s1.heap.objs.size ≤ c := by
        simp only [List.mem_cons, List.not_mem_nil, or_false] at hc
        rcases hc with e | e | e | e | e
        · rw [e]; exact Nat.le_add_right _ _
        · rw [e]; exact Nat.le_add_right _ _
        · rw [e]; exact Nat.le_add_right _ _
        · rw [e]; exact Nat.le_refl _
        · rw [e]; exact Nat.le_add_right _ _
      exact I1.fpOk hle (I1.hok.fresh hle)
/-- a comprehension over zip of two of one length, that the block leaves as they are -/
theorem lc_z {K : PySem.W.Frag} {k1 k2 : Sk} {xs ys : List V} {g : TG} {tt : TT} {te : TE} {vs : List Nat} {σ : L2.St} {H1 : Hp} {D : Addr} {Qd : Hp → Prop} (hl : xs.length = ys.length) (Pv : Nat → Hp → Prop) (h0 : Pv 0 (upd H1 D (.lst []))) (hq : ∀ i H, Pv i H → Src K H k1 xs ∧ Src K H k2 ys)
    (hs : ∀ i x y T H, xs[i]? = some x → ys[i]? = some y → Pv i H → H T = none → g (.ref T) (wipe σ vs) (upd H T (.tup [x, y])) fun σ2 H2 => wipe σ2 vs = wipe σ vs ∧ tt σ2 H2 fun b H3 =>
      if b = true then te σ2 H3 fun y H4 => ∃ acc, H4 D = some (.lst acc) ∧ acc.length < sizeLine ∧ Pv (i + 1) (upd H4 D (.lst (acc ++ [y]))) else Pv (i + 1) H3) (hd : ∀ H, Pv xs.length H → Qd H) :
    ∃ W : Nat → Nat → Hp → Prop, (∃ m, W 0 m (upd H1 D (.lst []))) ∧ ∀ i m H, W i m H →
      ((ItZ K k1 k2).stop i H ∧ Qd H) ∨ ((ItZ K k1 k2).go i H ∧ ∃ Nx : Hp → Prop, (∀ H', Nx H' → ∃ m', m' < m ∧ W (i + 1) m' H') ∧ ∀ x H', (ItZ K k1 k2).yld i H x H' → g x (wipe σ vs) H' fun σ2 H2 => wipe σ2 vs = wipe σ vs ∧ tt σ2 H2 fun b H3 =>
        if b = true then te σ2 H3 fun y H4 => ∃ acc, H4 D = some (.lst acc) ∧ acc.length < sizeLine ∧ Nx (upd H4 D (.lst (acc ++ [y]))) else Nx H3) := by
  refine ⟨fun i m H => m + i = xs.length ∧ Pv i H, ⟨xs.length, rfl, h0⟩, fun i m H ⟨em, p⟩ => ?_⟩
  obtain ⟨qx, qy⟩ := hq i H p
  by_cases c : i < xs.length
  · have cx := List.getElem?_eq_getElem c
    have cy := List.getElem?_eq_getElem (show i < ys.length by omega)
    refine .inr ⟨⟨xs, ys, _, _, qx, qy, cx, cy⟩, Pv (i + 1), fun H' p' => ⟨m - 1, by omega, by omega, p'⟩, fun v H' hv => ?_⟩
    obtain ⟨T, x, y, rfl, nT, rfl, f1, f2⟩ := hv
    exact hs i x y T H (f1 _ qx) (f2 _ qy) p nT
  · have e : i = xs.length := by omega
    subst e
    exact .inl ⟨⟨xs, ys, qx, qy, Nat.le_refl _, by omega, .inl rfl⟩, hd H p⟩
/-- a list or a tuple walked -/
def iSq (K : PySem.W.Frag) (te : TE) : TI := fun σ H R => te σ H fun v H1 => ∃ (a : Addr) (xs : List V), v = .ref a ∧ ((SqL K H1 a xs ∧ R (Itl K a) H1) ∨ (SqT K H1 a xs ∧ R (Itt K a) H1))
theorem pi_sq {X : Cx} {tg e : Expr} {te : TE} (he : PE X e te) : PI X tg e (iSq X.K te) := by
  refine ⟨fun pins s σ H R I h => thn (he.run pins s σ H _ I h) fun u s1 h1 => ?_⟩
  obtain ⟨v, H1, I1, rv, a, xs, rfl, q⟩ := h1
  have new : ∀ c ∈ [s1.heap.objs.size], FpOk X pins H1 c := fun c hc => by
    rw [List.mem_singleton.mp hc]
    exact I1.fpOk (Nat.le_refl _) (I1.hok.fresh (Nat.le_refl _))
  cases rv
  rcases q with ⟨hq, q⟩ | ⟨hq, q⟩
  · obtain ⟨its, r, p, _⟩ := I1.list hq
    exact wpAny_pyIter_list p.isList ⟨_, [s1.heap.objs.size], _, _, H1, rfl, I1.kept (t' := s1.toks) fun b o x => Heap.get?_push_of_some _ x, turn_list a _, ⟨_, Heap.get?_push_size _ rfl, rfl, rfl⟩, new, q⟩
  · obtain ⟨its, r, p, _⟩ := I1.tuple hq
    exact wpAny_pyIter_tuple (show s1.heap.IsTuple a its.toArray from p) ⟨_, [s1.heap.objs.size], _, _, H1, rfl, I1.kept (t' := s1.toks) fun b o x => Heap.get?_push_of_some _ x, turn_tuple a _, ⟨_, Heap.get?_push_size _ rfl, rfl, rfl⟩, new, q⟩
end ZM

set_option maxHeartbeats 1000000
/-! comprehensions that give one value a turn and change nothing that stood -/
namespace ZM
open PySem PySem.Spec PyProof.Rows L2
theorem sm_new {H : Hp} {p : Addr} {o : HO} (h : H p = none) : Same H (upd H p o) := fun b x e => by
  rw [upd_ne (fun z => by rw [z, h] at e; cases e)]
  exact e
theorem sm_at {H H' : Hp} {D : Addr} {o : HO} (hD : H D = none) (s : Same H H') : Same H (upd H' D o) := fun b x e => by
  rw [upd_ne (fun z => by rw [z, hD] at e; cases e)]
  exact s _ _ e
theorem take_next {ys : List V} {i : Nat} {y : V} (h : ys[i]? = some y) : ys.take i ++ [y] = ys.take (i + 1) := by
  rw [List.take_add_one, h]
  rfl
/-- a reading that is not looked into -/
structure Bx (t : TE) (σ : L2.St) (H : Hp) (Q : VK) : Prop where
  run : t σ H Q
theorem pe_bx {X : Cx} {e : Expr} {t : TE} (h : PE X e t) : PE X e (Bx t) := ⟨fun pins s σ H Q I b => h.run pins s σ H Q I b.run⟩
theorem ps_bx {X : Cx} {st : Stmt} {t : TE} {g : TG} (h : PS X st (tAsg t g)) : PS X st (tAsg (Bx t) g) := ⟨fun pins s σ H D I b => h.run pins s σ H D I (Bx.run b)⟩
/-- the rest of a comprehension -/
def Lc (g : TG) (tt : TT) (te : TE) (vs : List Nat) (σ : L2.St) (Q : VK) : It → Hp → Prop := fun J H1 => ∀ D, H1 D = none → ∃ W : Nat → Nat → Hp → Prop, (∃ m, W 0 m (upd H1 D (.lst []))) ∧ ∀ i m H, W i m H →
  (J.stop i H ∧ Q (.ref D) H) ∨ (J.go i H ∧ ∃ Nx : Hp → Prop, (∀ H', Nx H' → ∃ m', m' < m ∧ W (i + 1) m' H') ∧ ∀ x H', J.yld i H x H' → g x (wipe σ vs) H' fun σ2 H2 => wipe σ2 vs = wipe σ vs ∧ tt σ2 H2 fun b H3 =>
    if b = true then te σ2 H3 fun y H4 => ∃ acc, H4 D = some (.lst acc) ∧ acc.length < sizeLine ∧ Nx (upd H4 D (.lst (acc ++ [y]))) else Nx H3)
theorem acc_ok {ys : List V} {i : Nat} (z : ys.length ≤ 1000000) (h : i < ys.length) : (ys.take i).length < sizeLine := by
  rw [List.length_take, sizeLine_eq]
  omega
section
variable {K : PySem.W.Frag} {te : TE} {vs : List Nat} {σ : L2.St} {H1 : Hp} {Q : VK} {xs ys : List V} {a : Addr} {j j2 : Nat}
theorem map_sq (hq : SqL K H1 a xs ∨ SqT K H1 a xs) (ly : ys.length = xs.length) (z : ys.length ≤ 1000000) (hw : ∀ x, wipe ((wipe σ vs).set j (some x)) vs = wipe σ vs)
    (hs : ∀ (i : Nat) (x y : V) (H : Hp) (R : VK), xs[i]? = some x → ys[i]? = some y → Same H1 H → (∀ H4, Same H H4 → R y H4) → te ((wipe σ vs).set j (some x)) H R) (hd : ∀ D H, Same H1 H → H1 D = none → H D = some (.lst ys) → Q (.ref D) H) :
    (SqL K H1 a xs ∧ Lc (gName j) tYes te vs σ Q (Itl K a) H1) ∨ (SqT K H1 a xs ∧ Lc (gName j) tYes te vs σ Q (Itt K a) H1) := by
  have turn : ∀ (D : Addr), H1 D = none → ∀ (i : Nat) (x : V) (H : Hp), xs[i]? = some x → (Same H1 H ∧ H D = some (.lst (ys.take i))) → (gName j) x (wipe σ vs) H fun σ2 H2 => wipe σ2 vs = wipe σ vs ∧ tYes σ2 H2 fun b H3 =>
      if b = true then te σ2 H3 fun y H4 => ∃ acc, H4 D = some (.lst acc) ∧ acc.length < sizeLine ∧ (Same H1 (upd H4 D (.lst (acc ++ [y]))) ∧ (upd H4 D (.lst (acc ++ [y]))) D = some (.lst (ys.take (i + 1)))) else (Same H1 H3 ∧ H3 D = some (.lst (ys.take (i + 1)))) := by
    intro D nD i x H hx ⟨sm, hD⟩
    have li := (List.getElem?_eq_some_iff.mp hx).1
    have hy := List.getElem?_eq_getElem (show i < ys.length by omega)
    refine ⟨hw x, ?_⟩
    show te _ H _
    refine hs i x _ H _ hx hy sm fun H4 s4 => ⟨_, s4 _ _ hD, acc_ok z (by omega), sm_at nD (sm.trans s4), ?_⟩
    rw [upd_same, take_next hy]
  have start : ∀ D, H1 D = none → Same H1 (upd H1 D (.lst [])) ∧ (upd H1 D (.lst [])) D = some (.lst (ys.take 0)) := fun D nD => ⟨sm_new nD, upd_same⟩
  have fin : ∀ D H, H1 D = none → (Same H1 H ∧ H D = some (.lst (ys.take xs.length))) → Q (.ref D) H := fun D H nD h => by
    refine hd D H h.1 nD ?_
    rw [h.2, ← ly, List.take_length]
  rcases hq with hq | hq
  · exact .inl ⟨hq, fun D nD => lc_list (K := K) (a := a) (xs := xs) (fun i H => Same H1 H ∧ H D = some (.lst (ys.take i))) (start D nD) (fun i H _ p => p.1.seq hq) (turn D nD) (fun H p => fin D H nD p)⟩
  · exact .inr ⟨hq, fun D nD => lc_tup (K := K) (a := a) (xs := xs) (fun i H => Same H1 H ∧ H D = some (.lst (ys.take i))) (start D nD) (fun i H _ p => sqT_sm p.1 hq) (turn D nD) (fun H p => fin D H nD p)⟩
theorem map_rng {lo : Int} {n : Nat} (ly : ys.length = n) (z : ys.length ≤ 1000000) (hw : ∀ x, wipe ((wipe σ vs).set j (some x)) vs = wipe σ vs)
    (hs : ∀ (i : Nat) (y : V) (H : Hp) (R : VK), i < n → ys[i]? = some y → Same H1 H → (∀ H4, Same H H4 → R y H4) → te ((wipe σ vs).set j (some (.int (lo + i)))) H R) (hd : ∀ D H, Same H1 H → H1 D = none → H D = some (.lst ys) → Q (.ref D) H) :
    Lc (gName j) tYes te vs σ Q (Itr lo n) H1 := fun D nD => by
  refine lc_range (lo := lo) (n := n) (fun i H => Same H1 H ∧ H D = some (.lst (ys.take i))) ⟨sm_new nD, upd_same⟩ ?_ ?_
  · intro i H hi ⟨sm, hD⟩
    have hy := List.getElem?_eq_getElem (show i < ys.length by omega)
    refine ⟨hw _, ?_⟩
    show te _ H _
    refine hs i _ H _ hi hy sm fun H4 s4 => ⟨_, s4 _ _ hD, acc_ok z (by omega), sm_at nD (sm.trans s4), ?_⟩
    rw [upd_same, take_next hy]
  · intro H h
    refine hd D H h.1 nD ?_
    rw [h.2, ← ly, List.take_length]
theorem map_z {k1 k2 : Sk} {us : List V} (q1 : Src K H1 k1 xs) (q2 : Src K H1 k2 us) (lu : us.length = xs.length) (ly : ys.length = xs.length) (z : ys.length ≤ 1000000) (hw : ∀ x u, wipe (((wipe σ vs).set j (some x)).set j2 (some u)) vs = wipe σ vs)
    (hs : ∀ (i : Nat) (x u y : V) (H : Hp) (R : VK), xs[i]? = some x → us[i]? = some u → ys[i]? = some y → Same H1 H → (∀ H4, Same H H4 → R y H4) → te (((wipe σ vs).set j (some x)).set j2 (some u)) H R) (hd : ∀ D H, Same H1 H → H1 D = none → H D = some (.lst ys) → Q (.ref D) H) :
    Lc (gTup K 2 (gCons (gName j) (gCons (gName j2) gNil))) tYes te vs σ Q (ItZ K k1 k2) H1 := fun D nD => by
  refine lc_z (K := K) (k1 := k1) (k2 := k2) (xs := xs) (ys := us) lu.symm (fun i H => Same H1 H ∧ H D = some (.lst (ys.take i))) ⟨sm_new nD, upd_same⟩ (fun i H p => ⟨src_same q1 p.1, src_same q2 p.1⟩) ?_ ?_
  · intro i x u T H hx hu ⟨sm, hD⟩ nT
    have li := (List.getElem?_eq_some_iff.mp hx).1
    have hy := List.getElem?_eq_getElem (show i < ys.length by omega)
    have s2 := sm_new (o := .tup [x, u]) nT
    refine ⟨T, [x, u], rfl, SqT.of upd_same, rfl, _, _, rfl, _, _, rfl, rfl, hw x u, ?_⟩
    show te _ _ _
    refine hs i x u _ _ _ hx hu hy (sm.trans s2) fun H4 s4 => ⟨_, s4 _ _ (s2 _ _ hD), acc_ok z (by omega), sm_at nD (sm.trans (s2.trans s4)), ?_⟩
    rw [upd_same, take_next hy]
  · intro H h
    refine hd D H h.1 nD ?_
    rw [h.2, ← ly, List.take_length]
/-! the same, of the whole comprehension -/
variable {H : Hp}
theorem lcm_sq {t0 : TE} (h0 : ∀ R : VK, R (.ref a) H1 → t0 σ H R) (hq : SqL K H1 a xs ∨ SqT K H1 a xs) (ly : ys.length = xs.length) (z : ys.length ≤ 1000000) (hw : ∀ x, wipe ((wipe σ vs).set j (some x)) vs = wipe σ vs)
    (hs : ∀ (i : Nat) (x y : V) (H : Hp) (R : VK), xs[i]? = some x → ys[i]? = some y → Same H1 H → (∀ H4, Same H H4 → R y H4) → te ((wipe σ vs).set j (some x)) H R) (hd : ∀ D H, Same H1 H → H1 D = none → H D = some (.lst ys) → Q (.ref D) H) :
    Bx (tLc (iSq K t0) (gName j) tYes te vs) σ H Q := ⟨h0 _ ⟨a, xs, rfl, map_sq hq ly z hw hs hd⟩⟩
theorem lcm_rng {ta : TA} {n : Nat} (h0 : ∀ R : List V → Hp → Prop, R [.int (n : Int)] H1 → ta σ H R) (hn : n ≤ 1000000) (ly : ys.length = n) (hw : ∀ x, wipe ((wipe σ vs).set j (some x)) vs = wipe σ vs)
    (hs : ∀ (i : Nat) (y : V) (H : Hp) (R : VK), i < n → ys[i]? = some y → Same H1 H → (∀ H4, Same H H4 → R y H4) → te ((wipe σ vs).set j (some (.int (0 + (i : Int))))) H R) (hd : ∀ D H, Same H1 H → H1 D = none → H D = some (.lst ys) → Q (.ref D) H) :
    Bx (tLc (iRng1 ta) (gName j) tYes te vs) σ H Q := ⟨h0 _ ⟨n, rfl, by omega, by omega, by
      rw [Int.toNat_natCast]
      exact map_rng (lo := 0) ly (by omega) hw hs hd⟩⟩
theorem lcm_z {ta : TA} {k1 k2 : Sk} {us : List V} (h0 : ∀ R : List V → Hp → Prop, R [k1.v, k2.v] H1 → ta σ H R) (q1 : Src K H1 k1 xs) (q2 : Src K H1 k2 us) (lu : us.length = xs.length) (ly : ys.length = xs.length) (z : ys.length ≤ 1000000) (hw : ∀ x u, wipe (((wipe σ vs).set j (some x)).set j2 (some u)) vs = wipe σ vs)
    (hs : ∀ (i : Nat) (x u y : V) (H : Hp) (R : VK), xs[i]? = some x → us[i]? = some u → ys[i]? = some y → Same H1 H → (∀ H4, Same H H4 → R y H4) → te (((wipe σ vs).set j (some x)).set j2 (some u)) H R) (hd : ∀ D H, Same H1 H → H1 D = none → H D = some (.lst ys) → Q (.ref D) H) :
    Bx (tLc (iZ K ta) (gTup K 2 (gCons (gName j) (gCons (gName j2) gNil))) tYes te vs) σ H Q := ⟨h0 _ ⟨k1, k2, xs, us, rfl, q1, q2, map_z q1 q2 lu ly z hw hs hd⟩⟩
/-! the same with a word of one's own -/
theorem own_rng {ta : TA} {n : Nat} (Pv : Addr → Nat → Hp → Prop) (h0 : ∀ R : List V → Hp → Prop, R [.int (n : Int)] H1 → ta σ H R) (hn : n ≤ 1000000) (hw : ∀ x, wipe ((wipe σ vs).set j (some x)) vs = wipe σ vs) (start : ∀ D, H1 D = none → Pv D 0 (upd H1 D (.lst [])))
    (hs : ∀ (D : Addr) (i : Nat) (H : Hp), H1 D = none → i < n → Pv D i H → te ((wipe σ vs).set j (some (.int (0 + (i : Int))))) H fun y H4 => ∃ acc, H4 D = some (.lst acc) ∧ acc.length < sizeLine ∧ Pv D (i + 1) (upd H4 D (.lst (acc ++ [y])))) (hd : ∀ D H, H1 D = none → Pv D n H → Q (.ref D) H) :
    Bx (tLc (iRng1 ta) (gName j) tYes te vs) σ H Q := ⟨h0 _ ⟨n, rfl, by omega, by omega, by
      rw [Int.toNat_natCast]
      exact fun D nD => lc_range (lo := 0) (n := n) (Pv D) (start D nD) (fun i H hi p => ⟨hw _, hs D i H nD hi p⟩) (fun H p => hd D H nD p)⟩⟩
theorem own_lst {t0 : TE} (Pv : Addr → Nat → Hp → Prop) (h0 : ∀ R : VK, R (.ref a) H1 → t0 σ H R) (hq : SqL K H1 a xs) (hl : ∀ D i H, H1 D = none → Pv D i H → SqL K H a xs) (hw : ∀ x, wipe ((wipe σ vs).set j (some x)) vs = wipe σ vs) (start : ∀ D, H1 D = none → Pv D 0 (upd H1 D (.lst [])))
    (hs : ∀ (D : Addr) (i : Nat) (x : V) (H : Hp), H1 D = none → xs[i]? = some x → Pv D i H → te ((wipe σ vs).set j (some x)) H fun y H4 => ∃ acc, H4 D = some (.lst acc) ∧ acc.length < sizeLine ∧ Pv D (i + 1) (upd H4 D (.lst (acc ++ [y])))) (hd : ∀ D H, H1 D = none → Pv D xs.length H → Q (.ref D) H) :
    Bx (tLc (iList K t0) (gName j) tYes te vs) σ H Q := ⟨h0 _ ⟨a, rfl, ⟨xs, hq⟩, fun D nD => lc_list (K := K) (a := a) (xs := xs) (Pv D) (start D nD) (fun i H _ p => hl D i H nD p) (fun i x H hx p => ⟨hw _, hs D i x H nD hx p⟩) (fun H p => hd D H nD p)⟩⟩
end
/-- a text walked, sign by sign -/
theorem lcm_str {K : PySem.W.Frag} {te t0 : TE} {vs : List Nat} {σ : L2.St} {H H1 : Hp} {Q : VK} {x : Str} {ys : List V} {j : Nat} (h0 : ∀ R : VK, R (.str x) H1 → t0 σ H R) (ly : ys.length = x.cps.size) (z : ys.length ≤ 1000000) (hw : ∀ x, wipe ((wipe σ vs).set j (some x)) vs = wipe σ vs)
    (hs : ∀ (i c : Nat) (y : V) (H : Hp) (R : VK), x.cps[i]? = some c → ys[i]? = some y → Same H1 H → (∀ H4, Same H H4 → R y H4) → te ((wipe σ vs).set j (some (.str ⟨#[c]⟩))) H R) (hd : ∀ D H, Same H1 H → H1 D = none → H D = some (.lst ys) → Q (.ref D) H) :
    Bx (tLc (iStr t0) (gName j) tYes te vs) σ H Q := ⟨h0 _ ⟨x, rfl, fun D nD => by
  refine ⟨fun i m H => m + i = x.cps.size ∧ Same H1 H ∧ H D = some (.lst (ys.take i)), ⟨x.cps.size, rfl, sm_new nD, upd_same⟩, ?_⟩
  rintro i m H ⟨em, sm, hD⟩
  by_cases c : i < x.cps.size
  · refine .inr ⟨c, fun H => Same H1 H ∧ H D = some (.lst (ys.take (i + 1))), fun H' p' => ⟨m - 1, by omega, by omega, p'⟩, fun v H' hv => ?_⟩
    obtain ⟨rfl, cc, hc, rfl⟩ := hv
    have hy := List.getElem?_eq_getElem (show i < ys.length by omega)
    refine ⟨hw _, ?_⟩
    show te _ _ _
    refine hs i cc _ _ _ hc hy sm fun H4 s4 => ⟨_, s4 _ _ hD, acc_ok z (by omega), sm_at nD (sm.trans s4), ?_⟩
    rw [upd_same, take_next hy]
  · refine .inl ⟨Nat.le_of_not_lt c, hd D H sm nD ?_⟩
    rw [hD, show i = ys.length by omega, List.take_length]⟩⟩
theorem if_by {t : TT} {ta tb : TE} {σ : L2.St} {H : Hp} {Q : VK} (G : V → Hp → Prop) (h : ∀ R : VK, (∀ v H', G v H' → R v H') → tIf t ta tb σ H R) (k : ∀ v H', G v H' → Q v H') : Bx (tIf t ta tb) σ H Q := ⟨h Q k⟩
end ZM

namespace K14
/-! ### the sign of a row of numbers, as a product over its pairs -/
def s2 (x y : Int) : Int := if x = y then 0 else if y < x then -1 else 1
def pr (x : Int) : List Int → Int
  | [] => 1
  | y :: r => s2 x y * pr x r
def sg : List Int → Int
  | [] => 1
  | x :: r => pr x r * sg r
def qr (x : Int) : List Int → Int
  | [] => 1
  | y :: r => s2 y x * qr x r
theorem s2_eq (x : Int) : s2 x x = 0 := if_pos rfl
theorem s2_lt {x y : Int} (h : y < x) : s2 x y = -1 := by
  unfold s2
  rw [if_neg (by omega), if_pos h]
theorem s2_gt {x y : Int} (h : x < y) : s2 x y = 1 := by
  unfold s2
  rw [if_neg (by omega), if_neg (by omega)]
theorem s2_neg (x y : Int) : s2 x y = - s2 y x := by
  unfold s2
  split
  · rename_i h
    subst h
    rw [if_pos rfl]
    rfl
  · split
    · rw [if_neg (by omega), if_neg (by omega)]
    · rw [if_neg (by omega), if_pos (by omega)]
      rfl
theorem pr_append (x : Int) : ∀ A B : List Int, pr x (A ++ B) = pr x A * pr x B
  | [], B => by simp [pr]
  | y :: A, B => by
    have ih := pr_append x A B
    simp only [List.cons_append, pr, ih]
    rw [Int.mul_assoc]
theorem sg_append0 : ∀ A B : List Int, ∃ c, sg (A ++ B) = sg A * c
  | [], B => ⟨sg B, by simp [sg]⟩
  | x :: A, B => by
    obtain ⟨c, hc⟩ := sg_append0 A B
    refine ⟨pr x B * c, ?_⟩
    simp only [List.cons_append, sg, hc, pr_append]
    grind
theorem sg_take0 {l : List Int} {m : Nat} (h : sg (l.take m) = 0) : sg l = 0 := by
  obtain ⟨c, hc⟩ := sg_append0 (l.take m) (l.drop m)
  rw [List.take_append_drop, h, Int.zero_mul] at hc
  exact hc
theorem sg_snoc (x : Int) : ∀ l : List Int, sg (l ++ [x]) = sg l * qr x l
  | [] => by simp [sg, pr, qr]
  | y :: l => by
    have ih := sg_snoc x l
    simp only [List.cons_append, sg, ih, pr_append, qr, pr]
    grind
theorem sg_adj (x y : Int) (C : List Int) : ∀ A : List Int, sg (A ++ x :: y :: C) = - sg (A ++ y :: x :: C)
  | [] => by
    simp only [List.nil_append, sg, pr]
    rw [s2_neg x y]
    grind
  | a :: A => by
    have ih := sg_adj x y C A
    simp only [List.cons_append, sg, ih, pr_append, pr]
    grind
theorem sg_swap (x y : Int) (C : List Int) : ∀ (B A : List Int), sg (A ++ x :: (B ++ y :: C)) = - sg (A ++ y :: (B ++ x :: C))
  | [], A => sg_adj x y C A
  | b :: B, A => by
    have h1 := sg_adj x b (B ++ y :: C) A
    have h2 := sg_swap x y C B (A ++ [b])
    have h3 := sg_adj b y (B ++ x :: C) A
    simp only [List.append_assoc, List.singleton_append, List.cons_append, List.nil_append] at h1 h2 h3 ⊢
    rw [h1, h2, h3, Int.neg_neg]
theorem set_at {α : Type} (v x : α) (R : List α) : ∀ A : List α, (A ++ x :: R).set A.length v = A ++ v :: R
  | [] => rfl
  | a :: A => by
    have ih := set_at v x R A
    simp only [List.cons_append, List.length_cons, List.set_cons_succ, ih]
theorem sg_set {l : List Int} {i j : Nat} (hij : i < j) {x y : Int} (hi : l[i]? = some x) (hj : l[j]? = some y) : sg ((l.set i y).set j x) = - sg l := by
  obtain ⟨hi1, hi2⟩ := List.getElem?_eq_some_iff.mp hi
  obtain ⟨hj1, hj2⟩ := List.getElem?_eq_some_iff.mp hj
  have e1 : l = l.take i ++ x :: l.drop (i + 1) := by
    rw [← hi2, List.getElem_cons_drop, List.take_append_drop]
  have hj3 : (l.drop (i + 1))[j - (i + 1)]? = some y := by
    rw [List.getElem?_drop, show i + 1 + (j - (i + 1)) = j by omega]
    exact hj
  obtain ⟨hk1, hk2⟩ := List.getElem?_eq_some_iff.mp hj3
  have e2 : l.drop (i + 1) = (l.drop (i + 1)).take (j - (i + 1)) ++ y :: (l.drop (i + 1)).drop (j - (i + 1) + 1) := by
    rw [← hk2, List.getElem_cons_drop, List.take_append_drop]
  generalize hA : l.take i = A at e1
  generalize hB : (l.drop (i + 1)).take (j - (i + 1)) = B at e2
  generalize hC : (l.drop (i + 1)).drop (j - (i + 1) + 1) = C at e2
  have lA : A.length = i := by
    rw [← hA, List.length_take]
    omega
  have lB : B.length = j - (i + 1) := by
    rw [← hB, List.length_take, List.length_drop]
    omega
  rw [e2] at e1
  have f1 : l.set i y = A ++ y :: (B ++ y :: C) := by
    rw [e1, ← lA]
    exact set_at _ _ _ _
  have f2 : (A ++ y :: (B ++ y :: C)).set j x = A ++ y :: (B ++ x :: C) := by
    have q := set_at x y C (A ++ y :: B)
    have lq : (A ++ y :: B).length = j := by
      rw [List.length_append, List.length_cons]
      omega
    rw [lq, List.append_assoc, List.append_assoc] at q
    exact q
  rw [f1, f2, e1, sg_swap x y C B A, Int.neg_neg]
theorem sg_set2 {l : List Int} {i j : Nat} (hij : i ≠ j) {x y : Int} (hi : l[i]? = some x) (hj : l[j]? = some y) : sg ((l.set i y).set j x) = - sg l := by
  by_cases h : i < j
  · exact sg_set h hi hj
  · rw [List.set_comm _ _ hij]
    exact sg_set (by omega) hj hi
end K14

namespace K14
open PySem PySem.Spec PyProof.Rows L2 ET
theorem for_enumL {K : PySem.W.Frag} {a : Addr} {xs : List V} {g : TG} {tb : TS} {D : Ends} {σ : L2.St} {H : Hp} (Pv : Nat → L2.St → Hp → Prop) (h0 : Pv 0 σ H) (hl : ∀ i σ H, i ≤ xs.length → Pv i σ H → SqL K H a xs)
    (hs : ∀ (i : Nat) (x : V) (σ : L2.St) (H : Hp) (T : Addr), xs[i]? = some x → Pv i σ H → H T = none → g (.ref T) σ (upd H T (.tup [.int (i : Nat), x])) fun σ2 H2 => tb { D with nx := Pv (i + 1), ct := Pv (i + 1), bk := D.nx } σ2 H2)
    (hd : ∀ σ H, Pv xs.length σ H → D.nx σ H) : ∃ W : Nat → Nat → L2.St → Hp → Prop, (∃ m, W 0 m σ H) ∧ ∀ i m σ H, W i m σ H → ((Ite K a).stop i H ∧ D.nx σ H) ∨
      ((Ite K a).go i H ∧ ∃ N : L2.St → Hp → Prop, (∀ σ' H', N σ' H' → ∃ m', m' < m ∧ W (i + 1) m' σ' H') ∧ ∀ x H', (Ite K a).yld i H x H' → g x σ H' fun σ2 H2 => tb { D with nx := N, ct := N, bk := D.nx } σ2 H2) := by
  refine ⟨fun i m σ H => m = xs.length - i ∧ i ≤ xs.length ∧ Pv i σ H, ⟨xs.length, by simp, Nat.zero_le _, h0⟩, ?_⟩
  rintro i m σ H ⟨rfl, hi, p⟩
  have q := hl i σ H hi p
  by_cases hlt : i < xs.length
  · refine .inr ⟨⟨xs, xs[i], q, List.getElem?_eq_getElem hlt⟩, Pv (i + 1), fun σ' H' p' => ⟨xs.length - (i + 1), by omega, rfl, hlt, p'⟩, ?_⟩
    rintro v H' ⟨T, x, rfl, nT, rfl, hx⟩
    exact hs i x σ H T (hx _ q) p nT
  · obtain rfl : i = xs.length := by omega
    exact .inl ⟨⟨xs, q, Nat.le_refl _⟩, hd σ H p⟩
theorem for_enumT {K : PySem.W.Frag} {a : Addr} {xs : List V} {g : TG} {tb : TS} {D : Ends} {σ : L2.St} {H : Hp} (Pv : Nat → L2.St → Hp → Prop) (h0 : Pv 0 σ H) (hl : ∀ i σ H, i ≤ xs.length → Pv i σ H → SqT K H a xs)
    (hs : ∀ (i : Nat) (x : V) (σ : L2.St) (H : Hp) (T : Addr), xs[i]? = some x → Pv i σ H → H T = none → g (.ref T) σ (upd H T (.tup [.int (i : Nat), x])) fun σ2 H2 => tb { D with nx := Pv (i + 1), ct := Pv (i + 1), bk := D.nx } σ2 H2)
    (hd : ∀ σ H, Pv xs.length σ H → D.nx σ H) : ∃ W : Nat → Nat → L2.St → Hp → Prop, (∃ m, W 0 m σ H) ∧ ∀ i m σ H, W i m σ H → ((IteT K a).stop i H ∧ D.nx σ H) ∨
      ((IteT K a).go i H ∧ ∃ N : L2.St → Hp → Prop, (∀ σ' H', N σ' H' → ∃ m', m' < m ∧ W (i + 1) m' σ' H') ∧ ∀ x H', (IteT K a).yld i H x H' → g x σ H' fun σ2 H2 => tb { D with nx := N, ct := N, bk := D.nx } σ2 H2) := by
  refine ⟨fun i m σ H => m = xs.length - i ∧ i ≤ xs.length ∧ Pv i σ H, ⟨xs.length, by simp, Nat.zero_le _, h0⟩, ?_⟩
  rintro i m σ H ⟨rfl, hi, p⟩
  have q := hl i σ H hi p
  by_cases hlt : i < xs.length
  · refine .inr ⟨⟨xs, xs[i], q, List.getElem?_eq_getElem hlt⟩, Pv (i + 1), fun σ' H' p' => ⟨xs.length - (i + 1), by omega, rfl, hlt, p'⟩, ?_⟩
    rintro v H' ⟨T, x, rfl, nT, rfl, hx⟩
    exact hs i x σ H T (hx _ q) p nT
  · obtain rfl : i = xs.length := by omega
    exact .inl ⟨⟨xs, q, Nat.le_refl _⟩, hd σ H p⟩
abbrev sSign : Stmt := topS 10
theorem scSign : FnScope ["row", "sign", "at", "number", "later"] ["row"] (defScope sSign) := ⟨rfl, rfl, rfl, by decide +kernel, rfl, by decide +kernel, by decide +kernel⟩
def spSign (K : PySem.W.Frag) : Sp := fun vs H Q _ => ∃ (a : Addr) (ns : List Int), vs = [.ref a] ∧ (SqL K H a (ns.map V.int) ∨ SqT K H a (ns.map V.int)) ∧ ns.length ≤ 1000 ∧ ∀ H', Same H H' → Q (.int (sg ns)) H'
theorem sqT_same {K : PySem.W.Frag} {H H' : Hp} {a : Addr} {xs : List V} (e : Same H H') (h : SqT K H a xs) : SqT K H' a xs := by
  rcases h with (h | ⟨o, h⟩) | h
  · exact .inl (.inl (e _ _ h))
  · exact .inl (.inr ⟨o, e _ _ h⟩)
  · exact .inr h
theorem drop_at {ns : List Int} {i : Nat} {v : Int} (h : ns[i]? = some v) : ns.drop i = v :: ns.drop (i + 1) := by
  obtain ⟨h1, h2⟩ := List.getElem?_eq_some_iff.mp h
  rw [← h2, List.getElem_cons_drop]
section
variable {P : Program} {w : World} {K : PySem.W.Frag} {mg : Str → Option Value} {base : Heap}
theorem ok_sign {f : Addr} {fd : FuncData} {k : Nat} (F : Fun K "order_sign" "order_sign" sSign f fd) (me : mg "enumerate" = none) : FnOk P w K mg base CX0 (k + 1) f fd ["row"] (spSign K) := by
  refine F.ok scSign (fun vs H Q E h => ?_) (fun cdv A outer s H vs Q E hr h => ?_)
  · obtain ⟨a, ns, rfl, _⟩ := h
    rfl
  · obtain ⟨a, ns, rfl, hS, hlen, q⟩ := h
    rcases hS with hS | hS
    · refine ⟨_, pss_cons (ps_set (i := 1) scSign.nd rfl (Or.inl rfl) pe_int)
        (pss_cons (ps_for PassesOwn.never rfl (pi_enum (by rfl) me (pa_cons (pv 0) pa_nil)) (pg_tup rfl (pgs_cons (pg_name (i := 2) scSign.nd rfl (Or.inl rfl)) (pgs_cons (pg_name (i := 3) scSign.nd rfl (Or.inl rfl)) pgs_nil)))
          (pss_one (ps_for PassesOwn.never rfl (pi_list (pe_slice sl_list (pv 0) (po_some (pe_op op_add (pv 2) pe_int)) po_none)) (pg_name (i := 4) scSign.nd rfl (Or.inl rfl))
            (pss_cons (ps_if (pt_cmpR op_eq (pv 4) (pv 3) (nomark _)) (pss_one (ps_ret pe_int)) pss_nil)
              (pss_one (ps_if (pt_cmpR op_lt (pv 4) (pv 3) (nomark _)) (pss_one (ps_set (i := 1) scSign.nd rfl (Or.inl rfl) (pe_un un_neg (pv 1)))) pss_nil))))))
        (pss_one (ps_ret (pv 1)))), ?_⟩
      refine ⟨_, rfl, a, _, rfl, hS, for_enumL (K := K) (a := a) (xs := ns.map V.int) (fun i σ H' => ∃ z x2 x3 x4, σ = [some (.ref a), some (.int z), x2, x3, x4] ∧ Same H H' ∧ sg ns = z * sg (ns.drop i))
        ⟨1, none, none, none, rfl, Same.refl _, by rw [List.drop_zero, Int.one_mul]⟩ (fun i σ H' _ ⟨_, _, _, _, _, s, _⟩ => s.seq hS) ?_ ?_⟩
      · rintro i x σ H1 T hi ⟨z, x2, x3, x4, rfl, s1, e⟩ nT
        obtain ⟨v, rfl, hv⟩ := get_ints hi
        have s2 := s1.trans (same_new (o := .tup [.int (i : Nat), .int v]) nT)
        refine ⟨T, _, rfl, SqT.of upd_same, rfl, _, _, rfl, _, _, rfl, rfl, ?_⟩
        refine ⟨_, rfl, _, rfl, _, _, rfl, rfl, _, rfl, a, _, rfl, s2.seq hS, fun t nt => ?_⟩
        rw [show ((i : Int) + 1) = ((i + 1 : Nat) : Int) by omega, cutFrom]
        have s3 := s2.trans (same_new (o := .lst ((ns.map V.int).drop (i + 1))) nt)
        rw [drop_at hv] at e
        refine ⟨t, rfl, ⟨_, SqL.of upd_same⟩, for_list (K := K) (a := t) (xs := (ns.map V.int).drop (i + 1)) (fun j σ H' => ∃ z x4, σ = [some (.ref a), some (.int z), some (.int (i : Nat)), some (.int v), x4] ∧
            H' = upd (upd H1 T (.tup [.int (i : Nat), .int v])) t (.lst ((ns.map V.int).drop (i + 1))) ∧ sg ns = z * pr v ((ns.drop (i + 1)).drop j) * sg (ns.drop (i + 1)))
          ⟨z, x4, rfl, rfl, by rw [e, List.drop_zero, sg, Int.mul_assoc]⟩ (fun j σ H' _ ⟨_, _, _, e, _⟩ => by subst e; exact SqL.of upd_same) ?_ ?_⟩
        · rintro j x σ H' hj ⟨z, x4, rfl, rfl, e⟩
          rw [← List.map_drop] at hj
          obtain ⟨u, rfl, hu⟩ := get_ints hj
          rw [drop_at hu, pr] at e
          refine ⟨_, rfl, _, rfl, rfl, _, rfl, ite2 (fun c => ?_) (fun c => ?_)⟩
          · have euv : u = v := V.int.inj (of_decide_eq_true c)
            subst euv
            have e0 : sg ns = 0 := by
              rw [e, s2_eq, Int.zero_mul, Int.mul_zero, Int.zero_mul]
            have q' := q _ s3
            rw [e0] at q'
            exact q'
          · have nuv : ¬ u = v := fun z => c (decide_eq_true (by rw [z]))
            refine ⟨_, rfl, _, rfl, _, _, rfl, rfl, _, rfl, ite2 (fun c2 => ?_) (fun c2 => ?_)⟩
            · have l := of_decide_eq_true c2
              refine ⟨_, rfl, _, rfl, -z, _, rfl, rfl, ?_⟩
              rw [e, s2_lt l, List.drop_drop]
              grind
            · have l : ¬ u < v := fun z => c2 (decide_eq_true z)
              refine ⟨z, _, rfl, rfl, ?_⟩
              rw [e, s2_gt (by omega), List.drop_drop, Int.one_mul]
        · rintro σ H' ⟨z, x4, rfl, rfl, e⟩
          refine ⟨z, _, _, _, rfl, s3, ?_⟩
          rw [List.drop_of_length_le (l := ns.drop (i + 1)) (by rw [← List.map_drop, List.length_map]; exact Nat.le_refl _), pr, Int.mul_one] at e
          exact e
      · rintro σ H1 ⟨z, x2, x3, x4, rfl, s1, e⟩
        refine ⟨_, rfl, ?_⟩
        rw [List.length_map, List.drop_of_length_le (Nat.le_refl _), sg, Int.mul_one] at e
        rw [← e]
        exact q _ s1
    · refine ⟨_, pss_cons (ps_set (i := 1) scSign.nd rfl (Or.inl rfl) pe_int)
        (pss_cons (ps_for PassesOwn.never rfl (pi_enumT (by rfl) me (pa_cons (pv 0) pa_nil)) (pg_tup rfl (pgs_cons (pg_name (i := 2) scSign.nd rfl (Or.inl rfl)) (pgs_cons (pg_name (i := 3) scSign.nd rfl (Or.inl rfl)) pgs_nil)))
          (pss_one (ps_for PassesOwn.never rfl (pi_tup (pe_slice sl_tup (pv 0) (po_some (pe_op op_add (pv 2) pe_int)) po_none)) (pg_name (i := 4) scSign.nd rfl (Or.inl rfl))
            (pss_cons (ps_if (pt_cmpR op_eq (pv 4) (pv 3) (nomark _)) (pss_one (ps_ret pe_int)) pss_nil)
              (pss_one (ps_if (pt_cmpR op_lt (pv 4) (pv 3) (nomark _)) (pss_one (ps_set (i := 1) scSign.nd rfl (Or.inl rfl) (pe_un un_neg (pv 1)))) pss_nil))))))
        (pss_one (ps_ret (pv 1)))), ?_⟩
      refine ⟨_, rfl, a, _, rfl, hS, for_enumT (K := K) (a := a) (xs := ns.map V.int) (fun i σ H' => ∃ z x2 x3 x4, σ = [some (.ref a), some (.int z), x2, x3, x4] ∧ Same H H' ∧ sg ns = z * sg (ns.drop i))
        ⟨1, none, none, none, rfl, Same.refl _, by rw [List.drop_zero, Int.one_mul]⟩ (fun i σ H' _ ⟨_, _, _, _, _, s, _⟩ => sqT_same s hS) ?_ ?_⟩
      · rintro i x σ H1 T hi ⟨z, x2, x3, x4, rfl, s1, e⟩ nT
        obtain ⟨v, rfl, hv⟩ := get_ints hi
        have s2 := s1.trans (same_new (o := .tup [.int (i : Nat), .int v]) nT)
        refine ⟨T, _, rfl, SqT.of upd_same, rfl, _, _, rfl, _, _, rfl, rfl, ?_⟩
        refine ⟨_, rfl, _, rfl, _, _, rfl, rfl, _, rfl, a, _, rfl, sqT_same s2 hS, ?_, fun t nt => ?_⟩
        · have hin := (List.getElem?_eq_some_iff.mp hi).1
          rw [show ((i : Int) + 1) = ((i + 1 : Nat) : Int) by omega, HT.sIx_nat]
          omega
        rw [show ((i : Int) + 1) = ((i + 1 : Nat) : Int) by omega, cutFrom]
        have s3 := s2.trans (same_new (o := .tup ((ns.map V.int).drop (i + 1))) nt)
        rw [drop_at hv] at e
        refine ⟨t, rfl, ⟨_, SqT.of upd_same⟩, for_tup (K := K) (a := t) (xs := (ns.map V.int).drop (i + 1)) (fun j σ H' => ∃ z x4, σ = [some (.ref a), some (.int z), some (.int (i : Nat)), some (.int v), x4] ∧
            H' = upd (upd H1 T (.tup [.int (i : Nat), .int v])) t (.tup ((ns.map V.int).drop (i + 1))) ∧ sg ns = z * pr v ((ns.drop (i + 1)).drop j) * sg (ns.drop (i + 1)))
          ⟨z, x4, rfl, rfl, by rw [e, List.drop_zero, sg, Int.mul_assoc]⟩ (fun j σ H' _ ⟨_, _, _, e, _⟩ => by subst e; exact SqT.of upd_same) ?_ ?_⟩
        · rintro j x σ H' hj ⟨z, x4, rfl, rfl, e⟩
          rw [← List.map_drop] at hj
          obtain ⟨u, rfl, hu⟩ := get_ints hj
          rw [drop_at hu, pr] at e
          refine ⟨_, rfl, _, rfl, rfl, _, rfl, ite2 (fun c => ?_) (fun c => ?_)⟩
          · have euv : u = v := V.int.inj (of_decide_eq_true c)
            subst euv
            have e0 : sg ns = 0 := by
              rw [e, s2_eq, Int.zero_mul, Int.mul_zero, Int.zero_mul]
            have q' := q _ s3
            rw [e0] at q'
            exact q'
          · have nuv : ¬ u = v := fun z => c (decide_eq_true (by rw [z]))
            refine ⟨_, rfl, _, rfl, _, _, rfl, rfl, _, rfl, ite2 (fun c2 => ?_) (fun c2 => ?_)⟩
            · have l := of_decide_eq_true c2
              refine ⟨_, rfl, _, rfl, -z, _, rfl, rfl, ?_⟩
              rw [e, s2_lt l, List.drop_drop]
              grind
            · have l : ¬ u < v := fun z => c2 (decide_eq_true z)
              refine ⟨z, _, rfl, rfl, ?_⟩
              rw [e, s2_gt (by omega), List.drop_drop, Int.one_mul]
        · rintro σ H' ⟨z, x4, rfl, rfl, e⟩
          refine ⟨z, _, _, _, rfl, s3, ?_⟩
          rw [List.drop_of_length_le (l := ns.drop (i + 1)) (by rw [← List.map_drop, List.length_map]; exact Nat.le_refl _), pr, Int.mul_one] at e
          exact e
      · rintro σ H1 ⟨z, x2, x3, x4, rfl, s1, e⟩
        refine ⟨_, rfl, ?_⟩
        rw [List.length_map, List.drop_of_length_le (Nat.le_refl _), sg, Int.mul_one] at e
        rw [← e]
        exact q _ s1
end
end K14

/-! for x in s, s a list or a tuple -/
namespace ZM
open PySem PySem.Spec PyProof.Rows L2
theorem for_sq {K : PySem.W.Frag} {a : Addr} {xs : List V} {g : TG} {tb : TS} {D : Ends} {σ : L2.St} {H : Hp} (hq : SqL K H a xs ∨ SqT K H a xs) (Pv : Nat → L2.St → Hp → Prop) (h0 : Pv 0 σ H) (hl : ∀ i σ H', i ≤ xs.length → Pv i σ H' → Same H H')
    (hs : ∀ i x σ H, xs[i]? = some x → Pv i σ H → g x σ H fun σ2 H2 => tb { D with nx := Pv (i + 1), ct := Pv (i + 1), bk := D.nx } σ2 H2) (hd : ∀ σ H, Pv xs.length σ H → D.nx σ H) :
    (SqL K H a xs ∧ ∃ W : Nat → Nat → L2.St → Hp → Prop, (∃ m, W 0 m σ H) ∧ ∀ i m σ H, W i m σ H →
      ((Itl K a).stop i H ∧ D.nx σ H) ∨ ((Itl K a).go i H ∧ ∃ N : L2.St → Hp → Prop, (∀ σ' H', N σ' H' → ∃ m', m' < m ∧ W (i + 1) m' σ' H') ∧ ∀ x H', (Itl K a).yld i H x H' → g x σ H' fun σ2 H2 => tb { D with nx := N, ct := N, bk := D.nx } σ2 H2)) ∨
    (SqT K H a xs ∧ ∃ W : Nat → Nat → L2.St → Hp → Prop, (∃ m, W 0 m σ H) ∧ ∀ i m σ H, W i m σ H →
      ((Itt K a).stop i H ∧ D.nx σ H) ∨ ((Itt K a).go i H ∧ ∃ N : L2.St → Hp → Prop, (∀ σ' H', N σ' H' → ∃ m', m' < m ∧ W (i + 1) m' σ' H') ∧ ∀ x H', (Itt K a).yld i H x H' → g x σ H' fun σ2 H2 => tb { D with nx := N, ct := N, bk := D.nx } σ2 H2)) := by
  rcases hq with h | h
  · exact .inl ⟨h, for_list Pv h0 (fun i σ H' hi p => (hl i σ H' hi p).seq h) hs hd⟩
  · exact .inr ⟨h, for_tup Pv h0 (fun i σ H' hi p => sqT_sm (hl i σ H' hi p) h) hs hd⟩
end ZM

set_option maxHeartbeats 2000000
/-! Rows of signs. -/
namespace K14
open PySem PySem.Spec PyProof.Rows L2
theorem if_t {c : Bool} {A B : Prop} (hc : c = true) (h : A) : if c = true then A else B := (if_pos hc).mpr h
theorem if_f {c : Bool} {A B : Prop} (hc : c = false) (h : B) : if c = true then A else B := (if_neg (by rw [hc]; decide)).mpr h
/-- ints in a list or a tuple -/
def SqI (K : PySem.W.Frag) (H : Hp) (a : Addr) (ns : List Int) : Prop := SqL K H a (ns.map V.int) ∨ SqT K H a (ns.map V.int)
theorem SqI.same {K : PySem.W.Frag} {H H' : Hp} {a : Addr} {ns : List Int} (h : SqI K H a ns) (s : Same H H') : SqI K H' a ns := h.imp (fun h => s.seq h) (fun h => ZM.sqT_sm s h)
def isS (n : Int) : Bool := inV (.int n) [.int (-1), .int 0, .int 1]
abbrev sAre : Stmt := topS 15
abbrev sFst : Stmt := topS 16
abbrev sOpp : Stmt := topS 17
abbrev sTold : Stmt := topS 30
theorem scAre : FnScope ["row", "sign"] ["row"] (defScope sAre) := ⟨rfl, rfl, rfl, by decide +kernel, rfl, by decide +kernel, by decide +kernel⟩
theorem scFst : FnScope ["row", "sign"] ["row"] (defScope sFst) := ⟨rfl, rfl, rfl, by decide +kernel, rfl, by decide +kernel, by decide +kernel⟩
theorem scOpp : FnScope ["row", "sign"] ["row"] (defScope sOpp) := ⟨rfl, rfl, rfl, by decide +kernel, rfl, by decide +kernel, by decide +kernel⟩
theorem scTold : FnScope ["signs"] ["signs"] (defScope sTold) := ⟨rfl, rfl, rfl, by decide +kernel, rfl, by decide +kernel, by decide +kernel⟩
structure TxS (K : PySem.W.Frag) (mg : Str → Option Value) (aS : Addr) : Prop where
  gS : mg "SIGNS" = some (.ref aS)
  hS : ∀ H, SqT K H aS [.int (-1), .int 0, .int 1]
  all : mg "all" = none
section
variable {P : Program} {w : World} {K : PySem.W.Frag} {mg : Str → Option Value} {base : Heap} {aS : Addr}
def spAre (K : PySem.W.Frag) : Sp := fun vs H Q _ => ∃ (a : Addr) (ns : List Int), vs = [.ref a] ∧ SqI K H a ns ∧ ns.length ≤ 1000 ∧ ∀ H', Same H H' → Q (.bl (ns.all isS)) H'
theorem ok_are {f : Addr} {fd : FuncData} {k : Nat} (F : Fun K "are_signs" "are_signs" sAre f fd) (T : TxS K mg aS) : FnOk P w K mg base CX0 (k + 1) f fd ["row"] (spAre K) := by
  refine F.ok scAre (fun vs H Q E ⟨a, ns, e, _⟩ => by rw [e]; rfl) (fun cdv A outer s H vs Q E hr h => ?_)
  obtain ⟨a, ns, rfl, hq, z, q⟩ := h
  refine ⟨_, pss_one (ps_ret (pe_callB (cr_all rfl) (by rfl) T.all (by decide +kernel) (pa_cons
    (ZM.pe_bx (pe_lc (own := [("sign", 1)]) (g := gName 1) (tt := tYes) rfl scAre.nd (ZM.pi_sq (pv 0)) (blkOk_by (N := ["row", "sign"]) (sc := defScope sAre) (by decide +kernel))
      (fun _ _ _ _ _ => pg_name (i := 1) scAre.nd rfl (Or.inl rfl)) (fun _ _ _ _ _ => pts_nil) (fun _ _ _ _ _ => pe_cmpR (r := rIn K false) op_in_seq (pv 1) (pe_glob (v := .ref aS) rfl T.gS rfl) (by with_unfolding_all rfl)))) pa_nil))), ?_⟩
  refine ZM.lcm_sq (ys := ns.map fun n => V.bl (isS n)) (fun R r => ⟨_, rfl, r⟩) hq (by simp) (by simp; omega) (fun _ => rfl) ?_ ?_
  · intro i x y H2 R hx hy _ hR
    obtain ⟨v, rfl, hv⟩ := get_ints hx
    rw [List.getElem?_map, hv] at hy
    cases hy
    exact ⟨_, rfl, aS, _, rfl, .inr (T.hS _), rfl, rfl, hR _ (Same.refl _)⟩
  · intro D H2 sm _ hD
    refine ⟨D, ns.map isS, rfl, SqL.of (by rw [hD, List.map_map]; rfl), ?_⟩
    rw [List.all_map]
    exact q _ sm
/-- the first sign that isn't nought -/
def fst : List Int → Int
  | [] => 0
  | n :: ns => if n ≠ 0 then n else fst ns
def spFst (K : PySem.W.Frag) : Sp := fun vs H Q _ => ∃ (a : Addr) (ns : List Int), vs = [.ref a] ∧ SqI K H a ns ∧ ns.length ≤ 1000 ∧ Q (.int (fst ns)) H
theorem ok_fst {f : Addr} {fd : FuncData} {k : Nat} (F : Fun K "first_sign" "first_sign" sFst f fd) : FnOk P w K mg base CX0 (k + 1) f fd ["row"] (spFst K) := by
  refine F.ok scFst (fun vs H Q E ⟨a, ns, e, _⟩ => by rw [e]; rfl) (fun cdv A outer s H vs Q E hr h => ?_)
  obtain ⟨a, ns, rfl, hq, z, q⟩ := h
  refine ⟨_, pss_cons (ps_for PassesOwn.never rfl (ZM.pi_sq (pv 0)) (pg_name (i := 1) scFst.nd rfl (Or.inl rfl))
      (pss_one (ps_if (pt_cmpR op_ne (pv 1) pe_int (nomark _)) (pss_one (ps_ret (pv 1))) pss_nil)))
    (pss_one (ps_ret pe_int)), ?_⟩
  refine ⟨_, rfl, a, _, rfl, ZM.for_sq (K := K) (a := a) (xs := ns.map V.int) hq (fun i σ H' => ∃ x1, σ = [some (.ref a), x1] ∧ H' = H ∧ fst (ns.drop i) = fst ns) ⟨none, rfl, rfl, rfl⟩ (fun i σ H' _ ⟨_, _, e, _⟩ => by rw [e]; exact Same.refl _) ?_ ?_⟩
  · rintro i x σ H' hx ⟨x1, rfl, rfl, e⟩
    obtain ⟨v, rfl, hv⟩ := get_ints hx
    rw [drop_at hv, fst] at e
    refine ⟨_, rfl, rfl, _, rfl, ?_⟩
    by_cases c : v = 0
    · rw [if_neg (by simp [c])] at e
      refine if_f (by simp [c]) ⟨_, rfl, rfl, e⟩
    · rw [if_pos c] at e
      refine if_t (by simp [c]) ⟨_, rfl, ?_⟩
      rw [e]
      exact q
  · rintro σ H' ⟨x1, rfl, rfl, e⟩
    rw [List.length_map, List.drop_length] at e
    rw [← e] at q
    exact q
def opp (ns : List Int) : List Int := ns.map fun n => -n
def spOpp (K : PySem.W.Frag) : Sp := fun vs H Q _ => ∃ (a : Addr) (ns : List Int), vs = [.ref a] ∧ SqI K H a ns ∧ ns.length ≤ 1000 ∧ ∀ t H', Same H H' → H t = none → H' t = some (.tup ((opp ns).map V.int)) → Q (.ref t) H'
theorem ok_opp {f : Addr} {fd : FuncData} {k : Nat} (F : Fun K "opposite" "opposite" sOpp f fd) (mt : mg "tuple" = none) : FnOk P w K mg base CX0 (k + 1) f fd ["row"] (spOpp K) := by
  refine F.ok scOpp (fun vs H Q E ⟨a, ns, e, _⟩ => by rw [e]; rfl) (fun cdv A outer s H vs Q E hr h => ?_)
  obtain ⟨a, ns, rfl, hq, z, q⟩ := h
  refine ⟨_, pss_one (ps_ret (pe_callTy call_tuple_of (by rfl) mt (by decide +kernel) (pa_cons
    (ZM.pe_bx (pe_lc (own := [("sign", 1)]) (g := gName 1) (tt := tYes) rfl scOpp.nd (ZM.pi_sq (pv 0)) (blkOk_by (N := ["row", "sign"]) (sc := defScope sOpp) (by decide +kernel))
      (fun _ _ _ _ _ => pg_name (i := 1) scOpp.nd rfl (Or.inl rfl)) (fun _ _ _ _ _ => pts_nil) (fun _ _ _ _ _ => pe_un un_neg (pv 1)))) pa_nil))), ?_⟩
  refine ZM.lcm_sq (ys := (opp ns).map V.int) (fun R r => ⟨_, rfl, r⟩) hq (by simp [opp]) (by simp [opp]; omega) (fun _ => rfl) ?_ ?_
  · intro i x y H2 R hx hy _ hR
    obtain ⟨v, rfl, hv⟩ := get_ints hx
    rw [opp, List.getElem?_map, List.getElem?_map, hv] at hy
    cases hy
    exact ⟨_, rfl, _, rfl, hR _ (Same.refl _)⟩
  · intro D H2 sm nD hD
    refine ⟨D, _, rfl, .inl ⟨SqL.of hD, fun t nt => q t _ (sm.trans (same_new nt)) ?_ upd_same⟩⟩
    cases e : H t with
    | none => rfl
    | some o => rw [sm _ _ e] at nt; cases nt
/-- the signs as they are told -/
def told (ns : List Int) : List Int := if fst ns = -1 then opp ns else ns
/-- ints in a list or in a tuple of the heap's -/
def SqE (H : Hp) (a : Addr) (ns : List Int) : Prop := H a = some (.lst (ns.map V.int)) ∨ H a = some (.tup (ns.map V.int))
theorem SqE.same {H H' : Hp} {a : Addr} {ns : List Int} (h : SqE H a ns) (s : Same H H') : SqE H' a ns := h.imp (s _ _) (s _ _)
theorem SqE.i {K : PySem.W.Frag} {H : Hp} {a : Addr} {ns : List Int} (h : SqE H a ns) : SqI K H a ns := h.imp SqL.of SqT.of
def spTold (K : PySem.W.Frag) : Sp := fun vs H Q _ => ∃ (a : Addr) (ns : List Int), vs = [.ref a] ∧ SqE H a ns ∧ ns.length ≤ 1000 ∧ ∀ t H', Same H H' → H' t = some (.tup ((told ns).map V.int)) → Q (.ref t) H'
theorem ok_told {f f1 f2 : Addr} {fd d1 d2 : FuncData} {k : Nat} (F : Fun K "_told" "_told" sTold f fd) (mt : mg "tuple" = none) (G1 : FnOk P w K mg base CX0 k f1 d1 ["row"] (spFst K)) (g1 : mg "first_sign" = some (.ref f1)) (k1 : PySem.W.keepIn K (.ref f1) = true) (b1 : Binds K d1 ["row"] [])
    (G2 : FnOk P w K mg base CX0 k f2 d2 ["row"] (spOpp K)) (g2 : mg "opposite" = some (.ref f2)) (k2 : PySem.W.keepIn K (.ref f2) = true) (b2 : Binds K d2 ["row"] []) : FnOk P w K mg base CX0 (k + 1) f fd ["signs"] (spTold K) := by
  refine F.ok scTold (fun vs H Q E ⟨a, ns, e, _⟩ => by rw [e]; rfl) (fun cdv A outer s H vs Q E hr h => ?_)
  obtain ⟨a, ns, rfl, hE, z, q⟩ := h
  have hq : SqI K H a ns := hE.i
  refine ⟨_, pss_one (ps_ret (pe_ifExp (pt_cmpR op_eq (pe_call G1 hr (by rfl) g1 k1 b1 .nil pass0 (pa_cons (pv 0) pa_nil)) (pe_un un_neg pe_int) (nomark _)) (pe_call G2 hr (by rfl) g2 k2 b2 .nil pass0 (pa_cons (pv 0) pa_nil)) (pe_callTy call_tuple_of (by rfl) mt (by decide +kernel) (pa_cons (pv 0) pa_nil)))), ?_⟩
  refine ⟨_, rfl, a, ns, rfl, hq, z, _, rfl, rfl, _, rfl, ?_⟩
  unfold told at q
  by_cases c : fst ns = -1
  · rw [if_pos c] at q
    exact if_t (by simp [c]) ⟨_, rfl, a, ns, rfl, hq, z, fun t H' s nt ht => q t H' s ht⟩
  · rw [if_neg c] at q
    refine if_f (by simp [c]) ⟨_, rfl, a, ns.map V.int, rfl, ?_⟩
    rcases hE with hE | hE
    · exact .inl ⟨SqL.of hE, fun t nt => q t _ (same_new nt) upd_same⟩
    · exact .inr ⟨SqT.of hE, q a H (Same.refl _) hE⟩
end
end K14

namespace CB
open PySem PySem.Spec PyProof.Rows
/-! ### the type of combinations -/
theorem cb_owner : Manifest.owners.lookup (String.ofList ['s', 'n', 'o', 'i', 't', 'a', 'n', 'i', 'b', 'm', 'o', 'c', '.', 's', 'l', 'o', 'o', 't', 'r', 'e', 't', 'i'].reverse) = some Manifest.sig_itertools_combinations := by kernel_rfl
theorem cb_mro : mroOf (.type "itertools.combinations") = pure [.type "itertools.combinations", .type "object"] := by rw [mroOf_type]; kernel_rfl
theorem cb_newL : typeLookup (.type "itertools.combinations") "__new__" = pure (some (.builtin "itertools.combinations.__new__")) := by rw [typeLookup_type, builtinLookup_eq_fast]; kernel_rfl
theorem cb_sub : isSubtype (.type "itertools.combinations") (.type "itertools.combinations") = pure true := by rw [isSubtype_type]; kernel_rfl
theorem cb_init : Slot "itertools.combinations" "__init__" "object.__init__" :=
  .of (owner := "object") (n := "__init__") (by rw [typeLookup_type, builtinLookup_eq_fast]; kernel_rfl) (by decide +kernel) (by decide +kernel)
    (by decide +kernel) (by first | exact .inl (by decide +kernel) | exact .inr (by decide +kernel)) (by rw [isSubtype_type]; kernel_rfl)
theorem cb_called : TypeCalled "itertools.combinations" "itertools.combinations.__new__" "object.__init__" :=
  ⟨by decide +kernel, by decide +kernel, ⟨_, _, cb_mro⟩, madeBy_type cb_mro cb_newL (by decide +kernel), by decide +kernel, cb_sub, cb_init⟩
theorem cb_typeCall (a b : Value) : checkTypeCall "itertools.combinations" ⟨[a, b], []⟩ = pure () := by kernel_rfl
theorem cb_newCall (a b : Value) : checkBuiltinCall "itertools.combinations.__new__" ⟨[.type "itertools.combinations", a, b], []⟩ = pure () := by kernel_rfl
theorem cb_newE : entryFor table "itertools.combinations.__new__" = some Builtin.«itertools.combinations.__new__» := entryFor_of_tree (by kernel_rfl)
theorem cb_next : Slot "itertools.combinations" "__next__" "itertools.combinations.__next__" :=
  .of (owner := "itertools.combinations") (n := "__next__") (by rw [typeLookup_type, builtinLookup_eq_fast]; kernel_rfl) (by decide +kernel) (by decide +kernel)
    (by decide +kernel) (by first | exact .inl (by decide +kernel) | exact .inr (by decide +kernel)) cb_sub
theorem cb_iter : Slot "itertools.combinations" "__iter__" "itertools.combinations.__iter__" :=
  .of (owner := "itertools.combinations") (n := "__iter__") (by rw [typeLookup_type, builtinLookup_eq_fast]; kernel_rfl) (by decide +kernel) (by decide +kernel)
    (by decide +kernel) (by first | exact .inl (by decide +kernel) | exact .inr (by decide +kernel)) cb_sub
theorem cb_nextE : entryFor table "itertools.combinations.__next__" = some Builtin.«itertools.combinations.__next__» := entryFor_of_tree (by kernel_rfl)
theorem cb_iterE : entryFor table "itertools.combinations.__iter__" = some Builtin.«dict_keyiterator.__iter__» :=
  entryFor_alias (id' := "dict_keyiterator.__iter__") (by kernel_rfl)
    (by first | rfl | decide +kernel | (unfold String.splitOn; simp +decide [String.splitOnAux]))
    (by decide +kernel) (by kernel_rfl)
theorem cb_nextA (a : Value) : argsOk "itertools.combinations.__next__" ⟨[a], []⟩ := by
  unfold argsOk
  rw [signature?_of (id := "itertools.combinations.__next__") (n := ['_', '_', 't', 'x', 'e', 'n', '_', '_']) (o := ['s', 'n', 'o', 'i', 't', 'a', 'n', 'i', 'b', 'm', 'o', 'c', '.', 's', 'l', 'o', 'o', 't', 'r', 'e', 't', 'i']) (by kernel_rfl) cb_owner]
  kernel_rfl
theorem cb_iterA (a : Value) : argsOk "itertools.combinations.__iter__" ⟨[a], []⟩ := by
  unfold argsOk
  rw [signature?_of (id := "itertools.combinations.__iter__") (n := ['_', '_', 'r', 'e', 't', 'i', '_', '_']) (o := ['s', 'n', 'o', 'i', 't', 'a', 'n', 'i', 'b', 'm', 'o', 'c', '.', 's', 'l', 'o', 'o', 't', 'r', 'e', 't', 'i']) (by kernel_rfl) cb_owner]
  kernel_rfl
theorem cb_noLen : typeLookup (.type "itertools.combinations") "__len__" = pure none := by rw [typeLookup_type, builtinLookup_eq_fast]; kernel_rfl
theorem cb_noHint : typeLookup (.type "itertools.combinations") "__length_hint__" = pure none := by rw [typeLookup_type, builtinLookup_eq_fast]; kernel_rfl
theorem cb_noDict : typeHasDict (.type "itertools.combinations") = false := by decide +kernel
end CB

namespace CB
open PySem PySem.Spec PyProof.Rows
open Sem (wp)
abbrev cbF (p : Addr) (flag : Int) (last : Value) (ix : List Nat) : Array Value := (.ref p :: rawInt flag :: last :: ix.map fun (n : Nat) => rawInt n).toArray
abbrev IsCb (h : Heap) (it p : Addr) (flag : Int) (last : Value) (ix : List Nat) : Prop :=
  h.get? it = some { cls := .type "itertools.combinations", dict := none, data := .fields (cbF p flag last ix), slots := #[] }
abbrev IsPool (h : Heap) (p : Addr) (us : Array Value) : Prop := h.get? p = some { cls := .type "tuple", data := .seq us }
section
variable {prog : Program} {w : World} {M : Model} {A : Around} {E : Value → Shared → Prop} {s : Shared}
theorem cb_numbers {it p : Addr} {flag : Int} {last : Value} {ix : List Nat} {Q : List Nat → Shared → Prop} (hit : IsCb s.heap it p flag last ix) (h : Q ix s) : wpAny M A (Builtin.Itertools.itNumbersFrom (.ref it) 3) Q E s := by
  unfold Builtin.Itertools.itNumbersFrom
  refine wpAny_bind (wpAny_load hit ?_)
  refine wpAny_pure ?_
  have e : ∀ (f : Value → Nat), (∀ n : Nat, f (rawInt n) = n) → ((cbF p flag last ix).toList.drop 3).map f = ix := fun f hf => by
    show (ix.map fun (n : Nat) => rawInt n).map f = ix
    rw [List.map_map]
    have e1 : (f ∘ fun (n : Nat) => rawInt n) = id := funext fun n => hf n
    rw [e1, List.map_id]
  rw [e _ fun _ => rfl]
  exact h
theorem cb_flag {it p : Addr} {flag : Int} {last : Value} {ix : List Nat} {Q : Int → Shared → Prop} (hit : IsCb s.heap it p flag last ix) (h : Q flag s) : wpAny M A (Builtin.Itertools.itIntField (.ref it) 1) Q E s := by
  unfold Builtin.Itertools.itIntField
  exact wpAny_bind (wpAny_field hit rfl (x := rawInt flag) rfl (wpAny_pure h))
theorem cb_pool {p : Addr} {us : Array Value} {Q : Array Value → Shared → Prop} (hp : IsPool s.heap p us) (h : Q us s) : wpAny M A (Builtin.Itertools.itPoolItems (.ref p)) Q E s := by
  unfold Builtin.Itertools.itPoolItems
  exact wpAny_bind (wpAny_seqItems hp rfl (wpAny_pure h))
theorem cb_item0 {it p : Addr} {ix : List Nat} {us : Array Value} {Q : Value → Shared → Prop} (hit : IsCb s.heap it p 0 .none ix) (hp : IsPool s.heap p us) (hl : ix.length ≤ 1000)
    (hQ : ∀ h', IsCb h' it p 1 (.ref s.heap.objs.size) ix → h'.get? s.heap.objs.size = some { cls := .type "tuple", data := .seq (ix.map fun i => us.getD i .none).toArray } →
      (∀ b o, b ≠ it → s.heap.get? b = some o → h'.get? b = some o) → Q (.ref s.heap.objs.size) { s with heap := h' }) :
    wpAny M A (Builtin.«itertools.combinations.__next__» ⟨[.ref it], []⟩) (fun fin s' => ∃ v, fin = .done (.ret v) ∧ Q v s') E s := by
  obtain ⟨h0, g, d, tk, os⟩ := s
  have lti : it < h0.objs.size := Heap.lt_size hit
  show wpAny _ _ (field (.ref it) 0 >>= _) _ _ _
  refine wpAny_bind (wpAny_field hit rfl (x := .ref p) rfl ?_)
  show wpAny _ _ (Builtin.Itertools.itNumbersFrom (.ref it) 3 >>= _) _ _ _
  refine wpAny_bind (cb_numbers hit ?_)
  show wpAny _ _ (Builtin.Itertools.itIntField (.ref it) 1 >>= _) _ _ _
  refine wpAny_bind (cb_flag hit ?_)
  show wpAny _ _ (setField (.ref it) 1 (rawInt 1) >>= _) _ _ _
  refine wpAny_bind (wpAny_setField hit rfl (by simp) ?_)
  have hit1 : IsCb (h0.update it (Obj.mapFields fun x => x.setIfInBounds 1 (rawInt 1))) it p 1 .none ix := Heap.get?_update_self _ hit rfl
  have k1 : ∀ b o, b ≠ it → h0.get? b = some o → (h0.update it (Obj.mapFields fun x => x.setIfInBounds 1 (rawInt 1))).get? b = some o := fun b o hb e => (Heap.get?_update_other _ _ (Ne.symm hb)).trans e
  have pne : p ≠ it := fun z => by
    rw [z] at hp
    have q := congrArg Obj.data (Option.some.inj (hit.symm.trans hp))
    cases q
  have hz1 : (h0.update it (Obj.mapFields fun x => x.setIfInBounds 1 (rawInt 1))).objs.size = h0.objs.size := Heap.size_update ..
  generalize h0.update it (Obj.mapFields fun x => x.setIfInBounds 1 (rawInt 1)) = h1 at hit1 k1 hz1 ⊢
  show wpAny _ _ ((Builtin.Itertools.itPoolItems (.ref p) >>= _) >>= _) _ _ _
  refine wpAny_bind (wpAny_bind (cb_pool (k1 p _ pne hp) ?_))
  refine wpAny_newTuple ?_ (by rw [List.length_map]; exact Nat.le_trans hl (by rw [sizeLine_eq]; decide))
  have up : ∀ (o : Obj) (b : Addr) (o' : Obj), h1.get? b = some o' → (h1.push o).get? b = some o' := fun o b o' e => Heap.get?_push_of_some _ e
  have hT : (h1.push { cls := .type "tuple", data := .seq (ix.map fun i => us.getD i .none).toArray }).get? h0.objs.size = some { cls := .type "tuple", data := .seq (ix.map fun i => us.getD i .none).toArray } := by
    rw [← hz1]
    exact Heap.get?_push_size _ rfl
  have hit2 := up { cls := .type "tuple", data := .seq (ix.map fun i => us.getD i .none).toArray } _ _ hit1
  have k2 : ∀ b o, b ≠ it → h0.get? b = some o → (h1.push { cls := .type "tuple", data := .seq (ix.map fun i => us.getD i .none).toArray }).get? b = some o := fun b o hb e => up _ _ _ (k1 b o hb e)
  generalize h1.push { cls := .type "tuple", data := .seq (ix.map fun i => us.getD i .none).toArray } = h2 at hT hit2 k2 ⊢
  rw [hz1]
  show wpAny _ _ (field (.ref it) 2 >>= _) _ _ _
  refine wpAny_bind (wpAny_field hit2 rfl (x := .none) rfl ?_)
  show wpAny _ _ (setField (.ref it) 2 (.ref h0.objs.size) >>= _) _ _ _
  refine wpAny_bind (wpAny_setField hit2 rfl (by simp) ?_)
  have hit3 : IsCb (h2.update it (Obj.mapFields fun x => x.setIfInBounds 2 (.ref h0.objs.size))) it p 1 (.ref h0.objs.size) ix := Heap.get?_update_self _ hit2 rfl
  have k3 : ∀ b o, b ≠ it → h2.get? b = some o → (h2.update it (Obj.mapFields fun x => x.setIfInBounds 2 (.ref h0.objs.size))).get? b = some o := fun b o hb e => (Heap.get?_update_other _ _ (Ne.symm hb)).trans e
  refine wpAny_bind (wpAny_letGo ?_)
  exact wpAny_pure ⟨_, rfl, hQ _ hit3 (k3 _ _ (Nat.ne_of_gt lti) hT) fun b o hb e => k3 b o hb (k2 b o hb e)⟩
/-- the next indices -/
def nc (n : Nat) (indices : List Nat) : Option (List Nat) :=
  match (List.range indices.length).reverse.find? fun i => indices.getD i 0 != i + n - indices.length with
  | none => none
  | some i => some (indices.take i ++ (List.range (indices.length - i)).map (indices.getD i 0 + 1 + ·))
theorem cb_cut (p : Addr) (flag : Int) (last : Value) (ix nx : List Nat) : (cbF p flag last ix).extract 0 3 ++ (nx.map fun (n : Nat) => rawInt n).toArray = cbF p flag last nx := by
  apply Array.toList_inj.mp
  simp
theorem cb_item1 {it p : Addr} {last : Value} {ix nx : List Nat} {us : Array Value} {Q : Value → Shared → Prop} (hit : IsCb s.heap it p 1 last ix) (hp : IsPool s.heap p us) (hm : nc us.size ix = some nx) (hl : nx.length ≤ 1000)
    (hQ : ∀ h', IsCb h' it p 1 (.ref s.heap.objs.size) nx → h'.get? s.heap.objs.size = some { cls := .type "tuple", data := .seq (nx.map fun i => us.getD i .none).toArray } →
      (∀ b o, b ≠ it → s.heap.get? b = some o → h'.get? b = some o) → Q (.ref s.heap.objs.size) { s with heap := h' }) :
    wpAny M A (Builtin.«itertools.combinations.__next__» ⟨[.ref it], []⟩) (fun fin s' => ∃ v, fin = .done (.ret v) ∧ Q v s') E s := by
  obtain ⟨h0, g, d, tk, os⟩ := s
  have lti : it < h0.objs.size := Heap.lt_size hit
  have pne : p ≠ it := fun z => by
    rw [z] at hp
    have q := congrArg Obj.data (Option.some.inj (hit.symm.trans hp))
    cases q
  show wpAny _ _ (field (.ref it) 0 >>= _) _ _ _
  refine wpAny_bind (wpAny_field hit rfl (x := .ref p) rfl ?_)
  show wpAny _ _ (Builtin.Itertools.itNumbersFrom (.ref it) 3 >>= _) _ _ _
  refine wpAny_bind (cb_numbers hit ?_)
  show wpAny _ _ (Builtin.Itertools.itIntField (.ref it) 1 >>= _) _ _ _
  refine wpAny_bind (cb_flag hit ?_)
  show wpAny _ _ (Builtin.Itertools.itPoolItems (.ref p) >>= _) _ _ _
  refine wpAny_bind (cb_pool hp ?_)
  split
  case h_2 =>
    rename_i hn
    have e : nc us.size ix = none := hn
    rw [hm] at e
    cases e
  rename_i next hn
  have e : nc us.size ix = some next := hn
  rw [hm] at e
  cases e
  show wpAny _ _ (Builtin.Itertools.itSetNumbersFrom (.ref it) 3 nx >>= _) _ _ _
  refine wpAny_bind ?_
  unfold Builtin.Itertools.itSetNumbersFrom
  refine wpAny_updateFields hit rfl ?_ (by
    show ((cbF p 1 last ix).extract 0 3 ++ (nx.map fun (n : Nat) => rawInt n).toArray).size ≤ _
    rw [cb_cut]
    show (nx.map fun (n : Nat) => rawInt n).length + 3 ≤ sizeLine + 3
    rw [List.length_map, sizeLine_eq]
    omega)
  have hit1 : IsCb (h0.update it (Obj.mapFields fun fs => fs.extract 0 3 ++ (nx.map fun (n : Nat) => rawInt n).toArray)) it p 1 last nx := by
    have q := Heap.get?_update_self (Obj.mapFields fun fs => fs.extract 0 3 ++ (nx.map fun (n : Nat) => rawInt n).toArray) hit rfl
    rw [Obj.mapFields] at q
    rw [cb_cut] at q
    exact q
  have k1 : ∀ b o, b ≠ it → h0.get? b = some o → (h0.update it (Obj.mapFields fun fs => fs.extract 0 3 ++ (nx.map fun (n : Nat) => rawInt n).toArray)).get? b = some o := fun b o hb e => (Heap.get?_update_other _ _ (Ne.symm hb)).trans e
  have hz1 : (h0.update it (Obj.mapFields fun fs => fs.extract 0 3 ++ (nx.map fun (n : Nat) => rawInt n).toArray)).objs.size = h0.objs.size := Heap.size_update ..
  generalize h0.update it (Obj.mapFields fun fs => fs.extract 0 3 ++ (nx.map fun (n : Nat) => rawInt n).toArray) = h1 at hit1 k1 hz1 ⊢
  show wpAny _ _ ((Builtin.Itertools.itPoolItems (.ref p) >>= _) >>= _) _ _ _
  refine wpAny_bind (wpAny_bind (cb_pool (k1 p _ pne hp) ?_))
  refine wpAny_newTuple ?_ (by rw [List.length_map]; exact Nat.le_trans hl (by rw [sizeLine_eq]; decide))
  have up : ∀ (o : Obj) (b : Addr) (o' : Obj), h1.get? b = some o' → (h1.push o).get? b = some o' := fun o b o' e => Heap.get?_push_of_some _ e
  have hT : (h1.push { cls := .type "tuple", data := .seq (nx.map fun i => us.getD i .none).toArray }).get? h0.objs.size = some { cls := .type "tuple", data := .seq (nx.map fun i => us.getD i .none).toArray } := by
    rw [← hz1]
    exact Heap.get?_push_size _ rfl
  have hit2 := up { cls := .type "tuple", data := .seq (nx.map fun i => us.getD i .none).toArray } _ _ hit1
  have k2 : ∀ b o, b ≠ it → h0.get? b = some o → (h1.push { cls := .type "tuple", data := .seq (nx.map fun i => us.getD i .none).toArray }).get? b = some o := fun b o hb e => up _ _ _ (k1 b o hb e)
  generalize h1.push { cls := .type "tuple", data := .seq (nx.map fun i => us.getD i .none).toArray } = h2 at hT hit2 k2 ⊢
  rw [hz1]
  show wpAny _ _ (field (.ref it) 2 >>= _) _ _ _
  refine wpAny_bind (wpAny_field hit2 rfl (x := last) rfl ?_)
  show wpAny _ _ (setField (.ref it) 2 (.ref h0.objs.size) >>= _) _ _ _
  refine wpAny_bind (wpAny_setField hit2 rfl (by simp) ?_)
  have hit3 : IsCb (h2.update it (Obj.mapFields fun x => x.setIfInBounds 2 (.ref h0.objs.size))) it p 1 (.ref h0.objs.size) nx := Heap.get?_update_self _ hit2 rfl
  have k3 : ∀ b o, b ≠ it → h2.get? b = some o → (h2.update it (Obj.mapFields fun x => x.setIfInBounds 2 (.ref h0.objs.size))).get? b = some o := fun b o hb e => (Heap.get?_update_other _ _ (Ne.symm hb)).trans e
  refine wpAny_bind (wpAny_letGo ?_)
  exact wpAny_pure ⟨_, rfl, hQ _ hit3 (k3 _ _ (Nat.ne_of_gt lti) hT) fun b o hb e => k3 b o hb (k2 b o hb e)⟩
/-- the end: StopIteration -/
theorem cb_stop {it p : Addr} {last : Value} {ix : List Nat} {us : Array Value} {Q : Fin → Shared → Prop} (hh : A.handled = none) (hit : IsCb s.heap it p 1 last ix) (hp : IsPool s.heap p us) (hm : nc us.size ix = none)
    (hE : ∀ h' e, Heap.ExtBut it s.heap h' → (∃ o, h'.get? e = some o ∧ o.cls = .type "StopIteration") → E (.ref e) { s with heap := h' }) :
    wpAny M A (Builtin.«itertools.combinations.__next__» ⟨[.ref it], []⟩) Q E s := by
  obtain ⟨h0, g, d, tk, os⟩ := s
  show wpAny _ _ (field (.ref it) 0 >>= _) _ _ _
  refine wpAny_bind (wpAny_field hit rfl (x := .ref p) rfl ?_)
  show wpAny _ _ (Builtin.Itertools.itNumbersFrom (.ref it) 3 >>= _) _ _ _
  refine wpAny_bind (cb_numbers hit ?_)
  show wpAny _ _ (Builtin.Itertools.itIntField (.ref it) 1 >>= _) _ _ _
  refine wpAny_bind (cb_flag hit ?_)
  show wpAny _ _ (Builtin.Itertools.itPoolItems (.ref p) >>= _) _ _ _
  refine wpAny_bind (cb_pool hp ?_)
  split
  · rename_i next hn
    have e : nc us.size ix = some next := hn
    rw [hm] at e
    cases e
  show wpAny _ _ (setField (.ref it) 1 (rawInt 2) >>= _) _ _ _
  refine wpAny_bind (wpAny_setField hit rfl (by simp) ?_)
  show wpAny _ _ (newExc (.type "StopIteration") [] >>= _) _ _ _
  refine wpAny_bind ?_
  simp only [newExc, newTuple]
  refine wpAny_bind (wpAny_newObj_type ?_ (by size_fits))
  refine wpAny_bind (m := firstArgMember _ _) (wpAny_of_eq (a := Value.none) (by first | rfl | (simp only [firstArgMember]; rfl)) ?_)
  refine wpAny_newObj_type ?_ (by size_fits)
  simp only [raiseNew]
  refine wpAny_bind (wpAny_handled ?_)
  rw [hh]
  refine wpAny_bind (wpAny_pure (wpAny_throw ?_))
  exact hE _ _ (((Heap.SameBut.update ..).extBut.push _).push _) ⟨_, Heap.get?_push_size _ rfl, rfl⟩
end
end CB

namespace CB
open PySem PySem.Spec PyProof.Rows
open Sem (wp)
section
variable {prog : Program} {w : World} {M : Model} {A : Around} {E : Value → Shared → Prop} {s : Shared}
theorem cb_ssize {k : Int} {t : Tok} {Q : Int → Shared → Prop} (h0 : 0 ≤ k) (h1 : k < 1000) (h : Q k s) : wpAny M A (Builtin.Itertools.itSsizeArg (.int k t)) Q E s := by
  unfold Builtin.Itertools.itSsizeArg
  refine wpAny_bind (wpAny_of_eq (a := k) (by rfl) ?_)
  have e : (decide (k < -(2 ^ 63 : Int)) || decide (k ≥ 2 ^ 63)) = false := by
    rw [decide_eq_false (by omega), decide_eq_false (by omega)]
    rfl
  rw [e]
  exact wpAny_pure h
theorem cb_plain : plainId "itertools.combinations.__new__" = true := by decide +kernel
theorem cb_new {r : Addr} {n k : Nat} {t u v tt : Tok} {Q₁ : Value → Shared → Prop} (hh : A.handled = none) (hr : IsRange s.heap r 0 (n : Int) 1 t u v) (hn : n ≤ 7) (hk : k ≤ n)
    (hQ : ∀ h' tk p us, h'.get? p = some { cls := .type "tuple", data := .seq us } → us.size = n → (∀ i, i < n → ∃ t, us[i]? = some (.int (i : Int) t)) → (∀ b o, s.heap.get? b = some o → b < p) →
      (∀ b o, s.heap.get? b = some o → h'.get? b = some o) → IsCb h' (p + 1) p 0 .none (List.range k) → Q₁ (.ref (p + 1)) { s with heap := h', toks := tk }) :
    codeAny (model prog w) A (.call (.builtin "itertools.combinations.__new__") ⟨[.type "itertools.combinations", .ref r, .int (k : Int) tt], []⟩) (wants Q₁ E) s := by
  refine codeAny_of_tree ?_
  show wpAny _ A.in1 (do checkBuiltinCall "itertools.combinations.__new__" ⟨[.type "itertools.combinations", .ref r, .int (k : Int) tt], []⟩; again (.builtin "itertools.combinations.__new__" ⟨[.type "itertools.combinations", .ref r, .int (k : Int) tt], []⟩)) _ _ s
  refine wpAny_bind (wpAny_of_eq (cb_newCall _ _) (wpAny_pure ⟨plainId_quiet cb_plain _, codeAny_builtin cb_newE ?_⟩))
  rw [Around.under_plainId cb_plain _]
  show wpAny _ _ ((Builtin.Itertools.itClassAndRest "combinations" _ >>= _) >>= _) _ _ _
  refine wpAny_bind (wpAny_bind (wpAny_of_eq (a := ((.type "itertools.combinations" : Value), [(.ref r : Value), .int (k : Int) tt])) ?_ ?_))
  · unfold Builtin.Itertools.itClassAndRest
    simp only [isType, cb_sub, pure_bind, Bool.not_true, Bool.false_eq_true, if_false]
    rfl
  show wpAny _ _ (Builtin.Itertools.itBindNamed "combinations" ["iterable", "r"] 2 2 [.ref r, .int (k : Int) tt] [] >>= _) _ _ _
  refine wpAny_bind (wpAny_of_eq (a := [some (.ref r), some (.int (k : Int) tt)]) (by rfl) ?_)
  show wpAny _ _ (Builtin.Itertools.itSsizeArg (.int (k : Int) tt) >>= _) _ _ _
  refine wpAny_bind (cb_ssize (by omega) (by omega) ?_)
  show wpAny _ _ (collect (.ref r) >>= _) _ _ _
  refine wpAny_bind (L2.collect_range (n := n) hh hr (small_one (by decide) (by decide) (by omega) (by omega)) (by rw [rangeSize_nat]; omega) (by omega) fun h1 tk acc k1 hi => ?_)
  have hsz : acc.toList.length = n := by rw [Array.length_toList]; exact hi.1
  have c1 : ¬ ((k : Int) < 0) := by omega
  have c2 : Builtin.Itertools.itTooMany (k : Int) = false := by
    unfold Builtin.Itertools.itTooMany
    exact decide_eq_false (by omega)
  rw [if_neg c1, c2, if_neg Bool.false_ne_true]
  show wpAny _ _ (newTuple acc.toList >>= _) _ _ _
  refine wpAny_bind (wpAny_newTuple ?_ (by rw [hsz, sizeLine_eq]; omega))
  have tk0 : ((k : Int)).toNat = k := rfl
  have hT : (h1.push { cls := .type "tuple", data := .seq acc.toList.toArray }).get? h1.objs.size = some { cls := .type "tuple", data := .seq acc.toList.toArray } := Heap.get?_push_size _ rfl
  have hz : (h1.push { cls := .type "tuple", data := .seq acc.toList.toArray }).objs.size = h1.objs.size + 1 := Heap.size_push ..
  have k2 : ∀ b o, s.heap.get? b = some o → (h1.push { cls := .type "tuple", data := .seq acc.toList.toArray }).get? b = some o := fun b o e => Heap.get?_push_of_some _ (k1 b o e)
  have hge : ∀ b o, s.heap.get? b = some o → b < h1.objs.size := fun b o e => Heap.lt_size (k1 b o e)
  generalize h1.push { cls := .type "tuple", data := .seq acc.toList.toArray } = h2 at hT hz k2 ⊢
  refine wpAny_pure ?_
  show wpAny _ _ (Builtin.Itertools.itNewRecord (.type "itertools.combinations") ([.ref h1.objs.size, rawInt (if ((k : Int)).toNat > acc.toList.length then 2 else 0), .none] ++ (List.range ((k : Int)).toNat).map fun (i : Nat) => rawInt i) >>= _) _ _ _
  rw [tk0, hsz, if_neg (by omega)]
  refine wpAny_bind ?_
  unfold Builtin.Itertools.itNewRecord
  rw [cb_noDict]
  have hfit : (cbF h1.objs.size 0 .none (List.range k)).size ≤ sizeLine + 2 := by
    show ((List.range k).map fun (i : Nat) => rawInt i).length + 3 ≤ sizeLine + 2
    rw [List.length_map, List.length_range, sizeLine_eq]
    omega
  refine wpAny_newObj_type (data := .fields (cbF h1.objs.size 0 .none (List.range k))) ?_ hfit
  refine wpAny_pure ?_
  have hI : IsCb (h2.push { cls := .type "itertools.combinations", data := .fields (cbF h1.objs.size 0 .none (List.range k)) }) (h1.objs.size + 1) h1.objs.size 0 .none (List.range k) := by
    rw [← hz]
    exact Heap.get?_push_size _ rfl
  rw [hz]
  refine hQ _ tk h1.objs.size acc (Heap.get?_push_of_some _ (by rw [Array.toArray_toList] at hT; exact hT)) hi.1 (fun i hin => ?_) hge (fun b o e => Heap.get?_push_of_some _ (k2 b o e)) hI
  have hia : i < acc.size := by rw [hi.1]; exact hin
  obtain ⟨t', e⟩ := hi.2 i acc[i] (by rw [Array.getElem?_eq_getElem hia])
  refine ⟨t', ?_⟩
  rw [Array.getElem?_eq_getElem hia, e]
  have z : (0 : Int) + (i : Int) * 1 = (i : Int) := by omega
  rw [z]
theorem cb_call {r : Addr} {n k : Nat} {t u v tt : Tok} {Q : Value → Shared → Prop} (hh : A.handled = none) (hr : IsRange s.heap r 0 (n : Int) 1 t u v) (hn : n ≤ 7) (hk : k ≤ n)
    (hQ : ∀ h' tk p us, h'.get? p = some { cls := .type "tuple", data := .seq us } → us.size = n → (∀ i, i < n → ∃ t, us[i]? = some (.int (i : Int) t)) → (∀ b o, s.heap.get? b = some o → b < p) →
      (∀ b o, s.heap.get? b = some o → h'.get? b = some o) → IsCb h' (p + 1) p 0 .none (List.range k) → Q (.ref (p + 1)) { s with heap := h', toks := tk }) :
    wpAny (model prog w) A (call (.type "itertools.combinations") [.ref r, .int (k : Int) tt]) Q E s := by
  refine callType_codes (Q₁ := fun obj s₁ => s₁.TypeIs obj "itertools.combinations" ∧ Q obj s₁) cb_called (cb_typeCall _ _) F.entry_object_init
    (cb_new (A := A.in1) hh hr hn hk fun h' tk p us e1 e2 e3 e4 e5 e6 => ⟨⟨_, e6, rfl⟩, hQ h' tk p us e1 e2 e3 e4 e5 e6⟩) fun obj s₁ h₁ => ?_
  exact ⟨h₁.1, F.args_object_init_3 obj _ _, object_init_meets cb_called.init.lookup cb_called.made (by decide) prog w A.in1 _ s₁ ⟨h₁.1, rfl, h₁.2⟩⟩
theorem cb_pyIter {it p : Addr} {flag : Int} {last : Value} {ix : List Nat} {Q : Value → Shared → Prop} (hit : IsCb s.heap it p flag last ix) (h : Q (.ref it) s) : wpAny (model prog w) A (pyIter (.ref it)) Q E s := by
  have hT : s.TypeIs (.ref it) "itertools.combinations" := ⟨_, hit, rfl⟩
  refine wpAny_pyIter_slot hT cb_iter (wpAny_call_entry cb_iter hT cb_iterE ?_ (cb_iterA _))
  show wpAny _ _ (ret (.ref it)) _ _ s
  exact wpAny_pure ⟨_, rfl, "itertools.combinations", _, hT, cb_next.lookup, h⟩
theorem cb_pyNext0 {it p : Addr} {ix : List Nat} {us : Array Value} {Q : Option Value → Shared → Prop} (hit : IsCb s.heap it p 0 .none ix) (hp : IsPool s.heap p us) (hl : ix.length ≤ 1000)
    (hQ : ∀ h', IsCb h' it p 1 (.ref s.heap.objs.size) ix → h'.get? s.heap.objs.size = some { cls := .type "tuple", data := .seq (ix.map fun i => us.getD i .none).toArray } →
      (∀ b o, b ≠ it → s.heap.get? b = some o → h'.get? b = some o) → Q (some (.ref s.heap.objs.size)) { s with heap := h' }) : wpAny (model prog w) A (pyNext (.ref it)) Q E s := by
  have hT : s.TypeIs (.ref it) "itertools.combinations" := ⟨_, hit, rfl⟩
  unfold pyNext
  exact wpAny_bind (wpAny_attempt (wpAny_callSpecial?_slot (name := Str.ofString "__next__") hT cb_next
    (wpAny_call_entry cb_next hT cb_nextE (cb_item0 hit hp hl fun h' a b c => wpAny_pure (hQ h' a b c)) (cb_nextA _))))
theorem cb_pyNext1 {it p : Addr} {last : Value} {ix nx : List Nat} {us : Array Value} {Q : Option Value → Shared → Prop} (hit : IsCb s.heap it p 1 last ix) (hp : IsPool s.heap p us) (hm : nc us.size ix = some nx) (hl : nx.length ≤ 1000)
    (hQ : ∀ h', IsCb h' it p 1 (.ref s.heap.objs.size) nx → h'.get? s.heap.objs.size = some { cls := .type "tuple", data := .seq (nx.map fun i => us.getD i .none).toArray } →
      (∀ b o, b ≠ it → s.heap.get? b = some o → h'.get? b = some o) → Q (some (.ref s.heap.objs.size)) { s with heap := h' }) : wpAny (model prog w) A (pyNext (.ref it)) Q E s := by
  have hT : s.TypeIs (.ref it) "itertools.combinations" := ⟨_, hit, rfl⟩
  unfold pyNext
  exact wpAny_bind (wpAny_attempt (wpAny_callSpecial?_slot (name := Str.ofString "__next__") hT cb_next
    (wpAny_call_entry cb_next hT cb_nextE (cb_item1 hit hp hm hl fun h' a b c => wpAny_pure (hQ h' a b c)) (cb_nextA _))))
theorem cb_pyNextE {it p : Addr} {last : Value} {ix : List Nat} {us : Array Value} {Q : Option Value → Shared → Prop} (hh : A.handled = none) (hit : IsCb s.heap it p 1 last ix) (hp : IsPool s.heap p us) (hm : nc us.size ix = none)
    (hQ : ∀ h', Heap.ExtBut it s.heap h' → Q none { s with heap := h' }) : wpAny (model prog w) A (pyNext (.ref it)) Q E s := by
  have hT : s.TypeIs (.ref it) "itertools.combinations" := ⟨_, hit, rfl⟩
  unfold pyNext
  refine wpAny_bind (wpAny_attempt (wpAny_callSpecial?_slot (name := Str.ofString "__next__") hT cb_next (wpAny_call_entry cb_next hT cb_nextE (cb_stop (A := A.in1) hh hit hp hm fun h' x he' hx' => ?_) (cb_nextA _))))
  obtain ⟨o, ho, hc⟩ := hx'
  exact wpAny_bind (wpAny_isInstance (T := "StopIteration") (b := true) ⟨o, ho, hc⟩ isSubtype_stop (wpAny_pure (hQ _ he')))
/-! ### list(combinations(..)) -/
abbrev lO (acc : Array Value) (c : Nat) : Obj := { cls := .type "list", dict := none, data := .seq acc c, slots := #[] }
def Chain (n : Nat) : List Nat → List (List Nat) → Prop
  | ix, [] => nc n ix = none
  | ix, nx :: r => nc n ix = some nx ∧ Chain n nx r
/-- the tuples of r have been laid at ts, behind h -/
def Laid (us : Array Value) (h h' : Heap) : List (List Nat) → List Addr → Prop
  | [], [] => True
  | c :: r, t :: ts => h'.get? t = some { cls := .type "tuple", data := .seq (c.map fun i => us.getD i .none).toArray } ∧ (∀ b o, h.get? b = some o → b < t) ∧ Laid us h h' r ts
  | _, _ => False
theorem Laid.mono {us : Array Value} {h h1 h' : Heap} {X : Addr → Prop} (k : ∀ b o, h.get? b = some o → ∃ o', h1.get? b = some o') : ∀ {r : List (List Nat)} {ts : List Addr}, Laid us h1 h' r ts → Laid us h h' r ts
  | [], [], _ => trivial
  | _ :: _, _ :: _, ⟨a, b, c⟩ => ⟨a, fun x o e => by obtain ⟨o', e'⟩ := k x o e; exact b x o' e', Laid.mono (X := X) k c⟩
  | [], _ :: _, z => z.elim
  | _ :: _, [], z => z.elim
theorem cb_drain1 {S it p : Addr} {us : Array Value} {res : Value} {R : Result → Shared → Prop} (hh : A.handled = none) (hSi : S ≠ it) (hSp : S ≠ p) (hpi : p ≠ it) : ∀ (r : List (List Nat)) (ix : List Nat) (s : Shared) (acc : Array Value) (c : Nat) (last : Value),
    IsCb s.heap it p 1 last ix → IsPool s.heap p us → Chain us.size ix r → (∀ nx ∈ r, nx.length ≤ 1000) → s.heap.get? S = some (lO acc c) → acc.size + r.length ≤ 1000 →
    (∀ h' ts c', Laid us s.heap h' r ts → h'.get? S = some (lO (acc ++ (ts.map Value.ref).toArray) c') → (∀ b o, b ≠ it → b ≠ S → s.heap.get? b = some o → h'.get? b = some o) → R (.ok (.ret res)) { s with heap := h' }) →
    codeAny (model prog w) A (.builtin "list.extend.loop" ⟨[.ref S, .ref it, res], []⟩) R s := by
  intro r
  induction r with
  | nil =>
    intro ix s acc c last hit hp hc hl hS hz hR
    refine codeAny_builtin F.entry_extend_loop ?_
    rw [Around.under_plainId F.plain_extend_loop _]
    show wpAny _ A.in1 (pyNext (.ref it) >>= _) _ _ s
    refine wpAny_bind (cb_pyNextE (A := A.in1) hh hit hp hc fun h' hx => wpAny_pure ?_)
    refine hR h' [] c trivial ?_ fun b o h1 _ e => hx b o h1 e
    have q := hx S _ hSi hS
    simpa using q
  | cons nx r ih =>
    intro ix s acc c last hit hp hc hl hS hz hR
    obtain ⟨hc1, hc2⟩ := hc
    refine codeAny_builtin F.entry_extend_loop ?_
    rw [Around.under_plainId F.plain_extend_loop _]
    show wpAny _ A.in1 (pyNext (.ref it) >>= _) _ _ s
    refine wpAny_bind (cb_pyNext1 (A := A.in1) hit hp hc1 (hl nx List.mem_cons_self) fun h1 hit1 hT k1 => ?_)
    show wpAny _ A.in1 (updateSeq S (·.push (.ref s.heap.objs.size)) >>= _) _ _ _
    have hS1 := k1 S _ hSi hS
    have hz' : acc.size < sizeLine := by
      rw [List.length_cons] at hz
      rw [sizeLine_eq]
      omega
    refine wpAny_bind (wpAny_updateSeq hS1 rfl (wpAny_pure ⟨plainId_quiet F.plain_extend_loop _, ?_⟩) (Nat.le_of_lt hz') (by show (acc.push (.ref s.heap.objs.size)).size ≤ sizeLine + 1; rw [Array.size_push]; omega))
    have k2 : ∀ b o, b ≠ S → h1.get? b = some o → (h1.update S (Obj.mapSeq (·.push (.ref s.heap.objs.size)))).get? b = some o := fun b o hb e => (Heap.get?_update_other _ _ (Ne.symm hb)).trans e
    have hS2 := Heap.get?_update_self (Obj.mapSeq (·.push (Value.ref s.heap.objs.size))) hS1 rfl
    have ltS : S < s.heap.objs.size := Heap.lt_size hS
    have lti : it < s.heap.objs.size := Heap.lt_size hit
    generalize h1.update S (Obj.mapSeq (·.push (.ref s.heap.objs.size))) = h2 at hS2 k2 ⊢
    have kk : ∀ b o, b ≠ it → b ≠ S → s.heap.get? b = some o → h2.get? b = some o := fun b o e1 e2 e => k2 b o e2 (k1 b o e1 e)
    refine ih nx { s with heap := h2 } (acc.push (.ref s.heap.objs.size)) _ (.ref s.heap.objs.size) (k2 it _ (Ne.symm hSi) hit1) (kk p _ hpi (Ne.symm hSp) hp) hc2 (fun y hy => hl y (List.mem_cons_of_mem _ hy)) hS2 (by rw [Array.size_push]; rw [List.length_cons] at hz; omega) fun h' ts c' L e k => ?_
    have ext : ∀ b o, s.heap.get? b = some o → ∃ o', h2.get? b = some o' := fun b o e => by
      by_cases z1 : b = it
      · subst z1; exact ⟨_, k2 b _ (Ne.symm hSi) hit1⟩
      · by_cases z2 : b = S
        · subst z2; exact ⟨_, hS2⟩
        · exact ⟨o, kk b o z1 z2 e⟩
    refine hR h' (s.heap.objs.size :: ts) c' ⟨k _ _ (Nat.ne_of_gt lti) (Nat.ne_of_gt ltS) (k2 _ _ (Nat.ne_of_gt ltS) hT), fun b o e => Heap.lt_size e, Laid.mono (X := fun _ => True) ext L⟩ ?_ fun b o e1 e2 e => k b o e1 e2 (kk b o e1 e2 e)
    rw [e]
    simp
end
end CB

namespace CB
open PySem PySem.Spec PyProof.Rows
open Sem (wp)
section
variable {prog : Program} {w : World} {M : Model} {A : Around} {E : Value → Shared → Prop} {s : Shared}
theorem cb_drain0 {S it p : Addr} {us : Array Value} {res : Value} {R : Result → Shared → Prop} (hh : A.handled = none) (hSi : S ≠ it) (hSp : S ≠ p) (hpi : p ≠ it) {r : List (List Nat)} {ix : List Nat} {s : Shared} {c : Nat}
    (hit : IsCb s.heap it p 0 .none ix) (hp : IsPool s.heap p us) (hc : Chain us.size ix r) (hl : ∀ nx ∈ ix :: r, nx.length ≤ 1000) (hS : s.heap.get? S = some (lO #[] c)) (hz : r.length ≤ 900)
    (hR : ∀ h' ts c', Laid us s.heap h' (ix :: r) ts → h'.get? S = some (lO (ts.map Value.ref).toArray c') → (∀ b o, b ≠ it → b ≠ S → s.heap.get? b = some o → h'.get? b = some o) → R (.ok (.ret res)) { s with heap := h' }) :
    codeAny (model prog w) A (.builtin "list.extend.loop" ⟨[.ref S, .ref it, res], []⟩) R s := by
  refine codeAny_builtin F.entry_extend_loop ?_
  rw [Around.under_plainId F.plain_extend_loop _]
  show wpAny _ A.in1 (pyNext (.ref it) >>= _) _ _ s
  refine wpAny_bind (cb_pyNext0 (A := A.in1) hit hp (hl ix List.mem_cons_self) fun h1 hit1 hT k1 => ?_)
  show wpAny _ A.in1 (updateSeq S (·.push (.ref s.heap.objs.size)) >>= _) _ _ _
  have hS1 := k1 S _ hSi hS
  refine wpAny_bind (wpAny_updateSeq hS1 rfl (wpAny_pure ⟨plainId_quiet F.plain_extend_loop _, ?_⟩) (by show 0 ≤ sizeLine; omega) (by show 1 ≤ sizeLine + 1; omega))
  have k2 : ∀ b o, b ≠ S → h1.get? b = some o → (h1.update S (Obj.mapSeq (·.push (.ref s.heap.objs.size)))).get? b = some o := fun b o hb e => (Heap.get?_update_other _ _ (Ne.symm hb)).trans e
  have hS2 := Heap.get?_update_self (Obj.mapSeq (·.push (Value.ref s.heap.objs.size))) hS1 rfl
  have ltS : S < s.heap.objs.size := Heap.lt_size hS
  have lti : it < s.heap.objs.size := Heap.lt_size hit
  generalize h1.update S (Obj.mapSeq (·.push (.ref s.heap.objs.size))) = h2 at hS2 k2 ⊢
  have kk : ∀ b o, b ≠ it → b ≠ S → s.heap.get? b = some o → h2.get? b = some o := fun b o e1 e2 e => k2 b o e2 (k1 b o e1 e)
  refine cb_drain1 hh hSi hSp hpi r ix { s with heap := h2 } #[.ref s.heap.objs.size] _ (.ref s.heap.objs.size) (k2 it _ (Ne.symm hSi) hit1) (kk p _ hpi (Ne.symm hSp) hp) hc (fun y hy => hl y (List.mem_cons_of_mem _ hy)) hS2 (by show 1 + r.length ≤ 1000; omega) fun h' ts c' L e k => ?_
  have ext : ∀ b o, s.heap.get? b = some o → ∃ o', h2.get? b = some o' := fun b o e => by
    by_cases z1 : b = it
    · subst z1; exact ⟨_, k2 b _ (Ne.symm hSi) hit1⟩
    · by_cases z2 : b = S
      · subst z2; exact ⟨_, hS2⟩
      · exact ⟨o, kk b o z1 z2 e⟩
  refine hR h' (s.heap.objs.size :: ts) c' ⟨k _ _ (Nat.ne_of_gt lti) (Nat.ne_of_gt ltS) (k2 _ _ (Nat.ne_of_gt ltS) hT), fun b o e => Heap.lt_size e, Laid.mono (X := fun _ => True) ext L⟩ ?_ fun b o e1 e2 e => k b o e1 e2 (kk b o e1 e2 e)
  rw [e]
  simp
set_option maxHeartbeats 1000000 in
theorem cb_list {it p : Addr} {us : Array Value} {r : List (List Nat)} {ix : List Nat} {Q : Value → Shared → Prop} (hh : A.handled = none) (hpi : p ≠ it)
    (hit : IsCb s.heap it p 0 .none ix) (hp : IsPool s.heap p us) (hc : Chain us.size ix r) (hl : ∀ nx ∈ ix :: r, nx.length ≤ 1000) (hz : r.length ≤ 900)
    (hQ : ∀ S h' ts c', Laid us s.heap h' (ix :: r) ts → h'.get? S = some (lO (ts.map Value.ref).toArray c') → (∀ b o, b ≠ it → s.heap.get? b = some o → h'.get? b = some o) → (∀ b o, s.heap.get? b = some o → b < S) → Q (.ref S) { s with heap := h' }) :
    wpAny (model prog w) A (call (.type "list") [.ref it]) Q E s := by
  have hSi : s.heap.objs.size ≠ it := Nat.ne_of_gt (Heap.lt_size hit)
  have hSp : s.heap.objs.size ≠ p := Nat.ne_of_gt (Heap.lt_size hp)
  refine callType_codes (Q₁ := fun obj s₁ => obj = .ref s.heap.objs.size ∧ s₁ = { s with heap := s.heap.push { cls := .type "list", data := .seq #[] } })
    F.called_list (F.typeCall_list_1 _) F.entry_list_init (code_list_new _ ⟨rfl, rfl⟩) fun obj s₁ h₁ => ?_
  obtain ⟨rfl, rfl⟩ := h₁
  have hS : (s.heap.push { cls := .type "list", data := .seq #[] }).get? s.heap.objs.size = some { cls := .type "list", data := .seq #[] } := Heap.get?_push_size _ rfl
  refine ⟨⟨_, hS, rfl⟩, F.args_list_init_2 _ _, ?_⟩
  show wpAny _ A.in1.in1 (Builtin.List.listItems (.ref s.heap.objs.size) >>= _) _ _ _
  refine wpAny_bind ?_
  unfold Builtin.List.listItems
  refine wpAny_bind (wpAny_seqItems hS rfl (wpAny_pure ?_))
  show wpAny _ A.in1.in1 (updateSeq s.heap.objs.size (fun _ => #[]) >>= fun _ => letGo (#[] : Array Value).toList.reverse >>= fun _ =>
    Builtin.List.listExtendWith (.ref s.heap.objs.size) (.ref it) .none) _ _ _
  refine wpAny_bind (wpAny_updateSeq hS rfl ?_)
  have hS2 := Heap.get?_update_self (Obj.mapSeq (fun _ => (#[] : Array Value))) hS rfl
  refine wpAny_bind (wpAny_letGo ?_)
  have up : ∀ (h : Heap) (f : Obj → Obj), (∀ b o, s.heap.get? b = some o → h.get? b = some o) → ∀ b o, s.heap.get? b = some o → (h.update s.heap.objs.size f).get? b = some o := fun h f q b o e =>
    (Heap.get?_update_other _ _ (Ne.symm (Nat.ne_of_lt (Heap.lt_size e)))).trans (q b o e)
  have k1 : ∀ b o, s.heap.get? b = some o → (s.heap.push { cls := .type "list", data := .seq #[] }).get? b = some o := fun b o e => Heap.get?_push_of_some _ e
  have k2 := up _ (Obj.mapSeq (fun _ => (#[] : Array Value))) k1
  have tyI : ∀ {h : Heap}, (∀ b o, s.heap.get? b = some o → h.get? b = some o) → Shared.TypeIs { s with heap := h } (.ref it) "itertools.combinations" := fun {h} q => ⟨_, q it _ hit, rfl⟩
  show wpAny _ A.in1.in1 (Builtin.List.listExtendWith (.ref s.heap.objs.size) (.ref it) .none) _ _ _
  unfold Builtin.List.listExtendWith
  refine wpAny_bind (wpAny_typeOf (tyI k2) ?_)
  have h1 : Builtin.List.listSameRef (.ref s.heap.objs.size) (.ref it) = false := by simp [Builtin.List.listSameRef, hSi]
  have h2 : (Value.type "itertools.combinations" == Value.type "list") = false := by decide
  have h3 : (Value.type "itertools.combinations" == Value.type "tuple") = false := by decide
  simp only [h1, h2, h3, Bool.or_false, Bool.false_eq_true, if_false]
  refine wpAny_bind (cb_pyIter (k2 it _ hit) ?_)
  refine wpAny_bind (wpAny_holding ?_)
  unfold Builtin.List.listLengthHint
  refine wpAny_bind (wpAny_specialOf (tyI k2) cb_noLen ?_)
  show wpAny _ A.in1.in1 (specialOf (Value.ref it) (Str.ofString "__length_hint__") >>= _) _ _ _
  refine wpAny_bind (wpAny_specialOf (tyI k2) cb_noHint ?_)
  refine wpAny_pure ?_
  show wpAny _ A.in1.in1 (rule "list.extend.makes-room" >>= _) _ _ _
  refine wpAny_bind (wpAny_rule ?_)
  refine wpAny_bind ?_
  show wpAny _ A.in1.in1 (updateSeq s.heap.objs.size (·.push .none) >>= fun _ => updateSeq s.heap.objs.size (·.pop)) _ _ _
  refine wpAny_bind (wpAny_updateSeq hS2 rfl ?_)
  have hS3 := Heap.get?_update_self (Obj.mapSeq (·.push Value.none)) hS2 rfl
  refine wpAny_updateSeq (hz := by seq_fits) hS3 rfl ?_
  have hS4 := Heap.get?_update_self (Obj.mapSeq (·.pop)) hS3 rfl
  have k4 := up _ (Obj.mapSeq (·.pop)) (up _ (Obj.mapSeq (·.push Value.none)) k2)
  refine wpAny_pure ⟨plainId_quiet F.plain_extend_loop _, ?_⟩
  refine cb_drain0 (A := A.in1) hh hSi hSp hpi (k4 it _ hit) (k4 p _ hp) hc hl hS4 hz fun h' ts c' L e k => ⟨rfl, hQ _ h' ts c' (Laid.mono (X := fun _ => True) (fun b o q => ⟨o, k4 b o q⟩) L) e (fun b o e1 q => k b o e1 (Nat.ne_of_lt (Heap.lt_size q)) (k4 b o q)) fun b o q => Heap.lt_size q⟩
end
end CB

namespace CB
open PySem PySem.Spec PyProof.Rows L2
/-! ### the lots -/
def cmb : Nat → Nat → Nat → List (List Nat)
  | _, _, 0 => [[]]
  | _, 0, _ + 1 => []
  | a, m + 1, k + 1 => (cmb (a + 1) m k).map (a :: ·) ++ cmb (a + 1) m (k + 1)
def combs (n k : Nat) : List (List Nat) := cmb 0 n k
def chainB (n : Nat) : List Nat → List (List Nat) → Bool
  | ix, [] => decide (nc n ix = none)
  | ix, nx :: r => decide (nc n ix = some nx) && chainB n nx r
theorem chain_of {n : Nat} : ∀ {r : List (List Nat)} {ix : List Nat}, chainB n ix r = true → Chain n ix r
  | [], ix, h => by
    show nc n ix = none
    exact of_decide_eq_true h
  | _ :: _, _, h => ⟨of_decide_eq_true (Bool.and_eq_true_iff.mp h).1, chain_of (Bool.and_eq_true_iff.mp h).2⟩
def goodB (n k : Nat) : Bool := match combs n k with
  | [] => false
  | ix :: r => decide (ix = List.range k) && chainB n ix r && (ix :: r).all (fun c => c.all (fun i => decide (i < n)) && decide (c.length = k)) && decide (r.length ≤ 900)
theorem all_good : ((List.range 8).all fun n => (List.range (n + 1)).all fun k => goodB n k) = true := by decide +kernel
theorem good_at {n k : Nat} (hn : n ≤ 7) (hk : k ≤ n) : ∃ r, combs n k = List.range k :: r ∧ Chain n (List.range k) r ∧ (∀ c ∈ combs n k, (∀ i ∈ c, i < n) ∧ c.length = k) ∧ r.length ≤ 900 := by
  have g : goodB n k = true := by
    have h1 := List.all_eq_true.mp all_good n (List.mem_range.mpr (by omega))
    exact List.all_eq_true.mp h1 k (List.mem_range.mpr (by omega))
  unfold goodB at g
  split at g
  · cases g
  · rename_i ix r e
    simp only [Bool.and_eq_true, decide_eq_true_eq, List.all_eq_true] at g
    obtain ⟨⟨⟨g1, g2⟩, g3⟩, g4⟩ := g
    subst g1
    refine ⟨r, e, chain_of g2, fun c hc => ?_, g4⟩
    rw [e] at hc
    exact g3 c hc
abbrev lotV (c : List Nat) : List V := c.map fun (i : Nat) => V.int (i : Int)
/-- each lot is a new tuple of H' -/
def LotsAt (H H' : Hp) : List (List Nat) → List Addr → Prop
  | [], [] => True
  | c :: r, t :: ts => H' t = some (.tup (lotV c)) ∧ H t = none ∧ LotsAt H H' r ts
  | _, _ => False
section
variable {X : Cx} {pins : List (Addr × Obj)} {σ : L2.St} {H : Hp} {s : Shared}
/-- more is tracked -/
theorem inv_more {H' : Hp} {h' : Heap} {t' : Nat} (I : Inv X pins σ H s) (k : ∀ b u, s.heap.get? b = some u → h'.get? b = some u) (hs : ∀ b o, H b = some o → H' b = some o) (hn : ∀ b o, s.heap.get? b = some o → H' b = H b)
    (hok : ∀ b o, H b = none → H' b = some o → ObjOk X.prog X.w H' h' b o) : Inv X pins σ H' { s with heap := h', toks := t' } := by
  refine I.un ⟨fun b o q _ _ _ => k b o q, fun b o q _ _ _ => ⟨o.slots, k b o q⟩, fun b o q n _ => by rw [hn b o q]; exact n, fun b o q _ => ⟨o, k b o q⟩, fun b xs q => hs _ _ q, fun b o u q => hs _ _ q, fun b ps q => ⟨#[], by rw [hs _ _ q]; simp⟩⟩ fun b o q => ?_
  cases e : H b with
  | none => exact hok b o e q
  | some o' =>
    have z := hs b o' e
    rw [q] at z
    cases z
    exact (I.hok b _ e).stay (fun c u _ z => k c u z) (fun d z => hs _ _ z) fun d xs z => hs _ _ z
end
theorem live_of {P : Program} {w : World} {H : Hp} {h : Heap} {a : Addr} {o : HO} (x : ObjOk P w H h a o) : ∃ ob, h.get? a = some ob := by
  cases o with
  | lst xs => obtain ⟨_, _, _, _, e⟩ := x; exact ⟨_, e⟩
  | tup xs => obtain ⟨_, _, _, o, e, _⟩ := x; exact ⟨_, e⟩
  | dK kvs => obtain ⟨_, _, _, _, o, _, _, e, _⟩ := x; exact ⟨_, e⟩
  | dT kvs => obtain ⟨_, _, _, _, o, _, _, e, _⟩ := x; exact ⟨_, e⟩
  | set S n => obtain ⟨o, _, _, _, e, _⟩ := x; exact ⟨_, e⟩
  | ins C dx fs => obtain ⟨_, _, _, e, _⟩ := x; exact ⟨_, e⟩
  | own y => exact x
  | xd fs => obtain ⟨_, ⟨_, _, _, e, _⟩, _⟩ := x; exact ⟨_, e⟩
  | rng lo hi => obtain ⟨_, _, _, e⟩ := x; exact ⟨_, e⟩
  | frz ob u => obtain ⟨e, _⟩ := x; exact ⟨_, e⟩
  | tbl ps => exact ⟨_, x⟩
  | met f y => exact ⟨_, x⟩
  | ext φ => obtain ⟨_, e, _⟩ := x; exact e
theorem fp_fresh {X : Cx} {pins : List (Addr × Obj)} {σ : L2.St} {H : Hp} {s : Shared} (I : Inv X pins σ H s) {b : Addr} (hb : ∀ c o, s.heap.get? c = some o → c < b) : FpOk X pins H b := by
  have hL : X.env.locals < b := by
    obtain ⟨m, ⟨o, es, ep, ho, r⟩, _⟩ := I.loc
    exact hb _ _ ho
  have h0 := I.ok.above
  refine ⟨?_, Nat.ne_of_gt hL, fun hm => ?_, .inr (Nat.le_trans h0 (Nat.le_of_lt hL)), fun x c e z => ?_, fun p hp z => ?_⟩
  · cases e : H b with
    | none => rfl
    | some o =>
      obtain ⟨ob, q⟩ := live_of (I.hok b o e)
      exact absurd (hb _ _ q) (Nat.lt_irrefl _)
  · obtain ⟨_, o, ho, _⟩ := I.ok.funs.mem hm
    exact absurd (Nat.lt_of_lt_of_le (Heap.lt_size ho) (Nat.le_trans h0 (Nat.le_of_lt hL))) (Nat.lt_irrefl _)
  · obtain ⟨v, o, ho, _⟩ := I.cell x c e
    rw [z] at ho
    exact absurd (hb _ _ ho) (Nat.lt_irrefl _)
  · have q := (I.pin p hp).1
    rw [z] at q
    exact absurd (hb _ _ q) (Nat.lt_irrefl _)
/-- what a tuple at b holds -/
def rdT (h : Heap) (b : Addr) : Option HO := match h.get? b with
  | some ⟨_, _, .seq us _, _⟩ => some (.tup (us.toList.map fun v => (absV v).getD .non))
  | _ => none
theorem vals_lot {n : Nat} {us : Array Value} (hu : ∀ i, i < n → ∃ t, us[i]? = some (.int (i : Int) t)) : ∀ {c : List Nat}, (∀ i ∈ c, i < n) → Vals (lotV c) (c.map fun i => us.getD i .none) ∧ (c.map fun i => us.getD i .none).map (fun v => (absV v).getD .non) = lotV c
  | [], _ => ⟨.nil, rfl⟩
  | i :: c, h => by
    obtain ⟨t, e⟩ := hu i (h i List.mem_cons_self)
    have e2 : us.getD i .none = .int (i : Int) t := by
      rw [Array.getD_eq_getD_getElem?, e]
      rfl
    obtain ⟨a, b⟩ := vals_lot hu (c := c) fun j hj => h j (List.mem_cons_of_mem _ hj)
    refine ⟨?_, ?_⟩
    · show Vals (.int (i : Int)   :: lotV c) (us.getD i .none :: c.map fun i => us.getD i .none)
      exact .cons (by rw [e2]; exact ⟨t, rfl⟩) a
    · show (absV (us.getD i .none)).getD .non :: _ = .int (i : Int)   :: lotV c
      rw [e2, b]
      rfl
theorem laid_lots {us : Array Value} {n : Nat} (hu : ∀ i, i < n → ∃ t, us[i]? = some (.int (i : Int) t)) {h h' : Heap} {H H' : Hp} (hH : ∀ b o, H b = some o → ∃ u, h.get? b = some u) {ts0 : List Addr} (hr : ∀ t ∈ ts0, H' t = rdT h' t) :
    ∀ {r : List (List Nat)} {ts : List Addr}, (∀ c ∈ r, ∀ i ∈ c, i < n) → (∀ t ∈ ts, t ∈ ts0) → Laid us h h' r ts → LotsAt H H' r ts
  | [], [], _, _, _ => trivial
  | c :: r, t :: ts, hc, ht, ⟨a, b, l⟩ => by
    refine ⟨?_, ?_, laid_lots hu hH hr (fun d hd => hc d (List.mem_cons_of_mem _ hd)) (fun x hx => ht x (List.mem_cons_of_mem _ hx)) l⟩
    · rw [hr t (ht t List.mem_cons_self)]
      unfold rdT
      rw [a]
      have q := (vals_lot hu (hc c List.mem_cons_self)).2
      show some (HO.tup ((c.map fun i => us.getD i .none).map fun v => (absV v).getD .non)) = _
      rw [q]
    · cases e : H t with
      | none => rfl
      | some o =>
        obtain ⟨u, hu'⟩ := hH t o e
        exact absurd (b t u hu') (Nat.lt_irrefl _)
  | [], _ :: _, _, _, z => z.elim
  | _ :: _, [], _, _, z => z.elim
theorem laid_mem {us : Array Value} {h h' : Heap} : ∀ {r : List (List Nat)} {ts : List Addr}, Laid us h h' r ts → ts.length = r.length ∧ ∀ t ∈ ts, (∃ c ∈ r, h'.get? t = some { cls := .type "tuple", data := .seq (c.map fun i => us.getD i .none).toArray }) ∧ ∀ b o, h.get? b = some o → b < t
  | [], [], _ => ⟨rfl, fun t ht => nomatch ht⟩
  | c :: r, t :: ts, ⟨a, b, l⟩ => by
    obtain ⟨e, f⟩ := laid_mem l
    refine ⟨by rw [List.length_cons, List.length_cons, e], fun x hx => ?_⟩
    rcases List.mem_cons.mp hx with z | z
    · subst z
      exact ⟨⟨c, List.mem_cons_self, a⟩, b⟩
    · obtain ⟨⟨d, hd, e1⟩, e2⟩ := f x z
      exact ⟨⟨d, List.mem_cons_of_mem _ hd, e1⟩, e2⟩
  | [], _ :: _, z => z.elim
  | _ :: _, [], z => z.elim
def tLots (ta tb : TE) : TE := fun σ H Q => ta σ H fun x H1 => ∃ n : Nat, x = .int (n : Int) ∧ n ≤ 7 ∧ tb σ H1 fun y H2 => ∃ k : Nat, y = .int (k : Int) ∧ k ≤ n ∧
  ∀ (l : Addr) (ts : List Addr) (H' : Hp), Same H2 H' → H2 l = none → H' l = some (.lst (ts.map V.ref)) → LotsAt H2 H' (combs n k) ts → Q (.ref l) H'
section
variable {X : Cx} {a b : Expr} {ta tb : TE}
theorem vals_refs : ∀ ts : List Addr, Vals (ts.map V.ref) (ts.map Value.ref)
  | [] => .nil
  | t :: r => .cons rfl (vals_refs r)
theorem pe_lots {p1 p2 p3 q1 q2 q3 : Pos} (hc : X.calm = true) (g1 : Gl X "list") (m1 : X.mg "list" = none) (g2 : Gl X "combinations") (m2 : X.mg "combinations" = some (.type "itertools.combinations")) (g3 : Gl X "range") (m3 : X.mg "range" = none)
    (ha : PE X a ta) (hb : PE X b tb) (n1 : starEach [.Call (.Name "combinations" p2) [.Call (.Name "range" p3) [a] [] q3, b] [] q2] X.env = (false, eval (.Call (.Name "combinations" p2) [.Call (.Name "range" p3) [a] [] q3, b] [] q2) X.env) :: starEach [] X.env := by rfl)
    (n2 : starEach [.Call (.Name "range" p3) [a] [] q3, b] X.env = (false, eval (.Call (.Name "range" p3) [a] [] q3) X.env) :: starEach [b] X.env := by rfl) (n3 : starEach [b] X.env = (false, eval b X.env) :: starEach [] X.env := by rfl)
    (n4 : starEach [a] X.env = (false, eval a X.env) :: starEach [] X.env := by rfl) (h3 : (backTo q2 (starEach [b] X.env)).any (·.1) = false := by rfl) :
    PE X (.Call (.Name "list" p1) [.Call (.Name "combinations" p2) [.Call (.Name "range" p3) [a] [] q3, b] [] q2] [] q1) (tLots ta tb) := by
  refine ⟨fun pins s σ H Q I h => ?_⟩
  refine Call_ (ld_blt I g1 m1 boot_list (PyProof.Rows.callWith_type1 (args_cons (thn (Q := fun x s' => ∃ (it p : Addr) (us : Array Value) (n k : Nat) (H2 : Hp), x = .ref it ∧ p ≠ it ∧ IsCb s'.heap it p 0 .none (List.range k) ∧ IsPool s'.heap p us ∧ us.size = n ∧
      (∀ i, i < n → ∃ t, us[i]? = some (.int (i : Int) t)) ∧ n ≤ 7 ∧ k ≤ n ∧ Inv X pins σ H2 s' ∧ FpOk X pins H2 it ∧
      ∀ (l : Addr) (ts : List Addr) (H' : Hp), Same H2 H' → H2 l = none → H' l = some (.lst (ts.map V.ref)) → LotsAt H2 H' (combs n k) ts → Q (.ref l) H') ?_ fun x s1 hx => args_nil ?_) n1) n1))
  · refine wpAny_Call_Name_kw (ld_glob I g2 m2 (PyProof.Rows.callWith_type1 (args_cons (thn (Q := fun x s' => ∃ (r : Addr) (n : Nat) (t u v : Tok) (H1 : Hp), x = .ref r ∧ n ≤ 7 ∧
        Inv X (pins ++ [(r, { cls := .type "range", dict := none, data := .fields #[.int 0 t, .int (n : Int) u, .int 1 v], slots := #[] })]) σ H1 s' ∧
        tb σ H1 fun y H2 => ∃ k : Nat, y = .int (k : Int) ∧ k ≤ n ∧
          ∀ (l : Addr) (ts : List Addr) (H' : Hp), Same H2 H' → H2 l = none → H' l = some (.lst (ts.map V.ref)) → LotsAt H2 H' (combs n k) ts → Q (.ref l) H') ?_ fun v s1 h1 => ?_) n2) n2 h3))
    · refine Call_ (ld_blt I g3 m3 boot_range (PyProof.Rows.callWith_type1 (one_arg ha I h (fun v s2 x H2 I2 r q => ?_) n4) n4))
      obtain ⟨n, rfl, hn, q⟩ := q
      obtain ⟨t, rfl⟩ := r
      refine call_range_1 ⟨s2.heap.objs.size, n, s2.toks, t, s2.toks + 1, H2, rfl, hn, ?_, q⟩
      have fp := I2.fpOk (b := s2.heap.objs.size) (Nat.le_refl _) (I2.hok.fresh (Nat.le_refl _))
      have I3 : Inv X pins σ H2 { s2 with heap := s2.heap.push { cls := .type "range", data := .fields #[.int 0 s2.toks, .int (n : Int) t, .int 1 (s2.toks + 1)] }, toks := s2.toks + 1 + 1 } := I2.kept fun b u e => Heap.get?_push_of_some _ e
      refine I3.pins_of fun pr hp => ?_
      rcases List.mem_append.mp hp with hp | hp
      · exact I3.pin pr (List.mem_append_right _ hp)
      · rw [List.mem_singleton.mp hp]
        exact ⟨Heap.get?_push_size _ rfl, fp.1, fp.2.1, fp.2.2.1, fun v z => nomatch z⟩
    · obtain ⟨r, n, t, u, v', H1, rfl, hn, I1, q⟩ := h1
      refine one_arg hb I1 q (fun y s2 yv H2 I2 ry q2 => ?_) n3
      obtain ⟨k, rfl, hk, q3⟩ := q2
      obtain ⟨tt, rfl⟩ := ry
      have hr := (I2.pin (r, _) (List.mem_append_right _ (List.mem_append_right _ (List.mem_singleton.mpr rfl)))).1
      refine cb_call (I2.ok.hd hc) hr hn hk fun h' tk p us e1 e2 e3 e4 e5 e6 => ?_
      have J := I2.unpinned
      have fp := fp_fresh J (b := p + 1) fun c o e => Nat.lt_succ_of_lt (e4 c o e)
      exact ⟨p + 1, p, us, n, k, H2, rfl, Nat.ne_of_lt (Nat.lt_succ_self p), e6, e1, e2, e3, hn, hk, J.kept e5, fp, q3⟩
  · obtain ⟨it, p, us, n, k, H2, rfl, hpi, hit, hp, hus, hu, hn, hk, I1, fp, q⟩ := hx
    obtain ⟨r, er, hch, hgood, hle⟩ := good_at hn hk
    subst hus
    refine cb_list (I1.ok.hd hc) hpi hit hp hch (fun c hcm => by rw [← er] at hcm; have := (hgood c hcm).2; omega) hle fun S h' ts c' L hS kk hfr => ?_
    rw [← er] at L
    obtain ⟨lts, hmem⟩ := laid_mem L
    obtain ⟨f0, f1, f2, f3, f4, f5⟩ := fp
    have liveH : ∀ b o, H2 b = some o → ∃ u, s1.heap.get? b = some u := fun b o e => live_of (I1.hok b o e)
    have nS : H2 S = none := by
      cases e : H2 S with
      | none => rfl
      | some o =>
        obtain ⟨u, z⟩ := liveH _ _ e
        exact absurd (hfr _ _ z) (Nat.lt_irrefl _)
    obtain ⟨G, g1', g2'⟩ := restrict h' fun b => decide ((s1.heap.get? b).isSome = true)
    have gl : ∀ b o, s1.heap.get? b = some o → G.get? b = h'.get? b := fun b o e => g1' b (decide_eq_true (by rw [e]; rfl))
    have gd : ∀ b u, G.get? b = some u → ∃ o, s1.heap.get? b = some o := fun b u e => by
      cases z : s1.heap.get? b with
      | some o => exact ⟨o, rfl⟩
      | none =>
        rw [g2' b (decide_eq_false (by rw [z]; intro q; cases q))] at e
        cases e
    have J : Inv X pins σ H2 { s1 with heap := G, toks := s1.toks } := I1.turned (fun b o hb e => (gl b o e).trans (kk b o hb e)) f0 f1 f3 f4 f5
    have nts : ∀ b o, s1.heap.get? b = some o → b ≠ S ∧ b ∉ ts := fun b o e => ⟨Nat.ne_of_lt (hfr b o e), fun hm => absurd ((hmem b hm).2 b o e) (Nat.lt_irrefl _)⟩
    have offOld : ∀ b, b ≠ S ∧ b ∉ ts → (if b = S then some (HO.lst (ts.map V.ref)) else if b ∈ ts then rdT h' b else H2 b) = H2 b := fun b hb => by rw [if_neg hb.1, if_neg hb.2]
    have nSts : S ∉ ts := fun hm => by
      obtain ⟨⟨c, _, e⟩, _⟩ := hmem S hm
      rw [hS] at e
      have q : Value.type "list" = Value.type "tuple" := congrArg Obj.cls (Option.some.inj e)
      exact absurd q (by decide)
    have K : Inv X pins σ (fun b => if b = S then some (HO.lst (ts.map V.ref)) else if b ∈ ts then rdT h' b else H2 b) { s1 with heap := h', toks := s1.toks } := by
      refine inv_more (s := { s1 with heap := G, toks := s1.toks }) J (fun b u e => ?_) (fun b o e => ?_) (fun b o e => ?_) fun b o e1 e2 => ?_
      · obtain ⟨o, z⟩ := gd b u e
        rw [← gl b o z]
        exact e
      · obtain ⟨u, z⟩ := liveH b o e
        rw [offOld b (nts b u z)]
        exact e
      · obtain ⟨o', z⟩ := gd b o e
        exact offOld b (nts b o' z)
      · by_cases hb : b = S
        · rw [if_pos hb] at e2
          cases e2
          rw [hb]
          refine ⟨?_, ts.map Value.ref, c', vals_refs ts, hS⟩
          rw [List.length_map, lts, er, List.length_cons, sizeLine_eq]
          omega
        · rw [if_neg hb] at e2
          by_cases hm : b ∈ ts
          · rw [if_pos hm] at e2
            obtain ⟨⟨c, hcm, e⟩, _⟩ := hmem b hm
            unfold rdT at e2
            rw [e] at e2
            have hv := vals_lot hu (hgood c hcm).1
            have e3 : o = .tup (lotV c) := by
              rw [← hv.2]
              exact (Option.some.inj e2).symm
            subst e3
            refine ⟨?_, c.map fun i => us.getD i .none, hv.1, _, e, rfl, _, rfl⟩
            rw [List.length_map, (hgood c hcm).2, sizeLine_eq]
            omega
          · rw [if_neg hm, e1] at e2
            cases e2
    refine ⟨.ref S, _, K, rfl, q S ts _ (fun b o e => ?_) nS (if_pos rfl) ?_⟩
    · obtain ⟨u, z⟩ := liveH b o e
      exact (offOld b (nts b u z)).trans e
    · refine laid_lots (ts0 := ts) hu liveH (fun t ht => ?_) (fun c hcm => (hgood c hcm).1) (fun _ h => h) L
      have nt : t ≠ S := fun z => nSts (by rw [← z]; exact ht)
      show (if t = S then _ else if t ∈ ts then rdT h' t else H2 t) = _
      rw [if_neg nt, if_pos ht]
end
end CB

set_option maxHeartbeats 2000000
/-! An own error whose class, or one above it, makes it by super().__init__(text) and then keeps its class's name under word. -/
namespace PySem
namespace CleX
open PySem.W PySem.Calls PyProof.Rows PySem.HandSPX
/-- the name of an own class whose name is kept in its slot -/
theorem ent_name : entryFor table "type.__name__" = some Builtin.«type.__name__» := entryFor_of_tree (by kernel_rfl)
theorem typ_name : typeOf (.builtin "type.__name__") = pure (.type "getset_descriptor") := by show builtinType _ = _; rw [builtinType_eq_fast]; kernel_rfl
section
open Builtin Builtin.ObjectAttr Builtin.Getset_descriptor
theorem own_name : descrOwnerAndName "type.__name__" = ("type", "__name__") := by decide +kernel
variable {prog : Program} {w : World} {A : Around} {E : Value → Shared → Prop} {R : Result → Shared → Prop} {s : Shared} {K : Frag} {x C : Addr}
theorem name_get {v : Value} {oC : Obj} (X : K.In s.heap) (hC : s.heap.get? C = some oC) (h2 : (oC.slots[2]?).join = some v) (ht : Looks (model prog w) s.heap (typeOf (.ref C)) (.type "type")) (hs : Looks (model prog w) s.heap (isSubtype (.type "type") (.type "type")) true)
    (h : R (.ok (.ret v)) s) : codeAny (model prog w) A (.call (.builtin "getset_descriptor.__get__") ⟨[.builtin "type.__name__", .ref C, .type "type"], []⟩) R s := by
  obtain ⟨hh, g, dr, t, os⟩ := s
  refine codeAny_call_builtin KF.slot_gs.plain KF.entry_gs (KF.slot_gs.check _ _ _ _ _ _ _ _ typ_name (KF.args_gs _ _ _) ?_)
  unfold Builtin.«getset_descriptor.__get__» descrGet
  rw [dga_obj]
  refine wpAny_bind (wpAny_pure ?_)
  unfold descrGetter descrCheckInstance descrNameAndClass isInstance
  simp only [own_name]
  repeat lk
  refine ⟨Code.quiet_builtin _ (by decide +kernel), codeAny_builtin ent_name ?_⟩
  unfold Builtin.«type.__name__» keptObject slotAt
  repeat (first | lk | (refine wpAny_loadPart_at hC ?_) | wp_step)
  rw [h2]
  exact wpAny_pure h
/-- C.__name__ -/
theorem name_of {v : Value} {oC : Obj} {expr : Bool} {Q : Value → Shared → Prop} (X : K.In s.heap) (hC : K.lookup C = some oC) (h2 : (oC.slots[2]?).join = some v) (hh : handedIn v = true) (hr : readsIn K C (.type "type") = true)
    (e : findCls K (.ref C) (.type "type") "__name__" = some (.get (.builtin "getset_descriptor.__get__") (.builtin "type.__name__") (.ref C) (.type "type")))
    (h : Q v { s with toks := s.toks + 1 }) : wpAny (model prog w) A (getAttr (.ref C) "__name__" expr) Q E s := by
  have ht : Looks (model prog w) s.heap (typeOf (.ref C)) (.type "type") := by
    simp only [readsIn, Bool.and_eq_true, beq_iff_eq] at hr
    exact looks_typeIn X hr.1.1.1.2
  exact cls_bind X hr e (wpAny_call (name_get (s := { s with toks := s.toks + 1 }) X (X _ _ hC) h2 ht (Looks.of_pure (by rw [isSubtype_type]; kernel_rfl)) (handed_on hh h)))
/-- x.__class__, x an error of an own class -/
theorem class_of {ox : Obj} {od : Option Obj} {gt : Option Value} {Q : Value → Shared → Prop} (X : K.In s.heap) (I : InstAt s.heap x ox C od) (hga : findIn K (.ref C) "__getattribute__" = some (some (.builtin "BaseException.__getattribute__"))) (hgt : findIn K (.ref C) "__getattr__" = some gt)
    (hsub : subIn K (.ref C) (.type "BaseException") = some true) (hf : findObj K C od "__class__" = some (.bind (.builtin "getset_descriptor.__get__") (.builtin "object.__class__"))) (hm : mroIn K C (.type "object") = some true)
    (h : Q (.ref C) { s with toks := s.toks + 1 }) : wpAny (model prog w) A (getAttr (.ref x) "__class__" true) Q E s := by
  obtain ⟨hp, g, d, t, os⟩ := s
  have L0 := I.type (M := model prog w)
  have L1 := looks_findIn (M := model prog w) X hga
  have L2 := looks_findIn (M := model prog w) X hgt
  have L3 := looks_find (M := model prog w) X I hf
  have sub : Looks (model prog w) hp (isInstance (.ref x) (.type "BaseException")) true := L0.andThen (looks_subIn X hsub)
  have n0 : (true && onTheHeap (Value.builtin "BaseException.__getattribute__")) = false := rfl
  have n2 : (Value.builtin "BaseException.__getattribute__" == Value.builtin "object.__getattribute__") = false := by decide +kernel
  have n1 : (onTheHeap (Value.ref C) && Value.builtin "BaseException.__getattribute__" == Value.builtin "object.__getattribute__") = false := by rw [n2]; rfl
  unfold getAttr getAttrBy
  refine wpAny_bind (wpAny_mkText (wpAny_holding (wpAny_bind (L0.at (wpAny_bind (L1.at ?_))))))
  show wpAny _ _ (if (onTheHeap (Value.ref C) && Value.builtin "BaseException.__getattribute__" == Value.builtin "object.__getattribute__") = true then _ else _) _ _ _
  rw [n1, if_neg Bool.false_ne_true]
  unfold getAttrByItsOwn hookBefore
  refine wpAny_bind ?_
  rw [if_pos (show onTheHeap (Value.ref C) = true from rfl)]
  refine L2.at ?_
  refine wpAny_bind (wpAny_attempt (wpAny_holding ?_))
  unfold callGetattribute
  rw [n0, if_neg Bool.false_ne_true]
  unfold boundAndCalled
  rw [PySem.F.excAttr_ValueError.ga.bind (.ref x)]
  refine wpAny_bind (wpAny_pure ?_)
  show wpAny _ _ (call (.builtin "BaseException.__getattribute__") [.ref x, .str "__class__" t]) _ _ _
  refine wpAny_call (codeAny_call_builtin PySem.F.excAttr_ValueError.ga.plain PySem.F.entry_bexc_ga ?_)
  refine @PySem.W.check_slot (model prog w) _ _ ⟨hp, g, d, t + 1, os⟩ "BaseException.__getattribute__" "BaseException" "__getattribute__" (.ref x) [.str "__class__" t] [] _ (by decide +kernel) (by decide +kernel) sub (PySem.F.args_bexc_ga (.ref x) (.str "__class__" t)) ?_
  unfold Builtin.«object.__getattribute__»
  refine wpAny_bind (wpAny_of_eq (a := ((Value.ref x : Value), [Value.str "__class__" t])) (by first | rfl | (simp only [slotArgs]; rfl)) ?_)
  refine wpAny_bind (wpAny_pure (wpAny_bind (L0.at (wpAny_bind (L3.at ?_)))))
  refine wpAny_bind (wpAny_holding (wpAny_call (class_get (s := ⟨hp, g, d, t + 1, os⟩) (ox := ox) (od := od) X I hm ?_)))
  refine wpAny_pure ?_
  show wpAny _ _ (handedOut (.ref C)) _ _ _
  rw [handedOut_of (show handedIn (.ref C) = true from rfl)]
  first | exact wpAny_pure h | exact wpAny_pure (wpAny_pure h)
end
end CleX
end PySem

set_option maxHeartbeats 2000000
namespace PySem
namespace CleX
open PySem.W PySem.Calls PyProof.Rows PySem.HandSPX
/-! ### the text of __init__ -/
def iA (p1 p2 p3 : Pos) : Arguments := { posonlyargs := [], args := [{ arg := "self", annotation := none, pos := p1 }, { arg := "text", annotation := none, pos := p2 }], vararg := none, kwonlyargs := [], kw_defaults := [], kwarg := none, defaults := [.Constant (.str "") 0 p3] }
def iB (q1 q2 q3 q4 q5 q6 q7 q8 q9 qa qb qc : Pos) : List Stmt :=
  [.Expr (.Call (.Attribute (.Call (.Name "super" q1) [] [] q2) "__init__" q3) [.Name "text" q4] [] q5) q6,
   .Assign [.Attribute (.Name "self" q7) "word" q8] (.Attribute (.Attribute (.Name "self" q9) "__class__" qa) "__name__" qb) qc]
def iS : Scope := { kind := .function, names := [(PySem.Str.ofString "self", .local), (PySem.Str.ofString "text", .local), (PySem.Str.ofString "__class__", .free), (PySem.Str.ofString "super", .globalImplicit)], isGenerator := false, isCoroutine := false, more := [] }
/-- what the written part says of __init__ at fI, of the class D -/
structure InitTxt (prog : Program) (K : Frag) (mg : Str → Option Value) (D fI : Addr) : Prop where
  nG : mg "super" = none
  nT : (prog.main.scope.names.lookup ("super" : Str)).isSome = false
  noT : nsIn K cStatics "thirdparty.any" = some none
  dD : ∃ cdD, clsIn K D = some cdD
  tC : typeIn K (.ref fI) = some (.type "function")
  fn : ∃ (qn : Str) (oc : Value) (od : Option Addr) (T : Addr) (kV doc pm : Value) (an : Option Addr) (cda : Addr) (ct : Value) (cc : Addr) (osl : Array (Option Value)) (p1 p2 p3 q1 q2 q3 q4 q5 q6 q7 q8 q9 qa qb qc : Pos),
    (q3.endLine == q5.line) = true ∧ K.lookup fI = some ⟨oc, od, .func (ksFn "__init__" qn (iA p1 p2 p3) (iB q1 q2 q3 q4 q5 q6 q7 q8 q9 qa qb qc) iS (.ref T) kV doc pm an (.ref cda) ct cc), osl⟩ ∧ codeIn K (.ref cda) qn = true ∧
    (∃ (oT : Obj) (e : Value) (n : Nat), K.lookup T = some oT ∧ oT.data = .seq #[e] n) ∧
    (∃ (ccl : Value) (cdd : Option Addr) (vs : Array Value) (ccs : Array (Option Value)) (file : Str) (tf : Tok), K.lookup cda = some ⟨ccl, cdd, .fields vs, ccs⟩ ∧ vs[2]? = some (.str file tf) ∧ ((prog.main.file : Str) == file) = true) ∧
    (∃ (cl : Value) (cld : Option Addr) (csl : Array (Option Value)), K.lookup cc = some ⟨cl, cld, .cell (some (.ref D)), csl⟩)
/-- what the written part says of an error's class at C, whose name is nv -/
structure ClsTxt (K : Frag) (C D fI : Addr) (nv : Value) : Prop where
  cls : ∃ nm q N bs bm sn sub ab col dd k0 k1 k3 k5, K.lookup C = some (excClassObj nm q C N bs bm true sn sub ab col dd k0 k1 (some nv) k3 k5 "ValueError.__new__") ∧ refsVE bm = true
  nvh : handedIn nv = true
  mD : mroIn K C (.ref D) = some true
  mO : mroIn K C (.type "object") = some true
  sup : ks_superIn K C D "__init__" = some (some (.builtin "ValueError.__init__"))
  sVE : subIn K (.ref C) (.type "ValueError") = some true
  sa : findIn K (.ref C) "__setattr__" = some (some (.builtin "object.__setattr__"))
  ga : findIn K (.ref C) "__getattribute__" = some (some (.builtin "BaseException.__getattribute__"))
  gg : findIn K (.ref C) "__getattr__" = some none
  noN : findIn K (.ref C) "word" = some none
  cl : findObj K C none "__class__" = some (.bind (.builtin "getset_descriptor.__get__") (.builtin "object.__class__"))
  rd : readsIn K C (.type "type") = true
  nm : findCls K (.ref C) (.type "type") "__name__" = some (.get (.builtin "getset_descriptor.__get__") (.builtin "type.__name__") (.ref C) (.type "type"))
  iC : findIn K (.ref C) "__init__" = some (some (.ref fI))
  kC : keepIn K (.ref C) = true
  exC : subIn K (.ref C) (.type "BaseException") = some true
  tyC : typeIn K (.ref C) = some (.type "type")
  hdC : hasDictIn K C = true
theorem kept_but {K : Frag} {h h' : Heap} {x : Addr} (X : K.In h) (hx : K.lookup x = none) (k : ∀ b o, b ≠ x → h.get? b = some o → h'.get? b = some o) : K.In h' := fun a o e =>
  k a o (fun z => by rw [z, hx] at e; cases e) (X a o e)
/-- the built-in __init__, bound to a fresh error at e, called -/
theorem call_mw {prog : Program} {w : World} {A : Around} {E : Value → Shared → Prop} {h : Heap} {g : Array GenState} {d : Drawn} {t : Nat} {os : OsState} {nm q : Str} {C N : Addr} {bs bm bmB : List Value} {hdct : Bool} {sn : List Str} {sub : List Value} {ab : Bool} {col : Option Bool} {dd : Option Addr} {k0 k1 k2 k3 k5 : Option Value} {B newId i : String}
    (FB : ExcBaseFacts B newId i bmB) {u e t0 : Addr} {rest : List Value} {Q : Value → Shared → Prop}
    (hC : h.get? C = some (excClassObj nm q C N bs bm hdct sn sub ab col dd k0 k1 k2 k3 k5 newId)) (he : h.get? e = some (excO C t0)) (hu : h.get? u = some (kxs_mw i e)) (hrest : rest.length ≤ sizeLine)
    (hq : ∀ h' t1, (∀ b o, b ≠ e → h.get? b = some o → h'.get? b = some o) → h'.get? e = some (excO C t1) → Q .none ⟨h', g, d, t, os⟩) :
    wpAny (model prog w) A (call (.ref u) rest) Q E ⟨h, g, d, t, os⟩ := by
  refine wpAny_call (codeAny_of_tree ?_)
  show wpAny _ A.in1 (callAny (.ref u) ⟨rest, []⟩) _ _ _
  simp only [callAny]
  refine wpAny_bind (wpAny_load hu ?_)
  simp only [kxs_mw, show (Value.type "method-wrapper" == Value.type "method" || Value.type "method-wrapper" == Value.type "builtin_function_or_method" || Value.type "method-wrapper" == Value.type "method-wrapper") = true by decide, if_true]
  refine KFB.if_so (by decide) ?_
  refine wpAny_bind (check_bound_init FB.toExcCallFacts hC he rfl ?_)
  refine wpAny_bind (wpAny_pure (wpAny_pure ?_))
  refine ⟨plainId_quiet FB.init.plain _, codeAny_builtin FB.initEntry ?_⟩
  exact exc_init_tree (cls := .ref C) (t0 := t0) (dv := none) (c2 := .none) (c3 := .none) (b4 := .bool false) he hrest fun h' k e' _ => hq h' _ k e'
/-- what __init__ leaves of a fresh error at x -/
structure InitEnd (h h' : Heap) (x C dx : Addr) (nv : Value) : Prop where
  keep : ∀ b o, b ≠ x → h.get? b = some o → h'.get? b = some o
  obj : ∃ t1 : Addr, h'.get? x = some { cls := .ref C, dict := some dx, data := .fields #[.ref t1, .none, .none, .none, .bool false, .none] }
  dbig : h.objs.size ≤ dx
  dne : dx ≠ x
  ns : h'.Ns1 dx (fun y => if y = "word" then some nv else none)
theorem ldC {M : Model} {s : Shared} {env : Env} {m : Str → Option Value} {x : Str} {pos : Pos} {v : Value} {Q : Value → Shared → Prop} {A : Around} {E : Value → Shared → Prop} (hn : s.heap.Ns env.locals m) (hv : m x = some v) (h : Q v s)
    (hk : env.scope.kind = .function := by rfl) (hl : env.kindOf x = some .local := by rfl) (hd : (x == ("__debug__" : Str)) = false := by decide) :
    wpAny M A (eval (.Name x pos) env) Q E s := wpAny_Name (wpAny_loadName_local hk hl hn hv h) hd
theorem method_he {o : Expr} {name : Str} {apos pos : Pos} {args : List Expr} {env : Env} (hline : (apos.endLine == pos.line) = true) (hform : methodCallForm (args.length + ([] : List Keyword).length) (backTo pos (starEach args env)) (backToKw pos (keywordEach [] env)) = true) :
    eval (.Call (.Attribute o name apos) args [] pos) env = (do
      let ov ← attributeBase o name env (eval o env)
      standAt apos.atName
      let (f, first) ← holding [ov] (getMethod ov name (do return (← importBound o env).getD true))
      callWith pos f first (backTo pos (starEach args env)) []) := by
  rw [arm_eval_Call]
  have hp : methodCallPos true o env apos pos = pure pos := by unfold methodCallPos; simp [hline]
  unfold methodCall
  rw [hform]
  simp only [hp, pure_bind]
  rfl
end CleX
end PySem

set_option maxHeartbeats 2000000
namespace PySem
namespace CleX
open PySem.W PySem.Calls PyProof.Rows PySem.HandSPX
section
variable {prog : Program} {w : World} {A : Around} {E : Value → Shared → Prop} {R : Result → Shared → Prop} {s : Shared} {K : Frag} {mg : Str → Option Value} {C D fI : Addr} {nv : Value}
theorem cle_init (T : InitTxt prog K mg D fI) (T2 : ClsTxt K C D fI nv) {x t0 : Addr} {v : Value} (X : K.In s.heap) (G : s.heap.Ns mainGlobals mg) (Bn : ∃ mb, s.heap.Ns builtinsNs mb ∧ ∀ x : Str, x ≠ "__name__" → mb x = bootBuiltins x) (hlim : s.heap.NoLimit)
    (hx : s.heap.get? x = some (excO C t0)) (hnx : K.lookup x = none) (hroom : A.depth < recursionLimit)
    (hq : ∀ h' tk dx, InitEnd s.heap h' x C dx nv → R (.ok (.ret .none)) { s with heap := h', toks := tk }) :
    codeAny (model prog w) A (.call (.ref fI) ⟨[.ref x, v], []⟩) R s := by
  obtain ⟨qn, oc, od, Td, kV, doc, pm, an, cda, ct, cc, osl, p1, p2, p3, q1, q2, q3, q4, q5, q6, q7, q8, q9, qa, qb, qc, hline, ho, hcd, ⟨oT, dv, n, hT, hTd⟩, ⟨ccl, cdd, vs, ccs, file, tf, hcode, hvs, hfile⟩, ⟨cl, cld, csl, hcell⟩⟩ := T.fn
  obtain ⟨nm, q, N, bs, bm, sn, sub, ab, col, dd, k0, k1, k3, k5, hC, hbm⟩ := T2.cls
  obtain ⟨cdD, hD⟩ := T.dD
  obtain ⟨mb, hb1, hb2⟩ := Bn
  have hcl : clsIn K C = some { name := nm, bases := bs, mro := .ref C :: bm, ns := N, qualname := q, hasDict := true, slotNames := sn, subclasses := sub, abstract := ab, collection := col, hasDel := false } := by unfold clsIn; rw [hC] <;> rfl
  refine ks_codeAny_call_defAt (fd := ksFn "__init__" qn (iA p1 p2 p3) (iB q1 q2 q3 q4 q5 q6 q7 q8 q9 qa qb qc) iS (.ref Td) kV doc pm an (.ref cda) ct cc) (body := iB q1 q2 q3 q4 q5 q6 q7 q8 q9 qa qb qc) (binds := [("self", .ref x), ("text", v)]) hroom (X _ _ ho) rfl hlim (codeRec_of X hcd) rfl
    (binds_K X rfl hT hTd (by first | rfl | with_unfolding_all rfl) (by first | rfl | with_unfolding_all rfl)) (by show ∀ y ∈ iS.names, y.2 ≠ .cell; decide) (locs rfl) (fun h₁ hn k => ?_) rfl rfl rfl
  have X₁ : K.In h₁ := X.keeps k
  have hx₁ := k _ _ hx
  have hxL : s.heap.objs.size ≠ x := Nat.ne_of_gt (Heap.lt_size hx)
  have zn : s.heap.objs.size < h₁.objs.size := hn.lt
  obtain ⟨hp, g, dr, tk, os⟩ := s
  dsimp only at hn X G hlim hx k zn hxL hq hb1 ⊢
  -- super().__init__(text)
  refine ks_wpAt_execs_cons (ks_wpAt_Expr_any (ks_wpAt_MethodCall (he := method_he hline (by rfl)) ?_))
  obtain ⟨oD, hD1, hD2⟩ : ∃ oD, h₁.get? D = some oD ∧ oD.data = .cls cdD := by
    unfold clsIn at hD
    split at hD
    · rename_i c d cd' sl ho
      cases hD
      exact ⟨_, X₁ _ _ ho, rfl⟩
    · cases hD
  have hio : ∀ c, (excO C t0).data ≠ .cls c := fun c e => by cases e
  refine ks_wpAt_super_base rfl rfl (by decide) rfl (X₁ _ _ ho) rfl rfl rfl (X₁ _ _ hcode) rfl hvs hfile T.nT ?_
  refine ks_loadName_global rfl rfl (loadGlobal_builtin (G.keeps k) T.nG (hb1.keeps k) ((hb2 _ (by decide)).trans (by first | boot_by_name | rfl | kernel_rfl)) ⟨rfl, ?_⟩)
  refine wpAny_loadName_free rfl rfl rfl ⟨_, X₁ _ _ hcell, rfl⟩ ?_
  refine wpAny_loadName_local rfl rfl hn (by first | rfl | with_unfolding_all rfl | kernel_rfl) ?_
  refine ks_wpAny_isType_cls hD1 hD2 ⟨rfl, ?_⟩
  refine ks_wpAny_call_super hD1 hD2 hx₁ rfl hio (looks_mroIn X₁ T2.mD) (fun h₂ e k₂ => ?_)
  have X₂ : K.In h₂ := X₁.keeps k₂
  have hx₂ := k₂ _ _ hx₁
  have I₂ : InstAt h₂ x (excO C t0) C none := ⟨hx₂, rfl, rfl, trivial⟩
  have hsup := T2.sup
  unfold ks_superIn at hsup
  rw [hcl] at hsup
  refine kxs_getMethod kxs_ValueError (l₀ := .ref C :: bm) e (looks_opaque X₂ T.noT) ((looks_clsIn X₂ hcl).andThen .now) rfl X₂ hsup (I₂.type.andThen (looks_subIn X₂ T2.sVE)) (ks_ne X₂ I₂ hcl) (by decide) ?_
  have hus : (h₂.push (kxs_mw "ValueError.__init__" x)).get? h₂.objs.size = some (kxs_mw "ValueError.__init__" x) := Heap.get?_push_at rfl rfl
  have k₃ : ∀ b o, h₂.get? b = some o → (h₂.push (kxs_mw "ValueError.__init__" x)).get? b = some o := fun b o q => Heap.get?_push_of_some _ q
  have hn₃ := (hn.keeps k₂).keeps k₃
  refine kxs_callWith (i := "ValueError.__init__") (x := x) (by rfl) (evalArgs_plain (spliced_more (ldC (v := v) hn₃ (by first | rfl | with_unfolding_all rfl | kernel_rfl) (spliced_none ⟨hus, ?_⟩)) rfl))
  refine call_mw F.excBase_ValueError (k₃ _ _ (X₂ _ _ hC)) (k₃ _ _ hx₂) hus (by show 1 ≤ sizeLine; rw [sizeLine_eq]; exact (by decide : 1 ≤ 16777216)) (fun h₄ t1 k₄ hx₄ => ?_)
  have X₄ : K.In h₄ := kept_but (X₂.keeps k₃) hnx k₄
  have hn₄ : h₄.Ns hp.objs.size (fun y => ([(("self" : Str), Value.ref x), (("text" : Str), v)] : List (Str × Value)).reverse.lookup y) := by
    obtain ⟨oL, es, ep, hL, r⟩ := hn₃
    exact ⟨oL, es, ep, k₄ _ _ hxL hL, r⟩
  have I₄ : InstAt h₄ x (excO C t1) C none := ⟨hx₄, rfl, rfl, trivial⟩
  -- self.word = self.__class__.__name__
  show _root_.PySem.wpAt _ _ _ (execs _ _) _ _ _
  refine ks_wpAt_execs_cons (wpAt_of_wpAny (plainObj_wpAny_Assign_Attribute ?_))
  refine L2.attr_of rfl (L2.attr_of rfl (ldC (v := .ref x) hn₄ (by first | rfl | with_unfolding_all rfl | kernel_rfl) ?_))
  refine class_of X₄ I₄ T2.ga T2.gg T2.exC T2.cl T2.mO ?_
  refine name_of X₄ hC rfl T2.nvh T2.rd T2.nm ?_
  refine ldC (v := .ref x) hn₄ (by first | rfl | with_unfolding_all rfl | kernel_rfl) ?_
  refine set_plain X₄ (ox := excO C t1) (od := none) ⟨hx₄, rfl, rfl, trivial⟩ T2.sa ?_
  refine exc_osa X₄ hx₄ hcl (show refsVE (.ref C :: bm) = true from hbm) rfl T2.noN (fun h₅ tk₅ dx k₅ dn dne hx₅ hn₅ => ?_)
  have big : hp.objs.size ≤ dx := by
    have z : hp.objs.size < h₄.objs.size := hn₄.lt
    exact Nat.le_of_lt (Nat.lt_of_lt_of_le z dn)
  exact wpAt_of_wpAny (wpAny_execs_nil (hq h₅ tk₅ dx ⟨fun b o hb q => k₅ b o hb (k₄ b o hb (k₃ b o (k₂ b o (k b o q)))), ⟨t1, hx₅⟩, big, dne, hn₅⟩))
/-- a made error -/
structure Made (h h' : Heap) (e C d : Addr) (nv : Value) : Prop where
  keep : ∀ b o, h.get? b = some o → h'.get? b = some o
  new : h.objs.size ≤ e
  obj : ∃ oe vs, h'.get? e = some oe ∧ oe.cls = .ref C ∧ oe.dict = some d ∧ oe.data = .fields vs ∧ vs[1]? = some .none
  dbig : h.objs.size ≤ d
  dne : d ≠ e
  ns : h'.Ns1 d (fun y => if y = "word" then some nv else none)
theorem one_size (v : Value) : [v].length ≤ sizeLine := by
  rw [sizeLine_eq]
  exact (by decide : 1 ≤ 16777216)
/-- C(text) -/
theorem cle_made (T : InitTxt prog K mg D fI) (T2 : ClsTxt K C D fI nv) {v : Value} (X : K.In s.heap) (G : s.heap.Ns mainGlobals mg) (Bn : ∃ mb, s.heap.Ns builtinsNs mb ∧ ∀ x : Str, x ≠ "__name__" → mb x = bootBuiltins x) (hlim : s.heap.NoLimit) (hroom : A.depth + 1 < recursionLimit)
    (hq : ∀ h' tk e d, Made s.heap h' e C d nv → R (.ok (.ret (.ref e))) { s with heap := h', toks := tk }) :
    codeAny (model prog w) A (.call (.ref C) ⟨[v], []⟩) R s := by
  obtain ⟨nm, q, N, bs, bm, sn, sub, ab, col, dd, k0, k1, k3, k5, hC, hbm⟩ := T2.cls
  obtain ⟨mb, hb1, hb2⟩ := Bn
  obtain ⟨hp, g, dr, tk, os⟩ := s
  have k : ∀ b o, hp.get? b = some o → ((hp.push (kdv_tup [v])).push (excO C hp.objs.size)).get? b = some o := fun b o e => Heap.get?_push_of_some _ (Heap.get?_push_of_some _ e)
  have hget : ((hp.push (kdv_tup [v])).push (excO C hp.objs.size)).get? (hp.objs.size + 1) = some (excO C hp.objs.size) := by heap_get
  have hnx : K.lookup (hp.objs.size + 1) = none := by
    cases e : K.lookup (hp.objs.size + 1) with
    | none => rfl
    | some o =>
      have z : hp.get? (hp.objs.size + 1) = some o := X _ _ e
      exact absurd (Nat.lt_of_succ_lt (Heap.lt_size z)) (Nat.lt_irrefl _)
  refine call_own F.excBase_ValueError (fun X => refsVE_contains X bm hbm) (X _ _ hC) (looks_findIn X T2.iC) (fun self => bind_fn X self T.tC) (one_size v) ?_
  refine cle_init (s := ⟨(hp.push (kdv_tup [v])).push (excO C hp.objs.size), g, dr, tk, os⟩) T T2 (X.keeps k) (G.keeps k) ⟨mb, hb1.keeps k, hb2⟩ (hlim.keeps k) hget hnx ?_ fun h' tk' dx ⟨k', ⟨t1, hx⟩, dn, dne, hns⟩ => ?_
  · show A.depth + 1 < recursionLimit
    exact hroom
  · have old : ∀ b o, hp.get? b = some o → h'.get? b = some o := fun b o e => k' b o (Nat.ne_of_lt (Nat.lt_succ_of_lt (Heap.lt_size e))) (k b o e)
    have z : hp.objs.size + 1 + 1 ≤ dx := by
      first
        | (simpa only [Heap.size_push] using dn)
        | exact dn
        | (have q := dn; rw [Heap.size_push, Heap.size_push] at q; exact q)
    exact ⟨rfl, hq h' tk' (hp.objs.size + 1) dx ⟨old, Nat.le_succ _, ⟨_, _, hx, rfl, rfl, rfl, rfl⟩, Nat.le_trans (Nat.le_trans (Nat.le_succ _) (Nat.le_succ _)) z, dne, hns⟩⟩
end
end CleX
end PySem

set_option maxHeartbeats 2000000
namespace CX4
open PySem PySem.Spec PyProof.Rows L2
/-- the word of an error: its class's name -/
def wd (c : Str) : List (Str × V) := [(("word" : Str), .str c)]
theorem relO_word {c : Str} {v' : Value} (r : RelV (.str c) v') (f : Str) : RelO (List.lookup f (wd c)) (if f = "word" then some v' else none) := by
  by_cases hw : f = "word"
  · subst hw
    rw [if_pos rfl]
    have q : List.lookup ("word" : Str) (wd c) = some (.str c) := by simp [wd, List.lookup]
    rw [q]
    exact r
  · rw [if_neg hw]
    have qw : (f == ("word" : Str)) = false := by simpa using hw
    have q2 : List.lookup f (wd c) = none := by simp [wd, List.lookup, qw]
    rw [q2]
    trivial
section
variable {X : Cx} {C D fI : Addr} {nv : Value} {c : Str}
/-- C(text) -/
def tMk (C : Addr) (c : Str) (ta : TA) : L2.St → Hp → XK → Prop := fun σ H Q => ta σ H fun vs H1 => ∃ v, vs = [v] ∧ ∀ d, H1 d = none → Q (.ref C) (some d) (upd H1 d (.xd (wd c)))
theorem pmk_cle {x : Str} {a : Expr} {ta : TA} {p pos : Pos} {k : Nat} (T : PySem.CleX.InitTxt X.prog X.K X.mg D fI) (T2 : PySem.CleX.ClsTxt X.K C D fI nv) (rw : RelV (.str c) nv) (gC : X.mg x = some (.ref C)) (hr : Room k X.A) (ha : PA X [a] ta) (hg : Gl X x := by rfl)
    (he : starEach (a :: []) X.env = (false, eval a X.env) :: starEach [] X.env := by rfl) (hpl : (backTo pos (starEach [] X.env)).any (·.1) = false := by rfl) (hdb : (x == ("__debug__" : Str)) = false := by decide) :
    PMk X (.Call (.Name x p) [a] [] pos) (tMk C c ta) := by
  intro pins s σ H Q I h
  refine wpAny_Call_Name_kw (ld_glob I hg gC ?_ hdb)
  refine PySem.W.callWith_K (h₀ := X.base) I.ok.mod.kin T2.kC (thn (ha.run pos pins s σ H _ I h) fun us s1 hh => ?_) he hpl
  obtain ⟨vs, H1, I1, r1, v, ev, q1⟩ := hh
  subst ev
  refine ⟨I1.kIn, ?_⟩
  cases r1 with
  | cons rv rn =>
    rename_i v' us'
    cases rn
    show wpAny _ _ (call (.ref C) [v']) _ _ _
    have hlim := I1.nolimit
    have hmod := I1.mod
    obtain ⟨mb, hb1, hb2⟩ := hmod.blt
    have hG := hmod.glob.keeps I1.bk
    have hB := hb1.keeps I1.bk
    obtain ⟨hp, g, dr, tk, os⟩ := s1
    refine wpAny_call (PySem.CleX.cle_made T T2 I1.kIn hG ⟨mb, hB, hb2⟩ hlim (by have := hr.dp; omega) fun h' tk' e d M => ?_)
    show MkP X pins σ Q (.ref e) ⟨h', g, dr, tk', os⟩
    obtain ⟨oe, fv, hoe, hc, hd, hdat, h1⟩ := M.obj
    have hns := M.ns
    obtain ⟨G', g1, g2⟩ := restrict h' fun b => decide (b ≠ e)
    have gk : ∀ b, b ≠ e → G'.get? b = h'.get? b := fun b hb => g1 b (decide_eq_true hb)
    have ge : G'.get? e = none := g2 e (by simp)
    have old : ∀ b o, hp.get? b = some o → G'.get? b = some o := fun b o q => (gk b (Nat.ne_of_lt (Nat.lt_of_lt_of_le (Heap.lt_size q) M.new))).trans (M.keep b o q)
    have ob : ObjOk X.prog X.w (upd H1 d (.xd (wd c))) G' d (.xd (wd c)) :=
      ⟨_, hns.at (fun o q => (gk d M.dne).trans q), fun f => relO_word rw f⟩
    have J : Inv X pins σ (upd H1 d (.xd (wd c))) ⟨G', g, dr, tk', os⟩ := I1.laid (t' := tk') old M.dbig ob
    refine ⟨e, oe, fv, ⟨G', g, dr, tk', os⟩, _, .ref C, some d, rfl, J, fun b o q => ?_, ge, hoe, ⟨hc, hd⟩, hdat, h1, ?_, rfl, I1.bare, raises_own T2.exC T2.tyC, q1 d (I1.hok.fresh M.dbig)⟩
    · by_cases hb : b = e
      · have q' : G'.get? b = some o := q
        rw [hb, ge] at q'; cases q'
      · exact (gk b hb).symm.trans q
    · rw [upd_ne (Ne.symm M.dne)]
      exact I1.hok.fresh M.new
/-- raise C(text) -/
def tRs (C : Addr) (c : Str) (W : WX) (ta : TA) : TS := fun _ σ H => tMk C c ta σ H fun cls d H' => W cls d σ H'
theorem ps_cle {x : Str} {a : Expr} {ta : TA} {W : WX} {p pos pos2 : Pos} {k : Nat} (hc : X.calm = true) (T : PySem.CleX.InitTxt X.prog X.K X.mg D fI) (T2 : PySem.CleX.ClsTxt X.K C D fI nv) (rw : RelV (.str c) nv) (gC : X.mg x = some (.ref C)) (hr : Room k X.A) (tk : Takes X W) (ha : PA X [a] ta) (hg : Gl X x := by rfl)
    (he : starEach (a :: []) X.env = (false, eval a X.env) :: starEach [] X.env := by rfl) (hpl : (backTo pos (starEach [] X.env)).any (·.1) = false := by rfl) (hdb : (x == ("__debug__" : Str)) = false := by decide) :
    PS X (.Raise (some (.Call (.Name x p) [a] [] pos)) none pos2) (tRs C c W ta) := ps_raise hc tk (pmk_cle T T2 rw gC hr ha hg he hpl hdb)
/-- e.word, e the error that the suite holds (at a; its class cls, its dict d) -/
def tWord (K : PySem.W.Frag) (a : Addr) (cls : Value) (d : Option Addr) (te : TE) : TE := fun σ H Q => te σ H fun x H1 => x = .ref a ∧ ∃ (C D fI : Addr) (nv : Value) (c : Str) (dd : Addr), cls = .ref C ∧ PySem.CleX.ClsTxt K C D fI nv ∧ d = some dd ∧ H1 dd = some (.xd (wd c)) ∧ Q (.str c) H1
theorem pe_word {a : Addr} {oe : Obj} {cls : Value} {d : Option Addr} {pn : List (Addr × Obj)} {e : Expr} {te : TE} {pos : Pos} (hz : Zc cls d oe) (hf : ∃ vs, oe.data = .fields vs) (he : PE (X.suite a ((a, oe) :: pn)) e te)
    (hb : attributeBase e "word" X.env (eval e X.env) = eval e X.env := by rfl) :
    PE (X.suite a ((a, oe) :: pn)) (.Attribute e "word" pos) (tWord X.K a cls d te) := by
  refine ⟨fun pins s σ H Q I h => ?_⟩
  refine attr_of hb (thn (he.run pins s σ H _ I h) fun u s1 hh => ?_)
  obtain ⟨x, H1, I1, rx, ex, C, D, fI, nv, c, dd, ec, T2, ed, ea, q⟩ := hh
  subst ex
  obtain rfl : u = Value.ref a := rx
  subst ec
  subst ed
  obtain ⟨ha, _⟩ := I1.pin (a, oe) (List.mem_append_left _ List.mem_cons_self)
  obtain ⟨vs, hd⟩ := hf
  have hx : ObjOk X.prog X.w H1 s1.heap dd (.xd (wd c)) := I1.hok dd _ ea
  obtain ⟨mA, hns, hr⟩ := hx
  obtain ⟨od, ho, hl⟩ := lookIn_ns hns
  have l : List.lookup ("word" : Str) (wd c) = some (.str c) := by simp [wd, List.lookup]
  obtain ⟨u, hu, ru⟩ := RelO.some_of (v := .str c) (o := mA "word") (by rw [← l]; exact hr "word")
  have J : PySem.W.InstAt s1.heap a oe C (some od) := ⟨ha, hz.1, by unfold PySem.W.notCls; rw [hd] <;> rfl, by rw [hz.2]; exact ho⟩
  exact HandSPX.exc_get I1.kIn J T2.ga T2.gg T2.exC (PySem.W.findObj_own T2.hdC T2.noN rfl (by rw [hl, hu])) (handed_of ru) ⟨.str c, H1, I1.tok _, ru, q⟩
end
end CX4

set_option maxHeartbeats 2000000
/-! Several except clauses, each of which gives its error a name. -/
namespace TA
open PySem PySem.Spec PyProof.Rows L2
/-- D behind a suite: the name's slot i is empty -/
def gone (i : Nat) (D : Ends) : Ends := { nx := fun σ H => D.nx (σ.set i none) H, rt := D.rt, bk := fun σ H => D.bk (σ.set i none) H, ct := fun σ H => D.ct (σ.set i none) H }
/-- a clause: its class, its name's slot, its suite's reading -/
abbrev Cl := Value × Nat × (Addr → Value → Option Addr → TS)
def wAll (K : PySem.W.Frag) (n : Nat) (Wout : WX) (D : Ends) : List Cl → WX
  | [] => Wout
  | (c, i, ts) :: r => fun cls d σ H => ∃ b, PySem.W.exmOne K cls c = some b ∧ (b = true → ∀ a, H a = none → σ.length = n → ts a cls d (gone i D) (σ.set i (some (.ref a))) H) ∧ (b = false → wAll K n Wout D r cls d σ H)
inductive Cls (X : Cx) : List ExceptHandler → List Cl → Prop
  | nil : Cls X [] []
  | cons {x n : Str} {i : Nat} {c : Value} {ts : Addr → Value → Option Addr → TS} {b₀ : Stmt} {su : List Stmt} {p1 p2 : Pos} {hds : List ExceptHandler} {l : List Cl} (hc : Names X x c) (hi : X.N[i]? = some n) (hln : X.env.kindOf n = some .local)
      (hsu : ∀ (a : Addr) (oe : Obj) (cls : Value) (d : Option Addr) (pn : List (Addr × Obj)), Zc cls d oe → (∃ vs, oe.data = .fields vs) → PSs (X.suite a ((a, oe) :: pn)) (b₀ :: su) (ts a cls d)) (r : Cls X hds l) :
      Cls X (.ExceptHandler (some (.Name x p1)) (some n) (b₀ :: su) p2 :: hds) ((c, i, ts) :: l)
section
variable {X : Cx} {body : List Stmt} {h₀ : ExceptHandler} {hds : List ExceptHandler} {l : List Cl} {pos : Pos} {tb : WX → TS} {Wout : WX}
theorem ps_try_all (hs : X.stack = X.env :: X.outer) (hf : X.env.frame = some X.env.locals) (hN : X.N.Nodup) (tk : Takes X Wout)
    (hb : ∀ (W : WX) (pn : List (Addr × Obj)) (xe : Value → Shared → Prop), Takes (X.tr pn xe) W → PassesOwn (model X.prog X.w) X.A X.env xe → PSs (X.tr pn xe) body (tb W))
    (hh : Cls X (h₀ :: hds) l) : PS X (.Try body (h₀ :: hds) [] [] pos) (fun D σ H => tb (wAll X.K X.N.length Wout D l) D σ H) := by
  constructor
  intro pins s σ H D I h
  have ok := I.ok
  have frs' : X.A.frames = some (X.env :: X.outer) := hs ▸ ok.frames
  refine wpAny_Try_except (wpAny_mono ((hb (wAll X.K X.N.length Wout D l) (X.pn ++ pins) (fun e s₁ => wpAny (model X.prog X.w) X.A (noteFrame e X.env) (fun _ s₂ => wpAny (model X.prog X.w) X.A (setFlight e none) (fun _ s₃ => wpAny (model X.prog X.w) X.A (handleBy e X.env (h₀ :: hds)) (SP X pins D) X.xe s₃) X.xe s₂) X.xe s₁) ?C PassesOwn.looking).run [] s σ H D (I.toTry _) h) ?N fun _ _ q => q)
  case C =>
    rintro u s' ⟨a, B, sI, pins', σ', H', cls, d, rfl, J', nb, up, sky, na, os, ag, w⟩
    have J : Inv X pins σ' H' sI := J'.ofTry ok
    show wpAny _ X.A (noteFrame (.ref a) X.env) _ _ _
    refine Sky.land Zc.steady frs' hf (hs ▸ sky) fun h3 fl3 up3 => ?_
    have J3 : Inv X pins σ' H' { s' with heap := h3 } := J.landed nb fl3.1 (up.trans up3) os ag
    obtain ⟨o3, v3, e3, z3, d3⟩ := fl3.there
    have nfr : a ∉ frs (X.env :: X.outer) := fun hm => by
      obtain ⟨_, o', e', q⟩ := fl3.2.2.1.mem hm
      exact q _ (Option.some.inj (e'.symm.trans e3) ▸ d3)
    have nL : a ≠ X.env.locals := fun z => nfr (List.mem_filterMap.mpr ⟨X.env, List.mem_cons_self, z ▸ hf⟩)
    have nF : a ∉ X.fs := fun hm => (List.mem_filterMap.mp hm).elim fun e q => nfr (List.mem_filterMap.mpr ⟨e, List.mem_cons_of_mem _ q.1, q.2⟩)
    have S3 := J3.suite e3 d3 na nL nF
    suffices go : ∀ {hk : List ExceptHandler} {lk : List Cl}, Cls X hk lk → wAll X.K X.N.length Wout D lk cls d σ' H' → wpAny (model X.prog X.w) X.A (handleBy (.ref a) X.env hk) (SP X pins D) X.xe { s' with heap := h3 } from go hh w
    intro hk lk C
    induction C with
    | nil =>
      intro w
      obtain ⟨_, _, _, oe, vs, T, oT, _, he, _, hd, h1, _⟩ := id fl3
      refine wpAny_handleBy_nil ?_
      unfold PySem.passOn
      refine wpAny_bind (wpAny_field he hd h1 ?_)
      rw [if_neg (by simp)]
      have fin : wpAny (model X.prog X.w) X.A (setFlight (.ref a) X.env.frame) (fun _ s4 => wpAny (model X.prog X.w) X.A (throw (.ref a) : Sem Flow) (SP X pins D) X.xe s4) X.xe { s' with heap := h3 } :=
        hf ▸ HandSPX.setFlight_upZ fl3 fun h4 hh4 up4 => wpAny_throw (tk _ _ ⟨a, B, sI, pins, σ', H', cls, d, rfl, J, nb, (up.trans up3).trans up4, .inr (.inr (hs ▸ hh4)), na, os, ag, w⟩)
      first | exact wpAny_bind (wpAny_pure (wpAny_bind fin)) | exact wpAny_bind fin
    | @cons x n i c ts b₀ su p1 p2 hds2 l2 hc hi hln hsu r ih =>
      rintro ⟨b, hb1, hyes, hno⟩
      refine wpAny_handleBy_cons (codeAny_handlers_test ?_) (fun q => nomatch q)
      have LM := PySem.W.exm_one (M := model X.prog X.w) J3.kIn (fun A Q E s k q => wpAny_typeOf_ref (k _ _ e3) (z3.1.symm ▸ q)) hb1
      have named : ∀ {Q : Value → Shared → Prop} {E : Value → Shared → Prop}, Q c { s' with heap := h3 } → wpAny (model X.prog X.w) (X.A.mark (some (.ref a))) (eval (.Name x p1) X.env) Q E { s' with heap := h3 } := fun {Q E} q =>
        hc.2.2.elim (fun hm => ld_glob (X := X.suite a ((a, o3) :: (X.pn ++ pins))) S3 hc.1 hm q hc.2.1) fun hm => ld_blt (X := X.suite a ((a, o3) :: (X.pn ++ pins))) S3 hc.1 hm.1 hm.2.1 q hm.2.2 hc.2.1
      refine named (LM.here ?_)
      cases b with
      | true =>
        refine codeAny_handlers_suite_as (HandSPX.lands_againZ fl3 fun h4 fl4 up4 => ?_)
        have J4 : Inv X pins σ' H' { s' with heap := h4 } := J.landed nb fl4.1 ((up.trans up3).trans up4) os ag
        obtain ⟨o4, v4, e4, z4, d4⟩ := fl4.there
        refine store_ok (X := X.suite a ((a, o4) :: (X.pn ++ pins))) (v := .ref a) (J4.suite e4 d4 na nL nF) hN hi (.inl hln) rfl (fun s5 S5 => wpAny_mono ((hsu a o4 cls d (X.pn ++ pins) z4 ⟨_, d4⟩).run [] s5 _ H' _ S5 (hyes rfl a na J.len)) (fun f s6 hsp => ?_) (fun _ _ z => z.elim)) (.inr hln)
        have last : ∀ {σ6 : L2.St} {H6 : Hp} {Q : Shared → Prop}, Inv (X.suite a ((a, o4) :: (X.pn ++ pins))) [] σ6 H6 s6 → (∀ s7, Inv X pins (σ6.set i none) H6 s7 → Q s7) → wpAny (model X.prog X.w) X.A (do bindName X.env n .none; unbindBehindTheSuite X.env n p2) (fun _ s7 => Q s7) X.xe s6 :=
          fun {σ6 H6 Q} S6 hq => gone_ok (S6.unsuite ok) hN hi hln hq
        cases f with
        | ret u => exact hsp.elim fun v6 q => q.elim fun σ6 q => q.elim fun H6 q => last q.1 fun s7 J7 => ⟨_, _, _, J7, q.2.1, q.2.2⟩
        | next => exact hsp.elim fun σ6 q => q.elim fun H6 q => last q.1 fun s7 J7 => ⟨_, _, J7, q.2⟩
        | brk => exact hsp.elim fun σ6 q => q.elim fun H6 q => last q.1 fun s7 J7 => ⟨_, _, J7, q.2⟩
        | cont => exact hsp.elim fun σ6 q => q.elim fun H6 q => last q.1 fun s7 J7 => ⟨_, _, J7, q.2⟩
      | false => exact ih (hno rfl)
  case N =>
    intro f s1 hsp
    cases f with
    | ret u => exact hsp.elim fun v q => q.elim fun σ' q => q.elim fun H' q => ⟨v, σ', H', q.1.ofTry ok, q.2⟩
    | next => exact hsp.elim fun σ' q => q.elim fun H' q => wpAny_execs_nil ⟨σ', H', q.1.ofTry ok, q.2⟩
    | brk => exact hsp.elim fun σ' q => q.elim fun H' q => ⟨σ', H', q.1.ofTry ok, q.2⟩
    | cont => exact hsp.elim fun σ' q => q.elim fun H' q => ⟨σ', H', q.1.ofTry ok, q.2⟩
end
end TA

set_option maxHeartbeats 2000000
/-! The asking that a law tries: told or refused. -/
namespace TD
open PySem PySem.Spec PyProof.Rows L2 LamX TA CX4
/-- what is made of the asking's reading: ("told", v), or ("no", the word of the error's class) -/
def TT2 (K : PySem.W.Frag) (D1 : Addr) : (XK → Hp → VK → Prop) → Hp → VK → Prop := fun tl H Q =>
  tl (fun cls d H' => PySem.W.exmOne K cls (.ref D1) = some true ∧ (∃ (C D fI : Addr) (nv : Value) (c : Str) (dd : Addr), cls = .ref C ∧ PySem.CleX.ClsTxt K C D fI nv ∧ d = some dd ∧ H' dd = some (.xd (wd c)) ∧ ∀ p, H' p = none → Q (.ref p) (upd H' p (.tup [.str "no", .str c]))))
    H (fun v H1 => ([.str "told", v] : List V).length ≤ sizeLine ∧ ∀ p, H1 p = none → Q (.ref p) (upd H1 p (.tup [.str "told", v])))
abbrev suit (j k : Nat) (p1 p2 p3 p4 p5 : Pos) : List Stmt := [.Return (some (.Tuple [.Constant (.str "no") j p1, .Attribute (.Name "e" p2) "word" p3] k p4)) p5]
section
variable {X : Cx} {sg : Scope} {g D1 D2 : Addr} {cdg : Value} {a q x : Str} {j1 k1 j2 k2 j3 k3 : Nat} {p1 p2 p3 p4 p5 p6 p7 p8 p9 q1 q2 q3 q4 q5 r1 r2 r3 r4 r5 r6 : Pos}
/-- ("no", e.word) -/
def tNo (K : PySem.W.Frag) : Addr → Value → Option Addr → TS := fun ad cls d => tRet (tTup (tCons (tC (.str "no")) (tCons (tWord K ad cls d (tVar 1)) tNil)))
theorem pss_no {Y : Cx} (hY : Y.N[1]? = some ("e" : Str)) (hv : Vis Y.env.scope "e") {ad : Addr} {oe : Obj} {cls : Value} {d : Option Addr} {pn : List (Addr × Obj)} (hz : Zc cls d oe) (hf : ∃ vs, oe.data = .fields vs) :
    PSs (Y.suite ad ((ad, oe) :: pn)) (suit j2 k2 q1 q2 q3 q4 q5) (tNo Y.K ad cls d) :=
  pss_one (ps_ret (pe_tup (pa_cons pe_str (pa_cons (pe_word hz hf (pe_var (i := 1) hY hv)) pa_nil))))
theorem told2 (hD1 : sg.names.lookup ("CleaveError" : Str) = some .globalImplicit) (hD2 : sg.names.lookup ("HouseError" : Str) = some .globalImplicit) (he : sg.names.lookup ("e" : Str) = some .local) (ha : a ≠ "e")
    (m1 : X.mg "CleaveError" = some (.ref D1)) (m2 : X.mg "HouseError" = some (.ref D2)) :
    GivesTo X [a, "e"] x sg g cdg [.Try [.Return (some (.Tuple [.Constant (.str "told") j1 p1, .Call (.Name a p2) [] [] p3] k1 p4)) p5]
      [.ExceptHandler (some (.Name "CleaveError" p6)) (some "e") (suit j2 k2 q1 q2 q3 q4 q5) p7, .ExceptHandler (some (.Name "HouseError" p8)) (some "e") (suit j3 k3 r1 r2 r3 r4 r5) p9] [] [] r6] a q (TT2 X.K D1) := by
  intro f c' s H Q tl act hc h
  let Y := (cxOf C8.CX0 X.prog X.w X.K X.mg X.base [a, "e"] x sg g cdg X.A X.stack s H C8.E0).nox
  have hnd : ([a, "e"] : List Str).Nodup := by simp [ha]
  have ve : Vis Y.env.scope ("e" : Str) := .inl he
  refine ⟨_, pss_one (ps_try_all (X := Y) (Wout := fun _ _ _ _ => False)
      (tb := fun W D σ H => ∃ Ech : XK, (∀ cls d σ' H', Ech cls d H' → W cls d σ' H') ∧ σ[0]? = some (some (.ref f)) ∧ H c' = some (CodeO c' q) ∧ tl Ech H fun v H1 => ([.str "told", v] : List V).length ≤ sizeLine ∧ ∀ p, H1 p = none → D.rt (.ref p) (upd H1 p (.tup [.str "told", v])))
      rfl rfl hnd L2.takes0 (fun W pn xe tk _ => ?_) (.cons (i := 1) ⟨hD1, by decide, .inl m1⟩ rfl he (fun ad oe cls d pn hz hf => pss_no rfl ve hz hf) (.cons (i := 1) ⟨hD2, by decide, .inl m2⟩ rfl he (fun ad oe cls d pn hz hf => pss_no rfl ve hz hf) .nil))), ?_⟩
  · refine ⟨fun pins s' σ H' D I h' => ?_⟩
    obtain ⟨Ech, hW, h1, h2, h3⟩ := h'
    have hp := act W pn xe Ech p2 p3 tk hW
    have hq := pss_one (ps_ret (pos := p5) (pe_tup (pos := p4) (x1 := k1) (pa_cons (pe_str (pos := p1) (j := j1) (x := "told")) (pa_cons hp pa_nil))))
    exact hq.run pins s' σ H' D I ⟨h1, h2, h3⟩
  · refine ⟨_, fun cls d σ' H' hE => ?_, rfl, hc, h⟩
    obtain ⟨h1, C, D, fI, nv, c, dd, e1, T2, e2, e3, k⟩ := hE
    exact ⟨true, h1, fun _ ad _ hl => ⟨_, by
      rw [List.getElem?_set_self (by rw [hl]; exact (by decide : 1 < 2))], rfl, C, D, fI, nv, c, dd, e1, T2, e2, e3, (by show 2 ≤ sizeLine; rw [sizeLine_eq]; omega), k⟩, fun z => nomatch z⟩
end
end TD

set_option maxHeartbeats 2000000
/-! A lambda with one parameter that has a default and is never handed in. -/
namespace LD
open PySem PySem.Spec PyProof.Rows L2 LamX
section
variable {X : Cx} {pins : List (Addr × Obj)} {σ : L2.St} {H : Hp} {s : Shared}
/-- the end of a lambda's making, whatever its defaults -/
theorem lam_tail {T : List (Addr × Str)} {c P : Addr} {params : Arguments} {body : Expr} {scope : Scope} {pos : Pos} {dV : Value} {E : Value → Shared → Prop} {Q : Value → Shared → Prop} (I : Inv X pins σ H s) (TB : TabB X.base X.mg c P) (hcode : X.env.code = .ref c)
    (hm : (P, X.env.qual ++ "<lambda>") ∈ T) (hu : ∀ p ∈ T, p.1 = P → p.2 = X.env.qual ++ "<lambda>") (hT : Tabs T H) (hfree : ∀ y ∈ scope.names, y.2 = .free → ∃ c, X.env.cells.lookup y.1 = some c)
    (h : ∀ (f c' : Addr) (doc pm ctv : Value) (H1 : Hp) (s' : Shared), Inv X pins σ H1 s' → ExtN H H1 → Tabs T H1 →
      s'.heap.get? f = some (PySem.W.kdv_obj "<lambda>" (X.env.qual ++ "<lambda>") params (.expr body) scope (cloFrom X.env.cells scope.names []) dV doc pm c' ctv) → H1 f = none → f ∉ frs X.stack → H1 c' = some (CodeO c' (X.env.qual ++ "<lambda>")) →
      (∀ b o, H b = none → s.heap.get? b = some o → s'.heap.get? b = some o ∧ H1 b = none) → Q (.ref f) s') :
    wpAny (model X.prog X.w) X.A (makeTail "<lambda>" (X.env.qual ++ "<lambda>") params (.expr body) scope X.env dV .none none pos pos.line) Q E s := by
  obtain ⟨ps, hP, ht, ha⟩ := hT _ hm
  dsimp only at hP ha
  have bP : s.heap.BuiltinsAt X.mg P := TB.bm.keeps I.bk
  have hP' : s.heap.get? P = some { cls := .none, data := .fields ps } := I.hok P _ hP
  have nofr : ∀ f, s.heap.objs.size ≤ f → f ∉ frs X.stack := fun f hf z => (List.mem_cons.mp (I.stkSub _ z)).elim (fun e => by
    have h1 := I.lt
    exact Nat.lt_irrefl _ (Nat.lt_of_lt_of_le h1 (e ▸ hf))) (I.nofs hf)
  cases hc : codeAmong pos ps.toList with
  | none =>
    refine PySem.W.kdv_makeTail (mg := X.mg) (c := c) (P := P) (ps := ps) (closure_ok hfree) I.ok.glob (I.mod.glob.keeps I.bk) hcode (TB.code.keeps I.bk) hP' ht hc TB.gP bP (fun c' ctv doc h' tk hx hge hlt hrec htb => ?_)
    obtain ⟨c2, oc, vs, t, e2, hoc, hd, hv⟩ := hrec
    cases e2
    have hsz : s.heap.objs.size ≤ h'.objs.size := Nat.le_trans hge (Nat.le_of_lt hlt)
    have nC : H c' = none := I.hok.fresh hge
    let fo : Obj := PySem.W.kdv_obj "<lambda>" (X.env.qual ++ "<lambda>") params (.expr body) scope (cloFrom X.env.cells scope.names []) dV doc ((X.mg "__name__").getD .none) c' ctv
    have I1 := inv_table (t' := tk) (more := #[rawInt pos.line, rawInt pos.col, .ref c']) (h' := h'.push fo) I hP (fun b o hb e => Heap.get?_push_of_some _ (hx b o hb e)) (Heap.get?_push_of_some _ htb) hge ⟨oc, vs, t, Heap.get?_push_of_some _ hoc, hd, hv⟩
    have hE : ExtN H (upd (upd H P (.tbl (ps ++ #[rawInt pos.line, rawInt pos.col, .ref c']))) c' (CodeO c' (X.env.qual ++ "<lambda>"))) := fun b o e n => by
      rw [upd_ne (ne_of_none e nC), upd_ne (fun z : b = P => n ps (Option.some.inj (e.symm.trans (by rw [z]; exact hP))))]
      exact e
    have eL : (ps ++ #[rawInt pos.line, rawInt pos.col, .ref c']).toList = ps.toList ++ [rawInt pos.line, rawInt pos.col, .ref c'] := by simp
    refine h h'.objs.size c' doc ((X.mg "__name__").getD .none) ctv _ _ I1 hE (fun p hp => ?_) (Heap.get?_push_size _ rfl) ?_ (nofr _ hsz) upd_same (fun b o hb e => ?_)
    · by_cases hb : p.1 = P
      · rw [hu p hp hb, hb]
        refine ⟨_, by rw [upd_ne (ne_of_none hP nC), upd_same], by rw [eL]; exact PySem.TriplesOk_snoc _ _ _ _ ht, fun p' cv hcv => ?_⟩
        exact (among_app _ ht (eL ▸ hcv)).elim (fun z => (ha p' cv z).elim fun c0 q => ⟨c0, q.1, hE _ _ q.2 codeO_ne⟩) fun z => ⟨c', z, upd_same⟩
      · obtain ⟨ps', a1, a2, a3⟩ := hT p hp
        exact ⟨ps', by rw [upd_ne (ne_of_none a1 nC), upd_ne hb]; exact a1, a2, fun p' cv hcv => (a3 p' cv hcv).elim fun c0 q => ⟨c0, q.1, hE _ _ q.2 codeO_ne⟩⟩
    · have n1 : h'.objs.size ≠ c' := Nat.ne_of_gt hlt
      have n2 : h'.objs.size ≠ P := Nat.ne_of_gt (Nat.lt_of_lt_of_le (Heap.lt_size hP') hsz)
      rw [upd_ne n1, upd_ne n2]
      exact I.hok.fresh hsz
    · have n1 : b ≠ P := fun z => by rw [z, hP] at hb; cases hb
      have n2 : b ≠ c' := Nat.ne_of_lt (Nat.lt_of_lt_of_le (Heap.lt_size e) hge)
      exact ⟨Heap.get?_push_of_some _ (hx b o n1 e), by rw [upd_ne n2, upd_ne n1]; exact hb⟩
  | some cv =>
    obtain ⟨c', e, hco⟩ := ha pos cv hc
    subst e
    refine PySem.W.kdv_makeTailHit (mg := X.mg) (c := c) (P := P) (ps := ps) (closure_ok hfree) I.ok.glob (I.mod.glob.keeps I.bk) hcode (TB.code.keeps I.bk) hP' ht hc bP (fun ctv doc h' tk hx hsz => ?_)
    have up : ∀ b o, s.heap.get? b = some o → (h'.push (PySem.W.kdv_obj "<lambda>" (X.env.qual ++ "<lambda>") params (.expr body) scope (cloFrom X.env.cells scope.names []) dV doc ((X.mg "__name__").getD .none) c' ctv)).get? b = some o := fun b o e => Heap.get?_push_of_some _ (hx b o e)
    exact h h'.objs.size c' doc ((X.mg "__name__").getD .none) ctv H _ (I.kept (t' := tk) up) (ExtN.refl H) hT (Heap.get?_push_size _ rfl) (I.hok.fresh hsz) (nofr _ hsz) hco fun b o hb e => ⟨up b o e, hb⟩
/-- lambda pn=n: body, made -/
theorem lam_makeD {T : List (Addr × Str)} {c P : Addr} {params : Arguments} {body : Expr} {scope : Scope} {pos : Pos} {n : Int} {j : Nat} {pd : Pos} {E : Value → Shared → Prop} {Q : Value → Shared → Prop} (I : Inv X pins σ H s) (TB : TabB X.base X.mg c P) (hcode : X.env.code = .ref c)
    (hm : (P, X.env.qual ++ "<lambda>") ∈ T) (hu : ∀ p ∈ T, p.1 = P → p.2 = X.env.qual ++ "<lambda>") (hT : Tabs T H) (hd : params.defaults = [.Constant (.int n) j pd]) (hk0 : params.kw_defaults = []) (hfree : ∀ y ∈ scope.names, y.2 = .free → ∃ c, X.env.cells.lookup y.1 = some c)
    (h : ∀ (f c' dt : Addr) (v doc pm ctv : Value) (H1 : Hp) (s' : Shared), Inv X pins σ H1 s' → ExtN H H1 → Tabs T H1 →
      s'.heap.get? f = some (PySem.W.kdv_obj "<lambda>" (X.env.qual ++ "<lambda>") params (.expr body) scope (cloFrom X.env.cells scope.names []) (.ref dt) doc pm c' ctv) → H1 f = none → f ∉ frs X.stack → H1 c' = some (CodeO c' (X.env.qual ++ "<lambda>")) →
      s'.heap.get? dt = some (PySem.W.kdv_tup [v]) → H1 dt = none → dt ∉ frs X.stack → Q (.ref f) s') :
    wpAny (model X.prog X.w) X.A (eval (.Lambda params body scope pos) X.env) Q E s := by
  refine PySem.W.kdv_lam (by rw [hd]; rfl) hk0 ?_
  rw [hd]
  refine PySem.W.kdv_all1 (thn ((pe_int (X := X) (pos := pd) (j := j)).run pins s σ H (fun x H1 => x = .int n ∧ H1 = H) I ⟨rfl, rfl⟩) fun v s1 hh => ?_)
  obtain ⟨x, H1, I1, rv, ex, eH⟩ := hh
  subst ex eH
  refine PySem.W.kdv_all0 ?_
  rw [makeFunction_eq]
  simp only [List.zip_nil_right, List.filterMap_nil, List.isEmpty_nil, if_true, pure_bind, List.isEmpty_cons, Bool.false_eq_true, if_false]
  refine wpAny_bind (wpAny_newTextTuple ?_)
  have up : ∀ b o, s1.heap.get? b = some o → (s1.heap.push (PySem.W.kdv_tup [v])).get? b = some o := fun b o e => Heap.get?_push_of_some _ e
  have nt : H1 s1.heap.objs.size = none := I1.hok.fresh (Nat.le_refl _)
  have nf : s1.heap.objs.size ∉ frs X.stack := fun z => (List.mem_cons.mp (I1.stkSub _ z)).elim (fun e => by
    have h1 := I1.lt
    exact Nat.lt_irrefl _ (e ▸ h1)) (I1.nofs (Nat.le_refl _))
  have I2 : Inv X pins σ H1 { s1 with heap := s1.heap.push (PySem.W.kdv_tup [v]) } := I1.kept (t' := s1.toks) up
  refine lam_tail I2 TB hcode hm hu hT hfree (fun f c' doc pm ctv H2 s' I3 eN T2 hf hfn hfr hco k => ?_)
  obtain ⟨k1, k2⟩ := k _ _ nt (Heap.get?_push_size _ rfl)
  exact h f c' _ v doc pm ctv H2 s' I3 eN T2 hf hfn hfr hco k1 k2 nf
end
end LD

set_option maxHeartbeats 2000000
namespace LD
open PySem PySem.Spec PyProof.Rows L2 LamX
/-- the lambda's names: its parameter pn, captured ones, globals -/
structure LamD (sc scope : Scope) (pn : Str) : Prop where
  kind : scope.kind = .function
  co : scope.isCoroutine = false
  gen : scope.isGenerator = false
  own : ∀ y ∈ scope.names, y.2 ≠ .cell ∧ (y.2 = .local → y.1 = pn) ∧ y.1 ≠ ""
  par : scope.names.lookup pn = some .local
  free : ∀ y ∈ scope.names, y.2 = .free → y.1 ≠ pn ∧ (sc.names.lookup y.1 = some .cell ∨ sc.names.lookup y.1 = some .free)
def lamDB (sc scope : Scope) (pn : Str) : Bool :=
  decide (scope.kind = .function) && !scope.isCoroutine && !scope.isGenerator && (scope.names.all fun y => !decide (y.2 = .cell) && (!decide (y.2 = .local) || decide (y.1 = pn)) && !decide (y.1 = "")) && decide (scope.names.lookup pn = some .local) &&
    (scope.names.all fun y => !decide (y.2 = .free) || (!decide (y.1 = pn) && (decide (sc.names.lookup y.1 = some .cell) || decide (sc.names.lookup y.1 = some .free))))
theorem lamD_by {sc scope : Scope} {pn : Str} (h : lamDB sc scope pn = true) : LamD sc scope pn := by
  unfold lamDB at h
  simp only [Bool.and_eq_true, Bool.or_eq_true, Bool.not_eq_true', decide_eq_true_eq, decide_eq_false_iff_not, List.all_eq_true] at h
  obtain ⟨⟨⟨⟨⟨h1, h2⟩, h3⟩, h4⟩, h5⟩, h6⟩ := h
  refine ⟨h1, h2, h3, fun y hy => ?_, h5, fun y hy e => ?_⟩
  · obtain ⟨⟨a, b⟩, c⟩ := h4 y hy
    exact ⟨a, fun e => b.elim (fun z => absurd e z) id, c⟩
  · exact (h6 y hy).elim (fun z => absurd e z) id
theorem LamD.has {X : Cx} {scope : Scope} {pn : Str} (L : LamD X.env.scope scope pn) (ok : X.Ok) : ∀ y ∈ scope.names, y.2 = .free → ∃ c, X.env.cells.lookup y.1 = some c := fun y hy e =>
  (L.free y hy e).2.elim (fun k => ok.has _ (.inl k)) fun k => ok.has _ (.inr k)
/-- the maker's slot of the parameter's name is not the lambda's -/
def hid (pn y : Str) : Str := if y = pn then "" else y
def lamCxD (X : Cx) (A : Around) (outer : List Env) (s : Shared) (H : Hp) (E : XK) (scope : Scope) (f c' : Addr) (pn : Str) : Cx := { lamCx X A outer s H E scope f c' with N := X.N.map (hid pn) }
section
variable {X : Cx} {pins : List (Addr × Obj)} {σ : L2.St} {H HZ : Hp} {s s1 : Shared}
theorem lam_startD {A : Around} {outer : List Env} {E : XK} {scope : Scope} {f c' : Addr} {pn : Str} {v : Value} {h₁ : Heap} {tk : Nat} (I : Inv X pins σ H s) (L : LamD X.env.scope scope pn) (e0 : Env0 X.prog X.w X.K X.mg X.base A outer s1 HZ) (hd : A.handled = none)
    (un : Un (frs X.stack) [] H HZ s.heap s1.heap) (hns : h₁.Ns s1.heap.objs.size fun y => ([(pn, v)] : List (Str × Value)).reverse.lookup y) (kp : ∀ b o, s1.heap.get? b = some o → h₁.get? b = some o) :
    Inv (lamCxD X A outer s1 HZ E scope f c' pn) [] σ HZ { s1 with heap := h₁, toks := tk } := by
  have hfree := L.has I.ok
  have cm : ∀ {y c}, (cloFrom X.env.cells scope.names []).lookup y = some c → X.env.cells.lookup y = some c := fun {y c} e => by
    rcases cloFrom_mem (PySem.mem_of_lookup e) with hm | ⟨h1, h2⟩
    · cases hm
    · obtain ⟨c1, hc⟩ := hfree _ h1 rfl
      have hc : X.env.cells.lookup y = some c1 := hc
      have e2 : c = c1 := by
        rw [h2, hc] <;> rfl
      exact e2 ▸ hc
  have look : ∀ {y}, scope.names.lookup y = some .free → ∃ c, (cloFrom X.env.cells scope.names []).lookup y = some c := fun {y} hl =>
    mem_lookup (cloFrom_has (cells := X.env.cells) (acc := []) (show (y, NameKind.free) ∈ scope.names from PySem.mem_of_lookup hl))
  have cellK : ∀ {c : Addr} {v : Option Value}, H c = none → s.heap.IsCell c v → h₁.IsCell c v := fun {c v} n ⟨o, ho, hd⟩ =>
    (un.any ho n (by simp)).elim fun sl q => ⟨_, kp _ _ q, hd⟩
  have noA : ∀ b : Addr, b ∉ (lamCxD X A outer s1 HZ E scope f c' pn).ex := fun b z => absurd (show b ∈ ([] : List Addr) from z) (by simp)
  refine ⟨⟨e0.mod, L.kind, rfl, rfl, Nat.le_refl _, fun y z c e1 e2 => I.ok.inj y z c (cm e1) (cm e2), fun y hy => ?_, fun y c z _ => ?_, fun _ => hd, Around.frames_deeper e0.frames, .inr ⟨rfl, rfl⟩, fun b z => absurd z (noA b), e0.bs, e0.bsz, fun b _ _ => noA b,
      fun b z => absurd z (noA b), e0.funs, e0.frf⟩,
    rfl, e0.bare, Un.kept kp, ⟨_, hns, fun i y v e1 e2 e3 => ?_⟩, fun y c e => ?_, e0.hok.fresh (Nat.le_refl _), fun y c e => ?_, fun q hq => absurd (show q ∈ ([] : List (Addr × Obj)) ++ [] from hq) (by simp), e0.hok.kept kp, ?_⟩
  · have hy : scope.names.lookup y = some .cell ∨ scope.names.lookup y = some .free := hy
    exact hy.elim (fun hy => absurd rfl (L.own _ (PySem.mem_of_lookup hy)).1) look
  · have z : false = true := z
    cases z
  · have e3 : Vis scope y := e3
    have e1 : (X.N.map (hid pn))[i]? = some y := e1
    have nz : y ≠ "" := fun z => e3.elim (fun k => (L.own _ (PySem.mem_of_lookup k)).2.2 z) fun k => k.elim (fun k => (L.own _ (PySem.mem_of_lookup k)).2.2 z) fun k => (L.own _ (PySem.mem_of_lookup k)).2.2 z
    rw [List.getElem?_map] at e1
    cases q : X.N[i]? with
    | none => rw [q] at e1; cases e1
    | some y0 =>
      rw [q] at e1
      have e1 : hid pn y0 = y := Option.some.inj e1
      have np : y0 ≠ pn := fun z => nz (by rw [← e1]; exact if_pos z)
      obtain rfl : y0 = y := (if_neg np).symm.trans e1
      rcases e3 with k | k | k
      · exact absurd ((L.own _ (PySem.mem_of_lookup k)).2.1 rfl) np
      · exact absurd rfl (L.own _ (PySem.mem_of_lookup k)).1
      · obtain ⟨m, hn, hl⟩ := I.loc
        have kf := (L.free _ (PySem.mem_of_lookup k) rfl).2
        obtain ⟨w', r, q'⟩ := hl i y0 v q e2 (kf.elim (fun k => .inr (.inl k)) (fun k => .inr (.inr k)))
        obtain ⟨c2, h2⟩ := look k
        refine ⟨w', r, .inr ⟨.inr k, c2, h2, ?_⟩⟩
        have c1 := cm h2
        rcases q' with ⟨k', _⟩ | ⟨_, c3, e', z⟩
        · have k' : X.env.scope.names.lookup y0 = some .local := k'
          rcases kf with k2 | k2 <;> rw [show X.env.scope.names.lookup y0 = _ from k2] at k' <;> cases k'
        · rw [c1] at e'
          cases e'
          exact cellK (I.freeC y0 _ c1) z
  · obtain ⟨w', z⟩ := I.cell y c (cm e)
    exact ⟨w', cellK (I.freeC y c (cm e)) z⟩
  · obtain ⟨v, o, ho, hd⟩ := I.cell y c (cm e)
    exact un.free c o ho (I.freeC y c (cm e)) (by simp)
  · show σ.length = (X.N.map (hid pn)).length
    rw [List.length_map]
    exact I.len
end
end LD

set_option maxHeartbeats 2000000
namespace LD
open PySem PySem.Spec PyProof.Rows L2 LamX
section
variable {X : Cx} {pins : List (Addr × Obj)} {σ : L2.St} {H HZ : Hp} {s s1 : Shared}
/-- x(), in the def that got the lambda -/
theorem pe_actD {CXg : CXT} {Eg : XK} {Ng : List Str} {qg : Str} {sg : Scope} {g f c' dt : Addr} {cdg doc pm ctv v0 : Value} {params : Arguments} {body : Expr} {scope : Scope} {pn : Str} {k i : Nat} {a : Str} {pn' : List (Addr × Obj)} {xe : Value → Shared → Prop} {W : WX} {E : XK} {tb : TE} {p1 p2 : Pos}
    (I : Inv X pins σ H s) (L : LamD X.env.scope scope pn) (hf : s.heap.get? f = some (PySem.W.kdv_obj "<lambda>" (X.env.qual ++ "<lambda>") params (.expr body) scope (cloFrom X.env.cells scope.names []) (.ref dt) doc pm c' ctv)) (hfn : H f = none) (hfr : f ∉ frs X.stack)
    (ht : s.heap.get? dt = some (PySem.W.kdv_tup [v0])) (htn : H dt = none) (htr : dt ∉ frs X.stack)
    (hbind : ∃ kk : Option (Array Value) → Sem (List (Str × Value)), bindArgs (PySem.W.kdv_fn "<lambda>" (X.env.qual ++ "<lambda>") params (.expr body) scope (cloFrom X.env.cells scope.names []) (.ref dt) doc pm (.ref c') ctv) ⟨[], []⟩ = seqItems? (.ref dt) >>= kk ∧ kk (some [v0].toArray) = pure [(pn, v0)])
    (tk : Takes ((cxOf CXg X.prog X.w X.K X.mg X.base Ng qg sg g cdg X.A X.stack s H Eg).tr pn' xe) W) (hW : ∀ cls d σ' H', E cls d H' → W cls d σ' H') (hr : Room (k + 1) (X.A.deeper (envOfC qg sg s.heap.objs.size g cdg)))
    (hbody : ∀ (A : Around) (outer : List Env) (s : Shared) (H : Hp), Room k (A.deeper (lamEnv X scope s.heap.objs.size f c')) → PE (lamCxD X A outer s H E scope f c' pn) body tb)
    (hN : Ng[i]? = some a) (hv : Vis sg a) (hd : (a == ("__debug__" : Str)) = false := by decide) (hcd : (a == ("__classdict__" : Str)) = false := by decide) :
    PE ((cxOf CXg X.prog X.w X.K X.mg X.base Ng qg sg g cdg X.A X.stack s H Eg).tr pn' xe) (.Call (.Name a p1) [] [] p2)
      (fun σZ HZ Q => σZ[i]? = some (some (.ref f)) ∧ HZ c' = some (CodeO c' (X.env.qual ++ "<lambda>")) ∧ tb σ HZ Q) := by
  refine ⟨fun pinsZ sZ σZ HZ Q IZ h => ?_⟩
  obtain ⟨hs, hc, hq⟩ := h
  refine wpAny_Call_Name_kw (thn ((pe_var (pos := p1) (i := i) hN hv hd hcd).run pinsZ sZ σZ HZ (fun v H1 => v = .ref f ∧ H1 = HZ) IZ ⟨.ref f, hs, rfl, rfl⟩) fun u s1 ⟨v, H1, I1, r1, ev, eH⟩ => ?_)
  subst ev
  rw [eH] at I1
  obtain rfl : u = Value.ref f := r1
  have of1 := I1.base.keep f _ hf hfn hfr (fun z => nomatch (show f ∈ ([] : List Addr) from z))
  have ot1 := I1.base.keep dt _ ht htn htr (fun z => nomatch (show dt ∈ ([] : List Addr) from z))
  refine PySem.W.callWith_F0 ⟨_, _, _, _, of1⟩ ?_
  have un : Un (frs X.stack) [] H HZ s.heap s1.heap := I1.base
  obtain ⟨⟨oc, vs, t, hoc, hdc, hvc⟩, _, _⟩ := I1.hok c' _ hc
  obtain ⟨kk, hb1, hb2⟩ := hbind
  have rc : codeAny (model X.prog X.w) (X.A.deeper (envOfC qg sg s.heap.objs.size g cdg)) (.call (.ref f) ⟨[], []⟩) (CR (L2.CX X.prog X.w) (envOfC qg sg s.heap.objs.size g cdg :: X.stack) X.prog X.w HZ s1 Q E) s1 := by
    refine PySem.W.kla_callFunE hr.depth of1 rfl L.co L.gen rfl ⟨c', oc, vs, t, rfl, hoc, hdc, hvc⟩ ?_
    refine (BindsTo.of_defaults (s := s1) (binds := [(pn, v0)]) rfl ot1 rfl hb1 hb2) _ _ _ _ ?_
    refine wpAny_newFunctionEnv (fun y hy => (L.own y hy).1) (fun y hy => by rw [List.mem_singleton.mp hy]; exact L.par) (fun h₁ hns hsb => ⟨I1.nolimit.fresh _ hsb, ?_⟩) L.kind
    show codeAny _ _ (.expr body (lamEnv X scope s1.heap.objs.size f c')) _ _
    have kp : ∀ b o, s1.heap.get? b = some o → h₁.get? b = some o := fun b o e => hsb.extBut b o (Nat.ne_of_lt (Heap.lt_size e)) (Heap.get?_push_of_some _ e)
    have J := lam_startD (E := E) (f := f) (c' := c') (tk := s1.toks + ([(pn, v0)] : List (Str × Value)).length) I L I1.env0 hr.hd un hns kp
    refine PySem.W.kla_codeExpr (wpAny_mono ((hbody _ _ s1 HZ (hr.deeper _)).run [] _ _ HZ Q J hq) (fun v s' hh => ?_) fun e s' hh => hh)
    obtain ⟨w', H', J', rv, z⟩ := hh
    exact ⟨w', H', J'.os, J'.bare, J'.base, J'.hok, rv, z⟩
  have hx : Passes (L2.CX X.prog X.w) ((cxOf CXg X.prog X.w X.K X.mg X.base Ng qg sg g cdg X.A X.stack s H Eg).tr pn' xe) E := passes_call tk hW
  refine wpAny_call (codeAny_mono rc fun r s' hh => ?_)
  cases r with
  | error e => exact hx pinsZ σZ HZ s1 e s' I1 hh
  | ok fl =>
    cases fl with
    | ret u => exact I1.after hh
    | next => exact False.elim hh
    | brk => exact False.elim hh
    | cont => exact False.elim hh
/-- x(lambda pn=n: body) -/
theorem pe_lamcallD {T : List (Addr × Str)} {TT : (XK → Hp → VK → Prop) → Hp → VK → Prop} {x a : Str} {g c P : Addr} {k : Nat} {pg : Arguments} {bg : List Stmt} {sg : Scope} {dV kV doc pm cdv ct oc : Value} {an od : Option Addr} {osl : Array (Option Value)} {Ng : List Str}
    {params : Arguments} {body : Expr} {scope : Scope} {pn : Str} {n : Int} {j : Nat} {pd : Pos} {t : XK → TE} {p lpos pos : Pos} (hg : Gl X x) (hm : X.mg x = some (.ref g)) (hk : PySem.W.keepIn X.K (.ref g) = true)
    (lk : X.K.lookup g = some ⟨oc, od, .func (PySem.W.fnOf x x pg bg sg dV kV doc pm an cdv ct), osl⟩) (hcg : PySem.W.codeIn X.K cdv x = true) (hb : L2.Binds X.K (PySem.W.fnOf x x pg bg sg dV kV doc pm an cdv ct) [a] []) (Sg : FnScope Ng [a] sg) (hNg : Ng[0]? = some a) (hva : Vis sg a)
    (hG : GivesTo X Ng x sg g cdv bg a (X.env.qual ++ "<lambda>") TT)
    (TB : TabB X.base X.mg c P) (hcode : X.env.code = .ref c) (hmT : (P, X.env.qual ++ "<lambda>") ∈ T) (hu : ∀ p ∈ T, p.1 = P → p.2 = X.env.qual ++ "<lambda>") (hr : Room (k + 2) X.A) (L : LamD X.env.scope scope pn) (hd0 : params.defaults = [.Constant (.int n) j pd]) (hk0 : params.kw_defaults = [])
    (hbind : ∀ (q : Str) (cl : List (Str × Addr)) (dt : Addr) (doc pm cv ctv : Value), ∃ kk : Option (Array Value) → Sem (List (Str × Value)), bindArgs (PySem.W.kdv_fn "<lambda>" q params (.expr body) scope cl (.ref dt) doc pm cv ctv) ⟨[], []⟩ = seqItems? (.ref dt) >>= kk ∧ ∀ v0, kk (some [v0].toArray) = pure [(pn, v0)])
    (hbody : ∀ (A : Around) (outer : List Env) (s : Shared) (H : Hp) (E : XK) (f c' : Addr), Room k (A.deeper (lamEnv X scope s.heap.objs.size f c')) → PE (lamCxD X A outer s H E scope f c' pn) body (t E))
    (hdb : (x == ("__debug__" : Str)) = false := by decide) (hd : (a == ("__debug__" : Str)) = false := by decide) (hcd : (a == ("__classdict__" : Str)) = false := by decide) :
    PE X (.Call (.Name x p) [.Lambda params body scope lpos] [] pos) (tLam T TT t) := by
  refine ⟨fun pins s σ H Q I h => ?_⟩
  obtain ⟨hT, h⟩ := h
  refine wpAny_Call_Name_kw (ld_glob I hg hm (PySem.W.callWith_K (h₀ := X.base) I.ok.mod.kin hk ?_ (by rfl) (by rfl)) hdb)
  show wpAny _ _ (spliced ((false, eval (.Lambda params body scope lpos) X.env) :: backTo pos (starEach [] X.env))) _ _ s
  refine Calls.spliced_cons (lam_makeD I TB hcode hmT hu hT hd0 hk0 (L.has I.ok) fun f c' dt v0 doc pm' ctv H1 s' I1 eN T1 hf hfn hfr hco ht htn htr => Calls.spliced_nil ⟨I1.kIn, ?_⟩)
  have rc : codeAny (model X.prog X.w) X.A (.call (.ref g) ⟨[.ref f], []⟩) (CR C8.CX0 X.stack X.prog X.w H1 s' Q C8.E0) s' := by
    refine run_ofS (N := Ng) (ps := [a]) (us := [.ref f]) (vs := [.ref f]) lk hcg Sg hr I1.env0 (hb s' [.ref f] I1.kIn rfl) (.cons rfl .nil) rfl fun hr' => ?_
    obtain ⟨t', ht', hq'⟩ := hG f c' s' H1 Q (fun E H' Q' => t E σ H' Q') (fun W pn' xe E p1 p2 tk hW => pe_actD (i := 0) I1 L hf hfn hfr ht htn htr ((hbind _ _ _ _ _ _ _).elim fun kk q => ⟨kk, q.1, q.2 v0⟩) tk hW hr' (fun A outer s H hr2 => hbody A outer s H E f c' hr2) hNg hva hd hcd) hco (h H1 eN T1)
    exact ⟨t', ht'.nox, hq'⟩
  refine wpAny_call (codeAny_mono rc fun r s2 hq => ?_)
  cases r with
  | error e => exact (show False from hq).elim
  | ok fl =>
    cases fl with
    | ret u => exact I1.after hq
    | next => exact False.elim hq
    | brk => exact False.elim hq
    | cont => exact False.elim hq
end
end LD

set_option maxHeartbeats 2000000
/-! Lambdas as values: made, kept in lists and names, called later by a def that gets them. -/
namespace LV
open PySem PySem.Spec PyProof.Rows L2 LamX LD
/-- an object that stays as it is -/
abbrev FzO (o : Obj) : HO := .frz o (.ext fun _ => True)
theorem fz_ok {P : Program} {w : World} {H : Hp} {h : Heap} {a : Addr} {o : Obj} (e : h.get? a = some o) : ObjOk P w H h a (FzO o) := ⟨e, trivial, ⟨_, e⟩, fun _ _ _ _ => trivial⟩
theorem fz_ne {o : Obj} (ps : Array Value) : FzO o ≠ .tbl ps := fun z => by cases z
/-- the lambda's object -/
abbrev lamO (X : Cx) (params : Arguments) (body : Expr) (scope : Scope) (dV doc pm : Value) (c' : Addr) (ctv : Value) : Obj :=
  PySem.W.kdv_obj "<lambda>" (X.env.qual ++ "<lambda>") params (.expr body) scope (cloFrom X.env.cells scope.names []) dV doc pm c' ctv
abbrev lamF (X : Cx) (params : Arguments) (body : Expr) (scope : Scope) (dV doc pm : Value) (c' : Addr) (ctv : Value) : FuncData :=
  PySem.W.kdv_fn "<lambda>" (X.env.qual ++ "<lambda>") params (.expr body) scope (cloFrom X.env.cells scope.names []) dV doc pm (.ref c') ctv
/-- a lambda of X's at f that, called, does what tl reads -/
inductive LamAt (X : Cx) (k : Nat) (H : Hp) (f : Addr) (tl : XK → TE) : Prop where
  | bare {c' : Addr} {params : Arguments} {body : Expr} {scope : Scope} {doc pm ctv : Value} (hf : H f = some (FzO (lamO X params body scope .none doc pm c' ctv))) (hc : H c' = some (CodeO c' (X.env.qual ++ "<lambda>"))) (L : LamS X.env.scope scope)
      (hb : bindArgs (lamF X params body scope .none doc pm c' ctv) ⟨[], []⟩ = pure [])
      (run : ∀ (A : Around) (outer : List Env) (s : Shared) (H : Hp) (E : XK), Room k (A.deeper (lamEnv X scope s.heap.objs.size f c')) → PE (lamCx X A outer s H E scope f c') body (tl E)) : LamAt X k H f tl
  | dflt {c' dt : Addr} {v0 : Value} {pn : Str} {params : Arguments} {body : Expr} {scope : Scope} {doc pm ctv : Value} (hf : H f = some (FzO (lamO X params body scope (.ref dt) doc pm c' ctv))) (hc : H c' = some (CodeO c' (X.env.qual ++ "<lambda>"))) (L : LamD X.env.scope scope pn)
      (ht : H dt = some (FzO (PySem.W.kdv_tup [v0])))
      (hb : ∃ kk : Option (Array Value) → Sem (List (Str × Value)), bindArgs (lamF X params body scope (.ref dt) doc pm c' ctv) ⟨[], []⟩ = seqItems? (.ref dt) >>= kk ∧ kk (some [v0].toArray) = pure [(pn, v0)])
      (run : ∀ (A : Around) (outer : List Env) (s : Shared) (H : Hp) (E : XK), Room k (A.deeper (lamEnv X scope s.heap.objs.size f c')) → PE (lamCxD X A outer s H E scope f c' pn) body (tl E)) : LamAt X k H f tl
theorem LamAt.ext {X : Cx} {k : Nat} {H H' : Hp} {f : Addr} {tl : XK → TE} (h : LamAt X k H f tl) (e : ExtN H H') : LamAt X k H' f tl := by
  cases h with
  | bare hf hc L hb run => exact .bare (e _ _ hf fz_ne) (e _ _ hc codeO_ne) L hb run
  | dflt hf hc L ht hb run => exact .dflt (e _ _ hf fz_ne) (e _ _ hc codeO_ne) L (e _ _ ht fz_ne) hb run
theorem LamAt.same {X : Cx} {k : Nat} {H H' : Hp} {f : Addr} {tl : XK → TE} (h : LamAt X k H f tl) (e : Same H H') : LamAt X k H' f tl := h.ext (.of e)
section
variable {X : Cx} {pins : List (Addr × Obj)} {σ : L2.St} {H : Hp} {s : Shared}
/-- the end of a lambda's making: its object is known from now on -/
theorem lam_put {T : List (Addr × Str)} {c P : Addr} {params : Arguments} {body : Expr} {scope : Scope} {pos : Pos} {dV : Value} {E : Value → Shared → Prop} {Q : Value → Shared → Prop} (I : Inv X pins σ H s) (TB : TabB X.base X.mg c P) (hcode : X.env.code = .ref c)
    (hm : (P, X.env.qual ++ "<lambda>") ∈ T) (hu : ∀ p ∈ T, p.1 = P → p.2 = X.env.qual ++ "<lambda>") (hT : Tabs T H) (hfree : ∀ y ∈ scope.names, y.2 = .free → ∃ c, X.env.cells.lookup y.1 = some c)
    (h : ∀ (f c' : Addr) (doc pm ctv : Value) (H1 : Hp) (s' : Shared), Inv X pins σ H1 s' → ExtN H H1 → Tabs T H1 → H1 f = some (FzO (lamO X params body scope dV doc pm c' ctv)) → H f = none → H1 c' = some (CodeO c' (X.env.qual ++ "<lambda>")) → Q (.ref f) s') :
    wpAny (model X.prog X.w) X.A (makeTail "<lambda>" (X.env.qual ++ "<lambda>") params (.expr body) scope X.env dV .none none pos pos.line) Q E s := by
  obtain ⟨ps, hP, ht, ha⟩ := hT _ hm
  dsimp only at hP ha
  have bP : s.heap.BuiltinsAt X.mg P := TB.bm.keeps I.bk
  have hP' : s.heap.get? P = some { cls := .none, data := .fields ps } := I.hok P _ hP
  -- the object, put behind all that is there
  have put : ∀ {H1 : Hp} {h' : Heap} {tk tk2 : Nat} {c' : Addr} {doc ctv : Value}, Inv X pins σ H1 { s with heap := h', toks := tk } → ExtN H H1 → Tabs T H1 → H1 c' = some (CodeO c' (X.env.qual ++ "<lambda>")) → s.heap.objs.size ≤ h'.objs.size →
      Q (.ref h'.objs.size) { s with heap := h'.push (lamO X params body scope dV doc ((X.mg "__name__").getD .none) c' ctv), toks := tk2 } := fun {H1 h' tk tk2 c' doc ctv} I1 e1 T1 hc hz => by
    have nf : H1 h'.objs.size = none := I1.hok.fresh (Nat.le_refl _)
    have gf := Heap.get?_push_size h' (o := lamO X params body scope dV doc ((X.mg "__name__").getD .none) c' ctv) rfl
    have I2 := I1.laid (t' := tk2) (a := h'.objs.size) (o := FzO (lamO X params body scope dV doc ((X.mg "__name__").getD .none) c' ctv)) (fun b u e => Heap.get?_push_of_some _ e) (Nat.le_refl _) (fz_ok gf)
    have up : ∀ b o, H1 b = some o → (upd H1 h'.objs.size (FzO (lamO X params body scope dV doc ((X.mg "__name__").getD .none) c' ctv))) b = some o := fun b o e => by
      rw [upd_ne (ne_of_none e nf)]
      exact e
    exact h _ c' doc _ ctv _ _ I2 (e1.trans (.of up)) (T1.ext up) upd_same (I.hok.fresh hz) (up _ _ hc)
  cases hc : codeAmong pos ps.toList with
  | none =>
    refine PySem.W.kdv_makeTail (mg := X.mg) (c := c) (P := P) (ps := ps) (closure_ok hfree) I.ok.glob (I.mod.glob.keeps I.bk) hcode (TB.code.keeps I.bk) hP' ht hc TB.gP bP (fun c' ctv doc h' tk hx hge hlt hrec htb => ?_)
    obtain ⟨c2, oc, vs, t, e2, hoc, hd, hv⟩ := hrec
    cases e2
    have nC : H c' = none := I.hok.fresh hge
    have I1 := inv_table (t' := s.toks) (more := #[rawInt pos.line, rawInt pos.col, .ref c']) (h' := h') I hP (fun b o hb e => hx b o hb e) htb hge ⟨oc, vs, t, hoc, hd, hv⟩
    have hE : ExtN H (upd (upd H P (.tbl (ps ++ #[rawInt pos.line, rawInt pos.col, .ref c']))) c' (CodeO c' (X.env.qual ++ "<lambda>"))) := fun b o e n => by
      rw [upd_ne (ne_of_none e nC), upd_ne (fun z : b = P => n ps (Option.some.inj (e.symm.trans (by rw [z]; exact hP))))]
      exact e
    refine put I1 hE (fun p hp => ?_) upd_same (Nat.le_trans hge (Nat.le_of_lt hlt))
    by_cases hb : p.1 = P
    · have eL : (ps ++ #[rawInt pos.line, rawInt pos.col, .ref c']).toList = ps.toList ++ [rawInt pos.line, rawInt pos.col, .ref c'] := by simp
      rw [hu p hp hb, hb]
      refine ⟨_, (upd_ne (ne_of_none hP nC)).trans upd_same, eL ▸ PySem.TriplesOk_snoc _ _ _ _ ht, fun p' cv hcv => ?_⟩
      exact (among_app _ ht (eL ▸ hcv)).elim (fun z => (ha p' cv z).imp fun c0 q => ⟨q.1, hE _ _ q.2 codeO_ne⟩) fun z => ⟨c', z, upd_same⟩
    · obtain ⟨ps', a1, a2, a3⟩ := hT p hp
      exact ⟨ps', ((upd_ne (ne_of_none a1 nC)).trans (upd_ne hb)).trans a1, a2, fun p' cv hcv => (a3 p' cv hcv).imp fun c0 q => ⟨q.1, hE _ _ q.2 codeO_ne⟩⟩
  | some cv =>
    obtain ⟨c', e, hco⟩ := ha pos cv hc
    subst e
    refine PySem.W.kdv_makeTailHit (mg := X.mg) (c := c) (P := P) (ps := ps) (closure_ok hfree) I.ok.glob (I.mod.glob.keeps I.bk) hcode (TB.code.keeps I.bk) hP' ht hc bP (fun ctv doc h' tk hx hsz => ?_)
    exact put (I.kept (h' := h') (t' := s.toks) hx) (ExtN.refl H) hT hco hsz
/-- what a lambda's making asks, and tells -/
def tLamV (X : Cx) (T : List (Addr × Str)) (k : Nat) (tl : XK → TE) : TE := fun _ H Q => Tabs T H ∧ ∀ (f : Addr) (H1 : Hp), ExtN H H1 → Tabs T H1 → H f = none → LamAt X k H1 f tl → Q (.ref f) H1
/-- lambda: body -/
theorem pe_lamV {T : List (Addr × Str)} {c P : Addr} {k : Nat} {tl : XK → TE} {params : Arguments} {body : Expr} {scope : Scope} {pos : Pos} (TB : TabB X.base X.mg c P) (hcode : X.env.code = .ref c)
    (hm : (P, X.env.qual ++ "<lambda>") ∈ T) (hu : ∀ p ∈ T, p.1 = P → p.2 = X.env.qual ++ "<lambda>") (L : LamS X.env.scope scope) (hd : defaultsOf params X.env = ([], []))
    (hb : ∀ (doc pm : Value) (c' : Addr) (ctv : Value), bindArgs (lamF X params body scope .none doc pm c' ctv) ⟨[], []⟩ = pure [])
    (run : ∀ (A : Around) (outer : List Env) (s : Shared) (H : Hp) (E : XK) (f c' : Addr), Room k (A.deeper (lamEnv X scope s.heap.objs.size f c')) → PE (lamCx X A outer s H E scope f c') body (tl E)) :
    PE X (.Lambda params body scope pos) (tLamV X T k tl) := by
  refine ⟨fun pins s σ H Q I h => ?_⟩
  obtain ⟨hT, h⟩ := h
  refine PySem.W.kla_eval hd ?_
  rw [makeFunction_eq]
  simp only [List.zip_nil_right, List.filterMap_nil, List.isEmpty_nil, if_true, pure_bind]
  exact lam_put I TB hcode hm hu hT (L.has I.ok) fun f c' doc pm ctv H1 s' I1 eN T1 hf nf hc => ⟨.ref f, H1, I1, rfl, h f H1 eN T1 nf (.bare hf hc L (hb _ _ _ _) fun A outer s H E hr => run A outer s H E f c' hr)⟩
/-- lambda pn=n: body -/
theorem pe_lamDV {T : List (Addr × Str)} {c P : Addr} {k : Nat} {tl : XK → TE} {params : Arguments} {body : Expr} {scope : Scope} {pos pd : Pos} {pn : Str} {n : Int} {j : Nat} (TB : TabB X.base X.mg c P) (hcode : X.env.code = .ref c)
    (hm : (P, X.env.qual ++ "<lambda>") ∈ T) (hu : ∀ p ∈ T, p.1 = P → p.2 = X.env.qual ++ "<lambda>") (L : LamD X.env.scope scope pn) (hd : params.defaults = [.Constant (.int n) j pd]) (hk0 : params.kw_defaults = [])
    (hb : ∀ (dt : Addr) (doc pm : Value) (c' : Addr) (ctv : Value), ∃ kk : Option (Array Value) → Sem (List (Str × Value)), bindArgs (lamF X params body scope (.ref dt) doc pm c' ctv) ⟨[], []⟩ = seqItems? (.ref dt) >>= kk ∧ ∀ v0, kk (some [v0].toArray) = pure [(pn, v0)])
    (run : ∀ (A : Around) (outer : List Env) (s : Shared) (H : Hp) (E : XK) (f c' : Addr), Room k (A.deeper (lamEnv X scope s.heap.objs.size f c')) → PE (lamCxD X A outer s H E scope f c' pn) body (tl E)) :
    PE X (.Lambda params body scope pos) (tLamV X T k tl) := by
  refine ⟨fun pins s σ H Q I h => ?_⟩
  obtain ⟨hT, h⟩ := h
  refine PySem.W.kdv_lam (by rw [hd]; rfl) hk0 ?_
  rw [hd]
  refine PySem.W.kdv_all1 (thn ((pe_int (X := X) (pos := pd) (j := j)).run pins s σ H (fun x H1 => x = .int n ∧ H1 = H) I ⟨rfl, rfl⟩) fun v s1 hh => ?_)
  obtain ⟨x, H1, I1, rv, ex, eH⟩ := hh
  subst ex eH
  refine PySem.W.kdv_all0 ?_
  rw [makeFunction_eq]
  simp only [List.zip_nil_right, List.filterMap_nil, List.isEmpty_nil, if_true, pure_bind, List.isEmpty_cons, Bool.false_eq_true, if_false]
  refine wpAny_bind (wpAny_newTextTuple ?_)
  have gt := Heap.get?_push_size s1.heap (o := PySem.W.kdv_tup [v]) rfl
  have nt : H1 s1.heap.objs.size = none := I1.hok.fresh (Nat.le_refl _)
  have I2 := I1.laid (t' := s1.toks) (a := s1.heap.objs.size) (o := FzO (PySem.W.kdv_tup [v])) (fun b u e => Heap.get?_push_of_some _ e) (Nat.le_refl _) (fz_ok gt)
  have up : ∀ b o, H1 b = some o → (upd H1 s1.heap.objs.size (FzO (PySem.W.kdv_tup [v]))) b = some o := fun b o e => by
    rw [upd_ne (ne_of_none e nt)]
    exact e
  refine lam_put I2 TB hcode hm hu (hT.ext up) (L.has I.ok) fun f c' doc pm ctv H2 s' I3 eN T2 hf nf hc => ⟨.ref f, H2, I3, rfl, h f H2 ((ExtN.of up).trans eN) T2 ?_ (.dflt hf hc L (eN _ _ upd_same fz_ne) ((hb _ _ _ _ _).imp fun kk q => ⟨q.1, q.2 v⟩) fun A outer s H E hr => run A outer s H E f c' hr)⟩
  by_cases e : f = s1.heap.objs.size
  · rw [e]; exact nt
  · rw [upd_ne e] at nf; exact nf
end
end LV

set_option maxHeartbeats 2000000
namespace LV
open PySem PySem.Spec PyProof.Rows L2 LamX LD
section
variable {X : Cx} {pins : List (Addr × Obj)} {σ : L2.St} {H : Hp} {s : Shared}
/-- the context of a def at g that is called at s -/
abbrev gCx (X : Cx) (CXg : CXT) (Eg : XK) (Ng : List Str) (qg : Str) (sg : Scope) (g : Addr) (cdg : Value) (s : Shared) (H : Hp) (pn : List (Addr × Obj)) (xe : Value → Shared → Prop) : Cx :=
  (cxOf CXg X.prog X.w X.K X.mg X.base Ng qg sg g cdg X.A X.stack s H Eg).tr pn xe
/-- a(), in a def that got the lambda as a -/
theorem act_of {CXg : CXT} {Eg : XK} {Ng : List Str} {qg : Str} {sg : Scope} {g f : Addr} {cdg : Value} {k i : Nat} {a : Str} {tl : XK → TE} (I : Inv X pins σ H s) (La : LamAt X k H f tl) (hr : Room (k + 1) (X.A.deeper (envOfC qg sg s.heap.objs.size g cdg)))
    (hN : Ng[i]? = some a) (hv : Vis sg a) (hd : (a == ("__debug__" : Str)) = false := by decide) (hcd : (a == ("__classdict__" : Str)) = false := by decide) :
    ∃ c' : Addr, H c' = some (CodeO c' (X.env.qual ++ "<lambda>")) ∧ ∀ (W : WX) (pn : List (Addr × Obj)) (xe : Value → Shared → Prop) (E : XK) (p1 p2 : Pos), Takes (gCx X CXg Eg Ng qg sg g cdg s H pn xe) W → (∀ cls d σ' H', E cls d H' → W cls d σ' H') →
      PE (gCx X CXg Eg Ng qg sg g cdg s H pn xe) (.Call (.Name a p1) [] [] p2) (fun σZ HZ Q => σZ[i]? = some (some (.ref f)) ∧ HZ c' = some (CodeO c' (X.env.qual ++ "<lambda>")) ∧ tl E σ HZ Q) := by
  -- what a call of it comes to, told of the state at the call
  have told : ∀ (c' : Addr) (fo : Obj), H f = some (FzO fo) → (∃ fd, fo.data = .func fd) → (∀ (HZ : Hp) (s1 : Shared) (E : XK) (Q : VK), Un (frs X.stack) [] H HZ s.heap s1.heap → Env0 X.prog X.w X.K X.mg X.base (X.A.deeper (envOfC qg sg s.heap.objs.size g cdg)) (envOfC qg sg s.heap.objs.size g cdg :: X.stack) s1 HZ →
        s1.heap.get? f = some fo → HOk X.prog X.w HZ s1.heap → s1.heap.NoLimit → HZ c' = some (CodeO c' (X.env.qual ++ "<lambda>")) → tl E σ HZ Q → codeAny (model X.prog X.w) (X.A.deeper (envOfC qg sg s.heap.objs.size g cdg)) (.call (.ref f) ⟨[], []⟩) (CR (L2.CX X.prog X.w) (envOfC qg sg s.heap.objs.size g cdg :: X.stack) X.prog X.w HZ s1 Q E) s1) →
      ∀ (W : WX) (pn : List (Addr × Obj)) (xe : Value → Shared → Prop) (E : XK) (p1 p2 : Pos), Takes (gCx X CXg Eg Ng qg sg g cdg s H pn xe) W → (∀ cls d σ' H', E cls d H' → W cls d σ' H') →
      PE (gCx X CXg Eg Ng qg sg g cdg s H pn xe) (.Call (.Name a p1) [] [] p2) (fun σZ HZ Q => σZ[i]? = some (some (.ref f)) ∧ HZ c' = some (CodeO c' (X.env.qual ++ "<lambda>")) ∧ tl E σ HZ Q) := fun c' fo hf hfd runs W pn xe E p1 p2 tk hW => by
    refine ⟨fun pinsZ sZ σZ HZ Q IZ ⟨hs, hc, hq⟩ => wpAny_Call_Name_kw (thn ((pe_var (pos := p1) (i := i) hN hv hd hcd).run pinsZ sZ σZ HZ (fun v H1 => v = .ref f ∧ H1 = HZ) IZ ⟨.ref f, hs, rfl, rfl⟩) fun u s1 ⟨v, H1, I1, r1, ev, eH⟩ => ?_)⟩
    subst ev
    rw [eH] at I1
    obtain rfl : u = Value.ref f := r1
    have of1 : s1.heap.get? f = some fo := (I1.hok f _ (I1.base.frzs f _ _ hf)).1
    obtain ⟨fd, hfd⟩ := hfd
    obtain ⟨oc, od, odata, osl⟩ := fo
    have hfd : odata = .func fd := hfd
    subst hfd
    refine PySem.W.callWith_F0 ⟨_, _, _, _, of1⟩ ?_
    have rc := runs HZ s1 E Q I1.base I1.env0 of1 I1.hok I1.nolimit hc hq
    have hx : Passes (L2.CX X.prog X.w) (gCx X CXg Eg Ng qg sg g cdg s H pn xe) E := passes_call tk hW
    refine wpAny_call (codeAny_mono rc fun r s' hh => ?_)
    cases r with
    | error e => exact hx pinsZ σZ HZ s1 e s' I1 hh
    | ok fl =>
      cases fl with
      | ret u => exact I1.after hh
      | next => exact False.elim hh
      | brk => exact False.elim hh
      | cont => exact False.elim hh
  cases La with
  | @bare c' params body scope doc pm ctv hf hc L hb run =>
    refine ⟨c', hc, told c' _ hf ⟨_, rfl⟩ fun HZ s1 E Q un e0 of1 hok lim hcZ hq => ?_⟩
    obtain ⟨⟨oc, vs, t, hoc, hdc, hvc⟩, _, _⟩ := hok c' _ hcZ
    refine PySem.W.kla_callFunE hr.depth of1 rfl L.co L.gen rfl ⟨c', oc, vs, t, rfl, hoc, hdc, hvc⟩ ?_
    rw [hb]
    refine wpAny_pure (wpAny_newFunctionEnv (fun y hy => (L.own y hy).2) (fun y hy => absurd hy (by simp)) (fun h₁ hns hsb => ⟨lim.fresh _ hsb, ?_⟩) L.kind)
    show codeAny _ _ (.expr body (lamEnv X scope s1.heap.objs.size f c')) _ _
    have kp : ∀ b o, s1.heap.get? b = some o → h₁.get? b = some o := fun b o e => hsb.extBut b o (Nat.ne_of_lt (Heap.lt_size e)) (Heap.get?_push_of_some _ e)
    have J := lam_start2 (E := E) (f := f) (c' := c') (tk := s1.toks + ([] : List (Str × Value)).length) I L e0 hr.hd un hns kp
    exact PySem.W.kla_codeExpr (wpAny_mono ((run _ _ s1 HZ E (hr.deeper _)).run [] _ _ HZ Q J hq) (fun v s' ⟨w', H', J', rv, z⟩ => ⟨w', H', J'.os, J'.bare, J'.base, J'.hok, rv, z⟩) fun e s' hh => hh)
  | @dflt c' dt v0 pn params body scope doc pm ctv hf hc L ht hb run =>
    refine ⟨c', hc, told c' _ hf ⟨_, rfl⟩ fun HZ s1 E Q un e0 of1 hok lim hcZ hq => ?_⟩
    obtain ⟨⟨oc, vs, t, hoc, hdc, hvc⟩, _, _⟩ := hok c' _ hcZ
    have ot1 : s1.heap.get? dt = some (PySem.W.kdv_tup [v0]) := (hok dt _ (un.frzs dt _ _ ht)).1
    obtain ⟨kk, hb1, hb2⟩ := hb
    refine PySem.W.kla_callFunE hr.depth of1 rfl L.co L.gen rfl ⟨c', oc, vs, t, rfl, hoc, hdc, hvc⟩ ?_
    refine (BindsTo.of_defaults (s := s1) (binds := [(pn, v0)]) rfl ot1 rfl hb1 hb2) _ _ _ _ ?_
    refine wpAny_newFunctionEnv (fun y hy => (L.own y hy).1) (fun y hy => by rw [List.mem_singleton.mp hy]; exact L.par) (fun h₁ hns hsb => ⟨lim.fresh _ hsb, ?_⟩) L.kind
    show codeAny _ _ (.expr body (lamEnv X scope s1.heap.objs.size f c')) _ _
    have kp : ∀ b o, s1.heap.get? b = some o → h₁.get? b = some o := fun b o e => hsb.extBut b o (Nat.ne_of_lt (Heap.lt_size e)) (Heap.get?_push_of_some _ e)
    have J := lam_startD (E := E) (f := f) (c' := c') (tk := s1.toks + ([(pn, v0)] : List (Str × Value)).length) I L e0 hr.hd un hns kp
    exact PySem.W.kla_codeExpr (wpAny_mono ((run _ _ s1 HZ E (hr.deeper _)).run [] _ _ HZ Q J hq) (fun v s' ⟨w', H', J', rv, z⟩ => ⟨w', H', J'.os, J'.bare, J'.base, J'.hok, rv, z⟩) fun e s' hh => hh)
/-- what a call of a def with a lambda at hand asks (σ: the slots of the lambda's maker) -/
def tVcall (X : Cx) (k : Nat) (TT : (XK → Hp → VK → Prop) → Hp → VK → Prop) (i : Nat) (σ : L2.St) : TE := fun σY HY Q => ∃ (f : Addr) (tl : XK → TE), σY[i]? = some (some (.ref f)) ∧ LamAt X k HY f tl ∧ TT (fun E H' Q' => tl E σ H' Q') HY Q
/-- where a block's iterator stands, seen from the block's def -/
def BlkFp (X : Cx) (pins : List (Addr × Obj)) (fp : List Addr) : Prop := ∀ b ∈ fp, (b ∈ X.ex ∨ X.s_0.heap.objs.size ≤ b) ∧ b ≠ X.env.locals ∧ (∀ x c, X.env.cells.lookup x = some c → c ≠ b) ∧ ∀ p ∈ X.pn ++ pins, p.1 ≠ b
/-- x(y), within a comprehension of the lambda's maker -/
theorem pe_vcall {TT : (XK → Hp → VK → Prop) → Hp → VK → Prop} {x y a : Str} {g : Addr} {k i : Nat} {pg : Arguments} {bg : List Stmt} {sg scope : Scope} {ce : Env} {fp : List Addr} {dV kV doc pm cdv ct oc : Value} {an od : Option Addr} {osl : Array (Option Value)} {Ng : List Str} {p py pos : Pos}
    (I3 : Inv X pins σ H s) (hch : BlkFp X pins fp) (hg : Gl (X.blk s H scope ce fp) x) (hm : X.mg x = some (.ref g)) (hk : PySem.W.keepIn X.K (.ref g) = true)
    (lk : X.K.lookup g = some ⟨oc, od, .func (PySem.W.fnOf x x pg bg sg dV kV doc pm an cdv ct), osl⟩) (hcg : PySem.W.codeIn X.K cdv x = true) (hb : L2.Binds X.K (PySem.W.fnOf x x pg bg sg dV kV doc pm an cdv ct) [a] []) (Sg : FnScope Ng [a] sg) (hNg : Ng[0]? = some a) (hva : Vis sg a)
    (hG : GivesTo X Ng x sg g cdv bg a (X.env.qual ++ "<lambda>") TT) (hr : Room (k + 2) X.A) (hN : X.N[i]? = some y) (hv : Vis ce.scope y)
    (hs : starEach [.Name y py] (X.blk s H scope ce fp).env = (false, eval (.Name y py) (X.blk s H scope ce fp).env) :: starEach [] (X.blk s H scope ce fp).env := by rfl) (hpl : (backTo pos (starEach [] (X.blk s H scope ce fp).env)).any (·.1) = false := by rfl)
    (hdb : (x == ("__debug__" : Str)) = false := by decide) (hd : (a == ("__debug__" : Str)) = false := by decide) (hcd : (a == ("__classdict__" : Str)) = false := by decide) (hd2 : (y == ("__debug__" : Str)) = false := by decide) (hcd2 : (y == ("__classdict__" : Str)) = false := by decide) :
    PE (X.blk s H scope ce fp) (.Call (.Name x p) [.Name y py] [] pos) (tVcall X k TT i σ) := by
  refine ⟨fun pinsY sY σY HY Q IY ⟨f, tl, hf, La, h⟩ => ?_⟩
  refine wpAny_Call_Name_kw (ld_glob IY hg hm ?_ hdb)
  have hp : PA (X.blk s H scope ce fp) [.Name y py] (tCons (tVar i) tNil) := pa_cons (pe_var (X := X.blk s H scope ce fp) hN hv hd2 hcd2) pa_nil
  refine PySem.W.callWith_K (h₀ := X.base) IY.ok.mod.kin hk (thn (hp.run pos pinsY sY σY HY (fun vs H1 => vs = [.ref f] ∧ H1 = HY) IY ⟨_, hf, rfl, rfl⟩) fun us s1 hh => ?_) hs hpl
  obtain ⟨vs, H1, I1, r1, ev, eH⟩ := hh
  subst ev
  rw [eH] at I1
  refine ⟨I1.kIn, ?_⟩
  cases r1 with
  | cons ru rr =>
    cases rr
    cases ru
    have IX : Inv X pins σ HY s1 := I3.call' (ch := fp) I1.os I1.base I1.hok I1.bare hch
    have rc : codeAny (model X.prog X.w) X.A (.call (.ref g) ⟨[.ref f], []⟩) (CR C8.CX0 X.stack X.prog X.w HY s1 Q C8.E0) s1 := by
      refine run_ofS (N := Ng) (ps := [a]) (us := [.ref f]) (vs := [.ref f]) lk hcg Sg hr I1.env0 (hb s1 [.ref f] I1.kIn rfl) (.cons rfl .nil) rfl fun hr' => ?_
      obtain ⟨c', hc, act⟩ := act_of (CXg := C8.CX0) (Eg := C8.E0) (Ng := Ng) (qg := x) (sg := sg) (g := g) (cdg := cdv) (i := 0) IX La hr' hNg hva hd hcd
      obtain ⟨t', ht', hq'⟩ := hG f c' s1 HY Q (fun E H' Q' => tl E σ H' Q') (fun W pn xe E p1 p2 tk hW => act W pn xe E p1 p2 tk hW) hc h
      exact ⟨t', ht'.nox, hq'⟩
    refine wpAny_call (codeAny_mono rc fun r s2 hq => ?_)
    cases r with
    | error e => exact (show False from hq).elim
    | ok fl =>
      cases fl with
      | ret u => exact I1.after hq
      | next => exact False.elim hq
      | brk => exact False.elim hq
      | cont => exact False.elim hq
end
end LV

set_option maxHeartbeats 2000000
/-! {k: e for x in ..} whose keys are tuples. -/
namespace DTC
open PySem PySem.Spec PyProof.Rows L2 LamX
section
variable {X : Cx} {pins : List (Addr × Obj)} {σ : L2.St} {H : Hp} {s : Shared}
theorem dset_t {E : Value → Shared → Prop} {D b : Addr} {kvs : List (List Key × V)} {k : List Key} {v : V} {u r : Value} {Q : Unit → Shared → Prop} (hu : X.A.units < cLine) (I : Inv X pins σ H s) (hD : H D = some (.dT kvs)) (hb : H b = some (.tup (k.map kV))) (hl : kvs.length < sizeLine) (ru : RelV (.ref b) u) (rv : RelV v r)
    (q : ∀ s' : Shared, Inv X pins σ (upd H D (.dT (putK kvs k v))) s' → Q () s') :
    wpAny (model X.prog X.w) X.A (dictSet D u r) Q E s := by
  obtain ⟨le, sm, xs, kt, hx⟩ := dt_of I.hok hD
  have ru : u = .ref b := ru
  subst ru
  have lx : xs.length = kvs.length := (PySem.Paired.length kt).symm
  refine wpAny_dictSet_heap (knd := tupleKind (mixKind X.prog X.w)) hu (key_of I.hok hb) hx (fun h' hd sb => q _ ?_) (by rw [lx]; omega)
  obtain ⟨o, es, ep, e1, e2, e3, e4, e5, e6⟩ := hd
  refine d_write I (by rw [hD]; trivial) sb ⟨o, e1⟩ ?_
  refine ⟨Nat.le_trans (length_putK _ _ _) (by omega), sm, storedH xs k b r, ?_, o, es, ep, e1, e2, e3, e4, e6⟩
  have hne : ∀ c ys, H c = some (.tup ys) → upd H D (.dT (putK kvs k v)) c = some (.tup ys) := fun c ys hc => (upd_ne (ne_of hc hD (by intro e; nomatch e))).trans hc
  exact KT.keeps (KT.put kt k hb rv) hne
end
end DTC

set_option maxHeartbeats 2000000
namespace DTC
open PySem PySem.Spec PyProof.Rows L2 LamX LV
section
variable {X : Cx} {pins : List (Addr × Obj)} {σ : L2.St} {H : Hp} {s : Shared}
def tDcT (wi : TI) (g : TG) (tk tv : TE) (vs : List Nat) : TE := fun σ H Q =>
  wi σ H fun J H1 => ∀ D : Addr, H1 D = none → ∃ W : Nat → Nat → Hp → Prop, (∃ m, W 0 m (upd H1 D (.dT []))) ∧
    ∀ (i m : Nat) (H : Hp), W i m H →
      J.stop i H ∧ Q (.ref D) H ∨
      J.go i H ∧ ∃ Nx : Hp → Prop, (∀ H', Nx H' → ∃ m', m' < m ∧ W (i + 1) m' H') ∧
        ∀ (x : V) (H' : Hp), J.yld i H x H' → g x (wipe σ vs) H' fun σ2 H2 => wipe σ2 vs = wipe σ vs ∧
          tk σ2 H2 fun y H4 => tv σ2 H4 fun z H5 => ∃ b kvs k, y = .ref b ∧ H5 b = some (.tup (List.map kV k)) ∧ H5 D = some (.dT kvs) ∧ kvs.length < sizeLine ∧ Nx (upd H5 D (.dT (putK kvs k z)))
theorem pe_dcT {kx vx tg iter : Expr} {scope : Scope} {own : List (Str × Nat)} {pos : Pos} {wi : TI} {g : TG} {tk tv : TE} (hu : X.A.units < cLine) (hc : X.calm = true) (hN : X.N.Nodup) (hi : PI X tg iter wi) (ok : BlkOk X.N X.env.scope scope own)
    (hg : ∀ (s : Shared) (H : Hp) (C : Addr) (cl : List (Str × Addr)) (fp : List Addr), PG (X.blk s H scope (compEnvC scope cl C X.env) fp) tg g)
    (hk : ∀ (s : Shared) (H : Hp) (C : Addr) (cl : List (Str × Addr)) (fp : List Addr), PE (X.blk s H scope (compEnvC scope cl C X.env) fp) kx tk)
    (hv : ∀ (s : Shared) (H : Hp) (C : Addr) (cl : List (Str × Addr)) (fp : List Addr), PE (X.blk s H scope (compEnvC scope cl C X.env) fp) vx tv)
    (hs : ∀ x, foldedSetIterable iter X.env x = pure x := by intro _; rfl) :
    PE X (.DictComp kx vx [⟨tg, iter, [], 0⟩] scope pos) (tDcT wi g tk tv (own.map (·.2))) := by
  refine ⟨fun pins s σ H Q I h => ?_⟩
  rw [arm_eval_DictComp]
  have clo : ∀ y ∈ scope.names, y.2 = .free → ∃ c, X.env.cells.lookup y.1 = some c := fun y hy e => (ok.free y hy e).elim (fun k => I.ok.has _ (.inl k)) fun k => I.ok.has _ (.inr k)
  refine wpAny_comprehension_free (use := none) rfl hs (closure_ok clo) ok.kind (fun y hy e => (ok.uniq y hy).trans (by rw [e])) (thn (hi.run pins s σ H _ I h) fun xv s1 hx => thn hx fun itv s2 h2 => ?_)
  obtain ⟨it, fp, tn, J, H2, rfl, I2, T, st2, f2, q⟩ := h2
  refine wpAny_newObj_type (newEnv_comp ?_) (by simp [sizeOk, sizeLine_eq])
  obtain ⟨D, hD⟩ : ∃ D, s2.heap.objs.size = D := ⟨_, rfl⟩
  rw [hD]
  obtain ⟨W, ⟨m0, w0⟩, turn⟩ := q D (I2.hok.fresh (Nat.le_of_eq hD))
  obtain ⟨s3, e3⟩ : ∃ s3 : Shared, s3 = { s2 with heap := s2.heap.push { cls := .type "dict", data := .dict #[] } } := ⟨_, rfl⟩
  have I3 : Inv X pins σ (upd H2 D (.dT [])) s3 := by
    rw [e3]
    refine I2.laid (t' := s2.toks) (fun b o e => Heap.get?_push_of_some _ e) (Nat.le_of_eq hD) ?_
    rw [← hD]
    exact dt_empty _ I2.big
  have h3 : s3.heap = s2.heap.push { cls := .type "dict", data := .dict #[] } := by rw [e3]
  have f3 : ∀ b ∈ fp, FpOk X pins (upd H2 D (.dT [])) b ∧ b < s3.heap.objs.size := fun b hb => by
    obtain ⟨ob, eb, _⟩ := T.obj _ _ st2 b hb
    have lb := Heap.lt_size eb
    exact ⟨⟨(upd_ne (hD ▸ Nat.ne_of_lt lb)).trans (f2 b hb).1, (f2 b hb).2⟩, by rw [h3, Heap.size_push]; exact Nat.lt_succ_of_lt lb⟩
  have fpB : BlkFp X pins fp := fun b hb => ⟨(f3 b hb).1.2.2.2.1, (f3 b hb).1.2.1, (f3 b hb).1.2.2.2.2.1, (f3 b hb).1.2.2.2.2.2⟩
  have st3 : tn 0 s3.heap := T.keep _ _ _ st2 fun b _ o e => by rw [h3]; exact Heap.get?_push_of_some _ e
  have I4 := block_start I3 ok hN f3
  have pg := hg s3 (upd H2 D (.dT [])) s3.heap.objs.size (cellsFrom (s3.heap.objs.size + 1) scope.names (cloFrom X.env.cells scope.names [])) fp
  have pk := hk s3 (upd H2 D (.dT [])) s3.heap.objs.size (cellsFrom (s3.heap.objs.size + 1) scope.names (cloFrom X.env.cells scope.names [])) fp
  have pv := hv s3 (upd H2 D (.dT [])) s3.heap.objs.size (cellsFrom (s3.heap.objs.size + 1) scope.names (cloFrom X.env.cells scope.names [])) fp
  rw [← e3]
  show codeAny _ _ (.compStart (.DictComp kx vx [⟨tg, iter, [], 0⟩] scope pos) 0 (.ref it) (.ref D) (compEnvC scope (cellsFrom (s3.heap.objs.size + 1) scope.names (cloFrom X.env.cells scope.names [])) s3.heap.objs.size X.env)) _ { s3 with heap := pushCells (s3.heap.push { cls := .type "dict", data := .dict #[] }) scope.names }
  have n3 : ∀ b ∈ fp, (upd H2 D (.dT [])) b = none := fun b hb => (f3 b hb).1.1
  generalize hce : compEnvC scope (cellsFrom (s3.heap.objs.size + 1) scope.names (cloFrom X.env.cells scope.names [])) s3.heap.objs.size X.env = ce at I4 pg pk pv ⊢
  have cL : ce.locals = s3.heap.objs.size := by rw [← hce]; rfl
  generalize upd H2 D (.dT []) = H3 at I3 I4 pg pk pv w0 n3 f3
  generalize hs4 : ({ s3 with heap := pushCells (s3.heap.push { cls := .type "dict", data := .dict #[] }) scope.names } : Shared) = s4 at I4 ⊢
  have st4 : tn 0 s4.heap := T.keep _ _ _ st3 fun b _ o e => by rw [← hs4]; exact pushCells_keeps _ _ _ _ (Heap.get?_push_of_some _ e)
  have own' : ∀ {σ' : L2.St} {H' : Hp} {s' : Shared}, Inv (X.blk s3 H3 scope ce fp) [] σ' H' s' → (∀ b ∈ fp, H' b = none) → ∀ b ∈ fp, FpOk (X.blk s3 H3 scope ce fp) [] H' b := fun {σ' H' s'} I' n b hb =>
    ⟨n b hb, (I'.ok.exf b hb).1, I'.ok.exfs b hb, .inl hb, (I'.ok.exf b hb).2, fun p hp => absurd hp List.not_mem_nil⟩
  suffices loop : codeAny (model X.prog X.w) X.A (.compLoop (.DictComp kx vx [⟨tg, iter, [], 0⟩] scope pos) 0 (.ref it) (.ref D) ce) (compPost (model X.prog X.w) X.A X.xe none (EP X pins σ Q) (.ref D) s3.heap.objs.size) s4 from codeAny_compStart_dict loop (T.self X.A 0 _ _ _ st4 loop)
  refine compLoop_anyD (fun n s' => ∃ i H', Inv (X.blk s3 H3 scope ce fp) [] (wipe σ (own.map (·.2))) H' s' ∧ tn i s'.heap ∧ (∀ b ∈ fp, H' b = none) ∧ W i n H') ?_ m0 ⟨0, H3, I4, st4, n3, w0⟩
  rintro n s5 ⟨i, H5, I5, st5, n5, w5⟩
  rcases turn i n H5 w5 with ⟨stop, qq⟩ | ⟨go, Nx, hNx, step⟩
  · refine thnF (T.done (X.blk s3 H3 scope ce fp) rfl rfl rfl hc i [] s5 _ H5 (fun _ _ => False) I5 (own' I5 n5) st5 stop) fun r s6 ⟨hr, I6⟩ => ?_
    rw [hr]
    have I7 : Inv X pins σ H5 s6 := I3.call' (ch := fp) I6.os I6.base I6.hok I6.bare fpB
    obtain ⟨m, hn, _⟩ := I6.loc
    have z : H5 ce.locals = none := I6.free
    have hn : s6.heap.Ns ce.locals m := hn
    rw [cL] at hn z
    obtain ⟨f0, f1, f2, f3', f4, f5⟩ := I3.fpOk (H' := H5) (Nat.le_refl _) z
    exact ⟨m, hn, fun h'' sb => ⟨.ref D, H5, I7.turned (t' := s6.toks) (fun b o hb e => (sb.2 b hb).trans e) f0 f1 f3' f4 f5, rfl, qq⟩⟩
  · refine thnF (T.item (X.blk s3 H3 scope ce fp) rfl rfl rfl hc i [] s5 _ H5 (fun _ _ => False) I5 (own' I5 n5) st5 go) fun r s6 ⟨u, hr, h6⟩ => ?_
    rw [hr]
    refine thnF h6 fun _ s7 ⟨x, H7, I7, r7, y7, st7, n7⟩ => ?_
    refine thnF (pg.run _ s7 _ H7 x u _ (I7.pinned (own' I7 n7) (T.obj _ _ st7)) r7 (step x H7 y7)) fun _ s8 ⟨σ8, H8, I8, hw8, q8⟩ => wpAny_tests_nil ?_
    show wpAny _ _ _ _ _ _
    refine thnF (pk.run _ s8 σ8 H8 _ I8 q8) fun kv s9 ⟨yv, H9, I9, r9, q9⟩ => thnF (pv.run _ s9 σ8 H9 _ I9 q9) fun zv s10 ⟨z, H10, I10, r10, b, kvs, k, hy, hb, hD10, hz10, nx⟩ => dset_t (X := X.blk s3 H3 scope ce fp) hu I10 hD10 hb hz10 (hy ▸ r9) r10 fun s11 I11 => ?_
    obtain ⟨m', hm, w'⟩ := hNx _ nx
    have pin' : ∀ b ∈ fp, ∀ o, s7.heap.get? b = some o → s11.heap.get? b = some o ∧ (upd H10 D (.dT (putK kvs k z))) b = none := fun b hb o e => (I11.pin (b, o) (List.mem_append_right _ (List.mem_append_right _ (mem_pinsAt hb e)))).imp id And.left
    have hl : (wipe σ (own.map (·.2))).length = σ8.length := by rw [← hw8, wipe_length]
    refine ⟨m', hm, i + 1, _, (I11.unpinned (pins := [])).weak hl (fun j v e => (wipe_some (hw8 ▸ e)).1), T.keep _ _ _ st7 fun b hb o e => (pin' b hb o e).1, fun b hb => ?_, w'⟩
    obtain ⟨o, e, _⟩ := T.obj _ _ st7 b hb
    exact (pin' b hb o e).2
end
end DTC

set_option maxHeartbeats 2000000
namespace DTC
open PySem PySem.Spec PyProof.Rows L2 LamX LV
/-- {k: v}, the key a tuple -/
def tDisp1 (tk tv : TE) : TE := fun σ H Q => ∀ D : Addr, H D = none → tk σ (upd H D (.dT [])) fun y H1 => tv σ H1 fun z H2 => ∃ b k, y = .ref b ∧ H2 b = some (.tup (List.map kV k)) ∧ H2 D = some (.dT []) ∧ Q (.ref D) (upd H2 D (.dT [(k, z)]))
theorem pe_disp1 {X : Cx} {ke ve : Expr} {pos : Pos} {tk tv : TE} (hu : X.A.units < cLine) (hk : PE X ke tk) (hv : PE X ve tv) : PE X (.Dict [some ke] [ve] pos) (tDisp1 tk tv) := by
  refine ⟨fun pins s σ H Q I h => wpAny_Dict_any rfl rfl (by simp) (by simp) ?_⟩
  obtain ⟨D, hD⟩ : ∃ D, s.heap.objs.size = D := ⟨_, rfl⟩
  have fr : H D = none := I.hok.fresh (Nat.le_of_eq hD)
  have I1 : Inv X pins σ (upd H D (.dT [])) { s with heap := s.heap.push { cls := .type "dict", data := .dict #[] } } := by
    refine I.laid (t' := s.toks) (fun b o e => Heap.get?_push_of_some _ e) (Nat.le_of_eq hD) ?_
    rw [← hD]
    exact dt_empty _ I.big
  have pp : PPs X pos [some ke] [ve] [(tk, tv)] := pps_cons hk hv pps_nil
  refine thn (pp.run pins _ σ _ (fun ps H2 => match ps with | [(y, z)] => ∃ b k, y = .ref b ∧ H2 b = some (.tup (List.map kV k)) ∧ H2 D = some (.dT []) ∧ Q (.ref D) (upd H2 D (.dT [(k, z)])) | _ => False) I1 (h D fr)) fun vs s1 hh => ?_
  obtain ⟨ps, H2, I2, rv, q⟩ := hh
  cases rv with
  | nil => exact q.elim
  | @cons p c ps' cs' r rr =>
    cases rr with
    | cons _ _ => obtain ⟨y, z⟩ := p; exact q.elim
    | nil =>
      obtain ⟨y, z⟩ := p
      obtain ⟨u, v⟩ := c
      obtain ⟨b, k, rfl, hb, h0, q⟩ := q
      obtain ⟨r1, r2⟩ := r
      unfold storeAll
      rw [hD]
      simp only [List.forIn_cons, List.forIn_nil]
      refine wpAny_bind (wpAny_bind (dset_t hu I2 h0 hb (by show 0 < sizeLine; decide) r1 r2 fun s2 I3 => wpAny_pure (wpAny_pure ?_)))
      exact ⟨.ref D, _, I3, rfl, q⟩
end DTC

set_option maxHeartbeats 2000000
/-! a dict comprehension over a zip, over a list: keys are tuples; new keys go to the end -/
namespace DTC
open PySem PySem.Spec PyProof.Rows L2 LamX LV ZM
theorem putK_new {kvs : List (List Key × V)} {k : List Key} {v : V} (h : ∀ p ∈ kvs, p.1 ≠ k) : putK kvs k v = kvs ++ [(k, v)] := by
  unfold putK
  rw [if_neg]
  intro z
  obtain ⟨p, hp, e⟩ := List.any_eq_true.mp z
  exact h p hp (of_decide_eq_true e)
theorem dc_z {K : PySem.W.Frag} {k1 k2 : Sk} {xs ys : List V} {g : TG} {tk tv : TE} {vs : List Nat} {σ : L2.St} {H1 : Hp} {D : Addr} {Qd : Hp → Prop} (hl : xs.length = ys.length) (Pv : Nat → Hp → Prop) (h0 : Pv 0 (upd H1 D (.dT []))) (hq : ∀ i H, Pv i H → Src K H k1 xs ∧ Src K H k2 ys)
    (hs : ∀ i x y T H, xs[i]? = some x → ys[i]? = some y → Pv i H → H T = none → g (.ref T) (wipe σ vs) (upd H T (.tup [x, y])) fun σ2 H2 => wipe σ2 vs = wipe σ vs ∧
      tk σ2 H2 fun y H4 => tv σ2 H4 fun z H5 => ∃ b kvs k, y = .ref b ∧ H5 b = some (.tup (List.map kV k)) ∧ H5 D = some (.dT kvs) ∧ kvs.length < sizeLine ∧ Pv (i + 1) (upd H5 D (.dT (putK kvs k z)))) (hd : ∀ H, Pv xs.length H → Qd H) :
    ∃ W : Nat → Nat → Hp → Prop, (∃ m, W 0 m (upd H1 D (.dT []))) ∧ ∀ i m H, W i m H →
      ((ItZ K k1 k2).stop i H ∧ Qd H) ∨ ((ItZ K k1 k2).go i H ∧ ∃ Nx : Hp → Prop, (∀ H', Nx H' → ∃ m', m' < m ∧ W (i + 1) m' H') ∧ ∀ x H', (ItZ K k1 k2).yld i H x H' → g x (wipe σ vs) H' fun σ2 H2 => wipe σ2 vs = wipe σ vs ∧
        tk σ2 H2 fun y H4 => tv σ2 H4 fun z H5 => ∃ b kvs k, y = .ref b ∧ H5 b = some (.tup (List.map kV k)) ∧ H5 D = some (.dT kvs) ∧ kvs.length < sizeLine ∧ Nx (upd H5 D (.dT (putK kvs k z)))) := by
  refine ⟨fun i m H => m + i = xs.length ∧ Pv i H, ⟨xs.length, rfl, h0⟩, fun i m H ⟨em, p⟩ => ?_⟩
  obtain ⟨qx, qy⟩ := hq i H p
  by_cases c : i < xs.length
  · have cx := List.getElem?_eq_getElem c
    have cy := List.getElem?_eq_getElem (show i < ys.length by omega)
    refine .inr ⟨⟨xs, ys, _, _, qx, qy, cx, cy⟩, Pv (i + 1), fun H' p' => ⟨m - 1, by omega, by omega, p'⟩, fun v H' hv => ?_⟩
    obtain ⟨T, x, y, rfl, nT, rfl, f1, f2⟩ := hv
    exact hs i x y T H (f1 _ qx) (f2 _ qy) p nT
  · have e : i = xs.length := by omega
    subst e
    exact .inl ⟨⟨xs, ys, qx, qy, Nat.le_refl _, by omega, .inl rfl⟩, hd H p⟩
theorem dc_lst {K : PySem.W.Frag} {a : Addr} {xs : List V} {g : TG} {tk tv : TE} {vs : List Nat} {σ : L2.St} {H1 : Hp} {D : Addr} {Qd : Hp → Prop} (Pv : Nat → Hp → Prop) (h0 : Pv 0 (upd H1 D (.dT []))) (hl : ∀ i H, i ≤ xs.length → Pv i H → SqL K H a xs)
    (hs : ∀ (i : Nat) (x : V) (H : Hp), xs[i]? = some x → Pv i H → g x (wipe σ vs) H fun σ2 H2 => wipe σ2 vs = wipe σ vs ∧
          tk σ2 H2 fun y H4 => tv σ2 H4 fun z H5 => ∃ b kvs k, y = .ref b ∧ H5 b = some (.tup (List.map kV k)) ∧ H5 D = some (.dT kvs) ∧ kvs.length < sizeLine ∧ Pv (i + 1) (upd H5 D (.dT (putK kvs k z))))
    (hd : ∀ H, Pv xs.length H → Qd H) : ∃ W : Nat → Nat → Hp → Prop, (∃ m, W 0 m (upd H1 D (.dT []))) ∧
    ∀ (i m : Nat) (H : Hp), W i m H →
      (Itl K a).stop i H ∧ Qd H ∨
      (Itl K a).go i H ∧ ∃ Nx : Hp → Prop, (∀ H', Nx H' → ∃ m', m' < m ∧ W (i + 1) m' H') ∧
        ∀ (x : V) (H' : Hp), (Itl K a).yld i H x H' → g x (wipe σ vs) H' fun σ2 H2 => wipe σ2 vs = wipe σ vs ∧
          tk σ2 H2 fun y H4 => tv σ2 H4 fun z H5 => ∃ b kvs k, y = .ref b ∧ H5 b = some (.tup (List.map kV k)) ∧ H5 D = some (.dT kvs) ∧ kvs.length < sizeLine ∧ Nx (upd H5 D (.dT (putK kvs k z))) := by
  refine ⟨fun i m H => m = xs.length - i ∧ i ≤ xs.length ∧ Pv i H, ⟨xs.length, by simp, Nat.zero_le _, h0⟩, ?_⟩
  rintro i m H ⟨rfl, hi, p⟩
  have q := hl i H hi p
  by_cases hlt : i < xs.length
  · refine .inr ⟨⟨xs, xs[i], q, List.getElem?_eq_getElem hlt⟩, Pv (i + 1), fun H' p' => ⟨xs.length - (i + 1), by omega, rfl, hlt, p'⟩, ?_⟩
    rintro v H' ⟨rfl, hx⟩
    exact hs i v _ (hx _ q) p
  · obtain rfl : i = xs.length := by omega
    exact .inl ⟨⟨xs, q, Nat.le_refl _⟩, hd H p⟩
end DTC

set_option maxHeartbeats 2000000
/-! sorted(x), x a list or a tuple of ints -/
namespace SRT
open PySem PySem.Spec PyProof.Rows L2
section
variable {prog : Program} {w : World} {A : Around} {E : Value → Shared → Prop} {s : Shared}
theorem collect_tup {l : Addr} {vs : List Value} {Q : List Value → Shared → Prop} (hl : s.heap.IsTuple l vs.toArray)
    (h : Q vs { s with heap := (s.heap.push (seqObj "list" #[] 0)).update s.heap.objs.size (Obj.mapSeq (· ++ vs.toArray)) }) (hsz : vs.length ≤ sizeLine := by size_fits) :
    wpAny (model prog w) A (collect (.ref l)) Q E s := by
  obtain ⟨o, ho, hc, n, hd⟩ := id hl
  unfold collect
  refine wpAny_bind (wpAny_runValue (codeAny_builtin entry_proto_collect' ?_))
  show wpAny _ _ (do again (.builtin "list.__iadd__" ⟨[← newList [], .ref l], []⟩)) _ _ s
  refine wpAny_bind (wpAny_newList (wpAny_pure ⟨Code.quiet_builtin _ (by decide +kernel), codeAny_builtin entry_list_iadd' ?_⟩))
  show wpAny _ _ (Builtin.List.listExtendWith (.ref s.heap.objs.size) (.ref l) (.ref s.heap.objs.size)) _ _ { s with heap := s.heap.push (seqObj "list" #[] 0) }
  unfold Builtin.List.listExtendWith
  have ho' : (s.heap.push (seqObj "list" #[] 0)).get? l = some o := Heap.get?_push_of_some _ ho
  refine wpAny_bind (wpAny_typeOf (T := "tuple") ⟨o, ho', hc⟩ ?_)
  have ht : (Value.type "tuple" == Value.type "tuple") = true := by rfl
  rw [if_pos (by rw [ht]; simp)]
  refine wpAny_bind (listItems_at ho' hd ?_)
  refine wpAny_bind (listItems_at (xs := #[]) (n := 0) (Heap.get?_push_size _ rfl) rfl ?_)
  rw [if_neg (by simp)]
  refine wpAny_bind (listUpdate_at (xs := #[]) (n := 0) (Heap.get?_push_size _ rfl) rfl ?_ (Nat.zero_le _) (by show (#[] ++ vs.toArray).size ≤ sizeLine + 1; simp only [Array.size_append, List.size_toArray, List.length_nil]; omega))
  refine wpAny_pure ?_
  show wpAny (model prog w) A (do
      let o ← load s.heap.objs.size
      match o.data with
      | .seq xs _ => pure xs.toList
      | _ => unsupported "internal:collect") Q E { s with heap := (s.heap.push (seqObj "list" #[] 0)).update s.heap.objs.size (Obj.mapSeq (· ++ vs.toArray)) }
  refine wpAny_bind (wpAny_load (get?_update_seq (Heap.get?_push_size _ rfl) _) ?_)
  show wpAny _ _ (pure ((#[] : Array Value) ++ vs.toArray).toList) Q E _
  rw [show ((#[] : Array Value) ++ vs.toArray).toList = vs by simp]
  exact wpAny_pure h
theorem sorted_intsT {l : Addr} {vs : List Value} {ns : List Int} {Q : Value → Shared → Prop} (hl : s.heap.IsTuple l vs.toArray) (hI : IntsAre vs ns) (h64 : vs.length < 64)
    (h : ∀ (out : Array Value) (ns' : List Int), IntsAre out.toList ns' → ns'.Perm ns → ns'.Pairwise (· ≤ ·) → Q (.ref (s.heap.objs.size + 1)) { s with heap := sortedAll s.heap vs out }) :
    wpAny (model prog w) A (call (.builtin "sorted") [.ref l]) Q E s := by
  refine Calls.call_function_entry kind_sorted plain_sorted entry_sorted (args_sorted1 _) ?_
  unfold Builtin.«sorted»
  refine wpAny_bind (m := checkCount "sorted" 1 1 _) (wpAny_pure ?_)
  refine wpAny_bind (collect_tup hl ?_ (by rw [sizeLine_eq]; omega))
  refine wpAny_bind (wpAny_newList ?_ (by rw [sizeLine_eq]; omega))
  have hsz : ((s.heap.push (seqObj "list" #[] 0)).update s.heap.objs.size (Obj.mapSeq (· ++ vs.toArray))).objs.size = s.heap.objs.size + 1 := by
    rw [Heap.size_update, size_push']
  have hoL : (((s.heap.push (seqObj "list" #[] 0)).update s.heap.objs.size (Obj.mapSeq (· ++ vs.toArray))).push (seqObj "list" vs.toArray 0)).get? (s.heap.objs.size + 1) = some (seqObj "list" vs.toArray 0) := by
    rw [← hsz]; exact Heap.get?_push_size _ rfl
  show wpAny _ _ _ _ _ { s with heap := ((s.heap.push (seqObj "list" #[] 0)).update s.heap.objs.size (Obj.mapSeq (· ++ vs.toArray))).push (seqObj "list" vs.toArray 0) }
  rw [hsz]
  refine wpAny_bind (wpAny_holding (wpAny_call_entry slot_list_sort ⟨_, hoL, rfl⟩ entry_list_sort (list_sort_tree hoL hI h64 fun out ns' a1 a2 a3 => ⟨_, rfl, ?_⟩) (args_list_sort _)))
  exact wpAny_pure ⟨_, rfl, h out ns' a1 a2 a3⟩
end
/-- sorted(x), x a list or a tuple of fewer than 64 ints -/
def rSort (K : PySem.W.Frag) : List V → Hp → VK → Prop := fun vs H Q => ∃ (a : Addr) (ns : List Int), vs = [V.ref a] ∧ (SqL K H a (ns.map V.int) ∨ SqT K H a (ns.map V.int)) ∧ ns.length < 64 ∧
  ∀ (ns' : List Int) (p : Addr), ns'.Perm ns → ns'.Pairwise (· ≤ ·) → H p = none → Q (.ref p) (upd H p (.lst (ns'.map V.int)))
theorem cr_sort {X : Cx} : CallR X (.builtin "sorted") (rSort X.K) := by
  intro pins s σ H vs us Q I r h
  obtain ⟨a, ns, rfl, hs, h64, q⟩ := h
  rcases hs with hs | hs
  · exact cr_sorted pins s σ H _ us Q I r ⟨a, ns, rfl, hs, h64, q⟩
  · obtain ⟨its, rv, hl, _⟩ := I.tuple hs
    rw [Vals.ref1 r]
    have hi := rv.ints
    have hl' : s.heap.IsTuple a its.toArray := hl
    refine sorted_intsT hl' hi (by rw [hi.length]; exact h64) fun out ns' h1 h2 h3 => ?_
    obtain ⟨ep, he'⟩ := PyProof.Rows.sortedAll_at s.heap its out
    have hlen : (ns'.map V.int).length ≤ sizeLine := by rw [List.length_map, h2.length_eq]; exact small64 h64
    exact ⟨.ref _, upd H (s.heap.objs.size + 1) (.lst (ns'.map V.int)), I.laid (t' := s.toks) (fun _ _ => PyProof.Rows.sortedAll_old) (Nat.le_succ _) ⟨hlen, out.toList, ep, vals_of_ints h1, he'⟩, rfl, q ns' _ h2 h3 (I.hok.fresh (Nat.le_succ _))⟩
end SRT

set_option maxHeartbeats 4000000
/-! Tables: dicts from lots to signs. -/
namespace K14
open PySem PySem.Spec PyProof.Rows L2
abbrev sLots : Stmt := topS 9
abbrev sChk : Stmt := topS 11
abbrev sSbl : Stmt := topS 28
abbrev sSin : Stmt := topS 29
theorem scLots : FnScope ["many", "size"] ["many", "size"] (defScope sLots) := ⟨rfl, rfl, rfl, by decide +kernel, rfl, by decide +kernel, by decide +kernel⟩
theorem scChk : FnScope ["many"] ["many"] (defScope sChk) := ⟨rfl, rfl, rfl, by decide +kernel, rfl, by decide +kernel, by decide +kernel⟩
theorem scSbl : FnScope ["things", "rank", "signs", "all_lots", "lot", "sign"] ["things", "rank", "signs"] (defScope sSbl) := ⟨rfl, rfl, rfl, by decide +kernel, rfl, by decide +kernel, by decide +kernel⟩
theorem scSin : FnScope ["by_lot", "row"] ["by_lot", "row"] (defScope sSin) := ⟨rfl, rfl, rfl, by decide +kernel, rfl, by decide +kernel, by decide +kernel⟩
theorem ps_no {X : Cx} {st : Stmt} : PS X st (fun _ _ _ => False) := ⟨fun _ _ _ _ _ _ h => h.elim⟩
def key (lot : List Nat) : List Key := lot.map fun n : Nat => .inl (n : Int)
theorem key_kV (lot : List Nat) : (key lot).map kV = lot.map fun n : Nat => V.int (n : Int) := by
  unfold key
  rw [List.map_map]
  rfl
theorem lots_get {H H' : Hp} : ∀ {cs : List (List Nat)} {ts : List Addr}, CB.LotsAt H H' cs ts → cs.length = ts.length ∧ ∀ (j : Nat) (t : Addr), ts[j]? = some t → ∃ c, cs[j]? = some c ∧ H' t = some (.tup (CB.lotV c))
  | [], [], _ => ⟨rfl, fun j t h => by simp at h⟩
  | c :: r, t :: ts, h => by
    obtain ⟨h1, _, h3⟩ := h
    obtain ⟨e, g⟩ := lots_get h3
    refine ⟨by rw [List.length_cons, List.length_cons, e], fun j u hu => ?_⟩
    cases j with
    | zero =>
      cases hu
      exact ⟨c, rfl, h1⟩
    | succ j => exact g j u hu
theorem key_inj {a b : List Nat} (h : key a = key b) : a = b := by
  unfold key at h
  exact List.map_inj_right (fun x y e => by injection e with e; omega) |>.mp h
theorem dc_lst {K : PySem.W.Frag} {a : Addr} {xs : List V} {g : TG} {tk tv : TE} {vs : List Nat} {σ : L2.St} {H1 : Hp} {D : Addr} {Qd : Hp → Prop} (Pv : Nat → Hp → Prop) (h0 : Pv 0 (upd H1 D (.dT []))) (hl : ∀ i H, i ≤ xs.length → Pv i H → SqL K H a xs)
    (hs : ∀ (i : Nat) (x : V) (H : Hp), xs[i]? = some x → Pv i H → g x (wipe σ vs) H fun σ2 H2 => wipe σ2 vs = wipe σ vs ∧
          tk σ2 H2 fun y H4 => tv σ2 H4 fun z H5 => ∃ b kvs k, y = .ref b ∧ H5 b = some (.tup (List.map kV k)) ∧ H5 D = some (.dT kvs) ∧ kvs.length < sizeLine ∧ Pv (i + 1) (upd H5 D (.dT (putK kvs k z))))
    (hd : ∀ H, Pv xs.length H → Qd H) : ∃ W : Nat → Nat → Hp → Prop, (∃ m, W 0 m (upd H1 D (.dT []))) ∧
    ∀ (i m : Nat) (H : Hp), W i m H →
      (Itl K a).stop i H ∧ Qd H ∨
      (Itl K a).go i H ∧ ∃ Nx : Hp → Prop, (∀ H', Nx H' → ∃ m', m' < m ∧ W (i + 1) m' H') ∧
        ∀ (x : V) (H' : Hp), (Itl K a).yld i H x H' → g x (wipe σ vs) H' fun σ2 H2 => wipe σ2 vs = wipe σ vs ∧
          tk σ2 H2 fun y H4 => tv σ2 H4 fun z H5 => ∃ b kvs k, y = .ref b ∧ H5 b = some (.tup (List.map kV k)) ∧ H5 D = some (.dT kvs) ∧ kvs.length < sizeLine ∧ Nx (upd H5 D (.dT (putK kvs k z))) := by
  refine ⟨fun i m H => m = xs.length - i ∧ i ≤ xs.length ∧ Pv i H, ⟨xs.length, by simp, Nat.zero_le _, h0⟩, ?_⟩
  rintro i m H ⟨rfl, hi, p⟩
  have q := hl i H hi p
  by_cases hlt : i < xs.length
  · refine .inr ⟨⟨xs, xs[i], q, List.getElem?_eq_getElem hlt⟩, Pv (i + 1), fun H' p' => ⟨xs.length - (i + 1), by omega, rfl, hlt, p'⟩, ?_⟩
    rintro v H' ⟨rfl, hx⟩
    exact hs i v _ (hx _ q) p
  · obtain rfl : i = xs.length := by omega
    exact .inl ⟨⟨xs, q, Nat.le_refl _⟩, hd H p⟩
section
variable {P : Program} {w : World} {K : PySem.W.Frag} {mg : Str → Option Value} {base : Heap}
def spChk : Sp := fun vs H Q E => ∃ n : Int, vs = [.int n] ∧ 0 ≤ n ∧ n ≤ 7 ∧ Q .non H
theorem ok_chk {f : Addr} {fd : FuncData} {k : Nat} (F : Fun K "_check_many" "_check_many" sChk f fd) (gM : ∃ u, mg "MOST" = some u ∧ RelV (.int 7) u) : FnOk P w K mg base CX0 (k + 1) f fd ["many"] spChk := by
  obtain ⟨u, gM, rM⟩ := gM
  refine F.ok scChk (fun vs H Q E ⟨n, e, _⟩ => by rw [e]; rfl) (fun cdv A outer s H vs Q E hr h => ⟨_, pss_cons (ps_if (pt_not (pt_chain op_le op_le pe_int (pv 0) (pe_glob rfl gM rM))) (pss_one ps_no) pss_nil) pss_nil, ?_⟩)
  obtain ⟨n, rfl, c0, c7, q⟩ := h
  exact ⟨_, rfl, 0, n, rfl, rfl, _, rfl, if_t (decide_eq_true c0) ⟨n, 7, rfl, rfl, _, rfl, if_f (by simp [c7]) q⟩⟩
def spLots : Sp := fun vs H Q E => ∃ a b : Nat, vs = [.int (a : Int), .int (b : Int)] ∧ a ≤ 7 ∧ b ≤ a ∧
  ∀ (l : Addr) (ts : List Addr) (H' : Hp), Same H H' → H l = none → H' l = some (.lst (ts.map V.ref)) → CB.LotsAt H H' (CB.combs a b) ts → Q (.ref l) H'
/-- the built-in names that lots uses -/
structure TxB (mg : Str → Option Value) : Prop where
  n1 : mg "list" = none
  n2 : mg "range" = none
  n3 : mg "int" = none
  gB : mg "combinations" = some (.type "itertools.combinations")
theorem ok_lots {f g : Addr} {fd gd : FuncData} {k : Nat} (F : Fun K "lots" "lots" sLots f fd) (B : TxB mg) (G : FnOk P w K mg base CX0 (k + 1) g gd ["many"] spChk) (gG : mg "_check_many" = some (.ref g)) (kG : PySem.W.keepIn K (.ref g) = true) (bG : Binds K gd ["many"] []) :
    FnOk P w K mg base CX0 (k + 2) f fd ["many", "size"] spLots := by
  refine F.ok scLots (fun vs H Q E ⟨a, b, e, _⟩ => by rw [e]; rfl) (fun cdv A outer s H vs Q E hr h => ⟨_, pss_cons (ps_expr (pe_call G hr (by rfl) gG kG bG .nil pass0 (pa_cons (pv 0) pa_nil)))
    (pss_cons (ps_if (pt_not (pt_chain op_le op_le pe_int (pv 1) (pv 0))) (pss_one ps_no) pss_nil)
    (pss_one (ps_ret (CB.pe_lots rfl rfl B.n1 rfl B.gB rfl B.n2 (pv 0) (pe_callTy call_int1 rfl B.n3 (by first | rfl | boot_by_name) (pa_cons (pv 1) pa_nil)))))), ?_⟩)
  obtain ⟨a, b, rfl, a7, ba, q⟩ := h
  refine ⟨_, rfl, a, rfl, by omega, by omega, ?_⟩
  refine ⟨_, rfl, 0, b, rfl, rfl, _, rfl, if_t (decide_eq_true (by omega)) ⟨_, rfl, b, a, rfl, rfl, _, rfl, if_f (by simp; omega) ?_⟩⟩
  exact ⟨_, rfl, a, rfl, by omega, _, rfl, .inl ⟨_, rfl, b, rfl, by omega, q⟩⟩
/-- the table as a dict -/
def tab (n r : Nat) (ss : List Int) : List (List Key × V) := List.zipWith (fun c s => (key c, V.int s)) (CB.combs n r) ss
theorem combs_nd : ((List.range 8).all fun n => (List.range (n + 1)).all fun r => decide (CB.combs n r).Nodup) = true := by decide +kernel
theorem combs_nodup {n r : Nat} (hn : n ≤ 7) (hr : r ≤ n) : (CB.combs n r).Nodup := by
  have h1 := List.all_eq_true.mp combs_nd n (List.mem_range.mpr (by omega))
  exact of_decide_eq_true (List.all_eq_true.mp h1 r (List.mem_range.mpr (by omega)))
theorem tab_len {n r : Nat} {ss : List Int} (h : ss.length = (CB.combs n r).length) : (tab n r ss).length = (CB.combs n r).length := by
  unfold tab
  rw [List.length_zipWith, h, Nat.min_self]
theorem tab_get {n r : Nat} {ss : List Int} {i : Nat} {c : List Nat} {s : Int} (h1 : (CB.combs n r)[i]? = some c) (h2 : ss[i]? = some s) : (tab n r ss)[i]? = some (key c, .int s) := by
  unfold tab
  rw [List.getElem?_zipWith, h1, h2]
def spSbl (K : PySem.W.Frag) : Sp := fun vs H Q _ => ∃ (n r : Nat) (a : Addr) (ss : List Int), vs = [.int (n : Int), .int (r : Int), .ref a] ∧ n ≤ 7 ∧ r ≤ n ∧ SqI K H a ss ∧ ss.length = (CB.combs n r).length ∧ ss.all isS = true ∧
  ∀ d H', Same H H' → H d = none → H' d = some (.dT (tab n r ss)) → Q (.ref d) H'
theorem combs_len : ((List.range 8).all fun n => (List.range (n + 1)).all fun r => decide ((CB.combs n r).length ≤ 35)) = true := by decide +kernel
theorem combs_35 {n r : Nat} (hn : n ≤ 7) (hr : r ≤ n) : (CB.combs n r).length ≤ 35 := by
  have h1 := List.all_eq_true.mp combs_len n (List.mem_range.mpr (by omega))
  exact of_decide_eq_true (List.all_eq_true.mp h1 r (List.mem_range.mpr (by omega)))
theorem ok_sbl {f fl fa : Addr} {fd dl da : FuncData} {k : Nat} (F : Fun K "signs_by_lot" "signs_by_lot" sSbl f fd) (ml : mg "len" = none) (mz : mg "zip" = none)
    (L : FnOk P w K mg base CX0 k fl dl ["many", "size"] spLots) (gL : mg "lots" = some (.ref fl)) (kL : PySem.W.keepIn K (.ref fl) = true) (bL : Binds K dl ["many", "size"] [])
    (R : FnOk P w K mg base CX0 k fa da ["row"] (spAre K)) (gR : mg "are_signs" = some (.ref fa)) (kR : PySem.W.keepIn K (.ref fa) = true) (bR : Binds K da ["row"] []) :
    FnOk P w K mg base CX0 (k + 1) f fd ["things", "rank", "signs"] (spSbl K) := by
  refine F.ok scSbl (fun vs H Q E ⟨n, r, a, ss, e, _⟩ => by rw [e]; rfl) (fun cdv A outer s H vs Q E hr h => ?_)
  have u0 : (A.deeper (envOfC "signs_by_lot" (defScope sSbl) s.heap.objs.size f cdv)).units < cLine := by
    have := hr.units
    omega
  obtain ⟨n, r, a, ss, rfl, n7, rn, hq, hl, ha, q⟩ := h
  refine ⟨_, pss_cons (ps_set (i := 3) scSbl.nd rfl (Or.inl rfl) (pe_call L hr (by rfl) gL kL bL .nil pass0 (pa_cons (pv 0) (pa_cons (pv 1) pa_nil))))
    (pss_cons (ps_if (pt_cmpR op_ne (pe_callB call_len_seq (by rfl) ml PySem.boot_len (pa_cons (pv 2) pa_nil)) (pe_callB call_len_seq (by rfl) ml PySem.boot_len (pa_cons (pv 3) pa_nil)) (nomark _)) (pss_one ps_no) pss_nil)
    (pss_cons (ps_if (pt_not (pt_val (pe_call R hr (by rfl) gR kR bR .nil pass0 (pa_cons (pv 2) pa_nil)))) (pss_one ps_no) pss_nil)
    (pss_one (ps_ret (DTC.pe_dcT (own := [("lot", 4), ("sign", 5)]) (g := gTup K 2 (gCons (gName 4) (gCons (gName 5) gNil))) u0 rfl scSbl.nd (ZM.pi_z (by rfl) mz (pa_cons (pv 3) (pa_cons (pv 2) pa_nil))) (blkOk_by (N := ["things", "rank", "signs", "all_lots", "lot", "sign"]) (sc := defScope sSbl) (by decide +kernel))
      (fun _ _ _ _ _ => pg_tup rfl (pgs_cons (pg_name (i := 4) scSbl.nd rfl (Or.inl rfl)) (pgs_cons (pg_name (i := 5) scSbl.nd rfl (Or.inl rfl)) pgs_nil))) (fun _ _ _ _ _ => pv 4) (fun _ _ _ _ _ => pv 5)))))), ?_⟩
  refine ⟨_, rfl, _, rfl, n, r, rfl, n7, rn, fun l ts H1 s1 nl hl1 LA => ?_⟩
  have hq' : SqL K H1 a (ss.map V.int) ∨ SqT K H1 a (ss.map V.int) := hq.same s1
  obtain ⟨lt, LG⟩ := lots_get LA
  refine ⟨_, rfl, a, _, rfl, hq', _, rfl, l, _, rfl, .inl (SqL.of hl1), rfl, _, rfl, if_f (by simp [hl, lt]) ?_⟩
  have c35 := combs_35 n7 rn
  refine ⟨_, rfl, a, ss, rfl, hq.same s1, by omega, fun H2 s2 => ⟨_, rfl, if_f (by rw [ha]; rfl) ?_⟩⟩
  obtain ⟨k2, e2, src2⟩ : ∃ k2 : ZM.Sk, k2.v = .ref a ∧ ZM.Src K H2 k2 (ss.map V.int) := by
    rcases hq.same (s1.trans s2) with h | h
    · exact ⟨.lst a, rfl, h⟩
    · exact ⟨.tup a, rfl, h⟩
  refine ⟨_, rfl, _, rfl, .lst l, k2, ts.map V.ref, ss.map V.int, by rw [e2]; rfl, SqL.of (s2 _ _ hl1), src2, fun D nD => DTC.dc_z (K := K) (k1 := .lst l) (k2 := k2) (xs := ts.map V.ref) (ys := ss.map V.int) (by simp [hl, lt])
    (fun i H => Same H2 H ∧ H D = some (.dT ((tab n r ss).take i))) ⟨same_new nD, upd_same⟩ (fun i H p => ⟨p.1.seq (SqL.of (s2 _ _ hl1)), ZM.src_same src2 p.1⟩) ?_ ?_⟩
  · rintro i x y T H3 hx hy ⟨sm, hD⟩ nT
    rw [List.getElem?_map] at hx hy
    obtain ⟨t, ht, rfl⟩ := Option.map_eq_some_iff.mp hx
    obtain ⟨v, hv, rfl⟩ := Option.map_eq_some_iff.mp hy
    obtain ⟨c, hc, htc⟩ := LG i t ht
    have g := tab_get (n := n) (r := r) hc hv
    have sT := same_new (o := .tup [V.ref t, V.int v]) nT
    refine ⟨T, _, rfl, SqT.of upd_same, rfl, _, _, rfl, _, _, rfl, rfl, rfl, _, rfl, _, rfl, t, (tab n r ss).take i, key c, rfl, by rw [key_kV]; exact sT _ _ (sm _ _ (s2 _ _ htc)), sT _ _ hD, ?_, ZM.sm_at nD (sm.trans sT), ?_⟩
    · rw [List.length_take, sizeLine_eq]
      have := tab_len hl
      omega
    · rw [upd_same, DTC.putK_new, List.take_add_one, g]
      · rfl
      · intro p hp e
        obtain ⟨j, hj⟩ := List.getElem?_of_mem hp
        have jl := (List.getElem?_eq_some_iff.mp hj).1
        rw [List.length_take] at jl
        rw [List.getElem?_take_of_lt (by omega)] at hj
        have j1 : j < (CB.combs n r).length := by have := tab_len hl; omega
        have hj2 := tab_get (n := n) (r := r) (List.getElem?_eq_getElem j1) (List.getElem?_eq_getElem (show j < ss.length by omega))
        rw [hj2] at hj
        have e1 : p.1 = key (CB.combs n r)[j] := by rw [← Option.some.inj hj]
        rw [e1] at e
        have e := key_inj e
        have := (List.getElem?_inj j1 (combs_nodup n7 rn)).mp (by rw [hc, List.getElem?_eq_getElem j1, e])
        omega
  · rintro H3 ⟨sm, hD⟩
    rw [List.length_map, ← lt, ← tab_len hl, List.take_length] at hD
    refine q D H3 (s1.trans (s2.trans sm)) ?_ hD
    cases e : H D with
    | none => rfl
    | some o => rw [s2 _ _ (s1 _ _ e)] at nD; cases nD
/-- rising ints -/
def keyI (ns : List Int) : List Key := ns.map fun n => .inl n
theorem keyI_kV (ns : List Int) : (keyI ns).map kV = ns.map V.int := by
  unfold keyI
  rw [List.map_map]
  rfl
theorem key_I (c : List Nat) : key c = keyI (c.map fun (n : Nat) => (n : Int)) := by
  unfold key keyI
  rw [List.map_map]
  rfl
/-- insertion -/
def ins (x : Int) : List Int → List Int
  | [] => [x]
  | y :: ys => if x ≤ y then x :: y :: ys else y :: ins x ys
def srt : List Int → List Int
  | [] => []
  | x :: xs => ins x (srt xs)
theorem ins_perm (x : Int) : ∀ ys : List Int, (ins x ys).Perm (x :: ys)
  | [] => .refl _
  | y :: ys => by
    unfold ins
    split
    · exact .refl _
    · exact ((ins_perm x ys).cons y).trans (.swap x y ys)
theorem srt_perm : ∀ xs : List Int, (srt xs).Perm xs
  | [] => .refl _
  | x :: xs => (ins_perm x _).trans ((srt_perm xs).cons x)
theorem ins_rise {x : Int} : ∀ {ys : List Int}, ys.Pairwise (· ≤ ·) → (ins x ys).Pairwise (· ≤ ·)
  | [], _ => by simp [ins]
  | y :: ys, h => by
    unfold ins
    rw [List.pairwise_cons] at h
    split
    · rename_i c
      rw [List.pairwise_cons, List.pairwise_cons]
      exact ⟨fun z hz => by
        rcases List.mem_cons.mp hz with e | e
        · rw [e]; exact c
        · exact Int.le_trans c (h.1 z e), h⟩
    · rename_i c
      rw [List.pairwise_cons]
      refine ⟨fun z hz => ?_, ins_rise h.2⟩
      rcases List.mem_cons.mp ((ins_perm x ys).mem_iff.mp hz) with e | e
      · rw [e]; omega
      · exact h.1 z e
theorem srt_rise : ∀ xs : List Int, (srt xs).Pairwise (· ≤ ·)
  | [] => .nil
  | x :: xs => ins_rise (srt_rise xs)
theorem rise_eq : ∀ {xs ys : List Int}, xs.Pairwise (· ≤ ·) → ys.Pairwise (· ≤ ·) → xs.Perm ys → xs = ys
  | xs, ys, h1, h2, p => p.eq_of_pairwise (fun a b _ _ h h' => Int.le_antisymm h h') h1 h2
theorem srt_is {ns ns' : List Int} (p : ns'.Perm ns) (h : ns'.Pairwise (· ≤ ·)) : ns' = srt ns := rise_eq h (srt_rise ns) (p.trans (srt_perm ns).symm)
def lookI (kvs : List (List Key × V)) (ns : List Int) : V := (valV kvs (keyI (srt ns))).getD (.int 0)
/-- the sign that a table tells for a row -/
def readI (g : List Int → Int) (ns : List Int) : Int := sg ns * g (srt ns)
def spSin (K : PySem.W.Frag) : Sp := fun vs H Q _ => ∃ (d a : Addr) (kvs : List (List Key × V)) (ns : List Int) (g : List Int → Int), vs = [.ref d, .ref a] ∧ H d = some (.dT kvs) ∧ SqI K H a ns ∧ ns.length < 64 ∧ (∀ ms, (valV kvs (keyI ms)).getD (.int 0) = .int (g ms)) ∧ ∀ H', Same H H' → Q (.int (readI g ns)) H'
theorem un_mul {a b : Int} (ha : a = 0 ∨ a = 1 ∨ a = -1) (hb : b = 0 ∨ b = 1 ∨ b = -1) : a * b = 0 ∨ a * b = 1 ∨ a * b = -1 := by
  rcases ha with rfl | rfl | rfl <;> rcases hb with rfl | rfl | rfl <;> simp
theorem s2_un (x y : Int) : s2 x y = 0 ∨ s2 x y = 1 ∨ s2 x y = -1 := by
  unfold s2
  by_cases h : x = y
  · exact .inl (if_pos h)
  · rw [if_neg h]
    by_cases g : y < x
    · exact .inr (.inr (if_pos g))
    · exact .inr (.inl (if_neg g))
theorem pr_un (x : Int) : ∀ ns : List Int, pr x ns = 0 ∨ pr x ns = 1 ∨ pr x ns = -1
  | [] => .inr (.inl rfl)
  | y :: r => un_mul (s2_un x y) (pr_un x r)
theorem sg_un : ∀ ns : List Int, sg ns = 0 ∨ sg ns = 1 ∨ sg ns = -1
  | [] => .inr (.inl rfl)
  | x :: r => un_mul (pr_un x r) (sg_un r)
theorem ok_sin {f fs : Addr} {fd ds : FuncData} {k : Nat} (F : Fun K "sign_in" "sign_in" sSin f fd) (mt : mg "tuple" = none) (ms : mg "sorted" = none)
    (S : FnOk P w K mg base CX0 k fs ds ["row"] (spSign K)) (gS : mg "order_sign" = some (.ref fs)) (kS : PySem.W.keepIn K (.ref fs) = true) (bS : Binds K ds ["row"] []) :
    FnOk P w K mg base CX0 (k + 1) f fd ["by_lot", "row"] (spSin K) := by
  refine F.ok scSin (fun vs H Q E ⟨d, a, kvs, ns, g, e, _⟩ => by rw [e]; rfl) (fun cdv A outer s H vs Q E hr h => ?_)
  have u1 : (A.deeper (envOfC "sign_in" (defScope sSin) s.heap.objs.size f cdv)).units + 1 < cLine := by
    have := hr.units
    omega
  obtain ⟨d, a, kvs, ns, g, rfl, hd, hq, l64, hg, q⟩ := h
  refine ⟨_, pss_one (ps_ret (pe_op op_mul (pe_call S hr (by rfl) gS kS bS .nil pass0 (pa_cons (pv 1) pa_nil)) (pe_dget2 u1 (pv 0) (pe_callTy call_tuple_of (by rfl) mt (by decide +kernel) (pa_cons (pe_callB SRT.cr_sort (by rfl) ms (by decide +kernel) (pa_cons (pv 1) pa_nil)) pa_nil)) pe_int ⟨rfl, rfl, rfl, rfl⟩))), ?_⟩
  refine ⟨_, rfl, a, ns, rfl, hq, by omega, fun H1 s1 => ?_⟩
  have hq1 : SqL K H1 a (ns.map V.int) ∨ SqT K H1 a (ns.map V.int) := hq.same s1
  refine ⟨_, rfl, d, rfl, .inr ⟨kvs, .inl (s1 _ _ hd)⟩, _, rfl, a, ns, rfl, hq1, l64, fun ns' p hp hr' np => ?_⟩
  obtain rfl := srt_is hp hr'
  have s2 := same_new (o := .lst ((srt ns).map V.int)) np
  refine ⟨p, _, rfl, .inl ⟨SqL.of upd_same, fun t nt => ?_⟩⟩
  have s3 := same_new (o := .tup ((srt ns).map V.int)) nt
  refine ⟨valV kvs (keyI (srt ns)), .inr ⟨kvs, keyI (srt ns), t, .inl (s3 _ _ (s2 _ _ (s1 _ _ hd))), rfl, by rw [upd_same, keyI_kV], rfl⟩, ?_⟩
  rw [hg]
  refine ⟨_, _, rfl, rfl, .inl ?_, q _ (s1.trans (s2.trans s3))⟩
  rcases sg_un ns with e | e | e <;> rw [e] <;> omega
end
end K14

set_option maxHeartbeats 2000000
/-! The law's own sign of an order. -/
namespace K14
open PySem PySem.Spec PyProof.Rows L2
abbrev sLOrd : Stmt := topS 42
theorem scLOrd : FnScope ["_law_row_here", "_law_found", "_law_k", "_law_j"] ["_law_row_here"] (defScope sLOrd) := ⟨rfl, rfl, rfl, by decide +kernel, rfl, by decide +kernel, by decide +kernel⟩
def spLOrd (K : PySem.W.Frag) : Sp := fun vs H Q _ => ∃ (a : Addr) (ns : List Int), vs = [.ref a] ∧ SqI K H a ns ∧ ns.length ≤ 1000 ∧ Q (.int (sg ns)) H
theorem ixI {K : PySem.W.Frag} {H : Hp} {a : Addr} {ns : List Int} {z : Int} {j : Nat} {Q : VK} (hq : SqI K H a ns) (ez : z = (j : Int)) (hj : j < ns.length) (q : Q (.int ns[j]) H) : rIx K (.ref a) (.int z) H Q := by
  have e : (ns.map V.int)[j]? = some (.int ns[j]) := by rw [List.getElem?_map, List.getElem?_eq_getElem hj]; rfl
  rcases hq with h | h
  · exact .inl ⟨a, _, _, _, rfl, rfl, h, at_of ez e, q⟩
  · exact .inr (.inl ⟨a, _, _, _, rfl, rfl, h, at_of ez e, q⟩)
section
variable {P : Program} {w : World} {K : PySem.W.Frag} {mg : Str → Option Value} {base : Heap}
theorem ok_lord {f : Addr} {fd : FuncData} {k : Nat} (F : Fun K "_law_order" "_law_order" sLOrd f fd) (mr : mg "range" = none) (ml : mg "len" = none) : FnOk P w K mg base CX0 (k + 1) f fd ["_law_row_here"] (spLOrd K) := by
  refine F.ok scLOrd (fun vs H Q E h => ?_) (fun cdv A outer s H vs Q E hr h => ?_)
  · obtain ⟨a, ns, rfl, _⟩ := h
    rfl
  · obtain ⟨a, ns, rfl, hS, hlen, q⟩ := h
    have hS' : SqL K H a (ns.map V.int) ∨ SqT K H a (ns.map V.int) := hS
    refine ⟨_, pss_cons (ps_set (i := 1) scLOrd.nd rfl (Or.inl rfl) pe_int)
      (pss_cons (ps_for PassesOwn.never rfl (pi_range1 (by rfl) mr (pa_cons (pe_callB call_len_seq (by rfl) ml PySem.boot_len (pa_cons (pv 0) pa_nil)) pa_nil)) (pg_name (i := 2) scLOrd.nd rfl (Or.inl rfl))
        (pss_one (ps_for PassesOwn.never rfl (pi_range1 (by rfl) mr (pa_cons (pv 2) pa_nil)) (pg_name (i := 3) scLOrd.nd rfl (Or.inl rfl))
          (pss_cons (ps_if (pt_cmpR op_eq (pe_ix (r := rIx K) ix_seq (pv 0) (pv 3) (fun _ _ => rfl)) (pe_ix (r := rIx K) ix_seq (pv 0) (pv 2) (fun _ _ => rfl)) (nomark _)) (pss_one (ps_ret pe_int)) pss_nil)
            (pss_one (ps_if (pt_cmpR op_gt (pe_ix (r := rIx K) ix_seq (pv 0) (pv 3) (fun _ _ => rfl)) (pe_ix (r := rIx K) ix_seq (pv 0) (pv 2) (fun _ _ => rfl)) (nomark _)) (pss_one (ps_set (i := 1) scLOrd.nd rfl (Or.inl rfl) (pe_op op_sub pe_int (pv 1)))) pss_nil))))))
      (pss_one (ps_ret (pv 1)))), ?_⟩
    have itemAt : ∀ {j : Nat} (hj : j < ns.length), (ns.map V.int)[j]? = some (.int ns[j]) := fun {j} hj => by
      rw [List.getElem?_map, List.getElem?_eq_getElem hj]
      rfl
    have lenS : ((ns.map V.int).length : Int) = (ns.length : Int) := by rw [List.length_map]
    refine ⟨_, rfl, a, _, rfl, hS', ((ns.map V.int).length : Int), rfl, by omega, by omega, ?_⟩
    refine for_range (lo := 0) (n := (ns.map V.int).length) (fun i σ H' => ∃ z x2 x3, σ = [some (.ref a), some (.int z), x2, x3] ∧ H' = H ∧ z = sg (ns.take i)) ⟨1, none, none, rfl, rfl, rfl⟩ ?_ ?_
    · rintro i σ H1 hi ⟨z, x2, x3, rfl, rfl, rfl⟩
      have hin : i < ns.length := by rw [List.length_map] at hi; exact hi
      have et : ns.take (i + 1) = ns.take i ++ [ns[i]] := by rw [List.take_add_one, List.getElem?_eq_getElem hin]; rfl
      refine ⟨_, rfl, (0 + (i : Int)), rfl, by omega, by omega, ?_⟩
      refine for_range (lo := 0) (n := (0 + (i : Int)).toNat) (fun j σ H' => ∃ z x3, σ = [some (.ref a), some (.int z), some (.int (0 + (i : Int))), x3] ∧ H' = H1 ∧ sg (ns.take (i + 1)) = z * qr ns[i] ((ns.take i).drop j)) ⟨_, x3, rfl, rfl, by rw [et, sg_snoc, List.drop_zero]⟩ ?_ ?_
      · rintro j σ H' hj ⟨z, x3, rfl, rfl, e⟩
        have hji : j < i := by omega
        have hjn : j < ns.length := by omega
        have hu : (ns.take i)[j]? = some ns[j] := by
          rw [List.getElem?_take, if_pos hji, List.getElem?_eq_getElem hjn]
        rw [drop_at hu, qr] at e
        refine ⟨_, rfl, _, rfl, ixI hS (Int.zero_add _) hjn ⟨_, rfl, _, rfl, ixI hS (Int.zero_add _) hin ⟨rfl, _, rfl, ite2 (fun c => ?_) (fun c => ?_)⟩⟩⟩
        · have euv : ns[j] = ns[i] := V.int.inj (of_decide_eq_true c)
          have e0 : sg ns = 0 := sg_take0 (m := i + 1) (by rw [e, euv, s2_eq, Int.zero_mul, Int.mul_zero])
          rw [e0] at q
          exact q
        · have nuv : ¬ ns[j] = ns[i] := fun z => c (decide_eq_true (by rw [z]))
          refine ⟨_, rfl, _, rfl, ixI hS (Int.zero_add _) hjn ⟨_, rfl, _, rfl, ixI hS (Int.zero_add _) hin ⟨_, _, rfl, rfl, _, rfl, ite2 (fun c2 => ?_) (fun c2 => ?_)⟩⟩⟩
          · have l := of_decide_eq_true c2
            refine ⟨_, rfl, _, _, rfl, rfl, 0 - z, _, rfl, rfl, ?_⟩
            rw [e, s2_lt l]
            grind
          · have l : ¬ ns[i] < ns[j] := fun z => c2 (decide_eq_true z)
            refine ⟨z, _, rfl, rfl, ?_⟩
            rw [e, s2_gt (by omega), Int.one_mul]
      · rintro σ H' ⟨z, x3, rfl, rfl, e⟩
        refine ⟨z, _, _, rfl, rfl, ?_⟩
        rw [List.drop_of_length_le (by rw [List.length_take]; omega), qr, Int.mul_one] at e
        exact e.symm
    · rintro σ H1 ⟨z, x2, x3, rfl, rfl, rfl⟩
      refine ⟨_, rfl, ?_⟩
      rw [List.length_map, List.take_length]
      exact q
end
end K14

set_option maxHeartbeats 2000000
/-! comprehensions with a test, over a list, a tuple, a range -/
namespace ZM
open PySem PySem.Spec PyProof.Rows L2
section
variable {K : PySem.W.Frag} {te : TE} {tt : TT} {vs : List Nat} {σ : L2.St} {H H1 : Hp} {Q : VK} {xs : List V} {a : Addr} {j : Nat}
theorem fil_next {α : Type} {xs : List α} {i : Nat} {x : α} (p : α → Bool) (f : α → V) (h : xs[i]? = some x) : ((xs.take (i + 1)).filter p).map f = if p x = true then ((xs.take i).filter p).map f ++ [f x] else ((xs.take i).filter p).map f := by
  rw [List.take_add_one, h]
  show ((xs.take i ++ [x]).filter p).map f = _
  rw [List.filter_append, List.map_append]
  by_cases c : p x = true
  · rw [if_pos c, List.filter_cons, if_pos c]; rfl
  · rw [if_neg c, List.filter_cons, if_neg c]; simp
theorem fil_turn {α : Type} {xs : List α} (p : α → Bool) (f : α → V) (z : xs.length ≤ 1000000) {D : Addr} {i : Nat} {x : α} {σ0 : L2.St} {H : Hp} (nD : H1 D = none) (hx : xs[i]? = some x) (sm : Same H1 H) (hD : H D = some (.lst (((xs.take i).filter p).map f)))
    (ht : ∀ (R : Bool → Hp → Prop), (∀ H4, Same H H4 → R (p x) H4) → tt σ0 H R) (hs : ∀ (H : Hp) (R : VK), p x = true → Same H1 H → (∀ H4, Same H H4 → R (f x) H4) → te σ0 H R) :
    tt σ0 H fun b H3 => if b = true then te σ0 H3 fun y H4 => ∃ acc, H4 D = some (.lst acc) ∧ acc.length < sizeLine ∧ (Same H1 (upd H4 D (.lst (acc ++ [y]))) ∧ (upd H4 D (.lst (acc ++ [y]))) D = some (.lst (((xs.take (i + 1)).filter p).map f))) else (Same H1 H3 ∧ H3 D = some (.lst (((xs.take (i + 1)).filter p).map f))) := by
  refine ht _ fun H3 s3 => ?_
  rw [fil_next p f hx]
  by_cases c : p x = true
  · rw [if_pos c, if_pos c]
    refine hs H3 _ c (sm.trans s3) fun H4 s4 => ⟨_, s4 _ _ (s3 _ _ hD), ?_, sm_at nD (sm.trans (s3.trans s4)), upd_same⟩
    have := (List.getElem?_eq_some_iff.mp hx).1
    have h2 := List.length_filter_le p (xs.take i)
    rw [List.length_take] at h2
    rw [List.length_map, sizeLine_eq]
    omega
  · rw [if_neg c, if_neg c]
    exact ⟨sm.trans s3, s3 _ _ hD⟩
theorem lcf_sq (p : V → Bool) (f : V → V) {t0 : TE} (h0 : ∀ R : VK, R (.ref a) H1 → t0 σ H R) (hq : SqL K H1 a xs ∨ SqT K H1 a xs) (z : xs.length ≤ 1000000) (hw : ∀ x, wipe ((wipe σ vs).set j (some x)) vs = wipe σ vs)
    (ht : ∀ (i : Nat) (x : V) (H : Hp) (R : Bool → Hp → Prop), xs[i]? = some x → Same H1 H → (∀ H4, Same H H4 → R (p x) H4) → tt ((wipe σ vs).set j (some x)) H R)
    (hs : ∀ (i : Nat) (x : V) (H : Hp) (R : VK), xs[i]? = some x → p x = true → Same H1 H → (∀ H4, Same H H4 → R (f x) H4) → te ((wipe σ vs).set j (some x)) H R) (hd : ∀ D H, Same H1 H → H1 D = none → H D = some (.lst ((xs.filter p).map f)) → Q (.ref D) H) :
    Bx (tLc (iSq K t0) (gName j) tt te vs) σ H Q := ⟨h0 _ ⟨a, xs, rfl, by
  have turn : ∀ (D : Addr), H1 D = none → ∀ (i : Nat) (x : V) (H : Hp), xs[i]? = some x → (Same H1 H ∧ H D = some (.lst (((xs.take i).filter p).map f))) → (gName j) x (wipe σ vs) H fun σ2 H2 => wipe σ2 vs = wipe σ vs ∧ tt σ2 H2 fun b H3 =>
      if b = true then te σ2 H3 fun y H4 => ∃ acc, H4 D = some (.lst acc) ∧ acc.length < sizeLine ∧ (Same H1 (upd H4 D (.lst (acc ++ [y]))) ∧ (upd H4 D (.lst (acc ++ [y]))) D = some (.lst (((xs.take (i + 1)).filter p).map f))) else (Same H1 H3 ∧ H3 D = some (.lst (((xs.take (i + 1)).filter p).map f))) :=
    fun D nD i x H hx ⟨sm, hD⟩ => ⟨hw x, fil_turn p f z nD hx sm hD (fun R k => ht i x H R hx sm k) (fun H4 R c s4 k => hs i x H4 R hx c s4 k)⟩
  have fin : ∀ D H, H1 D = none → (Same H1 H ∧ H D = some (.lst (((xs.take xs.length).filter p).map f))) → Q (.ref D) H := fun D H nD h => hd D H h.1 nD (by rw [h.2, List.take_length])
  rcases hq with hq | hq
  · exact .inl ⟨hq, fun D nD => lc_list (K := K) (a := a) (xs := xs) (fun i H => Same H1 H ∧ H D = some (.lst (((xs.take i).filter p).map f))) ⟨sm_new nD, upd_same⟩ (fun i H _ p => p.1.seq hq) (turn D nD) (fun H p => fin D H nD p)⟩
  · exact .inr ⟨hq, fun D nD => lc_tup (K := K) (a := a) (xs := xs) (fun i H => Same H1 H ∧ H D = some (.lst (((xs.take i).filter p).map f))) ⟨sm_new nD, upd_same⟩ (fun i H _ p => sqT_sm p.1 hq) (turn D nD) (fun H p => fin D H nD p)⟩⟩⟩
theorem lcf_rng (p : Nat → Bool) (f : Nat → V) {ta : TA} {n : Nat} (h0 : ∀ R : List V → Hp → Prop, R [.int (n : Int)] H1 → ta σ H R) (hn : n ≤ 1000000) (hw : ∀ x, wipe ((wipe σ vs).set j (some x)) vs = wipe σ vs)
    (ht : ∀ (i : Nat) (H : Hp) (R : Bool → Hp → Prop), i < n → Same H1 H → (∀ H4, Same H H4 → R (p i) H4) → tt ((wipe σ vs).set j (some (.int (0 + (i : Int))))) H R)
    (hs : ∀ (i : Nat) (H : Hp) (R : VK), i < n → p i = true → Same H1 H → (∀ H4, Same H H4 → R (f i) H4) → te ((wipe σ vs).set j (some (.int (0 + (i : Int))))) H R) (hd : ∀ D H, Same H1 H → H1 D = none → H D = some (.lst (((List.range n).filter p).map f)) → Q (.ref D) H) :
    Bx (tLc (iRng1 ta) (gName j) tt te vs) σ H Q := ⟨h0 _ ⟨n, rfl, by omega, by omega, by
  rw [Int.toNat_natCast]
  refine fun D nD => lc_range (lo := 0) (n := n) (fun i H => Same H1 H ∧ H D = some (.lst ((((List.range n).take i).filter p).map f))) ⟨sm_new nD, upd_same⟩ (fun i H hi ⟨sm, hD⟩ => ?_) (fun H h => hd D H h.1 nD (by
    have : (List.range n).take n = List.range n := List.take_of_length_le (by simp)
    rw [h.2, this]))
  have hx : (List.range n)[i]? = some i := List.getElem?_range hi
  exact ⟨hw _, fil_turn (tt := tt) (te := te) p f (by simp; omega) nD hx sm hD (fun R k => ht i H R hi sm k) (fun H4 R c s4 k => hs i H4 R hi c s4 k)⟩⟩⟩
end
end ZM

set_option maxHeartbeats 8000000
/-! The exchange of bases. -/
namespace K14
open PySem PySem.Spec PyProof.Rows L2
abbrev sEx : Stmt := topS 31
abbrev nEx : List Str := ["things", "bases", "known", "one", "thing", "other", "rest", "into", "base", "new"]
theorem scEx : FnScope nEx ["things", "bases"] (defScope sEx) := ⟨rfl, rfl, rfl, by decide +kernel, rfl, by decide +kernel, by decide +kernel⟩
def rTupO (K : PySem.W.Frag) : List V → Hp → VK → Prop := fun xs H Q => ∃ p ys, xs = [V.ref p] ∧ ((SqL K H p ys ∧ ∀ l, H l = none → Q (.ref l) (upd H l (.tup ys))) ∨ (SqT K H p ys ∧ Q (.ref p) H))
def ci (c : List Nat) : List Int := c.map fun (n : Nat) => (n : Int)
theorem lotV_ci (c : List Nat) : CB.lotV c = (ci c).map V.int := by simp [CB.lotV, ci]
theorem ci_inj {a b : List Nat} (h : ci a = ci b) : a = b := by
  unfold ci at h
  exact List.map_inj_right (fun x y e => by omega) |>.mp h
theorem inV_lot (m : Nat) : ∀ c : List Nat, inV (.int (m : Int)) (CB.lotV c) = c.contains m
  | [] => rfl
  | x :: c => by
    have h := inV_lot m c
    show (eqV (.int (x : Int)) (.int (m : Int)) || inV (.int (m : Int)) (CB.lotV c)) = _
    rw [h, List.contains_cons]
    congr 1
    show ((x : Int) == (m : Int)) = (m == x)
    rw [Bool.eq_iff_iff]
    simp
    omega
theorem valV_some {kvs : List (List Key × V)} {k : List Key} : (valV kvs k).isSome = kvs.any fun p => decide (p.1 = k) := by
  unfold valV
  rw [Option.isSome_map, List.isSome_find?]
def knV (bases : List (List Nat)) : List (List Key × V) := bases.map fun c => (key c, V.bl true)
theorem kn_has (bases : List (List Nat)) (ms : List Int) : (valV (knV bases) (keyI ms)).isSome = (bases.map ci).contains ms := by
  unfold knV
  rw [valV_some, List.any_map]
  induction bases with
  | nil => rfl
  | cons c r ih =>
    rw [List.any_cons, List.map_cons, List.contains_cons, ih]
    congr 1
    show decide (key c = keyI ms) = _
    rw [key_I]
    by_cases e : ci c = ms
    · subst e; simp [ci]
    · have h1 : ¬ keyI (c.map fun (n : Nat) => (n : Int)) = keyI ms := fun h => e (by
        unfold keyI at h
        exact List.map_inj_right (fun x y e => by injection e) |>.mp h)
      rw [decide_eq_false h1]
      symm
      exact beq_eq_false_iff_ne.mpr (Ne.symm e)
theorem fil_lot (p : V → Bool) (q : Nat → Bool) (h : ∀ n : Nat, p (.int (n : Int)) = q n) (c : List Nat) : ((CB.lotV c).filter p).map (fun v => v) = CB.lotV (c.filter q) := by
  rw [List.map_id']
  induction c with
  | nil => rfl
  | cons x c ih =>
    show ((V.int (x : Int)) :: CB.lotV c).filter p = _
    rw [List.filter_cons, List.filter_cons, h, ih]
    cases q x <;> rfl
theorem flat_lot (c : List Nat) : (CB.lotV c).all flatV = true := by
  rw [List.all_eq_true]
  intro v hv
  obtain ⟨n, _, rfl⟩ := List.mem_map.mp hv
  rfl
theorem fs_cons {α β : Type} (f : α → Option β) (x : α) (xs : List α) : (x :: xs).findSome? f = (f x).or (xs.findSome? f) := by
  rw [List.findSome?_cons]
  cases f x <;> rfl
theorem drop_atA {α : Type} {xs : List α} {i : Nat} {x : α} (h : xs[i]? = some x) : xs.drop i = x :: xs.drop (i + 1) := by
  obtain ⟨hi, rfl⟩ := List.getElem?_eq_some_iff.mp h
  exact List.drop_eq_getElem_cons hi
theorem get_lot {c : List Nat} {j : Nat} {x : V} (h : (CB.lotV c)[j]? = some x) : ∃ t : Nat, x = .int (t : Int) ∧ c[j]? = some t := by
  rw [CB.lotV, List.getElem?_map] at h
  obtain ⟨t, ht, rfl⟩ := Option.map_eq_some_iff.mp h
  exact ⟨t, rfl, ht⟩
/-- what may come in for thing t of one -/
def intoF (n : Nat) (bases : List (List Nat)) (one : List Nat) (t : Nat) : List Nat := (List.range n).filter fun w => !one.contains w && (bases.map ci).contains (srt (ci (one.filter fun x => x != t) ++ [(w : Int)]))
def badF (n : Nat) (bases : List (List Nat)) (one : List Nat) (t : Nat) (other : List Nat) : Bool := !other.contains t && !(intoF n bases one t).any fun w => other.contains w
def exF (n : Nat) (bases : List (List Nat)) : Option (List Nat × List Nat × Nat) := bases.findSome? fun one => one.findSome? fun t => (bases.find? fun other => badF n bases one t other).map fun other => (one, other, t)
/-- lots in a list -/
structure BsAt (H : Hp) (b : Addr) (ts : List Addr) (bases : List (List Nat)) : Prop where
  d : H b = some (.lst (ts.map V.ref))
  l : ts.length = bases.length
  t : ∀ (i : Nat) (t : Addr) (c : List Nat), ts[i]? = some t → bases[i]? = some c → H t = some (.tup (CB.lotV c))
theorem BsAt.same {H H' : Hp} {b : Addr} {ts : List Addr} {bases : List (List Nat)} (h : BsAt H b ts bases) (s : Same H H') : BsAt H' b ts bases := ⟨s _ _ h.d, h.l, fun i t c e1 e2 => s _ _ (h.t i t c e1 e2)⟩
def spEx : Sp := fun vs H Q _ => ∃ (n : Nat) (b : Addr) (ts : List Addr) (bases : List (List Nat)), vs = [.int (n : Int), .ref b] ∧ n ≤ 7 ∧ BsAt H b ts bases ∧ bases.length ≤ 35 ∧ bases.Nodup ∧ (∀ c ∈ bases, c.length ≤ 7) ∧
  (exF n bases = none → ∀ H', Same H H' → Q .non H') ∧ (∀ one other t, exF n bases = some (one, other, t) → ∀ T a1 a2 H', Same H H' → H T = none → H' T = some (.tup [.str "exchange", .ref a1, .ref a2, .int (t : Int)]) → H' a1 = some (.tup (CB.lotV one)) → H' a2 = some (.tup (CB.lotV other)) → Q (.ref T) H')
section
variable {P : Program} {w : World} {K : PySem.W.Frag} {mg : Str → Option Value} {base : Heap}
theorem ok_ex {f : Addr} {fd : FuncData} {k : Nat} (F : Fun K "_exchange_fault" "_exchange_fault" sEx f fd) (mr : mg "range" = none) (ma : mg "any" = none) (mt : mg "tuple" = none) (ms : mg "sorted" = none) : FnOk P w K mg base CX0 (k + 1) f fd ["things", "bases"] spEx := by
  refine F.ok scEx (fun vs H Q E ⟨n, b, ts, bases, e, _⟩ => by rw [e]; rfl) (fun cdv A outer s H vs Q E hr h => ?_)
  have u1 : (A.deeper (envOfC "_exchange_fault" (defScope sEx) s.heap.objs.size f cdv)).units + 1 < cLine := by
    have := hr.units
    omega
  have u0 := Nat.lt_of_succ_lt u1
  refine ⟨_, pss_cons (ps_set (i := 2) scEx.nd rfl (Or.inr rfl) (DTC.pe_dcT (own := [("base", 8)]) (g := gName 8) u0 rfl scEx.nd (pi_list (pv 1)) (blkOk_by (N := nEx) (sc := defScope sEx) (by decide +kernel))
      (fun _ _ _ _ _ => pg_name (i := 8) scEx.nd rfl (Or.inl rfl)) (fun _ _ _ _ _ => pv 8) (fun _ _ _ _ _ => pe_bl)))
    (pss_cons (ps_for PassesOwn.never rfl (pi_list (pv 1)) (pg_name (i := 3) scEx.nd rfl (Or.inr rfl))
      (pss_one (ps_for PassesOwn.never rfl (ZM.pi_sq (pv 3)) (pg_name (i := 4) scEx.nd rfl (Or.inr rfl))
        (pss_cons (ps_set (i := 6) scEx.nd rfl (Or.inr rfl) (ZM.pe_bx (pe_lc (own := [("other", 5)]) (g := gName 5) rfl scEx.nd (ZM.pi_sq (pv 3)) (blkOk_by (N := nEx) (sc := defScope sEx) (by decide +kernel))
            (fun _ _ _ _ _ => pg_name (i := 5) scEx.nd rfl (Or.inl rfl)) (fun _ _ _ _ _ => pts_one (pt_cmpR op_ne (pv 5) (pv 4) (nomark _))) (fun _ _ _ _ _ => pv 5))))
        (pss_cons (ZM.ps_bx (ps_setLc (i := 7) (own := [("new", 9)]) (g := gName 9) rfl scEx.nd rfl rfl (sw_true rfl rfl rfl (by decide +kernel)) (pi_range1 (by rfl) mr (pa_cons (pv 0) pa_nil)) (blkOk_by (N := nEx) (sc := defScope sEx) (by decide +kernel))
            (fun _ _ _ _ _ => pg_name (i := 9) scEx.nd rfl (Or.inl rfl))
            (fun _ _ _ _ _ => pts_one (by exact PW.pt (pw_and (pt_cmpR (r := rIn K true) op_notIn_seq (pv 9) (pv 3) (by with_unfolding_all rfl)) (pw_and1 (pt_cmp (pc_din u1 (pe_callTy (r := rTupO K) call_tuple_of (by rfl) mt (by decide +kernel) (pa_cons (pe_callB (r := SRT.rSort K) SRT.cr_sort (by rfl) ms (by decide +kernel) (pa_cons (pe_lst (t := StX.tStar K (tVar 6) (tCons (tVar 9) tNil)) (StX.pa_star (pv 6) (pa_cons (pv 9) pa_nil))) pa_nil)) pa_nil)) (pv 2)))))))
            (fun _ _ _ _ _ => pv 9)))
        (pss_one (ps_for PassesOwn.never rfl (pi_list (pv 1)) (pg_name (i := 5) scEx.nd rfl (Or.inr rfl))
          (pss_one (ps_if (PW.pt (pw_and (pt_cmpR op_notIn_seq (pv 4) (pv 5) (by with_unfolding_all rfl)) (pw_and1 (pt_not (pt_val (pe_callB (cr_any rfl) (by rfl) ma (by decide +kernel) (pa_cons
              (ZM.pe_bx (pe_lc (own := [("new", 9)]) (g := gName 9) (tt := tYes) rfl scEx.nd (ZM.pi_sq (pv 7)) (blkOk_by (N := nEx) (sc := defScope sEx) (by decide +kernel))
                (fun _ _ _ _ _ => pg_name (i := 9) scEx.nd rfl (Or.inl rfl)) (fun _ _ _ _ _ => pts_nil) (fun _ _ _ _ _ => pe_cmpR (r := rIn K false) op_in_seq (pv 9) (pv 5) (by with_unfolding_all rfl)))) pa_nil)))))))
            (pss_one (ps_ret (pe_tup (pa_cons pe_str (pa_cons (pv 3) (pa_cons (pv 5) (pa_cons (pv 4) pa_nil))))))) pss_nil)))))))))
    (pss_one (ps_ret pe_non))), ?_⟩
  obtain ⟨n, b, ts, bases, rfl, n7, hB, b35, nd, l7, q0, q1⟩ := h
  have qB := hB.d
  have hBn := hB.l
  have fresh : ∀ {H' : Hp} {a : Addr}, Same H H' → H' a = none → H a = none := fun {H' a} sm e => by
    cases c : H a with
    | none => rfl
    | some o => rw [sm _ _ c] at e; cases e
  refine ⟨_, rfl, b, rfl, ⟨_, SqL.of qB⟩, fun D nD => DTC.dc_lst (K := K) (fun i H1 => Same H H1 ∧ H1 D = some (.dT ((knV bases).take i))) ⟨same_new nD, upd_same⟩ (fun i H1 _ p => p.1.seq (SqL.of qB)) ?_ ?_⟩
  · rintro i x H1 hx ⟨sm, hD⟩
    rw [List.getElem?_map] at hx
    obtain ⟨t, ht, rfl⟩ := Option.map_eq_some_iff.mp hx
    have il : i < bases.length := by have := (List.getElem?_eq_some_iff.mp ht).1; omega
    have htc := hB.t i t _ ht (List.getElem?_eq_getElem il)
    refine ⟨rfl, _, rfl, t, (knV bases).take i, key bases[i], rfl, by rw [key_kV]; exact sm _ _ htc, hD, ?_, ZM.sm_at nD sm, ?_⟩
    · rw [List.length_take, sizeLine_eq]
      unfold knV
      rw [List.length_map]
      omega
    · rw [upd_same, DTC.putK_new, List.take_add_one]
      · unfold knV
        rw [List.getElem?_map, List.getElem?_eq_getElem il]
        rfl
      · intro p hp e
        obtain ⟨j, hj⟩ := List.getElem?_of_mem hp
        have jl := (List.getElem?_eq_some_iff.mp hj).1
        rw [List.length_take] at jl
        rw [List.getElem?_take_of_lt (by omega)] at hj
        have j1 : j < bases.length := by omega
        unfold knV at hj
        rw [List.getElem?_map, List.getElem?_eq_getElem j1] at hj
        have e1 : p.1 = key bases[j] := by rw [← Option.some.inj hj]
        rw [e1] at e
        have e := key_inj e
        have : j = i := (List.getElem?_inj j1 nd).mp (by rw [List.getElem?_eq_getElem j1, e, List.getElem?_eq_getElem il])
        omega
  rintro H1 ⟨sm1, hD⟩
  rw [List.length_map, hBn, show bases.length = (knV bases).length by simp [knV], List.take_length] at hD
  have hB1 := hB.same sm1
  refine ⟨_, rfl, b, rfl, ⟨_, SqL.of hB1.d⟩, for_list (K := K) (a := b) (fun i σ H' => ∃ x3 x4 x5 x6 x7 x8 x9, σ = [some (.int (n : Int)), some (.ref b), some (.ref D), x3, x4, x5, x6, x7, x8, x9] ∧ Same H1 H' ∧ exF n bases = (bases.drop i).findSome? fun one => one.findSome? fun t => (bases.find? fun other => badF n bases one t other).map fun other => (one, other, t))
    ⟨_, _, _, _, _, _, _, rfl, Same.refl _, rfl⟩ (fun i σ H' _ ⟨_, _, _, _, _, _, _, _, sm, _⟩ => sm.seq (SqL.of hB1.d)) ?_ ?_⟩
  · rintro i x σ H2 hx ⟨x3, x4, x5, x6, x7, x8, x9, rfl, sm2, eF⟩
    rw [List.getElem?_map] at hx
    obtain ⟨ta, ht, rfl⟩ := Option.map_eq_some_iff.mp hx
    have il : i < bases.length := by have := (List.getElem?_eq_some_iff.mp ht).1; omega
    have hta := hB1.t i ta _ ht (List.getElem?_eq_getElem il)
    generalize eone : bases[i] = one at *
    have hone : bases[i]? = some one := by rw [List.getElem?_eq_getElem il, eone]
    have one7 : one.length ≤ 7 := l7 one (List.mem_of_getElem? hone)
    rw [drop_atA hone, fs_cons] at eF
    refine ⟨_, rfl, ta, CB.lotV one, rfl, ZM.for_sq (K := K) (a := ta) (xs := CB.lotV one) (.inr (SqT.of (sm2 _ _ hta))) (fun j σ H' => ∃ x4 x5 x6 x7 x8 x9, σ = [some (.int (n : Int)), some (.ref b), some (.ref D), some (.ref ta), x4, x5, x6, x7, x8, x9] ∧ Same H2 H' ∧ exF n bases = ((one.drop j).findSome? fun t => (bases.find? fun other => badF n bases one t other).map fun other => (one, other, t)).or ((bases.drop (i + 1)).findSome? fun one => one.findSome? fun t => (bases.find? fun other => badF n bases one t other).map fun other => (one, other, t)))
      ⟨_, _, _, _, _, _, rfl, Same.refl _, by rw [eF]; rfl⟩ (fun j σ H' _ ⟨_, _, _, _, _, _, _, sm, _⟩ => sm) ?_ ?_⟩
    · rintro j y σ H3 hy ⟨x4, x5, x6, x7, x8, x9, rfl, sm3, eG⟩
      obtain ⟨t, rfl, htj⟩ := get_lot hy
      rw [drop_atA htj, fs_cons] at eG
      have s13 := sm2.trans sm3
      refine ZM.lcf_sq (fun v => !decide (v = V.int (t : Int))) (fun v => v) (fun R r => ⟨_, rfl, r⟩) (.inr (SqT.of (s13 _ _ hta))) (by simp; omega) (fun _ => rfl) ?_ ?_ ?_
      · intro i2 x H4 R hx2 s4 hR
        obtain ⟨m, rfl, hm⟩ := get_lot hx2
        exact ⟨_, rfl, _, rfl, rfl, _, rfl, hR _ (Same.refl _)⟩
      · intro i2 x H4 R hx2 c s4 hR
        exact ⟨_, rfl, hR _ (Same.refl _)⟩
      intro Dr H4 s4 nDr hDr
      rw [fil_lot _ (fun m => m != t) (fun m => by
        rw [Bool.eq_iff_iff]
        simp
        omega)] at hDr
      refine ZM.lcf_rng (n := n) (fun w => !one.contains w && (bases.map ci).contains (srt (ci (one.filter fun x => x != t) ++ [(w : Int)]))) (fun w => V.int (w : Int)) (fun R r => ⟨_, rfl, r⟩) (by omega) (fun _ => rfl) ?_ ?_ ?_
      · intro w H5 R hw s5 hR
        have s15 := s13.trans (s4.trans s5)
        refine ⟨_, rfl, _, rfl, ta, CB.lotV one, rfl, .inr (SqT.of (s15 _ _ hta)), rfl, flat_lot _, _, rfl, ?_⟩
        have ei : inV (V.int (0 + (w : Int))) (CB.lotV one) = one.contains w := by rw [Int.zero_add, inV_lot]
        rw [ei]
        cases c : one.contains w
        · refine if_t rfl ?_
          refine ⟨_, rfl, Dr, CB.lotV (one.filter fun m => m != t), rfl, .inr (SqL.of (s5 _ _ hDr)), _, rfl, ?_⟩
          have fl : (one.filter fun m => m != t).length ≤ 7 := Nat.le_trans (List.length_filter_le _ _) one7
          refine ⟨by rw [sizeLine_eq]; simp; omega, fun p1 n1 => ?_⟩
          have sp1 := same_new (o := .lst (CB.lotV (one.filter fun m => m != t) ++ [V.int (0 + (w : Int))])) n1
          refine ⟨p1, ci (one.filter fun m => m != t) ++ [(w : Int)], rfl, .inl (SqL.of (by rw [upd_same, Int.zero_add, lotV_ci, List.map_append]; rfl)), by simp [ci]; omega, fun ns' p2 hp hr' n2 => ?_⟩
          obtain rfl := srt_is hp hr'
          have sp2 := same_new (o := .lst ((srt (ci (one.filter fun m => m != t) ++ [(w : Int)])).map V.int)) n2
          refine ⟨p2, _, rfl, .inl ⟨SqL.of upd_same, fun p3 n3 => ?_⟩⟩
          have sp3 := same_new (o := .tup ((srt (ci (one.filter fun m => m != t) ++ [(w : Int)])).map V.int)) n3
          refine ⟨_, rfl, D, _, rfl, .inr ⟨knV bases, keyI (srt (ci (one.filter fun m => m != t) ++ [(w : Int)])), p3, .inl (sp3 _ _ (sp2 _ _ (sp1 _ _ (s15 _ _ hD)))), rfl, by rw [upd_same, keyI_kV], rfl⟩, ?_⟩
          refine ⟨_, rfl, ?_⟩
          rw [kn_has]
          rw [c] at hR
          exact hR _ (sp1.trans (sp2.trans sp3))
        · refine if_f rfl ?_
          rw [c] at hR
          exact hR _ (Same.refl _)
      · intro w H5 R hw c s5 hR
        exact ⟨_, rfl, by rw [Int.zero_add]; exact hR _ (Same.refl _)⟩
      intro Di H5 s5 nDi hDi
      have s15 := s13.trans (s4.trans s5)
      have hB5 := hB1.same s15
      have hDi' : H5 Di = some (.lst (CB.lotV (intoF n bases one t))) := hDi
      have into7 : (intoF n bases one t).length ≤ 7 := Nat.le_trans (List.length_filter_le _ _) (by simp; omega)
      refine ⟨_, rfl, b, rfl, ⟨_, SqL.of hB5.d⟩, for_list (K := K) (a := b) (fun i2 σ H' => ∃ x5 x8 x9, σ = [some (.int (n : Int)), some (.ref b), some (.ref D), some (.ref ta), some (.int (t : Int)), x5, some (.ref Dr), some (.ref Di), x8, x9] ∧ Same H5 H' ∧ bases.find? (fun other => badF n bases one t other) = (bases.drop i2).find? fun other => badF n bases one t other)
        ⟨_, _, _, rfl, Same.refl _, rfl⟩ (fun i2 σ H' _ ⟨_, _, _, _, sm, _⟩ => sm.seq (SqL.of hB5.d)) ?_ ?_⟩
      · rintro i2 x σ H6 hx ⟨x5, x8, x9, rfl, s6, eO⟩
        rw [List.getElem?_map] at hx
        obtain ⟨to, hto, rfl⟩ := Option.map_eq_some_iff.mp hx
        have il2 : i2 < bases.length := by have := (List.getElem?_eq_some_iff.mp hto).1; omega
        have hoth := hB5.t i2 to _ hto (List.getElem?_eq_getElem il2)
        generalize eo : bases[i2] = other at *
        have hother : bases[i2]? = some other := by rw [List.getElem?_eq_getElem il2, eo]
        rw [drop_atA hother, List.find?_cons] at eO
        refine ⟨_, rfl, _, rfl, to, CB.lotV other, rfl, .inr (SqT.of (s6 _ _ hoth)), rfl, flat_lot _, _, rfl, ?_⟩
        have ei : inV (V.int (t : Int)) (CB.lotV other) = other.contains t := inV_lot _ _
        rw [ei]
        have eb : badF n bases one t other = (!other.contains t && !(intoF n bases one t).any fun w => other.contains w) := rfl
        cases c : other.contains t
        · refine if_t rfl ?_
          refine ZM.lcm_sq (ys := (intoF n bases one t).map fun w => V.bl (other.contains w)) (fun R r => ⟨_, rfl, r⟩) (.inl (SqL.of (s6 _ _ hDi'))) (by simp) (by simp; omega) (fun _ => rfl) ?_ ?_
          · intro i3 x y H7 R hx hy s7 hR
            obtain ⟨m, rfl, hm⟩ := get_lot hx
            rw [List.getElem?_map, hm] at hy
            cases hy
            refine ⟨_, rfl, _, rfl, to, CB.lotV other, rfl, .inr (SqT.of (s7 _ _ (s6 _ _ hoth))), rfl, flat_lot _, ?_⟩
            have em : inV (V.int (m : Int)) (CB.lotV other) = other.contains m := inV_lot _ _
            rw [if_neg (by decide), em]
            exact hR _ (Same.refl _)
          · intro Dz H7 s7 nDz hDz
            refine ⟨Dz, (intoF n bases one t).map fun w => other.contains w, rfl, SqL.of (by rw [hDz, List.map_map]; rfl), _, rfl, ?_⟩
            rw [List.any_map]
            have ea : (intoF n bases one t).any (id ∘ fun w => other.contains w) = (intoF n bases one t).any fun w => other.contains w := rfl
            rw [ea]
            cases cc : (intoF n bases one t).any fun w => other.contains w
            · have bt : badF n bases one t other = true := by rw [eb, c, cc]; rfl
              refine if_t rfl ?_
              rw [bt] at eO
              have eO : bases.find? (fun other => badF n bases one t other) = some other := eO
              rw [eO] at eG
              have eE : exF n bases = some (one, other, t) := eG
              refine ⟨_, rfl, _, rfl, _, rfl, ?_⟩
              have s7' := s15.trans (s6.trans s7)
              have key2 : ∀ T, H7 T = none → Q (.ref T) (upd H7 T (.tup [.str "exchange", .ref ta, .ref to, .int (t : Int)])) := fun T nT => q1 one other t eE T ta to _ (sm1.trans (s7'.trans (same_new nT))) (fresh (sm1.trans s7') nT) upd_same (same_new nT _ _ (s7' _ _ hta)) (same_new nT _ _ (s7 _ _ (s6 _ _ hoth)))
              first | exact key2 | exact ⟨by simp [sizeLine_eq], key2⟩
            · have bt : badF n bases one t other = false := by rw [eb, c, cc]; rfl
              rw [bt] at eO
              exact if_f rfl ⟨_, _, _, rfl, s6.trans s7, eO⟩
        · refine if_f rfl ?_
          have bt : badF n bases one t other = false := by rw [eb, c]; rfl
          rw [bt] at eO
          exact ⟨_, _, _, rfl, s6, eO⟩
      · rintro σ H6 ⟨x5, x8, x9, rfl, s6, eO⟩
        rw [List.length_map, hBn, List.drop_length] at eO
        have eO : bases.find? (fun other => badF n bases one t other) = none := eO
        rw [eO] at eG
        exact ⟨_, _, _, _, _, _, rfl, sm3.trans (s4.trans (s5.trans s6)), eG⟩
    · rintro σ H3 ⟨x4, x5, x6, x7, x8, x9, rfl, sm3, eG⟩
      rw [show (CB.lotV one).length = one.length by simp, List.drop_length] at eG
      exact ⟨_, _, _, _, _, _, _, rfl, sm2.trans sm3, eG⟩
  · rintro σ H2 ⟨x3, x4, x5, x6, x7, x8, x9, rfl, sm2, eF⟩
    rw [List.length_map, hBn, List.drop_length] at eF
    exact q0 eF _ (sm1.trans sm2)
end
end K14

set_option maxHeartbeats 2000000
/-! enumerate(x, start=k), x a list -/
namespace EK
open PySem PySem.Spec PyProof.Rows L2
theorem pl_list {h : Heap} {a : Addr} {x : Array Value} (p : PlainL h a x) : h.IsList a x := by
  obtain ⟨o, n, q1, q2, _, q3⟩ := p
  exact ⟨o, q1, q2, n, q3⟩
theorem dshift {prog : Program} {w : World} {A : Around} {it : Addr} {fp : List Addr} {n : Nat} {P : Nat → Value → Prop} {St : Nat → Heap → Prop} (k : Nat) (D : Draws prog w A it fp n P St) :
    Draws prog w A it fp (k + n) (fun i v => k ≤ i ∧ P (i - k) v) (fun i h => k ≤ i ∧ St (i - k) h) where
  live := fun i h st => D.live _ _ st.2
  frame := fun i h h' st kp => ⟨st.1, D.frame _ _ _ st.2 kp⟩
  item := fun i s Q E hi st q => D.item (i - k) s Q E (by have := st.1; omega) st.2 fun x h' tk px st' sb => q x h' tk ⟨st.1, px⟩ ⟨by have := st.1; omega, by have := st.1; rw [show i + 1 - k = i - k + 1 by omega]; exact st'⟩ sb
  done := fun s Q E st q => D.done s Q E (by have := st.2; rwa [show k + n - k = n by omega] at this) q
/-- the list at a, item by item, each in a new pair, the count from k on -/
def IteK (K : PySem.W.Frag) (a : Addr) (k : Nat) : It where
  go := fun i H => ∃ (xs : List V) (x : V), SqL K H a xs ∧ xs[i]? = some x
  yld := fun i H v H' => ∃ T x, v = .ref T ∧ H T = none ∧ H' = upd H T (.tup [.int ((k + i : Nat) : Int), x]) ∧ ∀ xs, SqL K H a xs → xs[i]? = some x
  stop := fun i H => ∃ xs : List V, SqL K H a xs ∧ xs.length ≤ i
theorem turn {P : Program} {w : World} {K : PySem.W.Frag} {elts : List Expr} {kk : Nat} {tpos : Pos} (a e it : Addr) (k : Nat) :
    Turn P w K (.Tuple elts kk tpos) (IteK K a k) [e, it] e (fun i h => (∃ old, IsEnum h e it ((k + i : Nat) : Int) old) ∧ h.IsListIter it a i ∧ e ≠ it) where
  mem := List.mem_cons_self
  obj := fun i h st b hb => by
    obtain ⟨⟨old, he⟩, ⟨o, ho, hc, hd⟩, _⟩ := st
    rcases List.mem_cons.mp hb with z | z
    · subst z
      exact ⟨_, he, fun v q => nomatch q⟩
    · rw [List.mem_singleton.mp z]
      exact ⟨o, ho, fun v q => by rw [hd] at q; cases q⟩
  keep := fun i h h' st kp => by
    obtain ⟨⟨old, he⟩, ⟨o, ho, hc, hd⟩, ne⟩ := st
    exact ⟨⟨old, kp e (by simp) _ he⟩, ⟨o, kp it (by simp) o ho, hc, hd⟩, ne⟩
  item := by
    rintro X rfl rfl rfl hc i pins s σ H E I hf ⟨⟨old, he⟩, hit, hei⟩ ⟨xs, x, hq, hx⟩
    obtain ⟨its, rv, hp, hz⟩ := I.list hq
    obtain ⟨u, hu, ru⟩ := rv.get hx
    have hel : e < s.heap.objs.size := Heap.lt_size he
    have hil : it < s.heap.objs.size := by
      obtain ⟨_, q, _⟩ := hit
      exact Heap.lt_size q
    have hlt : i < its.toArray.size := by
      have q := (List.getElem?_eq_some_iff.mp hu).1
      simpa using q
    have hL : s.heap.IsList a its.toArray := pl_list hp
    have hai : a ≠ it := by
      rintro rfl
      obtain ⟨o, q1, q2, _⟩ := hit
      obtain ⟨o', q3, q4, _⟩ := hL
      rw [q1] at q3
      cases q3
      rw [q2] at q4
      exact absurd q4 (by decide)
    have hae : a ≠ e := by
      rintro rfl
      obtain ⟨o', q3, q4, _⟩ := hL
      rw [he] at q3
      cases q3
      have q4 : (Value.type "enumerate") = Value.type "list" := q4
      exact absurd q4 (by decide)
    refine wpAny_pyNext_enum_itemD (dshift k (Draws.list (A := X.A.in1) (I.ok.hd hc) it a hai its.toArray)) he ⟨Nat.le_add_right _ _, by rw [Nat.add_sub_cancel_left]; exact ⟨hit, hL⟩⟩ (by omega) hei (by simp [hei, Ne.symm hae]) fun y h' tk hy ho hit' hT hsz hk => ?_
    obtain ⟨_, hy⟩ := hy
    rw [Nat.add_sub_cancel_left] at hy
    have hit'' : h'.IsListIter it a (i + 1) := by
      have := hit'.2.1
      rwa [show k + i + 1 - k = i + 1 by omega] at this
    have ey : y = u := by
      have q : its[i]? = some y := by simpa using hy
      rw [hu] at q
      exact (Option.some.inj q).symm
    subst ey
    refine ⟨_, rfl, wpAny_letOwnedTupleGo_enum (s := { s with heap := h', toks := tk + 1 }) ho fun h'' he' sb => ?_⟩
    have hT2 : h''.get? s.heap.objs.size = some { cls := .type "tuple", data := .seq #[.int (k + i : Nat) tk, y] } := (sb.2 _ (Nat.ne_of_gt hel)).trans hT
    have pairOk : ObjOk X.prog X.w (upd H s.heap.objs.size (.tup [.int ((k + i : Nat) : Int), x])) h'' s.heap.objs.size
        (.tup [.int ((k + i : Nat) : Int), x]) := ⟨by show 2 ≤ sizeLine; decide, [.int (k + i : Nat) tk, y], .cons ⟨_, rfl⟩ (.cons ru .nil), _, hT2, rfl, _, rfl⟩
    have stays : ∀ c oc, c ∉ [e, it] → s.heap.get? c = some oc → h''.get? c = some oc := fun c oc hc' z => by
      have n1 : c ≠ e := fun z1 => hc' (by simp [z1])
      have n2 : c ≠ it := fun z1 => hc' (by simp [z1])
      exact (sb.2 c n1).trans (hk c oc n1 n2 z)
    have I1 : Inv X pins σ (upd H s.heap.objs.size (.tup [.int ((k + i : Nat) : Int), x])) { s with heap := h'', toks := tk + 1 } :=
      I.turnedNew (ch := [e, it]) stays hf (Nat.le_refl _) pairOk
    have e1 : ((k + (i + 1) : Nat) : Int) = ((k + i : Nat) : Int) + 1 := by omega
    refine ⟨.ref s.heap.objs.size, _, I1, rfl, ⟨_, x, rfl, I.hok.fresh (Nat.le_refl _), rfl, fun ys hy => by rw [I.list_inj hy hq]; exact hx⟩, ⟨⟨y, by rw [e1]; exact he'⟩, ?_, hei⟩, fun b hb => ?_⟩
    · obtain ⟨o, q1, q2⟩ := hit''
      exact ⟨o, (sb.2 it (Ne.symm hei)).trans q1, q2⟩
    have hb' : b < s.heap.objs.size := by
      rcases List.mem_cons.mp hb with z | z
      · rw [z]; exact hel
      · rw [List.mem_singleton.mp z]; exact hil
    rw [upd_ne (Nat.ne_of_lt hb')]
    exact (hf b hb).1
  done := by
    rintro X rfl rfl rfl hc i pins s σ H E I hf ⟨⟨old, he⟩, hit, hei⟩ ⟨xs, hq, hx⟩
    obtain ⟨its, rv, hp, hz⟩ := I.list hq
    have hL : s.heap.IsList a its.toArray := pl_list hp
    obtain ⟨f0, f1, f2, f3, f4, f5⟩ := hf it (by simp)
    have hl := rv.length
    unfold pyNext
    refine wpAny_bind (wpAny_attempt (wpAny_callSpecial?_slot (name := Str.ofString "__next__") ⟨_, he, rfl⟩ F.slot_enumerate_next (wpAny_call_entry F.slot_enumerate_next ⟨_, he, rfl⟩ F.entry_enumerate_next ?_ (F.args_enumerate_next_1 _))))
    show wpAny _ _ (field (.ref e) 2 >>= _) _ _ _
    refine wpAny_bind (wpAny_field he rfl (x := .ref it) rfl (wpAny_bind (wpAny_nextOf_list_end (A := X.A.in1) (I.ok.hd hc) hit hL (by simp; omega) fun h' x eb hx' => ?_)))
    obtain ⟨o, ho, hcl⟩ := hx'
    exact wpAny_bind (wpAny_isInstance (T := "StopIteration") (b := true) ⟨o, ho, hcl⟩ isSubtype_stop (wpAny_pure ⟨rfl, I.turned (t' := s.toks) (fun b o hb q => eb b o hb q) f0 f1 f3 f4 f5⟩))
  self := fun A i s Q E st h => by
    obtain ⟨⟨_, he⟩, _⟩ := st
    exact wpAny_pyIter_enum he h
def iEnumK (K : PySem.W.Frag) (ta : TA) (tk : TA) : TI := fun σ H R => ta σ H fun vs H1 => tk σ H1 fun zs H2 => ∃ a xs k, zs = [.int ((k : Nat) : Int)] ∧ k < 1000 ∧ vs = [.ref a] ∧ SqL K H2 a xs ∧ R (IteK K a k) H2
theorem callTK {M : Model} {A : Around} {E : Value → Shared → Prop} {s : Shared} {pos : Pos} {T : String} {first : List Value} {args : List (Bool × Sem Value)} {kws : List (Option Str × Sem Value)} {Q : Value → Shared → Prop}
    (hpl : (args.any (·.1) || kws.any (·.1.isNone)) = false) (h : wpAny M A (evalArgs (.type T) true args kws) (fun a s₁ => wpAny M A (call (.type T) (first ++ a.pos) a.kw) Q E s₁) E s) :
    wpAny M A (callWith pos (.type T) first args kws) Q E s :=
  PySem.W.callWith_of (P := fun _ => True) hpl (fun h _ => ⟨.machine, .inr (.inl rfl), fun A Q E s _ q => wpAny_pure q⟩) (thn h fun a s1 q => ⟨trivial, q⟩)
theorem pi_enumK {X : Cx} {e ke : Expr} {ta tk : TA} {p pos tpos kp : Pos} {elts : List Expr} {kk : Nat} (hg : Gl X "enumerate") (hm : X.mg "enumerate" = none) (ha : PA X [e] ta) (hkw : PK X [⟨some "start", ke, kp⟩] tk)
    (hs : backTo pos (starEach [e] X.env) = (false, eval e X.env) :: backTo pos (starEach [] X.env) := by rfl)
    (hpl : ((backTo pos (starEach [e] X.env)).any (·.1) || (backToKw pos (keywordEach [⟨some "start", ke, kp⟩] X.env)).any (·.1.isNone)) = false := by rfl)
    (hall : (backToKw pos (keywordEach [⟨some "start", ke, kp⟩] X.env)).all (·.1.isSome) = true := by rfl)
    (hks : (backToKw pos (keywordEach [⟨some "start", ke, kp⟩] X.env)).filterMap (·.1) = [("start" : Str)] := by rfl) :
    PI X (.Tuple elts kk tpos) (.Call (.Name "enumerate" p) [e] [⟨some "start", ke, kp⟩] pos) (iEnumK X.K ta tk) := by
  refine ⟨fun pins s σ H R I h => wpAny_Call_Name_kw (ld_blt I hg hm boot_enumerate (callTK hpl ?_))⟩
  rw [hs]
  refine evalArgs_kwB hall ?_
  rw [← hs, hks]
  refine thn (ha.run pos pins s σ H _ I h) fun us s1 h1 => ?_
  obtain ⟨vs, H1, I1, r1, h1⟩ := h1
  refine thn (hkw.run pos pins s1 σ H1 _ I1 h1) fun ws s2 h2 => ?_
  obtain ⟨zs, H2, I2, r2, a, xs, k, rfl, hk9, rfl, hq, q⟩ := h2
  cases r1 with
  | cons r rr =>
    cases rr
    cases r
    cases r2 with
    | cons u uu =>
      cases uu
      obtain ⟨t, rfl⟩ := u
      obtain ⟨its, rv, hp, hz⟩ := I2.list hq
      have hL : s2.heap.IsList a its.toArray := pl_list hp
      refine enum_begins_start (begins_list a its.toArray) hL (by omega) (by omega) fun h' he hit hsz hk => wpAny_pyIter_enum he ?_
      have I3 : Inv X pins σ H2 { s2 with heap := h' } := I2.kept (t' := s2.toks) hk
      refine ⟨s2.heap.objs.size + 1, [s2.heap.objs.size + 1, s2.heap.objs.size], _, _, H2, rfl, I3, turn a (s2.heap.objs.size + 1) s2.heap.objs.size k, ⟨⟨.none, he⟩, ⟨_, hit, rfl, rfl⟩, Nat.succ_ne_self _⟩, fun b hb => ?_, q⟩
      have hb' : s2.heap.objs.size ≤ b := by
        rcases List.mem_cons.mp hb with z | z
        · rw [z]; exact Nat.le_succ _
        · rw [List.mem_singleton.mp z]; exact Nat.le_refl _
      exact I2.fpOk hb' (I2.hok.fresh hb')
end EK

set_option maxHeartbeats 2000000
/-! a, b = l, l a list -/
namespace GL
open PySem PySem.Spec PyProof.Rows L2
def gLst (K : PySem.W.Frag) (n : Nat) (t : TGs) : TG := fun v σ H Q => ∃ (a : Addr) (xs : List V), v = .ref a ∧ SqL K H a xs ∧ xs.length = n ∧ t xs σ H Q
theorem pg_lst {X : Cx} {pos : Pos} {es : List Expr} {k : Nat} {t : TGs} {n : Nat} (hc : X.calm = true) (hp : PGs X es t) (hn : (assignEach es X.env).length = n := by rfl) (hs : List.findIdx? (fun x => x.1) (assignEach es X.env) = none := by rfl) : PG X (.Tuple es k pos) (gLst X.K n t) := by
  refine ⟨fun pins s σ H v u Q I r h => ?_⟩
  obtain ⟨a, xs, rfl, hq, hl, h⟩ := h
  cases r
  obtain ⟨its, rv, pl, hz⟩ := I.list hq
  have lv := rv.length
  rw [PyProof.Rows.assign_Tuple]
  refine wpAny_bind (wpAny_standAt ?_)
  unfold unpack
  refine wpAny_bind (wpAny_holding ?_)
  rw [hs, show (assignEach es X.env).length = its.toArray.size by rw [hn, ← hl, lv]; simp]
  refine PySem.W.kun_itemsOf (I.ok.hd hc) (EK.pl_list pl) fun h' eb => ?_
  have I2 : Inv X pins σ H { s with heap := h' } := I.kept (t' := s.toks) fun b o e => eb b o (Nat.ne_of_lt (Heap.lt_size e)) e
  exact hp.run pins _ σ H xs its Q I2 rv h
end GL

set_option maxHeartbeats 8000000
/-! Three products of a lot and four things. -/
namespace K14
open PySem PySem.Spec PyProof.Rows L2
abbrev sTh : Stmt := topS 33
abbrev nTh : List Str := ["by_lot", "lot", "four", "b", "c", "d", "e", "pairs", "first", "second", "third", "products", "pair"]
theorem scTh : FnScope nTh ["by_lot", "lot", "four"] (defScope sTh) := ⟨rfl, rfl, rfl, by decide +kernel, rfl, by decide +kernel, by decide +kernel⟩
/-- a product of two signs -/
def prodF (g : List Int → Int) (ns : List Int) (a b c d : Nat) : Int := readI g (ns ++ [(a : Int), (b : Int)]) * readI g (ns ++ [(c : Int), (d : Int)])
def threeL (g : List Int → Int) (ns : List Int) (b c d e : Nat) : List V := [.int (prodF g ns b c d e), .int (-prodF g ns b d c e), .int (prodF g ns b e c d)]
def holdF (g : List Int → Int) (ns : List Int) (b c d e : Nat) : Bool := inV (.int 1) (threeL g ns b c d e) == inV (.int (-1)) (threeL g ns b c d e)
def unit3 (n : Int) : Prop := n = 0 ∨ n = 1 ∨ n = -1
theorem readI_un {g : List Int → Int} (h : ∀ ms, unit3 (g ms)) (ns : List Int) : unit3 (readI g ns) := un_mul (sg_un ns) (h _)
def spTh : Sp := fun vs H Q _ => ∃ (d l q : Addr) (kvs : List (List Key × V)) (lot : List Nat) (b c e f : Nat) (g : List Int → Int), vs = [.ref d, .ref l, .ref q] ∧ H d = some (.dT kvs) ∧ H l = some (.tup (CB.lotV lot)) ∧ lot.length ≤ 7 ∧ H q = some (.tup (CB.lotV [b, c, e, f])) ∧ (∀ ms, (valV kvs (keyI ms)).getD (.int 0) = .int (g ms)) ∧ (∀ ms, unit3 (g ms)) ∧ ∀ H', Same H H' → Q (.bl (holdF g (ci lot) b c e f)) H'
section
variable {P : Program} {w : World} {K : PySem.W.Frag} {mg : Str → Option Value} {base : Heap}
theorem ok_th {f fs : Addr} {fd ds : FuncData} {k : Nat} (F : Fun K "_three_hold" "_three_hold" sTh f fd) (S : FnOk P w K mg base CX0 k fs ds ["by_lot", "row"] (spSin K)) (gS : mg "sign_in" = some (.ref fs)) (kS : PySem.W.keepIn K (.ref fs) = true) (bS : Binds K ds ["by_lot", "row"] []) : FnOk P w K mg base CX0 (k + 1) f fd ["by_lot", "lot", "four"] spTh := by
  refine F.ok scTh (fun vs H Q E ⟨d, l, q, kvs, lot, b, c, e, f, g, e1, _⟩ => by rw [e1]; rfl) (fun cdv A outer s H vs Q E hr h => ?_)
  refine ⟨_, pss_cons (ps_asg (pv 2) (pg_tup rfl (pgs_cons (pg_name (i := 3) scTh.nd rfl (Or.inl rfl)) (pgs_cons (pg_name (i := 4) scTh.nd rfl (Or.inl rfl)) (pgs_cons (pg_name (i := 5) scTh.nd rfl (Or.inl rfl)) (pgs_cons (pg_name (i := 6) scTh.nd rfl (Or.inl rfl)) pgs_nil))))))
    (pss_cons (ps_set (i := 7) scTh.nd rfl (Or.inl rfl) (pe_tup (pa_cons (pe_tup (pa_cons (pv 3) (pa_cons (pv 4) (pa_cons (pv 5) (pa_cons (pv 6) pa_nil))))) (pa_cons (pe_tup (pa_cons (pv 3) (pa_cons (pv 5) (pa_cons (pv 4) (pa_cons (pv 6) pa_nil))))) (pa_cons (pe_tup (pa_cons (pv 3) (pa_cons (pv 6) (pa_cons (pv 4) (pa_cons (pv 5) pa_nil))))) pa_nil)))))
    (pss_cons (ps_asg (ZM.pe_bx (pe_lc (own := [("pair", 12)]) (g := gName 12) (tt := tYes) rfl scTh.nd (ZM.pi_sq (pv 7)) (blkOk_by (N := nTh) (sc := defScope sTh) (by decide +kernel))
        (fun _ _ _ _ _ => pg_name (i := 12) scTh.nd rfl (Or.inl rfl)) (fun _ _ _ _ _ => pts_nil)
        (fun _ _ _ _ _ => pe_op op_mul (pe_call S hr (by rfl) gS kS bS .nil pass0 (pa_cons (pv 0) (pa_cons (pe_tup (t := StX.tStar K (tVar 1) (StX.tStar K (tSl (rSlT K) (tVar 12) tNoPart (tPart (tC (.int 2)))) tNil)) (StX.pa_star (pv 1) (StX.pa_star (pe_slice sl_tup (pv 12) po_none (po_some pe_int)) pa_nil))) pa_nil)))
          (pe_call S hr (by rfl) gS kS bS .nil pass0 (pa_cons (pv 0) (pa_cons (pe_tup (t := StX.tStar K (tVar 1) (StX.tStar K (tSl (rSlT K) (tVar 12) (tPart (tC (.int 2))) tNoPart) tNil)) (StX.pa_star (pv 1) (StX.pa_star (pe_slice sl_tup (pv 12) (po_some pe_int) po_none) pa_nil))) pa_nil))))))
      (GL.pg_lst rfl (pgs_cons (pg_name (i := 8) scTh.nd rfl (Or.inl rfl)) (pgs_cons (pg_name (i := 9) scTh.nd rfl (Or.inl rfl)) (pgs_cons (pg_name (i := 10) scTh.nd rfl (Or.inl rfl)) pgs_nil)))))
    (pss_cons (ps_set (i := 11) scTh.nd rfl (Or.inl rfl) (pe_tup (pa_cons (pv 8) (pa_cons (pe_un un_neg (pv 9)) (pa_cons (pv 10) pa_nil)))))
    (pss_one (ps_ret (pe_cmpR op_eq (pe_cmpR (r := rIn K false) op_in_seq pe_int (pv 11) (by with_unfolding_all rfl)) (pe_cmpR (r := rIn K false) op_in_seq (pe_un un_neg pe_int) (pv 11) (by with_unfolding_all rfl)) (nomark _))))))), ?_⟩
  obtain ⟨d, l, q, kvs, lot, b, c, e, f, g, rfl, hd, hl, l7, hq, hg, hu, hQ⟩ := h
  refine ⟨_, rfl, q, _, rfl, SqT.of hq, rfl, _, _, rfl, _, _, rfl, _, _, rfl, _, _, rfl, rfl, ?_⟩
  refine ⟨_, rfl, _, rfl, _, rfl, _, rfl, by simp [sizeLine_eq], fun P1 n1 => ?_⟩
  have t1 := same_new (o := .tup (CB.lotV [b, c, e, f])) n1
  refine ⟨_, rfl, _, rfl, _, rfl, _, rfl, by simp [sizeLine_eq], fun P2 n2 => ?_⟩
  have t2 := same_new (o := .tup (CB.lotV [b, e, c, f])) n2
  refine ⟨_, rfl, _, rfl, _, rfl, _, rfl, by simp [sizeLine_eq], fun P3 n3 => ?_⟩
  have t3 := same_new (o := .tup (CB.lotV [b, f, c, e])) n3
  refine ⟨by simp [sizeLine_eq], fun P4 n4 => ?_⟩
  have t4 := same_new (o := .tup [.ref P1, .ref P2, .ref P3]) n4
  have g1 := t4 _ _ (t3 _ _ (t2 _ _ (upd_same (H := H) (a := P1) (o := HO.tup (CB.lotV [b, c, e, f])))))
  have g2 := t4 _ _ (t3 _ _ (upd_same (H := upd H P1 (.tup (CB.lotV [b, c, e, f]))) (a := P2) (o := HO.tup (CB.lotV [b, e, c, f]))))
  have g3 := t4 _ _ (upd_same (H := upd (upd H P1 (.tup (CB.lotV [b, c, e, f]))) P2 (.tup (CB.lotV [b, e, c, f]))) (a := P3) (o := HO.tup (CB.lotV [b, f, c, e])))
  have s4 := t1.trans (t2.trans (t3.trans t4))
  refine ZM.lcm_sq (ys := [.int (prodF g (ci lot) b c e f), .int (prodF g (ci lot) b e c f), .int (prodF g (ci lot) b f c e)]) (fun R r => ⟨_, rfl, r⟩) (.inr (SqT.of upd_same)) rfl (by simp) (fun _ => rfl) ?_ ?_
  · intro i x y H2 R hx hy s5 hR
    have : ∃ P a b c d, x = .ref P ∧ y = .int (prodF g (ci lot) a b c d) ∧ H2 P = some (.tup (CB.lotV [a, b, c, d])) := by
      match i, hx, hy with
      | 0, hx, hy => cases hx; cases hy; exact ⟨_, _, _, _, _, rfl, rfl, s5 _ _ g1⟩
      | 1, hx, hy => cases hx; cases hy; exact ⟨_, _, _, _, _, rfl, rfl, s5 _ _ g2⟩
      | 2, hx, hy => cases hx; cases hy; exact ⟨_, _, _, _, _, rfl, rfl, s5 _ _ g3⟩
      | i + 3, hx, hy => cases hx
    obtain ⟨P, x1, x2, x3, x4, rfl, rfl, hP⟩ := this
    have s25 := s4.trans s5
    refine ⟨_, rfl, _, rfl, l, CB.lotV lot, rfl, .inl (SqT.of (s25 _ _ hl)), _, rfl, 2, rfl, P, _, rfl, SqT.of hP, by show ¬(HT.sIx 4 0 none = 0 ∧ HT.sIx 4 4 (some 2) = 4); decide, fun p np => ?_⟩
    have sp := same_new (o := .tup [.int (x1 : Int), .int (x2 : Int)]) np
    refine ⟨p, [.int (x1 : Int), .int (x2 : Int)], rfl, .inl (SqT.of upd_same), by simp [sizeLine_eq]; omega, fun T nT => ?_⟩
    have sT := same_new (o := .tup (CB.lotV lot ++ ([.int (x1 : Int), .int (x2 : Int)] ++ []))) nT
    refine ⟨d, T, kvs, ci lot ++ [(x1 : Int), (x2 : Int)], g, rfl, sT _ _ (sp _ _ (s25 _ _ hd)), .inr (SqT.of (by rw [upd_same, lotV_ci, List.map_append]; rfl)), by simp [ci]; omega, hg, fun H3 s6 => ?_⟩
    have sa := sp.trans (sT.trans s6)
    refine ⟨_, rfl, _, rfl, l, CB.lotV lot, rfl, .inl (SqT.of (sa _ _ (s25 _ _ hl))), _, rfl, 2, rfl, P, _, rfl, SqT.of (sa _ _ hP), by show ¬(HT.sIx 4 0 (some 2) = 0 ∧ HT.sIx 4 4 none = 4); decide, fun p np => ?_⟩
    have sp := same_new (o := .tup [.int (x3 : Int), .int (x4 : Int)]) np
    refine ⟨p, [.int (x3 : Int), .int (x4 : Int)], rfl, .inl (SqT.of upd_same), by simp [sizeLine_eq]; omega, fun T nT => ?_⟩
    have sT := same_new (o := .tup (CB.lotV lot ++ ([.int (x3 : Int), .int (x4 : Int)] ++ []))) nT
    refine ⟨d, T, kvs, ci lot ++ [(x3 : Int), (x4 : Int)], g, rfl, sT _ _ (sp _ _ (sa _ _ (s25 _ _ hd))), .inr (SqT.of (by rw [upd_same, lotV_ci, List.map_append]; rfl)), by simp [ci]; omega, hg, fun H4 s7 => ?_⟩
    refine ⟨_, _, rfl, rfl, .inl ?_, hR _ (sa.trans (sp.trans (sT.trans s7)))⟩
    rcases readI_un hu (ci lot ++ [(x1 : Int), (x2 : Int)]) with e | e | e <;> rw [e] <;> omega
  · intro D H2 s5 nD hD
    refine ⟨D, _, rfl, SqL.of hD, rfl, _, _, rfl, _, _, rfl, _, _, rfl, rfl, ?_⟩
    refine ⟨_, rfl, _, rfl, _, rfl, _, rfl, by simp [sizeLine_eq], fun T nT => ?_⟩
    have sT := same_new (o := .tup (threeL g (ci lot) b c e f)) nT
    refine ⟨_, rfl, T, threeL g (ci lot) b c e f, rfl, .inr (SqT.of upd_same), rfl, rfl, _, rfl, _, rfl, T, threeL g (ci lot) b c e f, rfl, .inr (SqT.of upd_same), rfl, rfl, rfl, ?_⟩
    have eh : (!decide (V.bl (inV (.int 1) (threeL g (ci lot) b c e f)) = V.bl (inV (.int (-1)) (threeL g (ci lot) b c e f)))) = !holdF g (ci lot) b c e f := by
      unfold holdF
      cases inV (.int 1) (threeL g (ci lot) b c e f) <;> cases inV (.int (-1)) (threeL g (ci lot) b c e f) <;> rfl
    have eh : decide (V.bl (inV (.int 1) (threeL g (ci lot) b c e f)) = V.bl (inV (.int (-1)) (threeL g (ci lot) b c e f))) = holdF g (ci lot) b c e f := Bool.not_inj eh
    have fin := hQ _ (s4.trans (s5.trans sT))
    rw [← eh] at fin
    exact fin
end
end K14

set_option maxHeartbeats 2000000
/-! combinations(a list, k), walked -/
namespace CBI
open PySem PySem.Spec PyProof.Rows L2 CB
/-- an iterator that has ended (or never had anything) -/
theorem cb_stop2 {M : Model} {A : Around} {E : Value → Shared → Prop} {s : Shared} {it p : Addr} {last : Value} {ix : List Nat} {Q : Fin → Shared → Prop} (hh : A.handled = none) (hit : IsCb s.heap it p 2 last ix)
    (hE : ∀ h' e, Heap.ExtBut it s.heap h' → (∃ o, h'.get? e = some o ∧ o.cls = .type "StopIteration") → E (.ref e) { s with heap := h' }) :
    wpAny M A (Builtin.«itertools.combinations.__next__» ⟨[.ref it], []⟩) Q E s := by
  obtain ⟨h0, g, d, tk, os⟩ := s
  show wpAny _ _ (field (.ref it) 0 >>= _) _ _ _
  refine wpAny_bind (wpAny_field hit rfl (x := .ref p) rfl ?_)
  show wpAny _ _ (Builtin.Itertools.itNumbersFrom (.ref it) 3 >>= _) _ _ _
  refine wpAny_bind (cb_numbers hit ?_)
  show wpAny _ _ (Builtin.Itertools.itIntField (.ref it) 1 >>= _) _ _ _
  refine wpAny_bind (cb_flag hit ?_)
  show wpAny _ _ (newExc (.type "StopIteration") [] >>= _) _ _ _
  refine wpAny_bind ?_
  simp only [newExc, newTuple]
  refine wpAny_bind (wpAny_newObj_type ?_ (by size_fits))
  refine wpAny_bind (m := firstArgMember _ _) (wpAny_of_eq (a := Value.none) (by first | rfl | (simp only [firstArgMember]; rfl)) ?_)
  refine wpAny_newObj_type ?_ (by size_fits)
  simp only [raiseNew]
  refine wpAny_bind (wpAny_handled ?_)
  rw [hh]
  refine wpAny_bind (wpAny_pure (wpAny_throw ?_))
  exact hE _ _ (fun b o _ e => Heap.get?_push_of_some _ (Heap.get?_push_of_some _ e)) ⟨_, Heap.get?_push_size _ rfl, rfl⟩
theorem cb_pyNextE2 {prog : Program} {w : World} {A : Around} {E : Value → Shared → Prop} {s : Shared} {it p : Addr} {last : Value} {ix : List Nat} {Q : Option Value → Shared → Prop} (hh : A.handled = none) (hit : IsCb s.heap it p 2 last ix)
    (hQ : ∀ h', Heap.ExtBut it s.heap h' → Q none { s with heap := h' }) : wpAny (model prog w) A (pyNext (.ref it)) Q E s := by
  have hT : s.TypeIs (.ref it) "itertools.combinations" := ⟨_, hit, rfl⟩
  unfold pyNext
  refine wpAny_bind (wpAny_attempt (wpAny_callSpecial?_slot (name := Str.ofString "__next__") hT cb_next (wpAny_call_entry cb_next hT cb_nextE (cb_stop2 (A := A.in1) hh hit fun h' x he' hx' => ?_) (cb_nextA _))))
  obtain ⟨o, ho, hc⟩ := hx'
  exact wpAny_bind (wpAny_isInstance (T := "StopIteration") (b := true) ⟨o, ho, hc⟩ isSubtype_stop (wpAny_pure (hQ _ he')))
/-- each combination in turn, in a new tuple -/
def Itc (xs : List V) (k : Nat) : L2.It :=
  ⟨fun i _ => i < (combs xs.length k).length, fun i H v H' => ∃ T c, (combs xs.length k)[i]? = some c ∧ v = .ref T ∧ H T = none ∧ H' = upd H T (.tup (c.map fun j => xs.getD j .non)), fun i _ => (combs xs.length k).length ≤ i⟩
theorem none_of : ((List.range 8).all fun n => (List.range 9).all fun k => decide (n < k → combs n k = [])) = true := by decide +kernel
theorem combs_none {n k : Nat} (hn : n ≤ 7) (hk : k ≤ 8) (h : n < k) : combs n k = [] := by
  have h1 := List.all_eq_true.mp none_of n (List.mem_range.mpr (by omega))
  exact of_decide_eq_true (List.all_eq_true.mp h1 k (List.mem_range.mpr (by omega))) h
theorem chain_at {n : Nat} : ∀ {r : List (List Nat)} {ix : List Nat}, Chain n ix r → ∀ (i : Nat) (c : List Nat), (ix :: r)[i]? = some c → (∀ c', (ix :: r)[i + 1]? = some c' → nc n c = some c') ∧ ((ix :: r)[i + 1]? = none → nc n c = none)
  | [], ix, h, i, c, e => by
    match i, e with
    | 0, e =>
      cases e
      exact ⟨fun c' e' => (by simp at e'), fun _ => h⟩
    | i + 1, e => simp at e
  | nx :: r, ix, h, i, c, e => by
    match i, e with
    | 0, e =>
      cases e
      exact ⟨fun c' e' => by simp at e'; rw [← e']; exact h.1, fun e' => by simp at e'⟩
    | i + 1, e => exact chain_at h.2 i c (by simpa using e)
theorem vals_pick {xs : List V} {us : List Value} (r : Vals xs us) : ∀ {c : List Nat}, (∀ i ∈ c, i < xs.length) → Vals (c.map fun j => xs.getD j .non) (c.map fun j => us.toArray.getD j .none)
  | [], _ => .nil
  | j :: c, h => by
    have hj := h j List.mem_cons_self
    obtain ⟨u, hu, ru⟩ := r.get (List.getElem?_eq_getElem hj)
    refine .cons ?_ (vals_pick r fun i hi => h i (List.mem_cons_of_mem _ hi))
    have e1 : xs.getD j .non = xs[j] := by rw [List.getD_eq_getElem?_getD, List.getElem?_eq_getElem hj]; rfl
    have e2 : us.toArray.getD j .none = u := by simp [hu]
    show RelV (xs.getD j .non) (us.toArray.getD j .none)
    rw [e1, e2]
    exact ru
/-- where the iterator stands ahead of its i-th turn -/
def St (us : List Value) (k : Nat) (it p : Addr) (i : Nat) (h : Heap) : Prop :=
  IsPool h p us.toArray ∧ ((i = 0 ∧ k ≤ us.length ∧ IsCb h it p 0 .none (List.range k)) ∨ (∃ last c j, i = j + 1 ∧ (combs us.length k)[j]? = some c ∧ IsCb h it p 1 last c) ∨ (us.length < k ∧ ∃ last ix, IsCb h it p 2 last ix))
theorem turn {P : Program} {w : World} {K : PySem.W.Frag} {tg : Expr} {xs : List V} {us : List Value} {k : Nat} (it p : Addr) (rv : Vals xs us) (hn : xs.length ≤ 7) (hk : k ≤ 8) (hip : p ≠ it) : Turn P w K tg (Itc xs k) [it, p] it (St us k it p) where
  mem := by simp
  obj := fun i h st b hb => by
    obtain ⟨hp, st⟩ := st
    rcases List.mem_cons.mp hb with z | z
    · subst z
      rcases st with ⟨_, _, e⟩ | ⟨_, _, _, _, _, e⟩ | ⟨_, _, _, e⟩ <;> exact ⟨_, e, fun v q => nomatch q⟩
    · rw [List.mem_singleton.mp z]
      exact ⟨_, hp, fun v q => nomatch q⟩
  keep := fun i h h' st kp => by
    obtain ⟨hp, st⟩ := st
    refine ⟨kp p (by simp) _ hp, ?_⟩
    rcases st with ⟨a, b, e⟩ | ⟨l, c, j, a, b, e⟩ | ⟨a, l, ix, e⟩
    · exact .inl ⟨a, b, kp it (by simp) _ e⟩
    · exact .inr (.inl ⟨l, c, j, a, b, kp it (by simp) _ e⟩)
    · exact .inr (.inr ⟨a, l, ix, kp it (by simp) _ e⟩)
  item := by
    intro X hP hw hK hc i pins s σ H E I hf st hg
    subst hP hw hK
    have hg : i < (combs xs.length k).length := hg
    have le := rv.length
    obtain ⟨hp, st⟩ := st
    have kn : k ≤ xs.length := Nat.le_of_not_lt fun z => by rw [combs_none hn hk z] at hg; exact absurd hg (Nat.not_lt_zero _)
    obtain ⟨r, er, ch, good, _⟩ := good_at hn kn
    obtain ⟨c, hcI⟩ : ∃ c, (combs xs.length k)[i]? = some c := ⟨_, List.getElem?_eq_getElem hg⟩
    have gc := good c (List.mem_of_getElem? hcI)
    have lti : it < s.heap.objs.size := by
      rcases st with ⟨_, _, e⟩ | ⟨_, _, _, _, _, e⟩ | ⟨_, _, _, e⟩ <;> exact Heap.lt_size e
    have ltp : p < s.heap.objs.size := Heap.lt_size hp
    suffices fin : ∀ h', IsCb h' it p 1 (.ref s.heap.objs.size) c → h'.get? s.heap.objs.size = some { cls := .type "tuple", data := .seq (c.map fun i => us.toArray.getD i .none).toArray } → (∀ b o, b ≠ it → s.heap.get? b = some o → h'.get? b = some o) →
        (∃ u, some (Value.ref s.heap.objs.size) = some u ∧ wpAny (model X.prog X.w) X.A (letOwnedTupleGo tg (.ref it) u) (fun _ s2 => ∃ x H', Inv X pins σ H' s2 ∧ RelV x u ∧ (Itc xs k).yld i H x H' ∧ St us k it p (i + 1) s2.heap ∧ ∀ b ∈ [it, p], H' b = none) E { s with heap := h' }) by
      rcases st with ⟨i0, kl, e⟩ | ⟨last, c0, j, ij, e0, e⟩ | ⟨z, _⟩
      · subst i0
        have ec : c = List.range k := by
          rw [er] at hcI
          exact (Option.some.inj hcI).symm
        subst ec
        exact cb_pyNext0 e hp (by rw [List.length_range]; omega) fun h' a b k1 => fin h' a b k1
      · subst ij
        rw [le] at *
        rw [er] at e0 hcI
        have := (chain_at ch j c0 e0).1 c hcI
        exact cb_pyNext1 e hp (by simpa using this) (by have := gc.2; omega) fun h' a b k1 => fin h' a b k1
      · omega
    intro h' hit' hT kk
    refine ⟨_, rfl, ?_⟩
    have new : ObjOk X.prog X.w (upd H s.heap.objs.size (.tup (c.map fun j => xs.getD j .non))) h' s.heap.objs.size (.tup (c.map fun j => xs.getD j .non)) :=
      ⟨by rw [List.length_map, gc.2, sizeLine_eq]; omega, _, vals_pick rv gc.1, ⟨_, hT, rfl, _, rfl⟩⟩
    have I1 : Inv X pins σ (upd H s.heap.objs.size (.tup (c.map fun j => xs.getD j .non))) { s with heap := h' } :=
      I.turnedNew (t' := s.toks) (ch := [it, p]) (fun b ob hb e => kk b ob (fun z => hb (by simp [z])) e) hf (Nat.le_refl _) new
    refine go_of (s := { s with heap := h' }) hit' rfl rfl (by decide) ⟨.ref s.heap.objs.size, _, I1, rfl, ⟨_, c, hcI, rfl, I.hok.fresh (Nat.le_refl _), rfl⟩, ⟨kk p _ hip hp, .inr (.inl ⟨_, c, i, rfl, by rw [← le]; exact hcI, hit'⟩)⟩, fun b hb => ?_⟩
    have hb' : b < s.heap.objs.size := by
      rcases List.mem_cons.mp hb with z | z
      · rw [z]; exact lti
      · rw [List.mem_singleton.mp z]; exact ltp
    rw [upd_ne (Nat.ne_of_lt hb')]
    exact (hf b hb).1
  done := by
    intro X hP hw hK hc i pins s σ H E I hf st hg
    subst hP hw hK
    have hg : (combs xs.length k).length ≤ i := hg
    have le := rv.length
    obtain ⟨hp, st⟩ := st
    obtain ⟨f0, f1, f2, f3, f4, f5⟩ := hf it (by simp)
    have fin : ∀ h', Heap.ExtBut it s.heap h' → ((none : Option Value) = none ∧ Inv X pins σ H { s with heap := h' }) := fun h' eb => ⟨rfl, I.turned (t' := s.toks) (fun b o hb q => eb b o hb q) f0 f1 f3 f4 f5⟩
    rcases st with ⟨i0, kl, e⟩ | ⟨last, c0, j, ij, e0, e⟩ | ⟨z, last, ix, e⟩
    · obtain ⟨r, er, _⟩ := good_at hn (k := k) (by omega)
      rw [er, List.length_cons] at hg
      omega
    · subst ij
      rw [← le] at e0
      have kn : k ≤ xs.length := Nat.le_of_not_lt fun z => by rw [combs_none hn hk z] at e0; simp at e0
      obtain ⟨r, er, ch, good, _⟩ := good_at hn kn
      rw [er] at e0 hg
      have := (chain_at ch j c0 e0).2 (List.getElem?_eq_none hg)
      exact cb_pyNextE (I.ok.hd hc) e hp (by simpa [← le] using this) fun h' eb => fin h' eb
    · exact cb_pyNextE2 (I.ok.hd hc) e fun h' eb => fin h' eb
  self := fun A i s Q E st h => by
    obtain ⟨hp, st⟩ := st
    rcases st with ⟨_, _, e⟩ | ⟨_, _, _, _, _, e⟩ | ⟨_, _, _, e⟩ <;> exact cb_pyIter e h
section
variable {prog : Program} {w : World} {A : Around} {E : Value → Shared → Prop} {s : Shared}
theorem cb_newL {l : Addr} {us : List Value} {k : Nat} {tt : Tok} {Q₁ : Value → Shared → Prop} (hl : s.heap.IsList l us.toArray) (hn : us.length ≤ 7) (hk : k ≤ 8)
    (hQ : ∀ h' tk p, IsPool h' p us.toArray → (∀ b o, s.heap.get? b = some o → b < p) → (∀ b o, s.heap.get? b = some o → h'.get? b = some o) → IsCb h' (p + 1) p (if k > us.length then 2 else 0) .none (List.range k) → Q₁ (.ref (p + 1)) { s with heap := h', toks := tk }) :
    codeAny (model prog w) A (.call (.builtin "itertools.combinations.__new__") ⟨[.type "itertools.combinations", .ref l, .int (k : Int) tt], []⟩) (wants Q₁ E) s := by
  refine codeAny_of_tree ?_
  show wpAny _ A.in1 (do checkBuiltinCall "itertools.combinations.__new__" ⟨[.type "itertools.combinations", .ref l, .int (k : Int) tt], []⟩; again (.builtin "itertools.combinations.__new__" ⟨[.type "itertools.combinations", .ref l, .int (k : Int) tt], []⟩)) _ _ s
  refine wpAny_bind (wpAny_of_eq (cb_newCall _ _) (wpAny_pure ⟨plainId_quiet cb_plain _, codeAny_builtin cb_newE ?_⟩))
  rw [Around.under_plainId cb_plain _]
  show wpAny _ _ ((Builtin.Itertools.itClassAndRest "combinations" _ >>= _) >>= _) _ _ _
  refine wpAny_bind (wpAny_bind (wpAny_of_eq (a := ((.type "itertools.combinations" : Value), [(.ref l : Value), .int (k : Int) tt])) ?_ ?_))
  · unfold Builtin.Itertools.itClassAndRest
    simp only [isType, cb_sub, pure_bind, Bool.not_true, Bool.false_eq_true, if_false]
    rfl
  show wpAny _ _ (Builtin.Itertools.itBindNamed "combinations" ["iterable", "r"] 2 2 [.ref l, .int (k : Int) tt] [] >>= _) _ _ _
  refine wpAny_bind (wpAny_of_eq (a := [some (.ref l), some (.int (k : Int) tt)]) (by rfl) ?_)
  show wpAny _ _ (Builtin.Itertools.itSsizeArg (.int (k : Int) tt) >>= _) _ _ _
  refine wpAny_bind (cb_ssize (by omega) (by omega) ?_)
  show wpAny _ _ (collect (.ref l) >>= _) _ _ _
  refine wpAny_bind (collect_list (vs := us) hl ?_ (by rw [sizeLine_eq]; omega))
  obtain ⟨h1, e1⟩ : ∃ h1, (s.heap.push (seqObj "list" #[] 0)).update s.heap.objs.size (Obj.mapSeq (· ++ us.toArray)) = h1 := ⟨_, rfl⟩
  have k1 : ∀ b o, s.heap.get? b = some o → h1.get? b = some o := fun b o e => by
    rw [← e1]
    exact (Heap.get?_update_other _ _ (Ne.symm (Nat.ne_of_lt (Heap.lt_size e)))).trans (Heap.get?_push_of_some _ e)
  rw [e1]
  have c1 : ¬ ((k : Int) < 0) := by omega
  have c2 : Builtin.Itertools.itTooMany (k : Int) = false := by
    unfold Builtin.Itertools.itTooMany
    exact decide_eq_false (by omega)
  rw [if_neg c1, c2, if_neg Bool.false_ne_true]
  show wpAny _ _ (newTuple us >>= _) _ _ _
  refine wpAny_bind (wpAny_newTuple ?_ (by rw [sizeLine_eq]; omega))
  have tk0 : ((k : Int)).toNat = k := rfl
  have hT : (h1.push { cls := .type "tuple", data := .seq us.toArray }).get? h1.objs.size = some { cls := .type "tuple", data := .seq us.toArray } := Heap.get?_push_size _ rfl
  have hz : (h1.push { cls := .type "tuple", data := .seq us.toArray }).objs.size = h1.objs.size + 1 := Heap.size_push ..
  have k2 : ∀ b o, s.heap.get? b = some o → (h1.push { cls := .type "tuple", data := .seq us.toArray }).get? b = some o := fun b o e => Heap.get?_push_of_some _ (k1 b o e)
  have hge : ∀ b o, s.heap.get? b = some o → b < h1.objs.size := fun b o e => Heap.lt_size (k1 b o e)
  generalize h1.push { cls := .type "tuple", data := .seq us.toArray } = h2 at hT hz k2 ⊢
  refine wpAny_pure ?_
  show wpAny _ _ (Builtin.Itertools.itNewRecord (.type "itertools.combinations") ([.ref h1.objs.size, rawInt (if ((k : Int)).toNat > us.length then 2 else 0), .none] ++ (List.range ((k : Int)).toNat).map fun (i : Nat) => rawInt i) >>= _) _ _ _
  rw [tk0]
  refine wpAny_bind ?_
  unfold Builtin.Itertools.itNewRecord
  rw [cb_noDict]
  have hfit : (cbF h1.objs.size (if k > us.length then 2 else 0) .none (List.range k)).size ≤ sizeLine + 2 := by
    show ((List.range k).map fun (i : Nat) => rawInt i).length + 3 ≤ sizeLine + 2
    rw [List.length_map, List.length_range, sizeLine_eq]
    omega
  refine wpAny_newObj_type (data := .fields (cbF h1.objs.size (if k > us.length then 2 else 0) .none (List.range k))) ?_ hfit
  refine wpAny_pure ?_
  have hI : IsCb (h2.push { cls := .type "itertools.combinations", data := .fields (cbF h1.objs.size (if k > us.length then 2 else 0) .none (List.range k)) }) (h1.objs.size + 1) h1.objs.size (if k > us.length then 2 else 0) .none (List.range k) := by
    rw [← hz]
    exact Heap.get?_push_size _ rfl
  rw [hz]
  exact hQ _ _ h1.objs.size (Heap.get?_push_of_some _ hT) hge (fun b o e => Heap.get?_push_of_some _ (k2 b o e)) hI
theorem cb_callL {l : Addr} {us : List Value} {k : Nat} {tt : Tok} {Q : Value → Shared → Prop} (hl : s.heap.IsList l us.toArray) (hn : us.length ≤ 7) (hk : k ≤ 8)
    (hQ : ∀ h' tk p, IsPool h' p us.toArray → (∀ b o, s.heap.get? b = some o → b < p) → (∀ b o, s.heap.get? b = some o → h'.get? b = some o) → IsCb h' (p + 1) p (if k > us.length then 2 else 0) .none (List.range k) → Q (.ref (p + 1)) { s with heap := h', toks := tk }) :
    wpAny (model prog w) A (call (.type "itertools.combinations") [.ref l, .int (k : Int) tt]) Q E s := by
  refine callType_codes (Q₁ := fun obj s₁ => s₁.TypeIs obj "itertools.combinations" ∧ Q obj s₁) cb_called (cb_typeCall _ _) F.entry_object_init
    (cb_newL (A := A.in1) hl hn hk fun h' tk p e1 e4 e5 e6 => ⟨⟨_, e6, rfl⟩, hQ h' tk p e1 e4 e5 e6⟩) fun obj s₁ h₁ => ?_
  exact ⟨h₁.1, F.args_object_init_3 obj _ _, object_init_meets cb_called.init.lookup cb_called.made (by decide) prog w A.in1 _ s₁ ⟨h₁.1, rfl, h₁.2⟩⟩
end
def iComb (K : PySem.W.Frag) (ta tb : TE) : TI := fun σ H R => ta σ H fun x H1 => tb σ H1 fun y H2 => ∃ (l : Addr) (xs : List V) (k : Nat), x = .ref l ∧ y = .int (k : Int) ∧ SqL K H2 l xs ∧ xs.length ≤ 7 ∧ k ≤ 8 ∧ R (Itc xs k) H2
theorem pi_comb {X : Cx} {tg a b : Expr} {ta tb : TE} {p q : Pos} (hg : Gl X "combinations") (hm : X.mg "combinations" = some (.type "itertools.combinations")) (ha : PE X a ta) (hb : PE X b tb)
    (n2 : starEach [a, b] X.env = (false, eval a X.env) :: starEach [b] X.env := by rfl) (n3 : starEach [b] X.env = (false, eval b X.env) :: starEach [] X.env := by rfl) (h3 : (backTo q (starEach [b] X.env)).any (·.1) = false := by rfl) :
    PI X tg (.Call (.Name "combinations" p) [a, b] [] q) (iComb X.K ta tb) := by
  refine ⟨fun pins s σ H R I h => ?_⟩
  refine wpAny_Call_Name_kw (ld_glob I hg hm (PyProof.Rows.callWith_type1 (args_cons (thn (ha.run pins s σ H _ I h) fun v s1 h1 => ?_) n2) n2 h3))
  obtain ⟨x, H1, I1, rx, h1⟩ := h1
  refine one_arg hb I1 h1 (fun y s2 yv H2 I2 ry q2 => ?_) n3
  obtain ⟨l, xs, k, rfl, rfl, hq, l7, k8, r⟩ := q2
  obtain rfl : v = Value.ref l := rx
  obtain ⟨tt, rfl⟩ := ry
  obtain ⟨its, rv, pl, hz⟩ := I2.list hq
  have le := rv.length
  have hL : s2.heap.IsList l its.toArray := by
    obtain ⟨o, n, q1, q2, _, q3⟩ := pl
    exact ⟨o, q1, q2, n, q3⟩
  refine cb_callL hL (by omega) k8 fun h' tk p e1 e4 e5 e6 => cb_pyIter e6 ?_
  have J : Inv X pins σ H2 { s2 with heap := h', toks := tk } := I2.kept e5
  refine ⟨p + 1, [p + 1, p], _, _, H2, rfl, J, turn (p + 1) p rv l7 k8 (Nat.ne_of_lt (Nat.lt_succ_self p)), ⟨e1, ?_⟩, fun b hb => ?_, r⟩
  · by_cases c : k > its.length
    · rw [if_pos c] at e6
      exact .inr (.inr ⟨c, _, _, e6⟩)
    · rw [if_neg c] at e6
      exact .inl ⟨rfl, by omega, e6⟩
  · refine fp_fresh I2 (b := b) (fun c o e => ?_)
    rcases List.mem_cons.mp hb with z | z
    · rw [z]; exact Nat.lt_succ_of_lt (e4 c o e)
    · rw [List.mem_singleton.mp z]; exact e4 c o e
end CBI

set_option maxHeartbeats 8000000
/-! The fault of three products. -/
namespace K14
open PySem PySem.Spec PyProof.Rows L2
abbrev sTf : Stmt := topS 32
abbrev nTf : List Str := ["things", "rank", "by_lot", "lot", "rest", "four", "thing"]
theorem scTf : FnScope nTf ["things", "rank", "by_lot"] (defScope sTf) := ⟨rfl, rfl, rfl, by decide +kernel, rfl, by decide +kernel, by decide +kernel⟩
theorem for_comb {xs : List V} {k : Nat} {g : TG} {tb : TS} {D : Ends} {σ : L2.St} {H : Hp} (Pv : Nat → L2.St → Hp → Prop) (h0 : Pv 0 σ H)
    (hs : ∀ i c T σ H, (CB.combs xs.length k)[i]? = some c → Pv i σ H → H T = none → g (.ref T) σ (upd H T (.tup (c.map fun j => xs.getD j .non))) fun σ2 H2 => tb { D with nx := Pv (i + 1), ct := Pv (i + 1), bk := D.nx } σ2 H2) (hd : ∀ σ H, Pv (CB.combs xs.length k).length σ H → D.nx σ H) :
    ∃ W : Nat → Nat → L2.St → Hp → Prop, (∃ m, W 0 m σ H) ∧ ∀ i m σ H, W i m σ H →
      ((CBI.Itc xs k).stop i H ∧ D.nx σ H) ∨ ((CBI.Itc xs k).go i H ∧ ∃ N : L2.St → Hp → Prop, (∀ σ' H', N σ' H' → ∃ m', m' < m ∧ W (i + 1) m' σ' H') ∧ ∀ x H', (CBI.Itc xs k).yld i H x H' → g x σ H' fun σ2 H2 => tb { D with nx := N, ct := N, bk := D.nx } σ2 H2) := by
  refine ⟨fun i m σ H => m = (CB.combs xs.length k).length - i ∧ i ≤ (CB.combs xs.length k).length ∧ Pv i σ H, ⟨(CB.combs xs.length k).length, by simp, Nat.zero_le _, h0⟩, ?_⟩
  rintro i m σ H ⟨rfl, hi, p⟩
  by_cases hlt : i < (CB.combs xs.length k).length
  · refine .inr ⟨hlt, Pv (i + 1), fun σ' H' p' => ⟨(CB.combs xs.length k).length - (i + 1), by omega, rfl, hlt, p'⟩, fun x H' y => ?_⟩
    obtain ⟨T, c, hc, rfl, nT, rfl⟩ := y
    exact hs i c T σ H hc p nT
  · have e : i = (CB.combs xs.length k).length := by omega
    subst e
    exact .inl ⟨Nat.le_refl _, hd σ H p⟩
theorem c4 : ((List.range 8).all fun m => (CB.combs m 4).all fun c => c.length == 4 && c.all fun j => decide (j < m)) = true := by decide +kernel
theorem c4_of {m : Nat} (hm : m ≤ 7) {c : List Nat} (hc : c ∈ CB.combs m 4) : c.length = 4 ∧ ∀ j ∈ c, j < m := by
  have h1 := List.all_eq_true.mp (List.all_eq_true.mp c4 m (List.mem_range.mpr (by omega))) c hc
  rw [Bool.and_eq_true] at h1
  exact ⟨by simpa using h1.1, fun j hj => of_decide_eq_true (List.all_eq_true.mp h1.2 j hj)⟩
def pick (rest c : List Nat) : List Nat := c.map fun j => rest.getD j 0
def fours (rest : List Nat) : List (List Nat) := (CB.combs rest.length 4).map (pick rest)
def restF (n : Nat) (lot : List Nat) : List Nat := (List.range n).filter fun t => !lot.contains t
def holdL (g : List Int → Int) (ns : List Int) : List Nat → Bool
  | [b, c, d, e] => holdF g ns b c d e
  | _ => true
def thrF (n r : Nat) (g : List Int → Int) : Option (List Nat × List Nat) := if r < 2 then none else (CB.combs n (r - 2)).findSome? fun lot => ((fours (restF n lot)).find? fun four => !holdL g (ci lot) four).map fun four => (lot, four)
theorem pick_V {rest c : List Nat} (h : ∀ j ∈ c, j < rest.length) : (c.map fun j => (CB.lotV rest).getD j .non) = CB.lotV (pick rest c) := by
  unfold pick CB.lotV
  rw [List.map_map]
  refine List.map_congr_left fun j hj => ?_
  have := h j hj
  simp [List.getD_eq_getElem?_getD, List.getElem?_eq_getElem this]
theorem combs_le : ((List.range 8).all fun n => (List.range (n + 1)).all fun r => (CB.combs n r).all fun c => decide (c.length ≤ 7)) = true := by decide +kernel
theorem combs_le7 {n r : Nat} (hn : n ≤ 7) (hr : r ≤ n) {c : List Nat} (hc : c ∈ CB.combs n r) : c.length ≤ 7 := by
  have h1 := List.all_eq_true.mp combs_le n (List.mem_range.mpr (by omega))
  exact of_decide_eq_true (List.all_eq_true.mp (List.all_eq_true.mp h1 r (List.mem_range.mpr (by omega))) c hc)
def spTf : Sp := fun vs H Q _ => ∃ (n r : Nat) (d : Addr) (kvs : List (List Key × V)) (g : List Int → Int), vs = [.int (n : Int), .int (r : Int), .ref d] ∧ n ≤ 7 ∧ r ≤ n ∧ H d = some (.dT kvs) ∧ (∀ ms, (valV kvs (keyI ms)).getD (.int 0) = .int (g ms)) ∧ (∀ ms, unit3 (g ms)) ∧
  (thrF n r g = none → ∀ H', Same H H' → Q .non H') ∧ (∀ lot four, thrF n r g = some (lot, four) → ∀ T a1 a2 H', Same H H' → H T = none → H' T = some (.tup [.str "three", .ref a1, .ref a2]) → H' a1 = some (.tup (CB.lotV lot)) → H' a2 = some (.tup (CB.lotV four)) → Q (.ref T) H')
section
variable {P : Program} {w : World} {K : PySem.W.Frag} {mg : Str → Option Value} {base : Heap}
theorem ok_tf {f fl ft : Addr} {fd dl dt : FuncData} {k : Nat} (F : Fun K "_three_fault" "_three_fault" sTf f fd) (mr : mg "range" = none) (mc : mg "combinations" = some (.type "itertools.combinations"))
    (L : FnOk P w K mg base CX0 k fl dl ["many", "size"] spLots) (gL : mg "lots" = some (.ref fl)) (kL : PySem.W.keepIn K (.ref fl) = true) (bL : Binds K dl ["many", "size"] [])
    (Th : FnOk P w K mg base CX0 k ft dt ["by_lot", "lot", "four"] spTh) (gT : mg "_three_hold" = some (.ref ft)) (kT : PySem.W.keepIn K (.ref ft) = true) (bT : Binds K dt ["by_lot", "lot", "four"] []) : FnOk P w K mg base CX0 (k + 1) f fd ["things", "rank", "by_lot"] spTf := by
  refine F.ok scTf (fun vs H Q E ⟨n, r, d, kvs, g, e1, _⟩ => by rw [e1]; rfl) (fun cdv A outer s H vs Q E hr h => ?_)
  refine ⟨_, pss_cons (ps_if (pt_cmpR op_lt (pv 1) pe_int (nomark _)) (pss_one (ps_ret pe_non)) pss_nil)
    (pss_cons (ps_for PassesOwn.never rfl (pi_list (pe_call L hr (by rfl) gL kL bL .nil pass0 (pa_cons (pv 0) (pa_cons (pe_op op_sub (pv 1) pe_int) pa_nil)))) (pg_name (i := 3) scTf.nd rfl (Or.inr rfl))
      (pss_cons (ZM.ps_bx (ps_setLc (i := 4) (own := [("thing", 6)]) (g := gName 6) rfl scTf.nd rfl rfl (sw_true rfl rfl rfl (by decide +kernel)) (pi_range1 (by rfl) mr (pa_cons (pv 0) pa_nil)) (blkOk_by (N := nTf) (sc := defScope sTf) (by decide +kernel))
            (fun _ _ _ _ _ => pg_name (i := 6) scTf.nd rfl (Or.inl rfl)) (fun _ _ _ _ _ => pts_one (pt_cmpR (r := rIn K true) op_notIn_seq (pv 6) (pv 3) (by with_unfolding_all rfl))) (fun _ _ _ _ _ => pv 6)))
      (pss_one (ps_for PassesOwn.never rfl (CBI.pi_comb (by rfl) mc (pv 4) pe_int) (pg_name (i := 5) scTf.nd rfl (Or.inl rfl))
        (pss_one (ps_if (pt_not (pt_val (pe_call Th hr (by rfl) gT kT bT .nil pass0 (pa_cons (pv 2) (pa_cons (pv 3) (pa_cons (pv 5) pa_nil)))))) (pss_one (ps_ret (pe_tup (pa_cons pe_str (pa_cons (pv 3) (pa_cons (pv 5) pa_nil)))))) pss_nil))))))
    (pss_one (ps_ret pe_non))), ?_⟩
  obtain ⟨n, r, d, kvs, g, rfl, n7, rn, hd, hg, hu, q0, q1⟩ := h
  have fresh : ∀ {H' : Hp} {a : Addr}, Same H H' → H' a = none → H a = none := fun {H' a} sm e => by
    cases c : H a with
    | none => rfl
    | some o => rw [sm _ _ c] at e; cases e
  refine ⟨_, rfl, _, _, rfl, rfl, _, rfl, ?_⟩
  by_cases r2 : r < 2
  · have et : thrF n r g = none := by unfold thrF; rw [if_pos r2]
    exact if_t (by simp; omega) (q0 et _ (Same.refl _))
  refine if_f (by simp; omega) ?_
  have et : thrF n r g = (CB.combs n (r - 2)).findSome? fun lot => ((fours (restF n lot)).find? fun four => !holdL g (ci lot) four).map fun four => (lot, four) := by unfold thrF; rw [if_neg r2]
  have er : (r : Int) - 2 = ((r - 2 : Nat) : Int) := by omega
  refine ⟨_, rfl, _, rfl, _, _, rfl, rfl, n, r - 2, by rw [← er]; rfl, by omega, by omega, fun l ts H1 s1 nl hl LA => ?_⟩
  obtain ⟨lt, LG⟩ := lots_get LA
  refine ⟨l, rfl, ⟨_, SqL.of hl⟩, for_list (K := K) (a := l) (fun i σ H' => ∃ x3 x4 x5 x6, σ = [some (.int (n : Int)), some (.int (r : Int)), some (.ref d), x3, x4, x5, x6] ∧ Same H1 H' ∧ thrF n r g = ((CB.combs n (r - 2)).drop i).findSome? fun lot => ((fours (restF n lot)).find? fun four => !holdL g (ci lot) four).map fun four => (lot, four))
    ⟨_, _, _, _, rfl, Same.refl _, et⟩ (fun i σ H' _ ⟨_, _, _, _, _, sm, _⟩ => sm.seq (SqL.of hl)) ?_ ?_⟩
  · rintro i x σ H2 hx ⟨x3, x4, x5, x6, rfl, sm2, eF⟩
    rw [List.getElem?_map] at hx
    obtain ⟨ta, ht, rfl⟩ := Option.map_eq_some_iff.mp hx
    obtain ⟨lot, hlot, hta⟩ := LG i ta ht
    have lot7 : lot.length ≤ 7 := combs_le7 n7 (by omega) (List.mem_of_getElem? hlot)
    rw [drop_atA hlot, fs_cons] at eF
    refine ZM.lcf_rng (n := n) (fun w => !lot.contains w) (fun w => V.int (w : Int)) (fun R r => ⟨_, rfl, r⟩) (by omega) (fun _ => rfl) ?_ ?_ ?_
    · intro w H5 R hw s5 hR
      refine ⟨_, rfl, _, rfl, ta, CB.lotV lot, rfl, .inr (SqT.of (s5 _ _ (sm2 _ _ hta))), rfl, flat_lot _, _, rfl, ?_⟩
      have ei : inV (V.int (0 + (w : Int))) (CB.lotV lot) = lot.contains w := by rw [Int.zero_add, inV_lot]
      rw [ei]
      exact hR _ (Same.refl _)
    · intro w H5 R hw c s5 hR
      exact ⟨_, rfl, by rw [Int.zero_add]; exact hR _ (Same.refl _)⟩
    intro Dr H3 s3 nDr hDr
    have hDr' : H3 Dr = some (.lst (CB.lotV (restF n lot))) := hDr
    have rest7 : (restF n lot).length ≤ 7 := Nat.le_trans (List.length_filter_le _ _) (by simp; omega)
    have lV : (CB.lotV (restF n lot)).length = (restF n lot).length := by simp
    refine ⟨_, rfl, Dr, CB.lotV (restF n lot), 4, rfl, rfl, SqL.of hDr', by omega, by omega, for_comb (xs := CB.lotV (restF n lot)) (k := 4) (fun j σ H' => ∃ x5 x6, σ = [some (.int (n : Int)), some (.int (r : Int)), some (.ref d), some (.ref ta), some (.ref Dr), x5, x6] ∧ Same H3 H' ∧ (fours (restF n lot)).find? (fun four => !holdL g (ci lot) four) = ((fours (restF n lot)).drop j).find? fun four => !holdL g (ci lot) four)
      ⟨_, _, rfl, Same.refl _, rfl⟩ ?_ ?_⟩
    · rintro j c T σ H4 hc ⟨x5, x6, rfl, s4, eO⟩ nT
      rw [lV] at hc
      obtain ⟨c4, cj⟩ := c4_of rest7 (List.mem_of_getElem? hc)
      have hf : (fours (restF n lot))[j]? = some (pick (restF n lot) c) := by
        unfold fours
        rw [List.getElem?_map, hc]
        rfl
      rw [drop_atA hf, List.find?_cons] at eO
      have sT := same_new (o := .tup (CB.lotV (pick (restF n lot) c))) nT
      rw [pick_V cj]
      have pl : (pick (restF n lot) c).length = 4 := by unfold pick; rw [List.length_map, c4]
      generalize efo : pick (restF n lot) c = four at *
      obtain ⟨b1, b2, b3, b4, rfl⟩ : ∃ b1 b2 b3 b4, four = [b1, b2, b3, b4] := by
        match four, pl with
        | [b1, b2, b3, b4], _ => exact ⟨_, _, _, _, rfl⟩
      have sA := s1.trans (sm2.trans (s3.trans s4))
      refine ⟨_, rfl, _, rfl, _, rfl, d, ta, T, kvs, lot, b1, b2, b3, b4, g, rfl, sT _ _ (sA _ _ hd), sT _ _ (s4 _ _ (s3 _ _ (sm2 _ _ hta))), lot7, upd_same, hg, hu, fun H5 s5 => ⟨_, rfl, ?_⟩⟩
      have eh : holdL g (ci lot) [b1, b2, b3, b4] = holdF g (ci lot) b1 b2 b3 b4 := rfl
      rw [← eh]
      cases cc : holdL g (ci lot) [b1, b2, b3, b4]
      · refine if_t rfl ?_
        rw [cc] at eO
        have eO : (fours (restF n lot)).find? (fun four => !holdL g (ci lot) four) = some [b1, b2, b3, b4] := eO
        rw [eO] at eF
        have eE : thrF n r g = some (lot, [b1, b2, b3, b4]) := eF
        refine ⟨_, rfl, _, rfl, ?_⟩
        have s15 := s1.trans (sm2.trans (s3.trans (s4.trans (sT.trans s5))))
        have key2 : ∀ T2, H5 T2 = none → Q (.ref T2) (upd H5 T2 (.tup [.str "three", .ref ta, .ref T])) := fun T2 nT2 => q1 lot _ eE T2 ta T _ (s15.trans (same_new nT2)) (fresh s15 nT2) upd_same (same_new nT2 _ _ (s5 _ _ (sT _ _ (s4 _ _ (s3 _ _ (sm2 _ _ hta)))))) (same_new nT2 _ _ (s5 _ _ upd_same))
        exact ⟨by simp [sizeLine_eq], key2⟩
      · rw [cc] at eO
        exact if_f rfl ⟨_, _, rfl, s4.trans (sT.trans s5), eO⟩
    · rintro σ H4 ⟨x5, x6, rfl, s4, eO⟩
      rw [lV, show (CB.combs (restF n lot).length 4).length = (fours (restF n lot)).length by simp [fours], List.drop_length] at eO
      have eO : (fours (restF n lot)).find? (fun four => !holdL g (ci lot) four) = none := eO
      rw [eO] at eF
      exact ⟨_, _, _, _, rfl, sm2.trans (s3.trans s4), eF⟩
  · rintro σ H2 ⟨x3, x4, x5, x6, rfl, sm2, eF⟩
    rw [List.length_map, ← lt, List.drop_length] at eF
    exact q0 eF _ (s1.trans sm2)
end
end K14

set_option maxHeartbeats 2000000
/-! for k, v in d.items(), d a dict whose keys are tuples (locked) -/
namespace ITT
open PySem PySem.Spec PyProof.Rows L2
section
variable {X : Cx} {pins : List (Addr × Obj)} {σ : L2.St} {H : Hp} {s : Shared} {d : Addr} {o : Obj}
theorem frzT {kvs : List (List Key × V)} (I : Inv X pins σ H s) (h : H d = some (.frz o (.dT kvs))) :
    (d == sysModules) = false ∧ s.heap.get? d = some o ∧ o.ExactDict ∧ ∃ (es : Array DictEntry) (ep : Nat), o.data = .dict es ep ∧ es.size = kvs.length ∧
      ∀ (i : Nat) (k : List Key) (v : V), kvs[i]? = some (k, v) → ∃ (en : DictEntry) (q : Addr), es[i]? = some en ∧ en.key = .ref q ∧ H q = some (.tup (k.map kV)) ∧ RelV v en.val := by
  obtain ⟨hd, z, hs, xs, pr, o', es, ep, ho, hx, hdt, he, _⟩ := I.hok d _ h
  rw [hd] at ho
  cases ho
  refine ⟨hs, hd, hx, es, ep, hdt, ?_, fun i k v e => ?_⟩
  · have l1 : es.size = xs.length := size_of_entries he
    have l2 : kvs.length = xs.length := Paired.length pr
    omega
  · obtain ⟨b, hb, e1, e2, e3⟩ := paired_get pr e
    have q := entry_at he i
    rw [hb] at q
    exact ⟨_, b.2.1, q, rfl, e2, e3⟩
end
/-- the pairs, each a new tuple of the key's own tuple and the value -/
def It (d : Addr) (o : Obj) (kvs : List (List Key × V)) : L2.It :=
  ⟨fun i H => H d = some (.frz o (.dT kvs)) ∧ i < kvs.length, fun i H x H' => ∃ T k v q, kvs[i]? = some (k, v) ∧ H q = some (.tup (k.map kV)) ∧ x = .ref T ∧ H T = none ∧ H' = upd H T (.tup [.ref q, v]), fun i H => H d = some (.frz o (.dT kvs)) ∧ kvs.length ≤ i⟩
theorem turn {P : Program} {w : World} {K : PySem.W.Frag} {d : Addr} {o : Obj} {es : Array DictEntry} {ep : Nat} {kvs : List (List Key × V)} {elts : List Expr} {kk : Nat} {tpos : Pos} (it : Addr) (hod : o.data = .dict es ep) :
    Turn P w K (.Tuple elts kk tpos) (It d o kvs) [it] it (fun i h => ∃ ok ov, IsItemIter h it d i kvs.length ep ok ov) where
  mem := by simp
  obj := fun i h st b hb => by
    have e : b = it := by simpa using hb
    subst e
    obtain ⟨ok, ov, e⟩ := st
    exact ⟨_, e, fun v z => nomatch z⟩
  keep := fun i h h' st k => let ⟨ok, ov, e⟩ := st; ⟨ok, ov, k it (by simp) _ e⟩
  item := by
    intro X hP hw hK hc i pins s σ H E I hf st hg
    subst hP hw hK
    obtain ⟨hd, hi⟩ := hg
    obtain ⟨hs, hgd, hx, es', ep', hdt, hsz, ent⟩ := frzT I hd
    obtain ⟨rfl, rfl⟩ := dict_ep hod hdt
    obtain ⟨⟨k, v⟩, hkv⟩ : ∃ p, kvs[i]? = some p := ⟨kvs[i], List.getElem?_eq_getElem hi⟩
    obtain ⟨en, q, hen, hkey, hq, rv⟩ := ent i k v hkv
    obtain ⟨ok, ov, he⟩ := st
    rw [← hsz] at he
    have hlt : it < s.heap.objs.size := Heap.lt_size he
    obtain ⟨hi2, een⟩ := Array.getElem?_eq_some_iff.mp hen
    refine wpAny_pyNext_items_item_raw he ⟨o, hgd, hx, hdt⟩ hi2 fun h' ho hT hz hk => ?_
    rw [een, hkey] at ho hT
    refine ⟨_, rfl, wpAny_letOwnedTupleGo_items (s := { s with heap := h' }) ho fun h'' he' sb => ?_⟩
    have hT2 : h''.get? s.heap.objs.size = some { cls := .type "tuple", data := .seq #[.ref q, en.val] } := (sb.2 _ (Nat.ne_of_gt hlt)).trans hT
    have new : ObjOk X.prog X.w (upd H s.heap.objs.size (.tup [.ref q, v])) h'' s.heap.objs.size (.tup [.ref q, v]) :=
      ⟨by show 2 ≤ sizeLine; decide, [.ref q, en.val], .cons rfl (.cons rv .nil), ⟨_, hT2, rfl, _, rfl⟩⟩
    have I1 : Inv X pins σ (upd H s.heap.objs.size (.tup [.ref q, v])) { s with heap := h'' } :=
      I.turnedNew (t' := s.toks) (ch := [it]) (fun b ob hb e => (sb.2 b (by simpa using hb)).trans (hk b ob (by simpa using hb) e)) hf (Nat.le_refl _) new
    refine ⟨.ref s.heap.objs.size, _, I1, rfl, ⟨_, k, v, q, hkv, hq, rfl, I.hok.fresh (Nat.le_refl _), rfl⟩, ⟨.ref q, en.val, ?_⟩, fun b hb => ?_⟩
    · rw [← hsz]; exact he'
    · have e : b = it := by simpa using hb
      rw [e, upd_ne (Nat.ne_of_lt hlt)]
      exact (hf it (by simp)).1
  done := by
    intro X hP hw hK hc i pins s σ H E I hf st hg
    subst hP hw hK
    obtain ⟨hd, hi⟩ := hg
    obtain ⟨f0, f1, f2, f3, f4, f5⟩ := hf it (by simp)
    obtain ⟨hs, hgd, hx, es', ep', hdt, hsz, ent⟩ := frzT I hd
    obtain ⟨rfl, rfl⟩ := dict_ep hod hdt
    obtain ⟨ok, ov, he⟩ := st
    rw [← hsz] at he
    exact wpAny_pyNext_items_end_raw (I.ok.hd hc) he ⟨o, hgd, hx, hdt⟩ (by omega) fun h' eb => ⟨rfl, I.turned (t' := s.toks) (fun b ob hb e => eb b ob hb e) f0 f1 f3 f4 f5⟩
  self := fun A i s Q E st h => let ⟨_, _, e⟩ := st; PySem.W.kcp_self e h
def iItems (td : TE) : TI := fun σ H R => td σ H fun x H1 => ∃ d o kvs, x = .ref d ∧ H1 d = some (.frz o (.dT kvs)) ∧ R (It d o kvs) H1
theorem pi_items {X : Cx} {e : Expr} {td : TE} {apos cpos : Pos} {elts : List Expr} {kk : Nat} {tpos : Pos} (he : PE X e td) (hbase : attributeBase e "items" X.env (eval e X.env) = eval e X.env := by rfl) (hline : (apos.endLine == cpos.line) = true := by rfl) :
    PI X (.Tuple elts kk tpos) (.Call (.Attribute e "items" apos) [] [] cpos) (iItems td) := by
  refine ⟨fun pins s σ H R I h => ?_⟩
  refine wpAny_Call_method (T := "dict") (id := "dict.items") hbase rfl hline F.plainAttrs_dict F.slot_dict_items F.type_dict_items (thn (he.run pins s σ H _ I h) fun u s1 ⟨x, H1, I1, rx, d, o, kvs, ex, hd, q⟩ => ?_)
  subst ex
  obtain rfl : u = Value.ref d := rx
  obtain ⟨hs, hgd, hx, es, ep, hdt, hsz, ent⟩ := frzT I1 hd
  have raw : DT.Raw s1.heap d es ep := ⟨o, hgd, hx, hdt⟩
  refine ⟨raw.typeIs, fun a e => by cases e; exact ⟨o, hgd, hx.2.1⟩, ?_⟩
  have I2 : Inv X pins σ H1 { s1 with heap := s1.heap.push { cls := .type "dict_items", data := .fields #[.ref d] } } := I1.kept (t' := s1.toks) fun b ob q => Heap.get?_push_of_some _ q
  have fin : wpAny (model X.prog X.w) X.A (pyIter (.ref s1.heap.objs.size)) (PIE X pins σ (.Tuple elts kk tpos) R) X.xe { s1 with heap := s1.heap.push { cls := .type "dict_items", data := .fields #[.ref d] } } := by
    refine wpAny_pyIter_items_raw (d := d) ⟨_, Heap.get?_push_size _ rfl, rfl, rfl⟩ (raw.push _) (pi_one (tk := s1.toks) I2 _ (turn _ hdt) ⟨.none, .none, ?_⟩ q)
    rw [← hsz]
    exact Heap.get?_push_size _ rfl
  show wpAny _ _ (callWith cpos (.builtin "dict.items") [.ref d] [] []) _ X.xe s1
  exact method_meetsIn F.slot_dict_items F.entry_dict_items rfl (PySem.evalArgs_none ⟨rfl, raw.typeIs, F.args_dict_items_1 _, _, DT.meetsItems hs, ⟨raw, fin⟩⟩)
end ITT

set_option maxHeartbeats 8000000
/-! A table judged. -/
namespace K14
open PySem PySem.Spec PyProof.Rows L2
theorem lc_items {d : Addr} {o : Obj} {kvs : List (List Key × V)} {g : TG} {tt : TT} {te : TE} {vs : List Nat} {σ : L2.St} {H1 : Hp} {D : Addr} {Qd : Hp → Prop} (Pv : Nat → Hp → Prop) (h0 : Pv 0 (upd H1 D (.lst []))) (hl : ∀ i H, Pv i H → H d = some (.frz o (.dT kvs)))
    (hs : ∀ i k v q T H, kvs[i]? = some (k, v) → H q = some (.tup (k.map kV)) → H T = none → Pv i H → g (.ref T) (wipe σ vs) (upd H T (.tup [.ref q, v])) fun σ2 H2 => wipe σ2 vs = wipe σ vs ∧ tt σ2 H2 fun b H3 =>
      if b = true then te σ2 H3 fun y H4 => ∃ acc, H4 D = some (.lst acc) ∧ acc.length < sizeLine ∧ Pv (i + 1) (upd H4 D (.lst (acc ++ [y]))) else Pv (i + 1) H3) (hd : ∀ H, Pv kvs.length H → Qd H) :
    ∃ W : Nat → Nat → Hp → Prop, (∃ m, W 0 m (upd H1 D (.lst []))) ∧ ∀ i m H, W i m H →
      ((ITT.It d o kvs).stop i H ∧ Qd H) ∨ ((ITT.It d o kvs).go i H ∧ ∃ Nx : Hp → Prop, (∀ H', Nx H' → ∃ m', m' < m ∧ W (i + 1) m' H') ∧ ∀ x H', (ITT.It d o kvs).yld i H x H' → g x (wipe σ vs) H' fun σ2 H2 => wipe σ2 vs = wipe σ vs ∧ tt σ2 H2 fun b H3 =>
        if b = true then te σ2 H3 fun y H4 => ∃ acc, H4 D = some (.lst acc) ∧ acc.length < sizeLine ∧ Nx (upd H4 D (.lst (acc ++ [y]))) else Nx H3) := by
  refine ⟨fun i m H => m = kvs.length - i ∧ i ≤ kvs.length ∧ Pv i H, ⟨kvs.length, by simp, Nat.zero_le _, h0⟩, ?_⟩
  rintro i m H ⟨rfl, hi, p⟩
  have q := hl i H p
  by_cases hlt : i < kvs.length
  · refine .inr ⟨⟨q, hlt⟩, Pv (i + 1), fun H' p' => ⟨kvs.length - (i + 1), by omega, rfl, hlt, p'⟩, fun x H' y => ?_⟩
    obtain ⟨T, k, v, q2, e1, e2, rfl, nT, rfl⟩ := y
    exact hs i k v q2 T H e1 e2 nT p
  · obtain rfl : i = kvs.length := by omega
    exact .inl ⟨⟨q, Nat.le_refl _⟩, hd H p⟩
theorem unlock_same {H1 H' : Hp} {d : Addr} {od : Obj} {u : HO} (hd : H1 d = some u) (sm : Same (upd H1 d (.frz od u)) H') : Same H1 (upd H' d u) := by
  intro b o e
  by_cases c : b = d
  · subst c
    rw [upd_same, ← hd]
    exact e
  · rw [upd_ne c]
    exact sm _ _ (by rw [upd_ne c]; exact e)
abbrev sJd : Stmt := topS 27
abbrev nJd : List Str := ["things", "rank", "signs", "by_lot", "bases", "fault", "lot", "sign"]
theorem scJd : FnScope nJd ["things", "rank", "signs"] (defScope sJd) := ⟨rfl, rfl, rfl, by decide +kernel, rfl, by decide +kernel, by decide +kernel⟩
/-- the bases of a table -/
def nz (p : List Nat × Int) : Bool := !decide (p.2 = 0)
def basesZ (z : List (List Nat × Int)) : List (List Nat) := (z.filter nz).map (·.1)
def basesF (n r : Nat) (ss : List Int) : List (List Nat) := basesZ ((CB.combs n r).zip ss)
/-- a table's sign for a lot, nought elsewhere -/
def gT (n r : Nat) (ss : List Int) (ms : List Int) : Int := match valV (tab n r ss) (keyI ms) with
  | some (.int s) => s
  | _ => 0
theorem tab_zip (n r : Nat) (ss : List Int) : tab n r ss = ((CB.combs n r).zip ss).map fun p => (key p.1, V.int p.2) := by
  unfold tab
  rw [List.zip, List.map_zipWith]
theorem isS_un {n : Int} (h : isS n = true) : unit3 n := by
  unfold isS inV at h
  simp [eqV] at h
  unfold unit3
  omega
theorem valV_mem {kvs : List (List Key × V)} {k : List Key} {v : V} (h : valV kvs k = some v) : ∃ k', (k', v) ∈ kvs := by
  unfold valV at h
  obtain ⟨p, hp, rfl⟩ := Option.map_eq_some_iff.mp h
  exact ⟨p.1, List.mem_of_find?_eq_some hp⟩
theorem gT_ok {n r : Nat} {ss : List Int} (ha : ss.all isS = true) (ms : List Int) : (valV (tab n r ss) (keyI ms)).getD (.int 0) = .int (gT n r ss ms) ∧ unit3 (gT n r ss ms) := by
  unfold gT
  cases e : valV (tab n r ss) (keyI ms) with
  | none => exact ⟨rfl, .inl rfl⟩
  | some v =>
    obtain ⟨k', hm⟩ := valV_mem e
    rw [tab_zip] at hm
    obtain ⟨p, hp, ep⟩ := List.mem_map.mp hm
    cases ep
    exact ⟨rfl, isS_un (List.all_eq_true.mp ha _ (List.of_mem_zip hp).2)⟩
theorem basesZ_sub {z : List (List Nat × Int)} : (basesZ z).Sublist (z.map (·.1)) := (List.filter_sublist).map _
theorem zip_sub (n r : Nat) (ss : List Int) (hl : ss.length = (CB.combs n r).length) : ((CB.combs n r).zip ss).map (·.1) = CB.combs n r := List.map_fst_zip (by omega)
theorem basesF_sub {n r : Nat} {ss : List Int} (hl : ss.length = (CB.combs n r).length) : (basesF n r ss).Sublist (CB.combs n r) := by
  have h := basesZ_sub (z := (CB.combs n r).zip ss)
  rw [zip_sub n r ss hl] at h
  exact h
theorem basesZ_next {z : List (List Nat × Int)} {i : Nat} {p : List Nat × Int} (h : z[i]? = some p) : basesZ (z.take (i + 1)) = if nz p = true then basesZ (z.take i) ++ [p.1] else basesZ (z.take i) := by
  unfold basesZ
  rw [List.take_add_one, h]
  show ((z.take i ++ [p]).filter nz).map (·.1) = _
  rw [List.filter_append, List.map_append]
  by_cases c : nz p = true
  · rw [if_pos c, List.filter_cons, if_pos c]; rfl
  · rw [if_neg c, List.filter_cons, if_neg c]; simp
def spJd (K : PySem.W.Frag) : Sp := fun vs H Q _ => ∃ (n r : Nat) (a : Addr) (ss : List Int), vs = [.int (n : Int), .int (r : Int), .ref a] ∧ n ≤ 7 ∧ r ≤ n ∧ SqE H a ss ∧ ss.length = (CB.combs n r).length ∧ ss.all isS = true ∧
  (basesF n r ss = [] → ∀ T H', Same H H' → H T = none → H' T = some (.tup [.str "none"]) → Q (.ref T) H') ∧
  (basesF n r ss ≠ [] → ∀ one other t, exF n (basesF n r ss) = some (one, other, t) → ∀ T a1 a2 H', Same H H' → H T = none → H' T = some (.tup [.str "exchange", .ref a1, .ref a2, .int (t : Int)]) → H' a1 = some (.tup (CB.lotV one)) → H' a2 = some (.tup (CB.lotV other)) → Q (.ref T) H') ∧
  (basesF n r ss ≠ [] → exF n (basesF n r ss) = none → ∀ lot four, thrF n r (gT n r ss) = some (lot, four) → ∀ T a1 a2 H', Same H H' → H T = none → H' T = some (.tup [.str "three", .ref a1, .ref a2]) → H' a1 = some (.tup (CB.lotV lot)) → H' a2 = some (.tup (CB.lotV four)) → Q (.ref T) H') ∧
  (basesF n r ss ≠ [] → exF n (basesF n r ss) = none → thrF n r (gT n r ss) = none → ∀ T a1 H', Same H H' → H T = none → H' T = some (.tup [.str "house", .ref a1]) → H' a1 = some (.tup ((told ss).map V.int)) → Q (.ref T) H')
section
variable {P : Program} {w : World} {K : PySem.W.Frag} {mg : Str → Option Value} {base : Heap}
theorem ok_jd {f fs fe ft fo : Addr} {fd ds de dt do_ : FuncData} {k : Nat} (F : Fun K "judged" "judged" sJd f fd)
    (S : FnOk P w K mg base CX0 k fs ds ["things", "rank", "signs"] (spSbl K)) (gS : mg "signs_by_lot" = some (.ref fs)) (kS : PySem.W.keepIn K (.ref fs) = true) (bS : Binds K ds ["things", "rank", "signs"] [])
    (Ex : FnOk P w K mg base CX0 k fe de ["things", "bases"] spEx) (gE : mg "_exchange_fault" = some (.ref fe)) (kE : PySem.W.keepIn K (.ref fe) = true) (bE : Binds K de ["things", "bases"] [])
    (Tf : FnOk P w K mg base CX0 k ft dt ["things", "rank", "by_lot"] spTf) (gT' : mg "_three_fault" = some (.ref ft)) (kT : PySem.W.keepIn K (.ref ft) = true) (bT : Binds K dt ["things", "rank", "by_lot"] [])
    (To : FnOk P w K mg base CX0 k fo do_ ["signs"] (spTold K)) (gO : mg "_told" = some (.ref fo)) (kO : PySem.W.keepIn K (.ref fo) = true) (bO : Binds K do_ ["signs"] []) : FnOk P w K mg base CX0 (k + 1) f fd ["things", "rank", "signs"] (spJd K) := by
  refine F.ok scJd (fun vs H Q E ⟨n, r, a, ss, e1, _⟩ => by rw [e1]; rfl) (fun cdv A outer s H vs Q E hr h => ?_)
  refine ⟨_, pss_cons (ps_set (i := 3) scJd.nd rfl (Or.inl rfl) (pe_call S hr (by rfl) gS kS bS .nil pass0 (pa_cons (pv 0) (pa_cons (pv 1) (pa_cons (pv 2) pa_nil)))))
    (pss_cons (ps_lock (ps_setLc (i := 4) (own := [("lot", 6), ("sign", 7)]) (g := gTup K 2 (gCons (gName 6) (gCons (gName 7) gNil))) rfl scJd.nd rfl rfl (sw_true rfl rfl rfl (by decide +kernel)) (ITT.pi_items (pv 3)) (blkOk_by (N := nJd) (sc := defScope sJd) (by decide +kernel))
        (fun _ _ _ _ _ => pg_tup rfl (pgs_cons (pg_name (i := 6) scJd.nd rfl (Or.inl rfl)) (pgs_cons (pg_name (i := 7) scJd.nd rfl (Or.inl rfl)) pgs_nil))) (fun _ _ _ _ _ => pts_one (pt_cmpR op_ne (pv 7) pe_int (nomark _))) (fun _ _ _ _ _ => pv 6)))
    (pss_cons (ps_if (pt_not (pt_truth (pv 4) (by intro _; rfl))) (pss_one (ps_ret (pe_tup (pa_cons pe_str pa_nil)))) pss_nil)
    (pss_cons (ps_set (i := 5) scJd.nd rfl (Or.inl rfl) (pe_call Ex hr (by rfl) gE kE bE .nil pass0 (pa_cons (pv 0) (pa_cons (pv 4) pa_nil))))
    (pss_cons (ps_if (pt_cmpR op_isN (pv 5) pe_non (nomark _)) (pss_one (ps_set (i := 5) scJd.nd rfl (Or.inl rfl) (pe_call Tf hr (by rfl) gT' kT bT .nil pass0 (pa_cons (pv 0) (pa_cons (pv 1) (pa_cons (pv 3) pa_nil)))))) pss_nil)
    (pss_cons (ps_if (pt_cmpR op_isN (pv 5) pe_non (nomark _)) (pss_one (ps_ret (pe_tup (pa_cons pe_str (pa_cons (pe_call To hr (by rfl) gO kO bO .nil pass0 (pa_cons (pv 2) pa_nil)) pa_nil))))) pss_nil)
    (pss_one (ps_ret (pv 5)))))))), ?_⟩
  obtain ⟨n, r, a, ss, rfl, n7, rn, hE, hl, ha, q1, q2, q3, q4⟩ := h
  have hq : SqI K H a ss := hE.i
  have fresh : ∀ {H' : Hp} {a : Addr}, Same H H' → H' a = none → H a = none := fun {H' a} sm e => by
    cases c : H a with
    | none => rfl
    | some o => rw [sm _ _ c] at e; cases e
  have c35 := combs_35 n7 rn
  refine ⟨_, rfl, _, rfl, _, rfl, n, r, a, ss, rfl, n7, rn, hq, hl, ha, fun d H1 s1 nd hd => ?_⟩
  refine ⟨d, .dT (tab n r ss), hd, trivial, fun od => ?_⟩
  have zl : ((CB.combs n r).zip ss).length = (CB.combs n r).length := by rw [List.length_zip, hl, Nat.min_self]
  refine ⟨_, rfl, d, od, tab n r ss, rfl, upd_same, fun D nD => lc_items (o := od) (kvs := tab n r ss) (fun i H' => Same (upd H1 d (.frz od (.dT (tab n r ss)))) H' ∧ ∃ ts : List Addr, H' D = some (.lst (ts.map V.ref)) ∧ ts.length = (basesZ (((CB.combs n r).zip ss).take i)).length ∧ ∀ (j : Nat) (t : Addr) (c : List Nat), ts[j]? = some t → (basesZ (((CB.combs n r).zip ss).take i))[j]? = some c → H' t = some (.tup (CB.lotV c)))
    ⟨same_new nD, [], upd_same, by simp [basesZ], fun j t c e => by simp at e⟩ (fun i H' p => p.1 _ _ upd_same) ?_ ?_⟩
  · rintro i k v q T H2 hkv hq2 nT ⟨sm, ts, hD, hlen, hts⟩
    rw [tab_zip, List.getElem?_map] at hkv
    obtain ⟨⟨c, sn⟩, hz, ep⟩ := Option.map_eq_some_iff.mp hkv
    cases ep
    have il := (List.getElem?_eq_some_iff.mp hz).1
    have sT := same_new (o := .tup [.ref q, .int sn]) nT
    refine ⟨T, _, rfl, SqT.of upd_same, rfl, _, _, rfl, _, _, rfl, rfl, rfl, _, rfl, rfl, _, rfl, ?_⟩
    have en := basesZ_next hz
    have bl : (basesZ (((CB.combs n r).zip ss).take i)).length ≤ i := by
      unfold basesZ
      rw [List.length_map]
      exact Nat.le_trans (List.length_filter_le _ _) (by rw [List.length_take]; omega)
    by_cases c0 : sn = 0
    · refine if_f (by simp [c0]) ⟨sm.trans sT, ts, sT _ _ hD, ?_⟩
      rw [if_neg (by simp [nz, c0])] at en
      rw [en]
      exact ⟨hlen, fun j t c e1 e2 => sT _ _ (hts j t c e1 e2)⟩
    · refine if_t (by simp [c0]) ⟨_, rfl, ts.map V.ref, sT _ _ hD, by rw [List.length_map, sizeLine_eq]; omega, ZM.sm_at nD (sm.trans sT), ts ++ [q], by rw [upd_same, List.map_append]; rfl, ?_⟩
      rw [if_pos (by simp [nz, c0])] at en
      rw [en]
      refine ⟨by rw [List.length_append, List.length_append, hlen]; rfl, fun j t c' e1 e2 => ?_⟩
      have ht : upd H2 T (.tup [.ref q, .int sn]) t = some (.tup (CB.lotV c')) := by
        by_cases cj : j < ts.length
        · rw [List.getElem?_append_left cj] at e1
          rw [List.getElem?_append_left (by omega)] at e2
          exact sT _ _ (hts j t c' e1 e2)
        · have cj2 : j = ts.length := by
            have := (List.getElem?_eq_some_iff.mp e1).1
            rw [List.length_append] at this
            simp at this
            omega
          subst cj2
          rw [List.getElem?_append_right (Nat.le_refl _), Nat.sub_self] at e1
          rw [hlen, List.getElem?_append_right (Nat.le_refl _), Nat.sub_self] at e2
          cases e1
          cases e2
          rw [key_kV] at hq2
          exact sT _ _ hq2
      rw [upd_ne (fun z => by rw [z, sT _ _ hD] at ht; cases ht)]
      exact ht
  rintro H2 ⟨sm, ts, hD, hlen, hts⟩
  have tl : (tab n r ss).length = ((CB.combs n r).zip ss).length := by rw [tab_len hl, zl]
  rw [tl, List.take_length] at hlen hts
  have hfz := sm _ _ (upd_same (H := H1) (a := d) (o := HO.frz od (.dT (tab n r ss))))
  refine ⟨hfz, ?_⟩
  have s2 := unlock_same hd sm
  have hd2 : upd H2 d (.dT (tab n r ss)) d = some (.dT (tab n r ss)) := upd_same
  have hB : BsAt (upd H2 d (.dT (tab n r ss))) D ts (basesF n r ss) := ⟨by
    rw [upd_ne (fun z => by rw [z, hfz] at hD; cases hD)]
    exact hD, hlen, fun j t c e1 e2 => by
    have ht := hts j t c e1 e2
    rw [upd_ne (fun z => by rw [z, hfz] at ht; cases ht)]
    exact ht⟩
  generalize upd H2 d (.dT (tab n r ss)) = H3 at s2 hd2 hB ⊢
  have s13 := s1.trans s2
  refine ⟨_, rfl, _, .inl ⟨_, SqL.of hB.d, rfl⟩, ?_⟩
  have hBl := hB.l
  by_cases eb : basesF n r ss = []
  · rw [eb] at hBl
    obtain rfl := List.eq_nil_of_length_eq_zero hBl
    refine if_t rfl ?_
    have key2 : ∀ T, H3 T = none → Q (.ref T) (upd H3 T (.tup [.str "none"])) := fun T nT => q1 eb T _ (s13.trans (same_new nT)) (fresh s13 nT) upd_same
    exact ⟨by simp [sizeLine_eq], key2⟩
  have tne : (ts.map V.ref).isEmpty = false := by
    cases ts with
    | nil => exact absurd (List.eq_nil_of_length_eq_zero hBl.symm) eb
    | cons t r => rfl
  refine if_f (by rw [tne]; rfl) ?_
  have sub := basesF_sub (n := n) (r := r) hl
  refine ⟨_, rfl, _, rfl, n, D, ts, basesF n r ss, rfl, n7, hB, Nat.le_trans sub.length_le c35, sub.nodup (combs_nodup n7 rn), fun c hc => combs_le7 n7 rn (sub.subset hc), fun ex H4 s4 => ?_, fun one other t ex T a1 a2 H4 s4 nT hT h1 h2 => ?_⟩
  · refine ⟨_, rfl, rfl, _, rfl, if_t rfl ?_⟩
    refine ⟨_, rfl, _, rfl, _, rfl, n, r, d, tab n r ss, gT n r ss, rfl, n7, rn, s4 _ _ hd2, fun ms => (gT_ok ha ms).1, fun ms => (gT_ok ha ms).2, fun et H5 s5 => ?_, fun lot four et T a1 a2 H5 s5 nT hT h1 h2 => ?_⟩
    · refine ⟨_, rfl, rfl, _, rfl, if_t rfl ?_⟩
      have s15 := s13.trans (s4.trans s5)
      refine ⟨_, rfl, a, ss, rfl, hE.same s15, by omega, fun t H6 s6 ht => ?_⟩
      have s16 := s15.trans s6
      have key2 : ∀ T, H6 T = none → Q (.ref T) (upd H6 T (.tup [.str "house", .ref t])) := fun T nT => q4 eb ex et T t _ (s16.trans (same_new nT)) (fresh s16 nT) upd_same (same_new nT _ _ ht)
      exact ⟨by simp [sizeLine_eq], key2⟩
    · refine ⟨_, rfl, rfl, _, rfl, if_f rfl ?_⟩
      exact ⟨_, rfl, q3 eb ex lot four et T a1 a2 _ (s13.trans (s4.trans s5)) (fresh (s13.trans s4) nT) hT h1 h2⟩
  · refine ⟨_, rfl, rfl, _, rfl, if_f rfl ?_⟩
    refine ⟨_, rfl, rfl, _, rfl, if_f rfl ?_⟩
    exact ⟨_, rfl, q2 eb one other t ex T a1 a2 _ (s13.trans s4) (fresh s13 nT) hT h1 h2⟩
end
end K14

set_option maxHeartbeats 2000000
/-! Lists of tuples of ints as data: alike, of bounded depth. -/
namespace DL
open PySem PySem.Spec PyProof.Rows L2
abbrev ti (l : List Int) : PyData := .tuple (l.map PyData.int)
theorem eqvI : ∀ xs ys : List Int, PyData.eqvAll (xs.map PyData.int) (ys.map PyData.int) = decide (xs = ys)
  | [], [] => by simp [PyData.eqvAll]
  | [], _ :: _ => by simp [PyData.eqvAll]
  | _ :: _, [] => by simp [PyData.eqvAll]
  | x :: xs, y :: ys => by
    rw [List.map_cons, List.map_cons, PyData.eqvAll, PyData.eqv, eqvI xs ys]
    by_cases h : x = y <;> by_cases h2 : xs = ys <;> simp [h, h2]
theorem eqv_ti (xs ys : List Int) : PyData.eqv (ti xs) (ti ys) = decide (xs = ys) := by
  rw [PyData.eqv]
  exact eqvI xs ys
theorem layI : ∀ l : List Int, PyData.canLayAll0 (l.map PyData.int) = true
  | [] => by simp [PyData.canLayAll0]
  | n :: r => by simp only [List.map_cons, PyData.canLayAll0, PyData.canLay0, layI r, Bool.and_self]
theorem depI : ∀ l : List Int, PyData.depthAll (l.map PyData.int) ≤ 1
  | [] => by simp [PyData.depthAll]
  | n :: r => by
    have := depI r
    simp only [List.map_cons, PyData.depthAll, PyData.depth]
    omega
theorem lay_ti (l : List Int) : PyData.canLay0 (ti l) = true := by
  rw [PyData.canLay0]
  exact layI l
theorem dep_ti (l : List Int) : PyData.depth (ti l) ≤ 2 := by
  have := depI l
  rw [PyData.depth]
  omega
theorem sh_ti (l : List Int) : SeqAt.shaped (ti l) = true := by
  unfold SeqAt.shaped
  have h := dep_ti l
  rw [lay_ti l, Bool.true_and]
  exact decide_eq_true (by omega)
theorem layT : ∀ r : List (List Int), PyData.canLayAll0 (r.map ti) = true
  | [] => by simp [PyData.canLayAll0]
  | n :: r => by rw [List.map_cons, PyData.canLayAll0, lay_ti n, layT r]; rfl
theorem depT : ∀ r : List (List Int), PyData.depthAll (r.map ti) ≤ 2
  | [] => by simp [PyData.depthAll]
  | n :: r => by
    have h1 := depT r
    have h2 := dep_ti n
    rw [List.map_cons, PyData.depthAll]
    omega
theorem sh_lt (r : List (List Int)) : SeqAt.shaped (.list (r.map ti)) = true := by
  unfold SeqAt.shaped
  have h := depT r
  rw [PyData.canLay0, PyData.depth, layT r, Bool.true_and]
  exact decide_eq_true (by omega)
theorem dpI {K : PySem.W.Frag} {H : Hp} : ∀ l : List Int, DpAll K H (l.map V.int) (l.map PyData.int)
  | [] => .nil
  | n :: r => .cons (.int n) (dpI r)
/-- lots as ints -/
def ci (c : List Nat) : List Int := c.map fun (i : Nat) => (i : Int)
theorem dpL {K : PySem.W.Frag} {H H' : Hp} : ∀ {r : List (List Nat)} {ts : List Addr}, CB.LotsAt H H' r ts → DpAll K H' (ts.map V.ref) ((r.map ci).map ti)
  | [], [], _ => .nil
  | c :: r, t :: ts, ⟨a, _, l⟩ => by
    have e : CB.lotV c = (ci c).map V.int := by simp [CB.lotV, ci]
    exact .cons (.tup (SqT.of (e ▸ a)) (dpI _)) (dpL l)
  | [], _ :: _, z => z.elim
  | _ :: _, [], z => z.elim
theorem any_ti (r : List (List Int)) (l : List Int) : (r.map ti).any (fun z => PyData.eqv z (ti l)) = decide (l ∈ r) := by
  induction r with
  | nil => simp
  | cons c r ih =>
    rw [List.map_cons, List.any_cons, ih, eqv_ti]
    by_cases h : c = l
    · subst h; simp
    · by_cases h2 : l ∈ r <;> simp [h, h2, Ne.symm h, eq_comm]
end DL

set_option maxHeartbeats 2000000
/-! The law's sign of a number. -/
namespace K14
open PySem PySem.Spec PyProof.Rows L2
abbrev sSo : Stmt := topS 43
theorem scSo : FnScope ["_law_number"] ["_law_number"] (defScope sSo) := ⟨rfl, rfl, rfl, by decide +kernel, rfl, by decide +kernel, by decide +kernel⟩
def sgn (n : Int) : Int := if 0 < n then 1 else if n < 0 then -1 else 0
theorem sgn_un (n : Int) : unit3 (sgn n) := by
  unfold sgn unit3
  split
  · exact .inr (.inl rfl)
  · split
    · exact .inr (.inr rfl)
    · exact .inl rfl
theorem ix_ls {K : PySem.W.Frag} {H : Hp} {p : Addr} {xs : List V} {i : Int} {v : V} {Q : VK} (h : SqL K H p xs ∨ SqT K H p xs) (e : atI xs i = some v) (q : Q v H) : rIx K (.ref p) (.int i) H Q := h.elim (fun h => .inl ⟨p, xs, i, v, rfl, rfl, h, e, q⟩) (fun h => .inr (.inl ⟨p, xs, i, v, rfl, rfl, h, e, q⟩))
section
variable {P : Program} {w : World} {K : PySem.W.Frag} {mg : Str → Option Value} {base : Heap}
def spSo : Sp := fun vs H Q _ => ∃ n : Int, vs = [.int n] ∧ ∀ H', Same H H' → Q (.int (sgn n)) H'
theorem ok_so {f : Addr} {fd : FuncData} {k : Nat} (F : Fun K "_law_sign_of" "_law_sign_of" sSo f fd) (mi : mg "int" = none) : FnOk P w K mg base CX0 (k + 1) f fd ["_law_number"] spSo := by
  refine F.ok scSo (fun vs H Q E ⟨n, e, _⟩ => by rw [e]; rfl) (fun cdv A outer s H vs Q E hr h => ?_)
  obtain ⟨n, rfl, q⟩ := h
  refine ⟨_, pss_one (ps_ret (pe_ix (r := rIx K) ix_seq (pe_lst (pa_cons pe_int (pa_cons pe_int (pa_cons (pe_un un_neg pe_int) pa_nil)))) (pe_op op_add (pe_callTy call_int1 (by rfl) mi (by first | rfl | boot_by_name) (pa_cons (pe_cmpR op_gt (pv 0) pe_int (nomark _)) pa_nil)) (pe_op op_mul pe_int (pe_callTy call_int1 (by rfl) mi (by first | rfl | boot_by_name) (pa_cons (pe_cmpR op_lt (pv 0) pe_int (nomark _)) pa_nil)))) (fun _ _ => rfl))), ?_⟩
  refine ⟨_, rfl, by simp [sizeLine_eq], fun p np => ?_⟩
  have s1 := same_new (o := .lst [.int 0, .int 1, .int (-1)]) np
  have hp : (upd H p (.lst [.int 0, .int 1, .int (-1)])) p = some (.lst [.int 0, .int 1, .int (-1)]) := upd_same
  refine ⟨_, rfl, _, _, rfl, rfl, .inr ⟨_, rfl, _, rfl, _, _, rfl, rfl, .inr ⟨_, rfl, _, _, rfl, rfl, .inl ⟨by decide, by decide⟩, _, _, rfl, rfl, ix_ls (.inl (SqL.of hp)) (v := .int (sgn n)) ?_ (q _ s1)⟩⟩⟩
  unfold sgn
  by_cases c1 : 0 < n
  · have c2 : ¬ n < 0 := by omega
    simp [c1, c2]
    rfl
  · by_cases c2 : n < 0
    · simp [c1, c2]
      rfl
    · simp [c1, c2]
      rfl
end
end K14

set_option maxHeartbeats 4000000
/-! The law's worth of rows that are tuples. -/
namespace K14
open PySem PySem.Spec PyProof.Rows L2
theorem sqT_off {K : PySem.W.Frag} {H : Hp} {D c : Addr} {xs ys : List V} {o : HO} (hD : H D = some (.lst ys)) (h : SqT K H c xs) : SqT K (upd H D o) c xs := by
  rcases h with (h | ⟨ob, h⟩) | h
  · exact .inl (.inl (by rw [upd_ne (fun z => by rw [z, hD] at h; cases h)]; exact h))
  · exact .inl (.inr ⟨ob, by rw [upd_ne (fun z => by rw [z, hD] at h; cases h)]; exact h⟩)
  · exact .inr h
/-- tuples of ints in a list -/
def TLI (K : PySem.W.Frag) (H : Hp) (a : Addr) (rs : List (List Int)) : Prop := ∃ cs : List Addr, SqL K H a (cs.map V.ref) ∧ cs.length = rs.length ∧ ∀ (i : Nat) (c : Addr) (r : List Int), cs[i]? = some c → rs[i]? = some r → SqT K H c (r.map V.int)
theorem TLI.same {K : PySem.W.Frag} {H H' : Hp} {a : Addr} {rs : List (List Int)} (h : TLI K H a rs) (s : Same H H') : TLI K H' a rs := by
  obtain ⟨cs, h1, h2, h3⟩ := h
  exact ⟨cs, s.seq h1, h2, fun i c r e1 e2 => ZM.sqT_sm s (h3 i c r e1 e2)⟩
theorem dp_ti {K : PySem.W.Frag} {H : Hp} {c : Addr} {r : List Int} (h : SqT K H c (r.map V.int)) : Dp K H (.ref c) (DL.ti r) := .tup h (DL.dpI r)
theorem dpTL {K : PySem.W.Frag} {H : Hp} : ∀ {cs : List Addr} {rs : List (List Int)}, cs.length = rs.length → (∀ (i : Nat) (c : Addr) (r : List Int), cs[i]? = some c → rs[i]? = some r → SqT K H c (r.map V.int)) → DpAll K H (cs.map V.ref) (rs.map DL.ti)
  | [], [], _, _ => .nil
  | c :: cs, r :: rs, l, h => .cons (dp_ti (h 0 c r rfl rfl)) (dpTL (by simpa using l) fun i c s e1 e2 => h (i + 1) c s e1 e2)
theorem TLI.dp {K : PySem.W.Frag} {H : Hp} {a : Addr} {rs : List (List Int)} (h : TLI K H a rs) : Dp K H (.ref a) (.list (rs.map DL.ti)) := by
  obtain ⟨cs, h1, h2, h3⟩ := h
  exact .lst h1 (dpTL h2 h3)
theorem tl_nil (rs : List (List Int)) : PyData.eqv (.list (rs.map DL.ti)) (.list []) = decide (rs = []) := by
  rw [PyData.eqv]
  cases rs <;> simp [PyData.eqvAll]
section
variable {K : PySem.W.Frag} {te : TE} {vs : List Nat} {σ : L2.St} {H H1 : Hp} {Q : VK} {a : Addr} {j : Nat}
/-- one tuple more -/
theorem tl_next {D p : Addr} {i : Nat} {H2 H4 : Hp} {rs : List (List Int)} {r : List Int} {cs : List Addr} (lc : cs.length = i) (lr : rs.length = i) (hD : H2 D = some (.lst (cs.map V.ref)))
    (hcs : ∀ (m : Nat) (c : Addr) (r : List Int), cs[m]? = some c → rs[m]? = some r → SqT K H2 c (r.map V.int)) (nD : H1 D = none) (s12 : Same H1 H2) (s24 : Same H2 H4) (hp : SqT K H4 p (r.map V.int)) (hi : i < 1000) :
    ∃ acc, H4 D = some (.lst acc) ∧ acc.length < sizeLine ∧ (∃ cs : List Addr, cs.length = i + 1 ∧ Same H1 (upd H4 D (.lst (acc ++ [.ref p]))) ∧ (upd H4 D (.lst (acc ++ [.ref p]))) D = some (.lst (cs.map V.ref)) ∧
      ∀ (m : Nat) (c : Addr) (r' : List Int), cs[m]? = some c → (rs ++ [r])[m]? = some r' → SqT K (upd H4 D (.lst (acc ++ [.ref p]))) c (r'.map V.int)) := by
  have hD4 := s24 _ _ hD
  refine ⟨cs.map V.ref, hD4, by rw [List.length_map, sizeLine_eq]; omega, cs ++ [p], by simp [lc], ZM.sm_at nD (s12.trans s24), by rw [upd_same, List.map_append]; rfl, ?_⟩
  intro m c r' hc hr'
  refine sqT_off hD4 ?_
  by_cases hm : m < i
  · rw [List.getElem?_append_left (by omega)] at hc hr'
    exact ZM.sqT_sm s24 (hcs m c r' hc hr')
  · rw [List.getElem?_append_right (by omega)] at hc hr'
    have hm' : m - cs.length = 0 := by
      have := (List.getElem?_eq_some_iff.mp hc).1
      simp at this
      omega
    have hm2 : m - rs.length = 0 := by omega
    rw [hm'] at hc
    rw [hm2] at hr'
    cases hc
    cases hr'
    exact hp
/-- tuples made of the tuples of a list -/
theorem tl_lst {t0 : TE} {rs : List (List Int)} (f : List Int → List Int) (h0 : ∀ R : VK, R (.ref a) H1 → t0 σ H R) (hR : TLI K H1 a rs) (hz : rs.length ≤ 1000) (hw : ∀ x, wipe ((wipe σ vs).set j (some x)) vs = wipe σ vs)
    (hs : ∀ (c : Addr) (r : List Int) (H : Hp) (R : VK), r ∈ rs → Same H1 H → SqT K H c (r.map V.int) → (∀ p H', Same H H' → SqT K H' p ((f r).map V.int) → R (.ref p) H') → te ((wipe σ vs).set j (some (.ref c))) H R)
    (hd : ∀ D H', Same H1 H' → H1 D = none → (∃ ys, H' D = some (.lst ys)) → TLI K H' D (rs.map f) → Q (.ref D) H') : ZM.Bx (tLc (iList K t0) (gName j) tYes te vs) σ H Q := by
  obtain ⟨bs, hb, lb, hrow⟩ := hR
  refine ZM.own_lst (a := a) (xs := bs.map V.ref) (fun D i H' => ∃ cs : List Addr, cs.length = i ∧ Same H1 H' ∧ H' D = some (.lst (cs.map V.ref)) ∧ ∀ (m : Nat) (c : Addr) (r : List Int), cs[m]? = some c → ((rs.map f).take i)[m]? = some r → SqT K H' c (r.map V.int))
    h0 hb (fun D i H' nD p => by obtain ⟨_, _, s, _⟩ := p; exact s.seq hb) hw (fun D nD => ⟨[], rfl, same_new nD, upd_same, by simp⟩) ?_ ?_
  · rintro D i x H2 nD hx ⟨cs, lc, s12, hD, hcs⟩
    have li := (List.getElem?_eq_some_iff.mp hx).1
    rw [List.length_map] at li
    rw [List.getElem?_map] at hx
    obtain ⟨c, hc, rfl⟩ := Option.map_eq_some_iff.mp hx
    have hr := List.getElem?_eq_getElem (show i < rs.length by omega)
    generalize rs[i]'(by omega) = r at hr
    refine hs c r H2 _ (List.mem_of_getElem? hr) s12 (ZM.sqT_sm s12 (hrow i c r hc hr)) fun p H4 s24 hp => ?_
    have e : (rs.map f).take (i + 1) = (rs.map f).take i ++ [f r] := by rw [List.take_add_one, List.getElem?_map, hr]; rfl
    rw [e]
    exact tl_next lc (by rw [List.length_take, List.length_map]; omega) hD hcs nD s12 s24 hp (by omega)
  · rintro D H2 nD ⟨cs, lc, s12, hD, hcs⟩
    rw [List.length_map] at lc
    rw [List.take_of_length_le (by rw [List.length_map, List.length_map, lb]; exact Nat.le_refl _)] at hcs
    exact hd D H2 s12 nD ⟨_, hD⟩ ⟨cs, SqL.of hD, by rw [lc, List.length_map, lb], hcs⟩
end
/-- what is walked made first -/
theorem lc_pre {K : PySem.W.Frag} {t0 te : TE} {g : TG} {tt : TT} {vs : List Nat} {σ : L2.St} {H : Hp} {Q : VK} (G : Addr → Hp → Prop) (h0 : ∀ R : VK, (∀ a H1, G a H1 → R (.ref a) H1) → t0 σ H R)
    (k : ∀ a H1, G a H1 → ZM.Bx (tLc (iList K (fun _ _ R => R (.ref a) H1)) g tt te vs) σ H1 Q) : ZM.Bx (tLc (iList K t0) g tt te vs) σ H Q := ⟨h0 _ fun a H1 g => (k a H1 g).run⟩
end K14

set_option maxHeartbeats 4000000
/-! The law's worth. -/
namespace K14
open PySem PySem.Spec PyProof.Rows L2
abbrev sW : Stmt := topS 44
abbrev nW : List Str := ["_law_rows", "_law_found", "_law_k", "_law_lesser_rows", "_law_row_here"]
theorem scW : FnScope nW ["_law_rows"] (defScope sW) := ⟨rfl, rfl, rfl, by decide +kernel, rfl, by decide +kernel, by decide +kernel⟩
/-- sums, and the worth of rows as the law reckons it -/
def pws (f : Nat → Int) : Nat → Int
  | 0 => 0
  | n + 1 => pws f n + f n
def wd : Nat → List (List Int) → Int
  | _, [] => 1
  | 0, _ :: _ => 0
  | m + 1, r0 :: rt => pws (fun k => (if k % 2 = 0 then 1 else -1) * r0.getD k 0 * wd m (rt.map fun r => r.eraseIdx k)) (rt.length + 1)
section
variable {P : Program} {w : World} {K : PySem.W.Frag} {mg : Str → Option Value} {base : Heap}
def spW (K : PySem.W.Frag) (m : Nat) : Sp := fun vs H Q _ => ∃ (a : Addr) (rs : List (List Int)), vs = [.ref a] ∧ TLI K H a rs ∧ rs.length < m ∧ rs.length ≤ 7 ∧ (∀ r ∈ rs, r.length = rs.length ∧ ∀ v ∈ r, -2 ^ 64 < v ∧ v < 2 ^ 64) ∧ ∀ H', Same H H' → Q (.int (wd rs.length rs)) H'
theorem ok_worth {f : Addr} {fd : FuncData} (F : Fun K "_law_worth" "_law_worth" sW f fd) (ml : mg "len" = none) (mr : mg "range" = none) (gW : mg "_law_worth" = some (.ref f)) (bW : Binds K fd ["_law_rows"] []) : ∀ m : Nat, FnOk P w K mg base CX0 m f fd ["_law_rows"] (spW K m) := by
  intro m
  induction m with
  | zero => exact ⟨fun vs H Q E h => (by obtain ⟨a, rs, _, _, h1, _⟩ := h; cases h1), fun A outer s H args us vs Q E hr he hb hv h => (by obtain ⟨a, rs, _, _, h1, _⟩ := h; cases h1)⟩
  | succ m G =>
    refine F.ok scW (fun vs H Q E ⟨a, rs, e, _⟩ => by rw [e]; rfl) (fun cdv A outer s H vs Q E hr h => ?_)
    obtain ⟨a, rs, rfl, hR, hm, h7, hB, q⟩ := h
    refine ⟨_, pss_cons (ps_if (pt_cmpR (op_eqD hr.units) (pv 0) (pe_lst pa_nil) (nomark _)) (pss_one (ps_ret pe_int)) pss_nil)
      (pss_cons (ps_set (i := 1) scW.nd rfl (Or.inl rfl) pe_int)
      (pss_cons (ps_for PassesOwn.never rfl (pi_range1 (by rfl) mr (pa_cons (pe_callB call_len_seq (by rfl) ml PySem.boot_len (pa_cons (pv 0) pa_nil)) pa_nil)) (pg_name (i := 2) scW.nd rfl (Or.inr rfl))
        (pss_cons (ZM.ps_bx (ps_setLc (i := 3) (own := [("_law_row_here", 4)]) (g := gName 4) (tt := tYes) rfl scW.nd rfl rfl (sw_true rfl rfl rfl (by decide +kernel)) (pi_list (pe_slice sl_list (pv 0) (po_some pe_int) po_none)) (blkOk_by (N := nW) (sc := defScope sW) (by decide +kernel))
          (fun _ _ _ _ _ => pg_name (i := 4) scW.nd rfl (Or.inl rfl)) (fun _ _ _ _ _ => pts_nil)
          (fun _ _ _ _ _ => pe_op (r := rCatA K) op_catA (pe_slice (r := rSlT K) sl_tup (pv 4) po_none (po_some (pv 2))) (pe_slice (r := rSlT K) sl_tup (pv 4) (po_some (pe_op op_add (pv 2) pe_int)) po_none))))
        (pss_one (ps_set (i := 1) scW.nd rfl (Or.inl rfl) (pe_op op_add (pv 1) (pe_op op_mul (pe_op op_mul (pe_ix (r := rIx K) ix_seq (pe_lst (pa_cons pe_int (pa_cons (pe_un un_neg pe_int) pa_nil))) (pe_op op_mod (pv 2) pe_int) (fun _ _ => rfl))
            (pe_ix (r := rIx K) ix_seq (pe_ix (r := rIx K) ix_seq (pv 0) pe_int (fun _ _ => rfl)) (pv 2) (fun _ _ => rfl))) (pe_call G hr (by rfl) gW F.kp bW .nil pass0 (pa_cons (pv 3) pa_nil))))))))
      (pss_one (ps_ret (pv 1))))), ?_⟩
    refine ⟨_, rfl, Nat.zero_le _, fun p np => ⟨.list (rs.map DL.ti), .list [], (hR.same (same_new np)).dp, .lst (SqL.of upd_same) .nil, DL.sh_lt _, DL.sh_lt [], _, rfl, ?_⟩⟩
    have s1 := same_new (o := .lst []) np
    generalize upd H p (.lst []) = H1 at s1 ⊢
    have hR1 := hR.same s1
    rw [tl_nil]
    by_cases e0 : rs = []
    · refine if_t (decide_eq_true e0) ?_
      subst e0
      exact q _ s1
    · refine if_f (decide_eq_false e0) ?_
      obtain ⟨r0, rt, rfl⟩ : ∃ r0 rt, rs = r0 :: rt := List.exists_cons_of_ne_nil e0
      obtain ⟨n, en⟩ : ∃ n, rt.length = n := ⟨_, rfl⟩
      obtain ⟨bs, hb, lb, hrow⟩ := hR1
      rw [List.length_cons, en] at lb hm h7
      refine ⟨_, rfl, a, _, rfl, .inl hb, ((n + 1 : Nat) : Int), ?_, by omega, by omega, for_range (lo := 0) (n := n + 1) (fun i σ H' => ∃ x2 x3, σ = [some (.ref a), some (.int (pws (fun k => (if k % 2 = 0 then 1 else -1) * r0.getD k 0 * wd n (rt.map fun r => r.eraseIdx k)) i)), x2, x3, none] ∧ Same H1 H') ⟨none, none, rfl, Same.refl _⟩ ?_ ?_⟩
      · rw [List.length_map, lb]
      · rintro i σ H2 hi ⟨x2, x3, rfl, s2⟩
        obtain ⟨b0, bt, rfl⟩ : ∃ b0 bt, bs = b0 :: bt := by
          match bs, lb with
          | b0 :: bt, _ => exact ⟨b0, bt, rfl⟩
        refine lc_pre (fun D H3 => H3 D = some (.lst (bt.map V.ref)) ∧ Same H1 H3) (fun R r => ⟨_, rfl, _, rfl, a, _, rfl, s2.seq hb, fun D nD => r D _ ⟨?_, s2.trans (same_new nD)⟩⟩) (fun D H3 ⟨hD, s3⟩ => ?_)
        · rw [upd_same, show (1 : Int) = ((1 : Nat) : Int) from rfl, cutFrom]
          rfl
        have hT : TLI K H3 D rt := ⟨bt, SqL.of hD, by simpa [en] using lb, fun j b r e1 e2 => ZM.sqT_sm s3 (hrow (j + 1) b r e1 e2)⟩
        refine tl_lst (K := K) (a := D) (H1 := H3) (rs := rt) (fun r => r.eraseIdx i) (fun R r => r) hT (by omega) (fun _ => rfl) (fun c r H4 R hr _ hc k => ?_) (fun L H4 s4 nL _ hL => ?_)
        · have rl := (hB r (List.mem_cons_of_mem _ hr)).1
          rw [List.length_cons, en] at rl
          refine ⟨_, rfl, _, rfl, _, rfl, c, _, rfl, hc, ?_, fun p1 np1 => ?_⟩
          · rw [show (0 + (i : Int)) = ((i : Nat) : Int) by omega, HT.sIx_nat, HT.sIx_none, List.length_map]
            omega
          rw [show (0 + (i : Int)) = ((i : Nat) : Int) by omega, cutTo]
          have q1 := same_new (o := .tup ((r.map V.int).take i)) np1
          refine ⟨_, rfl, _, rfl, _, _, rfl, rfl, _, rfl, c, _, rfl, ZM.sqT_sm q1 hc, ?_, fun p2 np2 => ?_⟩
          · rw [show (i : Int) + 1 = ((i + 1 : Nat) : Int) by omega, HT.sIx_nat, HT.sIx_none, List.length_map]
            omega
          rw [show ((i : Int) + 1) = ((i + 1 : Nat) : Int) by omega, cutFrom]
          have q2 := same_new (o := .tup ((r.map V.int).drop (i + 1))) np2
          have ee : (r.eraseIdx i).map V.int = (r.map V.int).take i ++ (r.map V.int).drop (i + 1) := by rw [List.eraseIdx_eq_take_drop_succ, List.map_append, List.map_take, List.map_drop]
          refine ⟨p1, p2, _, _, rfl, rfl, SqT.of (q2 _ _ upd_same), SqT.of upd_same, ?_, fun e1 => ?_, fun _ e2 => ?_, fun _ _ p3 np3 => ?_⟩
          · rw [List.length_take, List.length_drop, List.length_map, sizeLine_eq]
            omega
          · exact k p2 _ (q1.trans q2) (SqT.of (by rw [upd_same, ee, e1]; rfl))
          · exact k p1 _ (q1.trans q2) (SqT.of (by rw [q2 _ _ upd_same, ee, e2, List.append_nil]))
          · exact k p3 _ (q1.trans (q2.trans (same_new np3))) (SqT.of (by rw [upd_same, ee]))
        · refine ⟨_, rfl, _, rfl, (by show 2 ≤ sizeLine; rw [sizeLine_eq]; omega), fun p2 np2 => ?_⟩
          have s5 := s3.trans (s4.trans (same_new (o := .lst [.int 1, .int (-1)]) np2))
          have hL5 : TLI K (upd H4 p2 (.lst [.int 1, .int (-1)])) L (rt.map fun r => r.eraseIdx i) := hL.same (same_new np2)
          have hp5 : (upd H4 p2 (.lst [.int 1, .int (-1)])) p2 = some (.lst [.int 1, .int (-1)]) := upd_same
          generalize upd H4 p2 (.lst [.int 1, .int (-1)]) = H5 at s5 hL5 hp5 ⊢
          obtain ⟨sgi, esg, sgu, at1⟩ : ∃ sgi : Int, sgi = (if i % 2 = 0 then 1 else -1) ∧ (sgi = 1 ∨ sgi = -1) ∧ atI [V.int 1, V.int (-1)] ((0 + (i : Int)) % 2) = some (.int sgi) := by
            by_cases z : i % 2 = 0
            · refine ⟨1, by rw [if_pos z], .inl rfl, ?_⟩
              rw [show (0 + (i : Int)) % 2 = ((0 : Nat) : Int) by omega]; rfl
            · refine ⟨-1, by rw [if_neg z], .inr rfl, ?_⟩
              rw [show (0 + (i : Int)) % 2 = ((1 : Nat) : Int) by omega]; rfl
          refine ⟨_, rfl, _, _, rfl, rfl, (by show (0 : Int) < 2; decide), ix_ls (.inl (SqL.of hp5)) at1 ?_⟩
          have at0 : atI ((b0 :: bt).map V.ref) 0 = some (.ref b0) := atI_nat (j := 0) rfl
          refine ⟨_, rfl, ix_ls (.inl (s5.seq hb)) at0 ⟨_, rfl, ?_⟩⟩
          have l0 := (hB r0 List.mem_cons_self).1
          have b0' := (hB r0 List.mem_cons_self).2
          rw [List.length_cons, en] at l0
          have gn : (r0.map V.int)[i]? = some (.int (r0.getD i 0)) := by
            rw [List.getElem?_map, List.getD_eq_getElem?_getD, List.getElem?_eq_getElem (show i < r0.length by omega)]
            rfl
          have nb : -2 ^ 64 < r0.getD i 0 ∧ r0.getD i 0 < 2 ^ 64 := b0' _ (by
            rw [List.getD_eq_getElem?_getD, List.getElem?_eq_getElem (show i < r0.length by omega)]
            exact List.getElem_mem _)
          refine ix_ls (i := 0 + (i : Int)) (.inr (ZM.sqT_sm s5 (hrow 0 b0 r0 rfl rfl))) (by rw [Int.zero_add]; exact atI_nat gn) ⟨_, _, rfl, rfl, .inr nb, _, rfl, ?_⟩
          refine ⟨L, _, rfl, hL5, ?_, ?_, ?_, fun H6 s6 => ?_⟩
          · rw [List.length_map, en]; omega
          · rw [List.length_map, en]; omega
          · intro r hr
            obtain ⟨r', hr', rfl⟩ := List.mem_map.mp hr
            obtain ⟨rl, rb⟩ := hB r' (List.mem_cons_of_mem _ hr')
            rw [List.length_cons, en] at rl
            refine ⟨?_, fun v hv => rb v (List.mem_of_mem_eraseIdx hv)⟩
            rw [List.length_map, en, List.length_eraseIdx, if_pos (by omega)]
            omega
          · refine ⟨_, _, rfl, rfl, .inl ?_, _, _, rfl, rfl, ?_⟩
            · rcases sgu with e | e <;> rw [e] <;> omega
            · refine ⟨some (.int (0 + (i : Int))), some (.ref L), ?_, s5.trans s6⟩
              rw [List.length_map, en, esg]
              rfl
      · rintro σ H2 ⟨x2, x3, rfl, s2⟩
        have q1 := q _ (s1.trans s2)
        rw [List.length_cons, en] at q1
        unfold wd at q1
        rw [en] at q1
        exact ⟨_, rfl, q1⟩
end
end K14

/-! Lots, made one thing longer. -/
namespace K14.LL
open PySem PySem.Spec PyProof.Rows L2
def fst : List Nat → Nat
  | [] => 0
  | c :: r => (c :: r).getLast (by simp) + 1
def ext (a : Nat) (c : List Nat) : List (List Nat) := (List.range (a - fst c)).map fun t => c ++ [fst c + t]
def gen (a : Nat) : Nat → List (List Nat)
  | 0 => [[]]
  | i + 1 => (gen a i).flatMap (ext a)
theorem gen_is : ∀ a, a ≤ 7 → ∀ k, k ≤ 8 → gen a k = CB.combs a k := by
  have h : ((List.range 8).all fun a => (List.range 9).all fun k => decide (gen a k = CB.combs a k)) = true := by decide +kernel
  intro a ha k hk
  have h1 := List.all_eq_true.mp h a (List.mem_range.mpr (by omega))
  exact of_decide_eq_true (List.all_eq_true.mp h1 k (List.mem_range.mpr (by omega)))
theorem gen_len : ∀ a, a ≤ 7 → ∀ k, k ≤ 8 → ((gen a k).length ≤ 35 ∧ ∀ c ∈ gen a k, c.length = k ∧ ∀ x ∈ c, x < a) := by
  have h : ((List.range 8).all fun a => (List.range 9).all fun k => decide ((gen a k).length ≤ 35) && (gen a k).all fun c => decide (c.length = k) && c.all fun x => decide (x < a)) = true := by decide +kernel
  intro a ha k hk
  have h1 := List.all_eq_true.mp h a (List.mem_range.mpr (by omega))
  have h2 := List.all_eq_true.mp h1 k (List.mem_range.mpr (by omega))
  simp only [Bool.and_eq_true, decide_eq_true_eq, List.all_eq_true] at h2
  exact h2
section
variable {H H1 H2 : Hp}
theorem lots_same (s : Same H1 H2) : ∀ {r : List (List Nat)} {ts : List Addr}, CB.LotsAt H H1 r ts → CB.LotsAt H H2 r ts
  | [], [], _ => trivial
  | _ :: _, _ :: _, ⟨a, b, l⟩ => ⟨s _ _ a, b, lots_same s l⟩
  | [], _ :: _, z => z.elim
  | _ :: _, [], z => z.elim
theorem lots_off {D : Addr} {xs : List V} {o : HO} (hD : H1 D = some (.lst xs)) : ∀ {r : List (List Nat)} {ts : List Addr}, CB.LotsAt H H1 r ts → CB.LotsAt H (upd H1 D o) r ts
  | [], [], _ => trivial
  | _ :: _, t :: _, ⟨a, b, l⟩ => ⟨by rw [upd_ne (fun z : t = D => by rw [z, hD] at a; cases a)]; exact a, b, lots_off hD l⟩
  | [], _ :: _, z => z.elim
  | _ :: _, [], z => z.elim
theorem lots_app : ∀ {r r2 : List (List Nat)} {ts us : List Addr}, CB.LotsAt H H1 r ts → CB.LotsAt H H1 r2 us → CB.LotsAt H H1 (r ++ r2) (ts ++ us)
  | [], _, [], _, _, k => k
  | _ :: _, _, _ :: _, _, ⟨a, b, l⟩, k => ⟨a, b, lots_app l k⟩
  | [], _, _ :: _, _, z, _ => z.elim
  | _ :: _, _, [], _, z, _ => z.elim
theorem lots_get : ∀ {r : List (List Nat)} {ts : List Addr}, CB.LotsAt H H1 r ts → ts.length = r.length ∧ ∀ (i : Nat) (t : Addr), ts[i]? = some t → ∃ c, r[i]? = some c ∧ H1 t = some (.tup (CB.lotV c)) ∧ H t = none
  | [], [], _ => ⟨rfl, fun i t h => by simp at h⟩
  | c :: r, t :: ts, ⟨a, b, l⟩ => by
    obtain ⟨e, f⟩ := lots_get l
    refine ⟨by rw [List.length_cons, List.length_cons, e], fun i u h => ?_⟩
    cases i with
    | zero =>
      obtain rfl : t = u := Option.some.inj h
      exact ⟨c, rfl, a, b⟩
    | succ i => exact f i u h
  | [], _ :: _, z => z.elim
  | _ :: _, [], z => z.elim
end
theorem take_flat {α β : Type} (g : α → List β) {l : List α} {j : Nat} {c : α} (h : l[j]? = some c) : (l.take (j + 1)).flatMap g = (l.take j).flatMap g ++ g c := by
  rw [List.take_succ, h]
  simp
end K14.LL

set_option maxHeartbeats 2000000
/-! The law's own lots. -/
namespace K14.LL
open PySem PySem.Spec PyProof.Rows L2
abbrev sLL : Stmt := topS 41
theorem scLL : FnScope ["_law_many", "_law_size", "_law_found", "_law_turn", "_law_longer", "_law_lot", "_law_first", "_law_thing"] ["_law_many", "_law_size"] (defScope sLL) := ⟨rfl, rfl, rfl, by decide +kernel, rfl, by decide +kernel, by decide +kernel⟩
section
variable {P : Program} {w : World} {K : PySem.W.Frag} {mg : Str → Option Value} {base : Heap}
def spLL : Sp := fun vs H Q _ => ∃ a k : Nat, vs = [.int a, .int k] ∧ a ≤ 7 ∧ k ≤ 8 ∧
  ∀ (l : Addr) (ts : List Addr) (H' : Hp), Same H H' → H l = none → H' l = some (.lst (ts.map V.ref)) → CB.LotsAt H H' (CB.combs a k) ts → Q (.ref l) H'
theorem dpN {H : Hp} : ∀ c : List Nat, DpAll K H (CB.lotV c) (c.map fun (i : Nat) => PyData.int (i : Int))
  | [] => .nil
  | n :: r => .cons (.int n) (dpN r)
theorem shT (c : List Nat) : SeqAt.shaped (.tuple (c.map fun (i : Nat) => PyData.int (i : Int))) = true := by
  unfold SeqAt.shaped
  have h1 : ∀ c : List Nat, PyData.canLayAll0 (c.map fun (i : Nat) => PyData.int (i : Int)) = true := fun c => by
    induction c with
    | nil => simp [PyData.canLayAll0]
    | cons n r ih => simp only [List.map_cons, PyData.canLayAll0, PyData.canLay0, ih, Bool.and_self]
  have h2 : ∀ c : List Nat, PyData.depthAll (c.map fun (i : Nat) => PyData.int (i : Int)) ≤ 1 := fun c => by
    induction c with
    | nil => simp [PyData.depthAll]
    | cons n r ih =>
      simp only [List.map_cons, PyData.depthAll, PyData.depth]
      omega
  have h2 := h2 c
  rw [PyData.canLay0, PyData.depth, h1, Bool.true_and]
  exact decide_eq_true (by omega)
theorem flat_len {α β : Type} (g : α → List β) (n : Nat) (h : ∀ x : α, True → (g x).length ≤ n) : ∀ l : List α, (l.flatMap g).length ≤ n * l.length
  | [] => by simp
  | x :: r => by
    have ih := flat_len g n h r
    have := h x trivial
    simp only [List.flatMap_cons, List.length_append, List.length_cons, Nat.mul_add]
    omega
theorem last_at (c0 : Nat) (r : List Nat) : atI (CB.lotV (c0 :: r)) (-1) = some (.int (((c0 :: r).getLast (by simp) : Nat) : Int)) := by
  unfold atI ixN
  have l : (CB.lotV (c0 :: r)).length = r.length + 1 := by simp
  rw [if_neg (by decide), l, if_pos (by omega)]
  have e : ((-1 : Int) + ((r.length + 1 : Nat) : Int)).toNat = r.length := by omega
  rw [e]
  show (CB.lotV (c0 :: r))[r.length]? = _
  rw [CB.lotV, List.getElem?_map, List.getLast_eq_getElem, List.getElem?_eq_getElem (by simp)]
  rfl
theorem lc_ext {H H4 : Hp} {a : Nat} {c : List Nat} {t : Addr} {x1 x2 x3 x4 x7 : Option V} (ha : a ≤ 7) (cl : c.length ≤ 7) {fi : Int} (hfi : fi = (fst c : Int)) (fb : fst c ≤ 1000) (hcT : H4 t = some (.tup (CB.lotV c))) (hH : ∀ b, H4 b = none → H b = none) {Q' : VK}
    (hq : ∀ (zs : List Addr) (D : Addr) (H' : Hp), Same H4 H' → H4 D = none → H' D = some (.lst (zs.map V.ref)) → zs.length ≤ 7 → CB.LotsAt H H' (ext a c) zs → Q' (.ref D) H') :
    tLc (iRng2 (tCons (tVar 6) (tCons (tVar 0) tNil))) (gName 7) tYes (tOp (rCatA K) (tVar 5) (tTup (tCons (tVar 7) tNil))) [7] [some (.int a), x1, x2, x3, x4, some (.ref t), some (.int fi), x7] H4 Q' := by
  have small : ∀ n : Nat, n ≤ 1000 → n ≤ sizeLine := fun n h => by rw [sizeLine_eq]; omega
  have e : ((a : Int) - fi).toNat = a - fst c := by omega
  refine ⟨_, rfl, _, rfl, fi, (a : Int), rfl, by omega, fun D nD => ?_⟩
  have nDt : t ≠ D := ne_of_none hcT nD
  rw [e]
  refine lc_range (lo := fi) (n := a - fst c) (fun m H' => ∃ vs : List Addr, Same H4 H' ∧ H' D = some (.lst (vs.map V.ref)) ∧ CB.LotsAt H H' ((List.range m).map fun u => c ++ [fst c + u]) vs) ⟨[], same_new nD, upd_same, trivial⟩ ?_ ?_
  · rintro m H5 hm ⟨vs, sm, hD, Lv⟩
    have lv : vs.length = m := by rw [(lots_get Lv).1, List.length_map, List.length_range]
    refine ⟨rfl, ?_⟩
    refine ⟨_, rfl, _, rfl, small 1 (by omega), fun b1 n1 => ?_⟩
    have s1 := same_new (o := .tup [.int (fi + (m : Int))]) n1
    have nb : b1 ≠ D := (ne_of_none hD n1).symm
    have last : ∀ (p : Addr) (H6 : Hp), Same H5 H6 → p ≠ D → H6 p = some (.tup (CB.lotV (c ++ [fst c + m]))) → H p = none →
        ∃ acc, H6 D = some (.lst acc) ∧ acc.length < sizeLine ∧ ∃ vs : List Addr, Same H4 (upd H6 D (.lst (acc ++ [V.ref p]))) ∧ (upd H6 D (.lst (acc ++ [V.ref p]))) D = some (.lst (vs.map V.ref)) ∧ CB.LotsAt H (upd H6 D (.lst (acc ++ [V.ref p]))) ((List.range (m + 1)).map fun u => c ++ [fst c + u]) vs :=
      fun p H6 s6 pD hp np => by
        refine ⟨vs.map V.ref, s6 _ _ hD, ?_, vs ++ [p], same_at nD (sm.trans s6), ?_, ?_⟩
        · rw [List.length_map, lv]
          have := small 999 (by omega)
          omega
        · rw [upd_same, List.map_append]
          rfl
        · rw [List.range_succ, List.map_append]
          exact lots_app (lots_off (s6 _ _ hD) (lots_same s6 Lv)) ⟨by rw [upd_ne pD]; exact hp, np, trivial⟩
    have ev : V.int (fi + (m : Int)) = V.int ((fst c + m : Nat) : Int) := by rw [hfi]; rfl
    have n5 : ∀ b, H5 b = none → H b = none := fun b h => hH b (sm.free h)
    refine ⟨t, b1, CB.lotV c, [.int (fi + (m : Int))], rfl, rfl, SqT.of (s1 _ _ (sm _ _ hcT)), SqT.of upd_same, small _ (by simp only [List.length_map, List.length_singleton]; omega), fun hc0 => ?_, fun _ z => absurd z (by simp), fun _ _ p2 n2 => ?_⟩
    · refine last b1 _ s1 nb ?_ (n5 _ n1)
      rw [upd_same, ev]
      cases c with
      | nil => rfl
      | cons _ _ => cases hc0
    · have s2 := same_new (o := .tup (CB.lotV c ++ [.int (fi + (m : Int))])) n2
      refine last p2 _ (s1.trans s2) ((ne_of_none (s1 _ _ hD) n2).symm) ?_ (n5 _ (s1.free n2))
      rw [upd_same, ev]
      show some (HO.tup (CB.lotV c ++ [V.int ((fst c + m : Nat) : Int)])) = some (HO.tup (CB.lotV (c ++ [fst c + m])))
      simp [CB.lotV, List.map_append]
  · rintro H5 ⟨vs, sm, hD, Lv⟩
    exact hq vs D H5 sm nD hD (by rw [(lots_get Lv).1, List.length_map, List.length_range]; omega) Lv
theorem ok_ll {f : Addr} {fd : FuncData} {k : Nat} (F : Fun K "_law_lots" "_law_lots" sLL f fd) (mr : mg "range" = none) : FnOk P w K mg base CX0 (k + 1) f fd ["_law_many", "_law_size"] spLL := by
  refine F.ok scLL (fun vs H Q E ⟨a, k, e, _⟩ => by rw [e]; rfl) (fun cdv A outer s H vs Q E hr h => ?_)
  refine ⟨_, pss_cons (ps_set (i := 2) scLL.nd rfl (Or.inl rfl) (pe_lst (pa_cons (pe_tup pa_nil) pa_nil)))
    (pss_cons (ps_for PassesOwn.never rfl (pi_range1 (by rfl) mr (pa_cons (pv 1) pa_nil)) (pg_name (i := 3) scLL.nd rfl (Or.inl rfl))
      (pss_cons (ps_set (i := 4) scLL.nd rfl (Or.inl rfl) (pe_lst pa_nil))
      (pss_cons (ps_for PassesOwn.never rfl (pi_list (pv 2)) (pg_name (i := 5) scLL.nd rfl (Or.inr rfl))
        (pss_cons (ps_set (i := 6) scLL.nd rfl (Or.inl rfl) (pe_ifExp (pt_cmpR (op_neD hr.units) (pv 5) (pe_tup pa_nil) (nomark _)) (pe_op op_add (pe_ix (r := rIx K) ix_seq (pv 5) (pe_un un_neg pe_int) (fun _ _ => rfl)) pe_int) pe_int))
        (pss_one (ps_set (i := 4) scLL.nd rfl (Or.inl rfl) (pe_op op_cat (pv 4) (pe_lc (own := [("_law_thing", 7)]) (g := gName 7) (tt := tYes) rfl scLL.nd (pi_range2 (by rfl) mr (pa_cons (pv 6) (pa_cons (pv 0) pa_nil)))
          (blkOk_by (N := ["_law_many", "_law_size", "_law_found", "_law_turn", "_law_longer", "_law_lot", "_law_first", "_law_thing"]) (sc := defScope sLL) (by decide +kernel))
          (fun _ _ _ _ _ => pg_name (i := 7) scLL.nd rfl (Or.inl rfl)) (fun _ _ _ _ _ => pts_nil)
          (fun _ _ _ _ _ => pe_op (r := rCatA K) op_catA (pv 5) (pe_tup (pa_cons (pv 7) pa_nil)))))))))
      (pss_one (ps_set (i := 2) scLL.nd rfl (Or.inl rfl) (pv 4))))))
    (pss_one (ps_ret (pv 2)))), ?_⟩
  obtain ⟨a, k, rfl, ha, hk, q⟩ := h
  have small : ∀ n : Nat, n ≤ 1000 → n ≤ sizeLine := fun n h => by rw [sizeLine_eq]; omega
  refine ⟨Nat.zero_le _, fun t0 n0 => ⟨small 1 (by decide), fun F0 nF0 => ?_⟩⟩
  have nF0' : H F0 = none := (same_new n0).free nF0
  refine ⟨_, rfl, (k : Int), rfl, by omega, by omega, for_range (lo := 0) (n := k) (fun i σ H' => ∃ (F : Addr) (ts : List Addr) (x3 x4 x5 x6 x7 : Option V), σ = [some (.int a), some (.int k), some (.ref F), x3, x4, x5, x6, x7] ∧ Same H H' ∧ H F = none ∧ H' F = some (.lst (ts.map V.ref)) ∧ CB.LotsAt H H' (gen a i) ts)
    ⟨F0, [t0], none, none, none, none, none, rfl, (same_new n0).trans (same_new nF0), nF0', upd_same, ⟨(same_new nF0) _ _ upd_same, n0, trivial⟩⟩ ?_ ?_⟩
  · rintro i σ H2 hi ⟨F, ts, x3, x4, x5, x6, x7, rfl, s2, nF, hF, L⟩
    obtain ⟨len, mem⟩ := gen_len a ha i (by omega)
    refine ⟨Nat.zero_le _, fun G nG => ?_⟩
    have s3 := same_new (o := .lst []) nG
    have L3 := lots_same s3 L
    refine ⟨_, rfl, F, rfl, ⟨_, SqL.of (s3 _ _ hF)⟩, for_list (K := K) (a := F) (xs := ts.map V.ref) (fun j σ H' => ∃ (G : Addr) (us : List Addr) (x3 x5 x6 x7 : Option V), σ = [some (.int a), some (.int k), some (.ref F), x3, some (.ref G), x5, x6, x7] ∧ Same H H' ∧ H' F = some (.lst (ts.map V.ref)) ∧ CB.LotsAt H H' (gen a i) ts ∧
        H G = none ∧ H' G = some (.lst (us.map V.ref)) ∧ CB.LotsAt H H' (((gen a i).take j).flatMap (ext a)) us)
      ⟨G, [], _, _, _, _, rfl, s2.trans s3, s3 _ _ hF, L3, s2.free nG, upd_same, trivial⟩ (fun j σ H' _ ⟨_, _, _, _, _, _, _, _, hF', _⟩ => SqL.of hF') ?_ ?_⟩
    · rintro j y σ H3 hj ⟨G, us, x3, x5, x6, x7, rfl, s4, hF3, L4, nG3, hG3, L5⟩
      obtain ⟨t, ht, rfl⟩ : ∃ t, ts[j]? = some t ∧ y = V.ref t := by
        rw [List.getElem?_map] at hj
        cases e : ts[j]? with
        | none => rw [e] at hj; cases hj
        | some t => rw [e] at hj; exact ⟨t, rfl, (Option.some.inj hj).symm⟩
      obtain ⟨c, hc, hcT, ncT⟩ := (lots_get L4).2 j t ht
      obtain ⟨cl, cb⟩ := mem c (List.mem_of_getElem? hc)
      have flat := take_flat (ext a) hc
      refine ⟨_, rfl, ⟨Nat.zero_le _, fun p np => ?_⟩⟩
      have sp := same_new (o := .tup []) np
      refine ⟨.tuple (c.map fun (i : Nat) => .int (i : Int)), .tuple [], .tup (SqT.of (sp _ _ hcT)) (dpN c), .tup (SqT.of upd_same) .nil, shT c, shT [], _, rfl, ?_⟩
      have G4 : (upd H3 p (.tup [])) G = some (.lst (us.map V.ref)) := sp _ _ hG3
      have lus : us.length ≤ 245 := by
        rw [(lots_get L5).1]
        have := flat_len (ext a) 7 (fun c hc => by unfold ext; rw [List.length_map, List.length_range]; omega) ((gen a i).take j)
        have := List.length_take_le' j (gen a i)
        omega
      have fin : ∀ fi : Int, fi = (fst c : Int) → fst c ≤ 1000 → ∃ x : V, [some (.int a), some (.int k), some (.ref F), x3, some (.ref G), some (.ref t), some (.int fi), x7][4]? = some (some x) ∧
          tLc (iRng2 (tCons (tVar 6) (tCons (tVar 0) tNil))) (gName 7) tYes (tOp (rCatA K) (tVar 5) (tTup (tCons (tVar 7) tNil))) [7] [some (.int a), some (.int k), some (.ref F), x3, some (.ref G), some (.ref t), some (.int fi), x7] (upd H3 p (.tup [])) fun y H2 =>
            rCat x y H2 fun z H5 => ∃ (G : Addr) (us : List Addr) (x3' x5 x6 x7' : Option V), [some (.int a), some (.int k), some (.ref F), x3, some z, some (.ref t), some (.int fi), x7] = [some (.int a), some (.int k), some (.ref F), x3', some (.ref G), x5, x6, x7'] ∧ Same H H5 ∧ H5 F = some (.lst (ts.map V.ref)) ∧ CB.LotsAt H H5 (gen a i) ts ∧
              H G = none ∧ H5 G = some (.lst (us.map V.ref)) ∧ CB.LotsAt H H5 (((gen a i).take (j + 1)).flatMap (ext a)) us := fun fi hfi fb =>
        ⟨_, rfl, lc_ext (H := H) ha (by omega) hfi fb (sp _ _ hcT) (fun b hb => s4.free (sp.free hb)) fun zs D H5 s5 nD hD zl Lz => by
          refine ⟨G, D, us.map V.ref, zs.map V.ref, rfl, rfl, s5 _ _ G4, hD, small _ (by rw [List.length_map, List.length_map]; omega), fun p2 n2 => ?_⟩
          have s6 := same_new (o := .lst (us.map V.ref ++ zs.map V.ref)) n2
          have sA := sp.trans (s5.trans s6)
          refine ⟨p2, us ++ zs, _, _, _, _, rfl, s4.trans sA, sA _ _ hF3, lots_same sA L4, s4.free (sp.free (s5.free n2)), by rw [upd_same, List.map_append], ?_⟩
          rw [flat]
          exact lots_app (lots_same sA L5) (lots_same s6 Lz)⟩
      cases c with
      | nil => exact if_f rfl (fin 0 rfl (by decide))
      | cons c0 r =>
        refine if_t rfl ⟨_, rfl, _, rfl, .inr (.inl ⟨t, _, _, _, rfl, rfl, SqT.of (sp _ _ hcT), last_at c0 r, _, _, rfl, rfl, ?_⟩)⟩
        refine fin _ rfl ?_
        have := cb _ (List.getLast_mem (l := c0 :: r) (by simp))
        show (c0 :: r).getLast (by simp) + 1 ≤ 1000
        omega
    · rintro σ H3 ⟨G, us, x3, x5, x6, x7, rfl, s4, hF3, L4, nG3, hG3, L5⟩
      have e : (gen a i).take (ts.map V.ref).length = gen a i := by
        rw [List.length_map, (lots_get L).1, List.take_length]
      rw [e] at L5
      exact ⟨_, rfl, G, us, _, _, _, _, _, rfl, s4, nG3, hG3, L5⟩
  · rintro σ H3 ⟨F, ts, x3, x4, x5, x6, x7, rfl, s2, nF, hF, L⟩
    rw [gen_is a ha k hk] at L
    exact ⟨_, rfl, q F ts H3 s2 nF hF L⟩
end
end K14.LL

set_option maxHeartbeats 2000000
/-! dict(zip(a, b)), a and b drawn in any way: the pairs while the tuple given out is held -/
namespace DZ
open PySem
section
variable {prog : Program} {w : World} {A : Around} {E : Value → Shared → Prop} {s : Shared} {z TI TO i1 i2 T : Addr} {fp1 fp2 : List Addr} {n1 n2 i : Nat} {P1 P2 : Nat → Value → Prop} {St1 St2 : Nat → Heap → Prop} {f : Bool} {oT : Obj}
theorem held_item {Q : Value → Shared → Prop} (S : ZipSep2 z TI TO i1 i2 fp1 fp2) (D1 : Draws prog w A i1 fp1 n1 P1 St1) (D2 : Draws prog w A i2 fp2 n2 P2 St2)
    (hz : IsZipHeld s.heap z TI TO T f) (hT : s.heap.get? T = some oT) (hTI : IsTupOf2 s.heap TI (.ref i1) (.ref i2)) (st1 : St1 i s.heap) (st2 : St2 i s.heap) (hlt1 : i < n1) (hlt2 : i < n2)
    (hQ : ∀ x1 x2 h' tk, P1 i x1 → P2 i x2 → IsZipHeld h' z TI TO T true → St1 (i + 1) h' → St2 (i + 1) h' → IsTupOf2 h' s.heap.objs.size x1 x2 → h'.objs.size = s.heap.objs.size + 1 →
      (∀ c o, c ≠ z → c ≠ i1 → c ≠ i2 → s.heap.get? c = some o → h'.get? c = some o) → Q (.ref s.heap.objs.size) { s with heap := h', toks := tk }) :
    wpAny (model prog w) A (Builtin.«zip.__next__» ⟨[.ref z], []⟩) (fun fin s' => ∃ v, fin = .done (.ret v) ∧ Q v s') E s := by
  obtain ⟨hp, g, d, tk0, os⟩ := s
  show wpAny _ _ (field (.ref z) 2 >>= _) _ _ _
  refine wpAny_bind (wpAny_field hz rfl (x := .bool false) rfl ?_)
  show wpAny _ _ (field (.ref z) 3 >>= _) _ _ _
  refine wpAny_bind (wpAny_field hz rfl (x := .ref TI) rfl ?_)
  refine wpAny_bind (wpAny_seqItems hTI rfl ?_)
  show wpAny _ _ (Builtin.SmallTypes.ownedTupleIsFree (.ref z) >>= _) _ _ _
  refine wpAny_bind (wpAny_tupleHeld_zip hz hT fun g0 hz0 hs0 => ?_)
  replace hs0 : Heap.SameBut z hp g0 := hs0
  simp only [Bool.false_eq_true, if_false]
  refine wpAny_bind ?_
  rw [← Array.forIn_toList]
  simp only [List.forIn_cons, List.forIn_nil]
  refine wpAny_bind (wpAny_bind (wpAny_holding ?_))
  show wpAny _ _ (Builtin.SmallTypes.nextOf (.ref i1) >>= _) _ _ ⟨g0, g, d, tk0, os⟩
  refine wpAny_bind (D1.item i _ _ _ hlt1 (D1.over st1 hs0 S.zf1) fun x1 p1 tk1 hx1 sn1 hp1 => wpAny_pure ?_)
  replace hp1 : Heap.SameBut i1 g0 p1 := hp1
  refine wpAny_pure ?_
  refine wpAny_bind (wpAny_bind (wpAny_holding ?_))
  show wpAny _ _ (Builtin.SmallTypes.nextOf (.ref i2) >>= _) _ _ ⟨p1, g, d, tk1, os⟩
  refine wpAny_bind (D2.item i _ _ _ hlt2 (D2.over (D2.over st2 hs0 S.zf2) hp1 S.sep1_2) fun x2 p2 tk2 hx2 sn2 hp2 => wpAny_pure ?_)
  replace hp2 : Heap.SameBut i2 p1 p2 := hp2
  refine wpAny_pure (wpAny_pure ?_)
  show wpAny _ _ (newTuple [x1, x2] >>= _) _ _ _
  refine wpAny_bind (wpAny_newTuple ?_)
  have hsz : p2.objs.size = hp.objs.size := by rw [hp2.1, hp1.1, hs0.1]
  have hz3 : IsZipHeld p2 z TI TO T true := hp2.extBut _ _ S.zi2 (hp1.extBut _ _ S.zi1 hz0)
  have hk : ∀ c o, c ≠ z → c ≠ i1 → c ≠ i2 → hp.get? c = some o → p2.get? c = some o := fun c o c1 c2 c3 e => hp2.extBut _ _ c3 (hp1.extBut _ _ c2 (hs0.extBut _ _ c1 e))
  have hpT : IsTupOf2 (p2.push { cls := .type "tuple", data := .seq #[x1, x2] }) p2.objs.size x1 x2 := Heap.get?_push_size _ rfl
  have hz4 : (p2.push { cls := .type "tuple", data := .seq #[x1, x2] }).objs.size = p2.objs.size + 1 := Heap.size_push ..
  refine wpAny_pure ⟨_, rfl, ?_⟩
  show Q (.ref p2.objs.size) _
  rw [hsz] at hpT hz4 ⊢
  exact hQ x1 x2 _ tk2 hx1 hx2 (Heap.get?_push_of_some _ hz3) (D1.frame _ _ _ (D1.over sn1 hp2 S.sep2_1) fun b _ o e => Heap.get?_push_of_some _ e) (D2.frame _ _ _ sn2 fun b _ o e => Heap.get?_push_of_some _ e) hpT hz4 fun c o c1 c2 c3 e => Heap.get?_push_of_some _ (hk c o c1 c2 c3 e)
theorem held_end {Q : Fin → Shared → Prop} (S : ZipSep2 z TI TO i1 i2 fp1 fp2) (D1 : Draws prog w A i1 fp1 n1 P1 St1) (D2 : Draws prog w A i2 fp2 n2 P2 St2)
    (hz : IsZipHeld s.heap z TI TO T f) (hT : s.heap.get? T = some oT) (hTI : IsTupOf2 s.heap TI (.ref i1) (.ref i2)) (st1 : St1 i s.heap) (st2 : St2 i s.heap) (hle1 : i ≤ n1) (hle2 : i ≤ n2) (hend : i = n1 ∨ i = n2)
    (hE : ∀ h' tk e, (∀ c o, c ≠ z → c ≠ i1 → c ≠ i2 → s.heap.get? c = some o → h'.get? c = some o) → (∃ o, h'.get? e = some o ∧ o.cls = .type "StopIteration") → E (.ref e) { s with heap := h', toks := tk }) :
    wpAny (model prog w) A (Builtin.«zip.__next__» ⟨[.ref z], []⟩) Q E s := by
  obtain ⟨hp, g, d, tk0, os⟩ := s
  show wpAny _ _ (field (.ref z) 2 >>= _) _ _ _
  refine wpAny_bind (wpAny_field hz rfl (x := .bool false) rfl ?_)
  show wpAny _ _ (field (.ref z) 3 >>= _) _ _ _
  refine wpAny_bind (wpAny_field hz rfl (x := .ref TI) rfl ?_)
  refine wpAny_bind (wpAny_seqItems hTI rfl ?_)
  show wpAny _ _ (Builtin.SmallTypes.ownedTupleIsFree (.ref z) >>= _) _ _ _
  refine wpAny_bind (wpAny_tupleHeld_zip hz hT fun g0 hz0 hs0 => ?_)
  replace hs0 : Heap.SameBut z hp g0 := hs0
  simp only [Bool.false_eq_true, if_false]
  refine wpAny_bind ?_
  rw [← Array.forIn_toList]
  simp only [List.forIn_cons, List.forIn_nil]
  refine wpAny_bind (wpAny_bind (wpAny_holding ?_))
  show wpAny _ _ (Builtin.SmallTypes.nextOf (.ref i1) >>= _) _ _ ⟨g0, g, d, tk0, os⟩
  by_cases hlt1 : i < n1
  · refine wpAny_bind (D1.item i _ _ _ hlt1 (D1.over st1 hs0 S.zf1) fun x1 p1 tk1 hx1 sn1 hp1 => wpAny_pure ?_)
    replace hp1 : Heap.SameBut i1 g0 p1 := hp1
    refine wpAny_pure ?_
    have hi2 : i = n2 := by omega
    refine wpAny_bind (wpAny_bind (wpAny_holding ?_))
    show wpAny _ _ (Builtin.SmallTypes.nextOf (.ref i2) >>= _) _ _ ⟨p1, g, d, tk1, os⟩
    refine wpAny_bind (D2.done ⟨p1, g, d, tk1, os⟩ _ _ (by rw [← hi2]; exact (D2.over (D2.over st2 hs0 S.zf2) hp1 S.sep1_2)) fun q e hq he => ?_)
    exact hE q tk1 e (fun c o c1 c2 c3 x => hq _ _ c3 (hp1.extBut _ _ c2 (hs0.extBut _ _ c1 x))) he
  · have hi1 : i = n1 := by omega
    refine wpAny_bind (D1.done ⟨g0, g, d, tk0, os⟩ _ _ (by rw [← hi1]; exact (D1.over st1 hs0 S.zf1)) fun q e hq he => ?_)
    exact hE q tk0 e (fun c o c1 c2 _ x => hq _ _ c2 (hs0.extBut _ _ c1 x)) he
theorem next_item {Q : Option Value → Shared → Prop} (S : ZipSep2 z TI TO i1 i2 fp1 fp2) (D1 : Draws prog w A.in1 i1 fp1 n1 P1 St1) (D2 : Draws prog w A.in1 i2 fp2 n2 P2 St2)
    (hz : IsZipHeld s.heap z TI TO T f) (hT : s.heap.get? T = some oT) (hTI : IsTupOf2 s.heap TI (.ref i1) (.ref i2)) (st1 : St1 i s.heap) (st2 : St2 i s.heap) (hlt1 : i < n1) (hlt2 : i < n2)
    (hQ : ∀ x1 x2 h' tk, P1 i x1 → P2 i x2 → IsZipHeld h' z TI TO T true → St1 (i + 1) h' → St2 (i + 1) h' → IsTupOf2 h' s.heap.objs.size x1 x2 → h'.objs.size = s.heap.objs.size + 1 →
      (∀ c o, c ≠ z → c ≠ i1 → c ≠ i2 → s.heap.get? c = some o → h'.get? c = some o) → Q (some (.ref s.heap.objs.size)) { s with heap := h', toks := tk }) :
    wpAny (model prog w) A (pyNext (.ref z)) Q E s := by
  have hTy : s.TypeIs (.ref z) "zip" := ⟨_, hz, rfl⟩
  unfold pyNext
  exact wpAny_bind (wpAny_attempt (wpAny_callSpecial?_slot (name := Str.ofString "__next__") hTy F.slot_zip_next
    (wpAny_call_entry F.slot_zip_next hTy F.entry_zip_next
      (held_item S D1 D2 hz hT hTI st1 st2 hlt1 hlt2 fun x1 x2 h' tk b1 b2 b3 b4 b5 b6 b7 b8 => wpAny_pure (hQ x1 x2 h' tk b1 b2 b3 b4 b5 b6 b7 b8)) (F.args_zip_next_1 _))))
theorem next_end {Q : Option Value → Shared → Prop} (S : ZipSep2 z TI TO i1 i2 fp1 fp2) (D1 : Draws prog w A.in1 i1 fp1 n1 P1 St1) (D2 : Draws prog w A.in1 i2 fp2 n2 P2 St2)
    (hz : IsZipHeld s.heap z TI TO T f) (hT : s.heap.get? T = some oT) (hTI : IsTupOf2 s.heap TI (.ref i1) (.ref i2)) (st1 : St1 i s.heap) (st2 : St2 i s.heap) (hle1 : i ≤ n1) (hle2 : i ≤ n2) (hend : i = n1 ∨ i = n2)
    (hQ : ∀ h' tk, (∀ c o, c ≠ z → c ≠ i1 → c ≠ i2 → s.heap.get? c = some o → h'.get? c = some o) → Q none { s with heap := h', toks := tk }) : wpAny (model prog w) A (pyNext (.ref z)) Q E s := by
  have hTy : s.TypeIs (.ref z) "zip" := ⟨_, hz, rfl⟩
  unfold pyNext
  refine wpAny_bind (wpAny_attempt (wpAny_callSpecial?_slot (name := Str.ofString "__next__") hTy F.slot_zip_next
    (wpAny_call_entry F.slot_zip_next hTy F.entry_zip_next (held_end S D1 D2 hz hT hTI st1 st2 hle1 hle2 hend fun h' tk e hk he => ?_) (F.args_zip_next_1 _))))
  obtain ⟨o, ho, hc⟩ := he
  refine wpAny_bind (wpAny_isInstance (T := "StopIteration") (b := true) ⟨o, ho, hc⟩ isSubtype_stop ?_)
  exact wpAny_pure (hQ _ _ hk)
end
end DZ

set_option maxHeartbeats 2000000
/-! zip(a, b) as the argument of dict -/
namespace DZ
open PySem
section
variable {prog : Program} {w : World} {z TI TO i1 i2 : Addr} {fp1 fp2 : List Addr} {n1 n2 : Nat} {P1 P2 : Nat → Value → Prop} {St1 St2 : Nat → Heap → Prop}
theorem pairArg (A0 : Around) (hA0 : A0.handled = none) (S : ZipSep2 z TI TO i1 i2 fp1 fp2) (D1 : ∀ A : Around, A.handled = none → Draws prog w A.in1 i1 fp1 n1 P1 St1) (D2 : ∀ A : Around, A.handled = none → Draws prog w A.in1 i2 fp2 n2 P2 St2) :
    PairArg prog w "zip" z (z :: TI :: TO :: (fp1 ++ fp2)) [z, TO, i1, i2] (min n1 n2) (fun i k v => P1 i k ∧ P2 i v)
      (fun h => IsZip h z TI TO .none ∧ IsTupOf2 h TI (.ref i1) (.ref i2) ∧ (∃ a b, IsTupOf2 h TO a b) ∧ St1 0 h ∧ St2 0 h ∧ ∀ b ∈ fp1 ++ fp2, ∃ o, h.get? b = some o) where
  type := fun s ok => ⟨_, ok.1, rfl⟩
  notDict := by decide
  keep := fun h h' ok hk => by
    obtain ⟨hz, hTI, ⟨a, b, hTO⟩, h1, h2, h3⟩ := ok
    exact ⟨hk _ _ hz, hk _ _ hTI, ⟨a, b, hk _ _ hTO⟩, (D1 A0 hA0).frame _ _ _ h1 fun b _ o e => hk b o e, (D2 A0 hA0).frame _ _ _ h2 fun b _ o e => hk b o e, fun b hb => (h3 b hb).imp fun o e => hk _ _ e⟩
  there := fun h ok b hb => by
    obtain ⟨hz, hTI, ⟨a, c, hTO⟩, h1, h2, h3⟩ := ok
    rcases List.mem_cons.mp hb with rfl | hb
    · exact ⟨_, hz⟩
    rcases List.mem_cons.mp hb with rfl | hb
    · exact ⟨_, hTI⟩
    rcases List.mem_cons.mp hb with rfl | hb
    · exact ⟨_, hTO⟩
    exact h3 b hb
  sub := fun b hb => by
    have hc' : b = z ∨ b = TO ∨ b = i1 ∨ b = i2 := by simpa using hb
    rcases hc' with rfl | rfl | rfl | rfl
    · exact List.mem_cons_self ..
    · exact List.mem_cons_of_mem _ (List.mem_cons_of_mem _ (List.mem_cons_self ..))
    · exact List.mem_cons_of_mem _ (List.mem_cons_of_mem _ (List.mem_cons_of_mem _ (List.mem_append_left _ S.mem1)))
    · exact List.mem_cons_of_mem _ (List.mem_cons_of_mem _ (List.mem_cons_of_mem _ (List.mem_append_right _ S.mem2)))
  noKeys := fun A s Q E hA ok h => getAttrOr_miss_zip ok.1 rfl rfl rfl zip_no_keys (by decide +kernel) hA h
  iter := fun A s d Q E hA ok hd hdf h => by
    obtain ⟨hz, hTI, ⟨a, b, hTO⟩, h1, h2, h3⟩ := ok
    have E1 := D1 A hA
    have E2 := D2 A hA
    have dz : d ≠ z := fun e => hdf (by rw [e]; exact List.mem_cons_self ..)
    have dTI : d ≠ TI := fun e => hdf (by rw [e]; exact List.mem_cons_of_mem _ (List.mem_cons_self ..))
    have dTO : d ≠ TO := fun e => hdf (by rw [e]; exact List.mem_cons_of_mem _ (List.mem_cons_of_mem _ (List.mem_cons_self ..)))
    have d1 : d ∉ fp1 := fun e => hdf (List.mem_cons_of_mem _ (List.mem_cons_of_mem _ (List.mem_cons_of_mem _ (List.mem_append_left _ e))))
    have d2 : d ∉ fp2 := fun e => hdf (List.mem_cons_of_mem _ (List.mem_cons_of_mem _ (List.mem_cons_of_mem _ (List.mem_append_right _ e))))
    have di1 : d ≠ i1 := fun e => d1 (by rw [e]; exact S.mem1)
    have di2 : d ≠ i2 := fun e => d2 (by rw [e]; exact S.mem2)
    refine wpAny_pyIter_zip hz (h z [z, TO, i1, i2] (fun i h => IsTupOf2 h TI (.ref i1) (.ref i2) ∧ St1 i h ∧ St2 i h ∧
      ((IsZip h z TI TO .none ∧ ∃ a b, IsTupOf2 h TO a b) ∨ ∃ T f oT, IsZipHeld h z TI TO T f ∧ h.get? T = some oT ∧ T ≠ z ∧ T ≠ i1 ∧ T ≠ i2 ∧ T ≠ d)) s.heap s.toks ?_
      ⟨hTI, h1, h2, .inl ⟨hz, a, b, hTO⟩⟩ (fun _ _ e => e) fun b hb => .inl hb)
    exact {
      off := fun hm => by
        have hc' : d = z ∨ d = TO ∨ d = i1 ∨ d = i2 := by simpa using hm
        rcases hc' with e | e | e | e
        · exact dz e
        · exact dTO e
        · exact di1 e
        · exact di2 e
      frame := fun i h₁ h₂ st hk => by
        obtain ⟨hTI, h1, h2, hz⟩ := st
        refine ⟨hk _ _ (Ne.symm dTI) hTI, E1.frame _ _ _ h1 fun b hb o e => hk _ o (fun q => d1 (q ▸ hb)) e, E2.frame _ _ _ h2 fun b hb o e => hk _ o (fun q => d2 (q ▸ hb)) e, ?_⟩
        rcases hz with ⟨hz, a, b, hTO⟩ | ⟨T, f, oT, hz, hT, r1, r2, r3, r4⟩
        · exact .inl ⟨hk _ _ (Ne.symm dz) hz, a, b, hk _ _ (Ne.symm dTO) hTO⟩
        · exact .inr ⟨T, f, oT, hk _ _ (Ne.symm dz) hz, hk _ _ r4 hT, r1, r2, r3, r4⟩
      item := fun i s₁ Q₁ E₁ hi st hds hQ => by
        obtain ⟨hTI, h1, h2, hz⟩ := st
        have hi1 : i < n1 := Nat.lt_of_lt_of_le hi (Nat.min_le_left ..)
        have hi2 : i < n2 := Nat.lt_of_lt_of_le hi (Nat.min_le_right ..)
        have lt : ∀ {c o}, s₁.heap.get? c = some o → s₁.heap.objs.size ≠ c := fun e => Nat.ne_of_gt (Heap.lt_size e)
        have m1 : s₁.heap.objs.size ≠ i1 := by obtain ⟨_, e⟩ := E1.live _ _ h1; exact lt e
        have m2 : s₁.heap.objs.size ≠ i2 := by obtain ⟨_, e⟩ := E2.live _ _ h2; exact lt e
        rcases hz with ⟨hz, a, b, hTO⟩ | ⟨T, f, oT, hz, hT, r1, r2, r3, r4⟩
        · refine wpAny_pyNext_zipD2_item S E1 E2 hz hTI hTO h1 h2 hi1 hi2 fun x1 x2 h' tk y1 y2 b1 b2 c1 c2 b5 b6 hk => ?_
          exact hQ s₁.heap.objs.size _ _ h' tk ⟨y1, y2⟩ (.inl ⟨_, b5, rfl, _, rfl⟩)
            ⟨hk _ _ S.TIz S.TITO S.TIi1 S.TIi2 hTI, c1, c2, .inr ⟨s₁.heap.objs.size, false, _, b1, b5, lt hz, m1, m2, Nat.ne_of_gt hds⟩⟩
            fun c o hc e => hk c o (fun x => hc (by simp [x])) (fun x => hc (by simp [x])) (fun x => hc (by simp [x])) (fun x => hc (by simp [x])) e
        · refine next_item S E1 E2 hz hT hTI h1 h2 hi1 hi2 fun x1 x2 h' tk y1 y2 b1 c1 c2 b5 b6 hk => ?_
          exact hQ s₁.heap.objs.size _ _ h' tk ⟨y1, y2⟩ (.inl ⟨_, b5, rfl, _, rfl⟩)
            ⟨hk _ _ S.TIz S.TIi1 S.TIi2 hTI, c1, c2, .inr ⟨T, true, oT, b1, hk _ _ r1 r2 r3 hT, r1, r2, r3, r4⟩⟩
            fun c o hc e => hk c o (fun x => hc (by simp [x])) (fun x => hc (by simp [x])) (fun x => hc (by simp [x])) e
      done := fun s₁ Q₁ E₁ st hQ => by
        obtain ⟨hTI, h1, h2, hz⟩ := st
        have e1 : min n1 n2 ≤ n1 := Nat.min_le_left ..
        have e2 : min n1 n2 ≤ n2 := Nat.min_le_right ..
        have e3 : min n1 n2 = n1 ∨ min n1 n2 = n2 := by omega
        rcases hz with ⟨hz, a, b, hTO⟩ | ⟨T, f, oT, hz, hT, r1, r2, r3, r4⟩
        · exact wpAny_pyNext_zipD2_end S E1 E2 hz hTI hTO h1 h2 e1 e2 e3 fun h' tk hk => hQ h' tk fun c o hc e => hk c o (fun x => hc (by simp [x])) (fun x => hc (by simp [x])) (fun x => hc (by simp [x])) (fun x => hc (by simp [x])) e
        · exact next_end S E1 E2 hz hT hTI h1 h2 e1 e2 e3 fun h' tk hk => hQ h' tk fun c o hc e => hk c o (fun x => hc (by simp [x])) (fun x => hc (by simp [x])) (fun x => hc (by simp [x])) e }
end
end DZ

set_option maxHeartbeats 2000000
/-! dict(zip(a, b)), a and b lists or tuples, the keys tuples that are not alike -/
namespace DZ
open PySem PySem.Spec PyProof.Rows L2
theorem stored_all {K : Type} [DecidableEq K] : ∀ (ps xs : List (K × Addr × Value)), ((xs ++ ps).map (·.1)).Nodup → storedAllH xs ps = xs ++ ps
  | [], xs, _ => by simp [storedAllH]
  | p :: ps, xs, h => by
    have hn : atKey xs p.1 = none := by
      refine atKey_none_of_get fun j q e => ?_
      rw [List.map_append, List.nodup_append] at h
      exact h.2.2 p.1 (List.mem_map.mpr ⟨_, List.mem_of_getElem? e, rfl⟩) p.1 (by simp) rfl
    have e : storedAllH xs (p :: ps) = storedAllH (xs ++ [p]) ps := by
      unfold storedAllH
      rw [List.foldl_cons, storedH_new hn]
    rw [e, stored_all ps (xs ++ [p]) (by rw [List.append_assoc]; exact h), List.append_assoc]
    rfl
/-- the entries -/
def ents : List (List Key) → List Addr → List Value → List (List Key × Addr × Value)
  | k :: ks, t :: ts, u :: us => (k, t, u) :: ents ks ts us
  | _, _, _ => []
theorem ents_get : ∀ {ks : List (List Key)} {ts : List Addr} {us : List Value} {i : Nat} {k : List Key} {t : Addr} {u : Value}, ks[i]? = some k → ts[i]? = some t → us[i]? = some u → (ents ks ts us)[i]? = some (k, t, u)
  | k :: ks, t :: ts, u :: us, 0, _, _, _, h1, h2, h3 => by cases h1; cases h2; cases h3; rfl
  | k :: ks, t :: ts, u :: us, i + 1, _, _, _, h1, h2, h3 => ents_get (ks := ks) (ts := ts) (us := us) (i := i) h1 h2 h3
theorem ents_len : ∀ {ks : List (List Key)} {ts : List Addr} {us : List Value}, ks.length = ts.length → us.length = ts.length → (ents ks ts us).length = ts.length
  | [], [], [], _, _ => rfl
  | k :: ks, t :: ts, u :: us, h1, h2 => by
    show (ents ks ts us).length + 1 = ts.length + 1
    rw [ents_len (by simpa using h1) (by simpa using h2)]
theorem ents_keys : ∀ {ks : List (List Key)} {ts : List Addr} {us : List Value}, ks.length = ts.length → us.length = ts.length → (ents ks ts us).map (·.1) = ks
  | [], [], [], _, _ => rfl
  | k :: ks, t :: ts, u :: us, h1, h2 => by
    show k :: (ents ks ts us).map (·.1) = k :: ks
    rw [ents_keys (by simpa using h1) (by simpa using h2)]
theorem ents_KT {H : Hp} : ∀ {ks : List (List Key)} {ts : List Addr} {ys : List V} {us : List Value}, ks.length = ts.length → Vals ys us → us.length = ts.length → (∀ (i : Nat) (t : Addr) (k : List Key), ts[i]? = some t → ks[i]? = some k → H t = some (.tup (k.map kV))) → KT H (ks.zip ys) (ents ks ts us)
  | [], ts, ys, us, _, _, _, _ => by
    have e : ents [] ts us = [] := by simp [ents]
    rw [e]
    exact .nil
  | k :: ks, [], _, _, h1, _, _, _ => by simp at h1
  | k :: ks, t :: ts, ys, us, h1, r, h2, h => by
    cases r with
    | nil => simp at h2
    | cons r rs => exact .cons ⟨rfl, h 0 t k rfl rfl, r⟩ (ents_KT (by simpa using h1) rs (by simpa using h2) fun i t k a b => h (i + 1) t k a b)
theorem refs_of : ∀ {ts : List Addr} {us : List Value}, Vals (ts.map V.ref) us → us = ts.map Value.ref
  | [], _, .nil => rfl
  | t :: ts, _, .cons r rs => by rw [refs_of rs, show _ = Value.ref t from r]; rfl
/-- no text -/
def seq : ZM.Sk → Prop
  | .txt _ => False
  | _ => True
section
variable {X : Cx} {pins : List (Addr × Obj)} {σ : L2.St} {H : Hp} {s : Shared} {k : ZM.Sk} {xs : List V}
theorem drawsA (I : Inv X pins σ H s) (hq : ZM.Src X.K H k xs) (sq : seq k) (it : Addr) (t : Tok) (ap : ∀ a ∈ k.at, a ≠ it) : ∃ (us : List Value) (St : Nat → Heap → Prop), Vals xs us ∧ us.length ≤ sizeLine ∧
    (∀ A : Around, A.handled = none → Draws X.prog X.w A.in1 it (ZM.cells it k) us.length (fun i v => us[i]? = some v) St) ∧
    (∀ h : Heap, (∀ b o, s.heap.get? b = some o → h.get? b = some o) → ZM.Stands h it t 0 k → St 0 h ∧ ∀ b ∈ ZM.cells it k, ∃ o, h.get? b = some o) := by
  cases k with
  | lst a =>
    obtain ⟨its, rv, p, z⟩ := I.list hq
    refine ⟨its, fun i h => h.IsListIter it a i ∧ h.IsList a its.toArray, rv, by rw [← rv.length]; exact z, fun A hA => ?_, fun h kp st => ⟨⟨st, p.isList.at fun o e => kp _ _ e⟩, fun b hb => ?_⟩⟩
    · have D := Draws.list (prog := X.prog) (w := X.w) (A := A.in1) hA it a (ap a (by simp [ZM.Sk.at])) its.toArray
      rw [List.size_toArray] at D
      simp only [List.getElem?_toArray] at D
      exact D
    · simp only [ZM.cells, ZM.Sk.at, List.mem_cons, List.not_mem_nil, or_false] at hb
      rcases hb with rfl | rfl
      · exact (ZM.stands_obj st).imp fun o q => q.1
      · obtain ⟨o, e, _⟩ := p.isList
        exact ⟨o, kp _ _ e⟩
  | tup a =>
    obtain ⟨its, rv, p, z⟩ := I.tuple hq
    refine ⟨its, fun i h => h.IsTupleIter it a i ∧ h.IsTuple a its.toArray, rv, by rw [← rv.length]; exact z, fun A hA => ?_, fun h kp st => ⟨⟨st, (show s.heap.IsTuple a its.toArray from p).at fun o e => kp _ _ e⟩, fun b hb => ?_⟩⟩
    · have D := Draws.tuple (prog := X.prog) (w := X.w) (A := A.in1) hA it a (ap a (by simp [ZM.Sk.at])) its.toArray
      rw [List.size_toArray] at D
      simp only [List.getElem?_toArray] at D
      exact D
    · simp only [ZM.cells, ZM.Sk.at, List.mem_cons, List.not_mem_nil, or_false] at hb
      rcases hb with rfl | rfl
      · exact (ZM.stands_obj st).imp fun o q => q.1
      · obtain ⟨o, e, _⟩ := (show s.heap.IsTuple b its.toArray from p)
        exact ⟨o, kp _ _ e⟩
  | txt x => exact sq.elim
end
end DZ

set_option maxHeartbeats 2000000
/-! the rule of dict(zip(a, b)) -/
namespace DZ
open PySem PySem.Spec PyProof.Rows L2
def tDz (K : PySem.W.Frag) (ta : TA) : TE := fun σ H Q => ta σ H fun vs H1 => ∃ (k1 k2 : ZM.Sk) (ts : List Addr) (ks : List (List Key)) (ys : List V), vs = [k1.v, k2.v] ∧ seq k1 ∧ seq k2 ∧ ZM.Src K H1 k1 (ts.map V.ref) ∧ ZM.Src K H1 k2 ys ∧
  ys.length = ts.length ∧ ks.length = ts.length ∧ (∀ (i : Nat) (t : Addr) (k : List Key), ts[i]? = some t → ks[i]? = some k → H1 t = some (.tup (k.map kV))) ∧ ks.Nodup ∧ ∀ D, H1 D = none → Q (.ref D) (upd H1 D (.dT (ks.zip ys)))
theorem notin {n b : Nat} (h : b < n) : b ∉ [n + 4, n + 3, n, n + 1] := by
  intro hm
  simp only [List.mem_cons, List.not_mem_nil, or_false] at hm
  omega
theorem pe_dz {X : Cx} {e e2 : Expr} {ta : TA} {p p2 pos pos2 : Pos} (hu : X.A.units + 2 < cLine) (hc : X.calm = true) (hg : Gl X "dict") (hm : X.mg "dict" = none) (hgz : Gl X "zip") (hmz : X.mg "zip" = none) (ha : PA X [e, e2] ta)
    (na : starEach [Expr.Call (.Name "zip" p2) [e, e2] [] pos2] X.env = (false, eval (Expr.Call (.Name "zip" p2) [e, e2] [] pos2) X.env) :: starEach [] X.env := by rfl)
    (hs : starEach [e, e2] X.env = (false, eval e X.env) :: starEach [e2] X.env := by rfl) (hpl : (backTo pos2 (starEach [e2] X.env)).any (·.1) = false := by rfl) :
    PE X (.Call (.Name "dict" p) [.Call (.Name "zip" p2) [e, e2] [] pos2] [] pos) (tDz X.K ta) := by
  refine ⟨fun pins s σ H Q I h => Call_ (ld_blt I hg hm PyProof.Rows.Boot.dict (PyProof.Rows.callWith_type1 (args_cons (Call_ (ld_blt I hgz hmz PyProof.Rows.boot_zip (PyProof.Rows.callWith_type1 (thn (ha.run pos2 pins s σ H _ I h) fun us s1 h1 => ?_) hs hpl))) na) na))⟩
  obtain ⟨vs, H1, I1, r1, k1, k2, ts, ks, ys, rfl, sq1, sq2, hx, hy, ly, lk, ht, nd, q⟩ := h1
  cases r1 with
  | cons ru rr =>
    cases rr with
    | cons rw rr =>
      cases rr
      obtain ⟨o1, G1, t1, B1, g1, lt1, w1⟩ := ZM.begins I1 hx ru
      obtain ⟨o2, G2, t2, B2, g2, lt2, w2⟩ := ZM.begins I1 hy rw
      refine zip_begins2 B1 B2 g1 g2 fun h' hz hTI hTO e1 e2 hsz hk => args_nil ?_
      have far : ∀ (k : ZM.Sk) (n j : Nat), (∀ a ∈ k.at, a < s1.heap.objs.size) → n ≠ j → s1.heap.objs.size + n ∉ ZM.cells (s1.heap.objs.size + j) k := fun k n j hl hn hc => by
        rcases List.mem_cons.mp hc with z | z
        · exact ZM.ad hn z
        · exact Nat.not_lt_of_le (Nat.le_add_right _ _) (hl _ z)
      have S : ZipSep2 (s1.heap.objs.size + 4) (s1.heap.objs.size + 2) (s1.heap.objs.size + 3) s1.heap.objs.size (s1.heap.objs.size + 1) (ZM.cells s1.heap.objs.size k1) (ZM.cells (s1.heap.objs.size + 1) k2) :=
        { TIz := ZM.ad (by decide), TOz := ZM.ad (by decide), TITO := ZM.ad (by decide), TIi1 := ZM.ad (n := 2) (m := 0) (by decide), TIi2 := ZM.ad (by decide), mem1 := List.mem_cons_self, mem2 := List.mem_cons_self,
          zf1 := far k1 4 0 lt1 (by decide), Tf1 := far k1 3 0 lt1 (by decide), zf2 := far k2 4 1 lt2 (by decide), Tf2 := far k2 3 1 lt2 (by decide), sep1_2 := far k2 0 1 lt2 (by decide), sep2_1 := far k1 1 0 lt1 (by decide) }
      obtain ⟨us1, St1, rv1, z1, D1, b1⟩ := drawsA I1 hx sq1 s1.heap.objs.size t1 (fun a h => Nat.ne_of_lt (lt1 a h))
      obtain ⟨us2, St2, rv2, z2, D2, b2⟩ := drawsA I1 hy sq2 (s1.heap.objs.size + 1) t2 (fun a h => Nat.ne_of_lt (Nat.lt_succ_of_lt (lt2 a h)))
      obtain ⟨c1, f1⟩ := b1 h' hk (w1 _ _ e1)
      obtain ⟨c2, f2⟩ := b2 h' hk (w2 _ _ e2)
      have hr := refs_of rv1
      have l1 : us1.length = ts.length := by rw [hr, List.length_map]
      have l2 : us2.length = ts.length := by rw [← ly]; exact rv2.length.symm
      have hA : X.A.handled = none := I1.ok.hd hc
      have I2 : Inv X pins σ H1 { s1 with heap := h' } := I1.kept (t' := s1.toks) hk
      refine call_dict_pairsH (knd := tupleKind (mixKind X.prog X.w)) (ps := ents ks ts us2) (s := { s1 with heap := h' }) (pairArg X.A hA S D1 D2) hA hu ⟨hz, hTI, ⟨_, _, hTO⟩, c1, c2, fun b hb => (List.mem_append.mp hb).elim (f1 b) (f2 b)⟩ ⟨by rw [ents_len lk l2, l1, l2, Nat.min_self], fun i key v ⟨q1, q2⟩ => ?_⟩ (fun h'' hk2 x hx2 => ?_) (by rw [l1, l2, Nat.min_self, ← l2]; exact z2) fun h'' tk hd hk2 => ?_
      · rw [hr, List.getElem?_map] at q1
        obtain ⟨t, ht1, rfl⟩ := Option.map_eq_some_iff.mp q1
        have il : i < ks.length := by have := (List.getElem?_eq_some_iff.mp ht1).1; omega
        exact ⟨ks[i], t, ents_get (List.getElem?_eq_getElem il) ht1 q2, rfl⟩
      · obtain ⟨i, hi⟩ := List.getElem?_of_mem hx2
        have il := (List.getElem?_eq_some_iff.mp hi).1
        rw [ents_len lk l2] at il
        have e := ents_get (List.getElem?_eq_getElem (show i < ks.length by omega)) (List.getElem?_eq_getElem il) (List.getElem?_eq_getElem (show i < us2.length by omega))
        rw [hi] at e
        cases e
        obtain ⟨o, its, n, q1, q2, q3, q4⟩ := key_of I1.hok (ht i _ _ (List.getElem?_eq_getElem il) (List.getElem?_eq_getElem (show i < ks.length by omega)))
        have tl : ts[i] < s1.heap.objs.size := Heap.lt_size q1
        have hsz' : h'.objs.size = s1.heap.objs.size + 5 := hsz
        have n0 : ts[i] ≠ h'.objs.size := Nat.ne_of_lt (Nat.lt_of_lt_of_le tl (by rw [hsz']; exact Nat.le_add_right _ _))
        refine ⟨o, its, n, hk2 _ _ n0 (fun hm => ?_) (hk _ _ q1), q2, q3, q4⟩
        exact notin tl hm
      · have ek : storedAllH [] (ents ks ts us2) = ents ks ts us2 := stored_all _ _ (by rw [List.nil_append, ents_keys lk l2]; exact nd)
        rw [ek] at hd
        have hle : s1.heap.objs.size ≤ h'.objs.size := by omega
        have nD : H1 h'.objs.size = none := I2.hok.fresh (Nat.le_refl _)
        refine ⟨.ref h'.objs.size, upd H1 h'.objs.size (.dT (ks.zip ys)), I1.laid (fun b u hb => hk2 b u (fun hm => ?_) (hk _ _ hb)) hle ?_, rfl, q _ nD⟩
        · exact notin (Heap.lt_size hb) hm
        · obtain ⟨o, es, ep, q1, q2, q3, q4, q5, q6⟩ := hd
          refine ⟨by rw [List.length_zip]; have := z2; omega, ?_, ents ks ts us2, KT.keeps (ents_KT lk rv2 l2 ht) fun c zs hc => (upd_ne (fun z => by rw [z, nD] at hc; cases hc)).trans hc, o, es, ep, q1, q2, q3, q4, q6⟩
          exact beq_eq_false_iff_ne.mpr (Ne.symm (Nat.ne_of_lt I2.big))
end DZ

set_option maxHeartbeats 4000000
/-! The law's normal signs; its model. -/
namespace K14
open PySem PySem.Spec PyProof.Rows L2
abbrev sNo : Stmt := topS 45
abbrev sMo : Stmt := topS 46
abbrev nNo : List Str := ["_law_signs", "_law_sign", "_law_one"]
theorem scNo : FnScope nNo ["_law_signs"] (defScope sNo) := ⟨rfl, rfl, rfl, by decide +kernel, rfl, by decide +kernel, by decide +kernel⟩
theorem scMo : FnScope ["_law_many", "_law_rank", "_law_signs"] ["_law_many", "_law_rank", "_law_signs"] (defScope sMo) := ⟨rfl, rfl, rfl, by decide +kernel, rfl, by decide +kernel, by decide +kernel⟩
def norm (ns : List Int) : List Int := if fst ns = 0 then ns else ns.map fun n => n * fst ns
theorem fst_isS : ∀ {ns : List Int}, ns.all isS = true → unit3 (fst ns)
  | [], _ => .inl rfl
  | n :: ns, h => by
    rw [List.all_cons, Bool.and_eq_true] at h
    unfold fst
    split
    · exact isS_un h.1
    · exact fst_isS h.2
theorem told_norm {ns : List Int} (h : ns.all isS = true) : told ns = norm ns := by
  unfold told norm
  rcases fst_isS h with e | e | e
  · rw [if_neg (by omega), if_pos e]
  · rw [if_neg (by omega), if_neg (by omega), e]
    simp
  · rw [if_pos e, if_neg (by omega), e]
    unfold opp
    exact List.map_congr_left fun n _ => by omega
theorem isS_of {n : Int} (h : unit3 n) : isS n = true := by
  rcases h with rfl | rfl | rfl <;> rfl
theorem norm_isS {ns : List Int} (h : ns.all isS = true) : (norm ns).all isS = true := by
  unfold norm
  split
  · exact h
  · rw [List.all_map, List.all_eq_true]
    intro n hn
    exact isS_of (un_mul (isS_un (List.all_eq_true.mp h n hn)) (fst_isS h))
theorem norm_len (ns : List Int) : (norm ns).length = ns.length := by
  unfold norm
  split
  · rfl
  · rw [List.length_map]
section
variable {P : Program} {w : World} {K : PySem.W.Frag} {mg : Str → Option Value} {base : Heap}
def spNo (K : PySem.W.Frag) : Sp := fun vs H Q _ => ∃ (a : Addr) (ns : List Int), vs = [.ref a] ∧ SqE H a ns ∧ ns.length ≤ 1000 ∧ ns.all isS = true ∧ ∀ t H', Same H H' → H' t = some (.tup ((norm ns).map V.int)) → Q (.ref t) H'
theorem ok_no {f : Addr} {fd : FuncData} {k : Nat} (F : Fun K "_law_normal" "_law_normal" sNo f fd) (mt : mg "tuple" = none) : FnOk P w K mg base CX0 (k + 1) f fd ["_law_signs"] (spNo K) := by
  refine F.ok scNo (fun vs H Q E ⟨a, ns, e, _⟩ => by rw [e]; rfl) (fun cdv A outer s H vs Q E hr h => ?_)
  obtain ⟨a, ns, rfl, hE, z, ha, q⟩ := h
  have hq : SqI K H a ns := hE.i
  refine ⟨_, pss_cons (ps_for PassesOwn.never rfl (ZM.pi_sq (pv 0)) (pg_name (i := 1) scNo.nd rfl (Or.inr rfl))
      (pss_one (ps_if (pt_cmpR op_ne (pv 1) pe_int (nomark _)) (pss_one (ps_ret (pe_callTy call_tuple_of (by rfl) mt (by decide +kernel) (pa_cons
        (ZM.pe_bx (pe_lc (own := [("_law_one", 2)]) (g := gName 2) (tt := tYes) rfl scNo.nd (ZM.pi_sq (pv 0)) (blkOk_by (N := nNo) (sc := defScope sNo) (by decide +kernel))
          (fun _ _ _ _ _ => pg_name (i := 2) scNo.nd rfl (Or.inl rfl)) (fun _ _ _ _ _ => pts_nil) (fun _ _ _ _ _ => pe_op op_mul (pv 2) (pv 1)))) pa_nil)))) pss_nil)))
    (pss_one (ps_ret (pe_callTy call_tuple_of (by rfl) mt (by decide +kernel) (pa_cons (pv 0) pa_nil)))), ?_⟩
  refine ⟨_, rfl, a, _, rfl, ZM.for_sq (K := K) (a := a) (xs := ns.map V.int) hq (fun i σ H' => ∃ x1, σ = [some (.ref a), x1, none] ∧ H' = H ∧ fst (ns.drop i) = fst ns) ⟨none, rfl, rfl, rfl⟩ (fun i σ H' _ ⟨_, _, e, _⟩ => by rw [e]; exact Same.refl _) ?_ ?_⟩
  · rintro i x σ H' hx ⟨x1, rfl, rfl, e⟩
    obtain ⟨v, rfl, hv⟩ := get_ints hx
    have hvS : isS v = true := List.all_eq_true.mp ha v (List.mem_of_getElem? hv)
    rw [drop_at hv, fst] at e
    refine ⟨_, rfl, rfl, _, rfl, ?_⟩
    by_cases c : v = 0
    · rw [if_neg (by simp [c])] at e
      exact if_f (by simp [c]) ⟨_, rfl, rfl, e⟩
    · rw [if_pos c] at e
      refine if_t (by simp [c]) ?_
      refine ZM.lcm_sq (ys := (ns.map fun n => n * v).map V.int) (fun R r => ⟨_, rfl, r⟩) hq (by simp) (by simp; omega) (fun _ => rfl) ?_ ?_
      · intro i x y H2 R hx hy _ hR
        obtain ⟨u, rfl, hu⟩ := get_ints hx
        rw [List.getElem?_map, List.getElem?_map, hu] at hy
        cases hy
        refine ⟨_, rfl, _, rfl, _, _, rfl, rfl, .inr ?_, hR _ (Same.refl _)⟩
        rcases isS_un hvS with e | e | e <;> rw [e] <;> omega
      · intro D H2 sm nD hD
        have en : norm ns = ns.map fun n => n * v := by
          unfold norm
          rw [← e, if_neg c]
        refine ⟨D, _, rfl, .inl ⟨SqL.of hD, fun t nt => q t _ (sm.trans (same_new nt)) (by rw [upd_same, en])⟩⟩
  · rintro σ H' ⟨x1, rfl, rfl, e⟩
    rw [List.length_map, List.drop_length] at e
    have e0 : fst ns = 0 := e.symm
    have en : norm ns = ns := by unfold norm; rw [if_pos e0]
    rw [en] at q
    refine ⟨_, rfl, a, ns.map V.int, rfl, ?_⟩
    rcases hE with hE | hE
    · exact .inl ⟨SqL.of hE, fun t nt => q t _ (same_new nt) upd_same⟩
    · exact .inr ⟨SqT.of hE, q a _ (Same.refl _) hE⟩
/-- a model stands -/
structure ModAt (H : Hp) (m d : Addr) (n r : Nat) (ss : List Int) : Prop where
  m : H m = some (.dK [(.inr "things", .int (n : Int)), (.inr "rank", .int (r : Int)), (.inr "signs", .ref d)])
  d : H d = some (.dT (tab n r ss))
def spMo (K : PySem.W.Frag) : Sp := fun vs H Q _ => ∃ (n r : Nat) (a : Addr) (ss : List Int), vs = [.int (n : Int), .int (r : Int), .ref a] ∧ n ≤ 7 ∧ r ≤ n ∧ SqE H a ss ∧ ss.length = (CB.combs n r).length ∧ ss.all isS = true ∧
  ∀ m d H', Same H H' → H m = none → H d = none → ModAt H' m d n r (norm ss) → Q (.ref m) H'
theorem tab_is (n r : Nat) (ss : List Int) : ((CB.combs n r).map key).zip (ss.map V.int) = tab n r ss := by
  unfold tab
  rw [List.zip, List.zipWith_map]
end
end K14

set_option maxHeartbeats 4000000
/-! The law's model; its row. -/
namespace K14
open PySem PySem.Spec PyProof.Rows L2
theorem valV_tab {n r : Nat} {ss : List Int} (hn : n ≤ 7) (hr : r ≤ n) (hl : ss.length = (CB.combs n r).length) {i : Nat} {c : List Nat} {s : Int} (h1 : (CB.combs n r)[i]? = some c) (h2 : ss[i]? = some s) : valV (tab n r ss) (key c) = some (.int s) := by
  have hg := tab_get (n := n) (r := r) h1 h2
  unfold valV
  have nd : ((tab n r ss).map (·.1)).Nodup := by
    rw [tab_zip, List.map_map]
    have e : ((fun x => x.1) ∘ fun p : List Nat × Int => (key p.1, V.int p.2)) = fun p : List Nat × Int => key p.1 := rfl
    rw [e]
    have e2 : (((CB.combs n r).zip ss).map fun p : List Nat × Int => key p.1) = (CB.combs n r).map key := by
      rw [← zip_sub n r ss hl, List.map_map]
      rw [zip_sub n r ss hl]
      rfl
    rw [e2]
    exact List.Pairwise.map key (fun a b h e => h (key_inj e)) (combs_nodup hn hr)
  have hf : (tab n r ss).find? (fun kv => decide (kv.1 = key c)) = some (key c, .int s) := List.find?_eq_some_iff_getElem.mpr (by
    obtain ⟨hi, e⟩ := List.getElem?_eq_some_iff.mp hg
    refine ⟨by simp, i, hi, e, fun j hj => ?_⟩
    have hjl : j < (tab n r ss).length := by omega
    simp only [Bool.not_eq_true', decide_eq_false_iff_not]
    intro z
    have hn1 : ((tab n r ss).map (·.1))[j]? = some (key c) := by rw [List.getElem?_map, List.getElem?_eq_getElem hjl, ← z]; rfl
    have hn2 : ((tab n r ss).map (·.1))[i]? = some (key c) := by rw [List.getElem?_map, hg]; rfl
    have := nd_ix nd hn1 hn2
    omega)
  rw [hf]
  rfl
section
variable {P : Program} {w : World} {K : PySem.W.Frag} {mg : Str → Option Value} {base : Heap}
theorem ok_mo {f fl fn : Addr} {fd dl dn : FuncData} {k : Nat} (F : Fun K "_law_model" "_law_model" sMo f fd) (md : mg "dict" = none) (mz : mg "zip" = none)
    (L : FnOk P w K mg base CX0 k fl dl ["_law_many", "_law_size"] LL.spLL) (gL : mg "_law_lots" = some (.ref fl)) (kL : PySem.W.keepIn K (.ref fl) = true) (bL : Binds K dl ["_law_many", "_law_size"] [])
    (N : FnOk P w K mg base CX0 k fn dn ["_law_signs"] (spNo K)) (gN : mg "_law_normal" = some (.ref fn)) (kN : PySem.W.keepIn K (.ref fn) = true) (bN : Binds K dn ["_law_signs"] []) : FnOk P w K mg base CX0 (k + 1) f fd ["_law_many", "_law_rank", "_law_signs"] (spMo K) := by
  refine F.ok scMo (fun vs H Q E ⟨n, r, a, ss, e, _⟩ => by rw [e]; rfl) (fun cdv A outer s H vs Q E hr h => ?_)
  have u1 : (A.deeper (envOfC "_law_model" (defScope sMo) s.heap.objs.size f cdv)).units + 2 < cLine := by
    have := hr.units
    omega
  obtain ⟨n, r, a, ss, rfl, n7, rn, hq, hl, ha, q⟩ := h
  refine ⟨_, pss_one (ps_ret (pe_disp (pps_cons pe_str (pv 0) (pps_cons pe_str (pv 1) (pps_cons pe_str (DZ.pe_dz u1 rfl (by rfl) md (by rfl) mz
      (pa_cons (pe_call L hr (by rfl) gL kL bL .nil pass0 (pa_cons (pv 0) (pa_cons (pv 1) pa_nil))) (pa_cons (pe_call N hr (by rfl) gN kN bN .nil pass0 (pa_cons (pv 2) pa_nil)) pa_nil))) pps_nil))) rfl rfl (List.cons_ne_nil _ _) (by decide))), ?_⟩
  intro m nm
  have s0 := same_new (o := .dK []) nm
  refine ⟨_, rfl, _, rfl, _, rfl, _, rfl, n, r, rfl, n7, by omega, fun l ts H1 s1 nl hl1 LA => ?_⟩
  have s01 := s0.trans s1
  refine ⟨_, rfl, a, ss, rfl, hq.same s01, by have := combs_35 n7 rn; omega, ha, fun t H2 s2 ht => ?_⟩
  have lt : ts.length = (CB.combs n r).length := (lots_get LA).1.symm
  have nl2 := norm_len ss
  refine ⟨.lst l, .tup t, ts, (CB.combs n r).map key, (norm ss).map V.int, rfl, trivial, trivial, SqL.of (s2 _ _ hl1), SqT.of ht, by rw [List.length_map, nl2, hl, lt], by rw [List.length_map, lt], fun i t k e1 e2 => ?_, List.Pairwise.map key (fun a b h e => h (key_inj e)) (combs_nodup n7 rn), fun D nD => ?_⟩
  · rw [List.getElem?_map] at e2
    obtain ⟨c, hc, rfl⟩ := Option.map_eq_some_iff.mp e2
    obtain ⟨c', hc', htc⟩ := (lots_get LA).2 i t e1
    rw [hc] at hc'
    cases hc'
    rw [key_kV]
    exact s2 _ _ htc
  · rw [tab_is]
    have sD := same_new (o := .dT (tab n r (norm ss))) nD
    have hm : upd H2 D (.dT (tab n r (norm ss))) m = some (.dK []) := sD _ _ (s2 _ _ (s1 _ _ upd_same))
    have Dm : D ≠ m := fun z => by rw [z, s2 _ _ (s1 _ _ upd_same)] at nD; cases nD
    refine ⟨hm, [(.inr "things", .int (n : Int)), (.inr "rank", .int (r : Int)), (.inr "signs", .ref D)], rfl, by simp, ?_⟩
    have nDH : H D = none := by
      cases c : H D with
      | none => rfl
      | some o => rw [s2 _ _ (s1 _ _ (s0 _ _ c))] at nD; cases nD
    refine q m D _ ?_ nm nDH ⟨?_, ?_⟩
    · exact ZM.sm_at nm (s01.trans (s2.trans sD))
    · rw [upd_same]
      rfl
    · rw [upd_ne Dm, upd_same]
end
end K14

set_option maxHeartbeats 4000000
/-! A model's row; a model read. -/
namespace K14
open PySem PySem.Spec PyProof.Rows L2
abbrev sRo : Stmt := topS 47
theorem scRo : FnScope ["_law_m", "_law_lot"] ["_law_m"] (defScope sRo) := ⟨rfl, rfl, rfl, by decide +kernel, rfl, by decide +kernel, by decide +kernel⟩
/-- what is walked made first -/
theorem lc_preS {K : PySem.W.Frag} {t0 te : TE} {g : TG} {tt : TT} {vs : List Nat} {σ : L2.St} {H : Hp} {Q : VK} (G : Addr → Hp → Prop) (h0 : ∀ R : VK, (∀ a H1, G a H1 → R (.ref a) H1) → t0 σ H R)
    (k : ∀ a H1, G a H1 → ZM.Bx (tLc (ZM.iSq K (fun _ _ R => R (.ref a) H1)) g tt te vs) σ H1 Q) : ZM.Bx (tLc (ZM.iSq K t0) g tt te vs) σ H Q := ⟨h0 _ fun a H1 g => (k a H1 g).run⟩
theorem ModAt.same {H H' : Hp} {m d : Addr} {n r : Nat} {ss : List Int} (h : ModAt H m d n r ss) (s : Same H H') : ModAt H' m d n r ss := ⟨s _ _ h.m, s _ _ h.d⟩
theorem ModAt.gm {H : Hp} {m d : Addr} {n r : Nat} {ss : List Int} (h : ModAt H m d n r ss) {x : Str} {v : V} (e : valV [((.inr "things" : Key), V.int (n : Int)), (.inr "rank", .int (r : Int)), (.inr "signs", .ref d)] (.inr x) = some v) : DGet H m (.str x) (some v) := by
  rw [← e]
  exact DGet.k (k := .inr x) h.m
theorem ModAt.things {H : Hp} {m d : Addr} {n r : Nat} {ss : List Int} (h : ModAt H m d n r ss) : DGet H m (.str "things") (some (.int (n : Int))) := h.gm rfl
theorem ModAt.rank {H : Hp} {m d : Addr} {n r : Nat} {ss : List Int} (h : ModAt H m d n r ss) : DGet H m (.str "rank") (some (.int (r : Int))) := h.gm rfl
theorem ModAt.signs {H : Hp} {m d : Addr} {n r : Nat} {ss : List Int} (h : ModAt H m d n r ss) : DGet H m (.str "signs") (some (.ref d)) := h.gm rfl
section
variable {P : Program} {w : World} {K : PySem.W.Frag} {mg : Str → Option Value} {base : Heap}
def spRo (K : PySem.W.Frag) : Sp := fun vs H Q _ => ∃ (m d : Addr) (n r : Nat) (ss : List Int), vs = [.ref m] ∧ ModAt H m d n r ss ∧ n ≤ 7 ∧ r ≤ n ∧ ss.length = (CB.combs n r).length ∧ ∀ t H', Same H H' → H t = none → H' t = some (.tup (ss.map V.int)) → Q (.ref t) H'
theorem ok_ro {f fl : Addr} {fd dl : FuncData} {k : Nat} (F : Fun K "_law_row" "_law_row" sRo f fd) (mt : mg "tuple" = none)
    (L : FnOk P w K mg base CX0 k fl dl ["_law_many", "_law_size"] LL.spLL) (gL : mg "_law_lots" = some (.ref fl)) (kL : PySem.W.keepIn K (.ref fl) = true) (bL : Binds K dl ["_law_many", "_law_size"] []) : FnOk P w K mg base CX0 (k + 1) f fd ["_law_m"] (spRo K) := by
  refine F.ok scRo (fun vs H Q E ⟨m, d, n, r, ss, e, _⟩ => by rw [e]; rfl) (fun cdv A outer s H vs Q E hr h => ?_)
  have u1 : (A.deeper (envOfC "_law_row" (defScope sRo) s.heap.objs.size f cdv)).units + 1 < cLine := by
    have := hr.units
    omega
  obtain ⟨m, d, n, r, ss, rfl, hM, n7, rn, hl, q⟩ := h
  refine ⟨_, pss_one (ps_ret (pe_callTy call_tuple_of (by rfl) mt (by decide +kernel) (pa_cons
    (ZM.pe_bx (pe_lc (own := [("_law_lot", 1)]) (g := gName 1) (tt := tYes) rfl scRo.nd (ZM.pi_sq (pe_call L hr (by rfl) gL kL bL .nil pass0 (pa_cons (pe_dget u1 (pv 0) pe_str (fun _ _ => rfl)) (pa_cons (pe_dget u1 (pv 0) pe_str (fun _ _ => rfl)) pa_nil)))) (blkOk_by (N := ["_law_m", "_law_lot"]) (sc := defScope sRo) (by decide +kernel))
      (fun _ _ _ _ _ => pg_name (i := 1) scRo.nd rfl (Or.inl rfl)) (fun _ _ _ _ _ => pts_nil) (fun _ _ _ _ _ => pe_dget (hu := u1) (hs := fun _ _ => rfl) (pe_dget (hu := u1) (hs := fun _ _ => rfl) (pv 0) pe_str) (pv 1)))) pa_nil))), ?_⟩
  refine lc_preS (fun l H1 => Same H H1 ∧ ∃ ts : List Addr, H1 l = some (.lst (ts.map V.ref)) ∧ CB.LotsAt H H1 (CB.combs n r) ts) (fun R rr => ⟨_, rfl, m, _, rfl, hM.things, _, rfl, m, _, rfl, hM.rank, n, r, rfl, n7, by omega, fun l ts H1 s1 nl hl1 LA => rr l H1 ⟨s1, ts, hl1, LA⟩⟩) ?_
  rintro l H1 ⟨s1, ts, hl1, LA⟩
  obtain ⟨lt, LG⟩ := lots_get LA
  have c35 := combs_35 n7 rn
  refine ZM.lcm_sq (ys := ss.map V.int) (fun R r => r) (.inl (SqL.of hl1)) (by rw [List.length_map, List.length_map, hl, lt]) (by rw [List.length_map]; omega) (fun _ => rfl) ?_ ?_
  · intro i x y H2 R hx hy s2 hR
    rw [List.getElem?_map] at hx
    obtain ⟨t, ht, rfl⟩ := Option.map_eq_some_iff.mp hx
    obtain ⟨v, rfl, hv⟩ := get_ints hy
    obtain ⟨c, hc, htc⟩ := LG i t ht
    have M2 := hM.same (s1.trans s2)
    refine ⟨_, rfl, m, _, rfl, M2.signs, _, rfl, d, .int v, rfl, ?_, hR _ (Same.refl _)⟩
    rw [← valV_tab n7 rn hl hc hv]
    exact DGet.t M2.d (by rw [key_kV]; exact s2 _ _ htc)
  · intro D H2 s2 nD hD
    refine ⟨D, _, rfl, .inl ⟨SqL.of hD, fun t nt => q t _ (s1.trans (s2.trans (same_new nt))) ?_ upd_same⟩⟩
    cases c : H t with
    | none => rfl
    | some o => rw [s2 _ _ (s1 _ _ c)] at nt; cases nt
/-- a model read at a row: of as many things as its rank, each below its number -/
def spRe (K : PySem.W.Frag) : Sp := fun vs H Q _ => ∃ (m d a : Addr) (n r : Nat) (ss ns : List Int), vs = [.ref m, .ref a] ∧ ModAt H m d n r ss ∧ n ≤ 7 ∧ r ≤ n ∧ ss.length = (CB.combs n r).length ∧ ss.all isS = true ∧ SqI K H a ns ∧ ns.length < 64 ∧ (sg ns ≠ 0 → (valV (tab n r ss) (keyI (srt ns))).isSome = true) ∧ ∀ H', Same H H' → Q (.int (readI (gT n r ss) ns)) H'
end
end K14

set_option maxHeartbeats 4000000
/-! Rising rows are lots; the law's products. -/
namespace K14
open PySem PySem.Spec PyProof.Rows L2
theorem snoc_of {α : Type} : ∀ {k : Nat} {c : List α}, c.length = k + 1 → ∃ c' x, c = c' ++ [x] ∧ c'.length = k := fun {k c} h => by
  have hne : c ≠ [] := by intro e; rw [e] at h; cases h
  exact ⟨c.dropLast, c.getLast hne, (List.dropLast_concat_getLast hne).symm, by rw [List.length_dropLast, h]; rfl⟩
theorem rise_gen (a : Nat) : ∀ (k : Nat) (c : List Nat), c.length = k → c.Pairwise (· < ·) → (∀ x ∈ c, x < a) → c ∈ LL.gen a k
  | 0, c, h, _, _ => by rw [List.eq_nil_of_length_eq_zero h]; simp [LL.gen]
  | k + 1, c, h, hp, ha => by
    obtain ⟨c', x, rfl, hl⟩ := snoc_of h
    rw [List.pairwise_append] at hp
    have ih := rise_gen a k c' hl hp.1 fun y hy => ha y (List.mem_append_left _ hy)
    have hx := ha x (by simp)
    have hf : LL.fst c' ≤ x := by
      cases c' with
      | nil => exact Nat.zero_le _
      | cons y r => exact hp.2.2 _ (List.getLast_mem (l := y :: r) (by simp)) x (by simp)
    show _ ∈ (LL.gen a k).flatMap (LL.ext a)
    rw [List.mem_flatMap]
    refine ⟨c', ih, ?_⟩
    unfold LL.ext
    rw [List.mem_map]
    exact ⟨x - LL.fst c', List.mem_range.mpr (by omega), by rw [Nat.add_sub_cancel' hf]⟩
theorem pr_mem {x : Int} : ∀ {ns : List Int}, x ∈ ns → pr x ns = 0
  | y :: r, h => by
    rcases List.mem_cons.mp h with e | e
    · rw [pr, e, s2_eq, Int.zero_mul]
    · rw [pr, pr_mem e, Int.mul_zero]
theorem sg_nd : ∀ {ns : List Int}, sg ns ≠ 0 → ns.Nodup
  | [], _ => .nil
  | x :: r, h => by
    rw [sg] at h
    rw [List.nodup_cons]
    exact ⟨fun hm => h (by rw [pr_mem hm, Int.zero_mul]), sg_nd fun e => h (by rw [e, Int.mul_zero])⟩
theorem lot_of {n r : Nat} (hn : n ≤ 7) (hr : r ≤ n) {ns : List Int} (hl : ns.length = r) (hb : ∀ x ∈ ns, 0 ≤ x ∧ x < (n : Int)) (hs : sg ns ≠ 0) : ∃ c ∈ CB.combs n r, ci c = srt ns := by
  have hp := srt_perm ns
  have nd : (srt ns).Nodup := hp.nodup_iff.mpr (sg_nd hs)
  have hb' : ∀ x ∈ srt ns, 0 ≤ x ∧ x < (n : Int) := fun x hx => hb x (hp.mem_iff.mp hx)
  have hlt : (srt ns).Pairwise (· < ·) := by
    have h1 := (srt_rise ns).and nd
    exact h1.imp fun ⟨a, b⟩ => by omega
  refine ⟨(srt ns).map Int.toNat, ?_, ?_⟩
  · rw [← LL.gen_is n hn r (by omega)]
    refine rise_gen n r _ (by rw [List.length_map, hp.length_eq, hl]) ?_ fun x hx => ?_
    · rw [List.pairwise_map]
      exact hlt.imp_of_mem fun {a b} ha hb2 hab => by
        have := hb' a ha
        have := hb' b hb2
        omega
    · obtain ⟨y, hy, rfl⟩ := List.mem_map.mp hx
      have := hb' y hy
      omega
  · unfold ci
    rw [List.map_map]
    conv => rhs; rw [← List.map_id (srt ns)]
    refine List.map_congr_left fun y hy => ?_
    have := (hb' y hy).1
    show ((y.toNat : Nat) : Int) = y
    omega
theorem here_of {n r : Nat} {ss : List Int} (hn : n ≤ 7) (hr : r ≤ n) (hl : ss.length = (CB.combs n r).length) {ns : List Int} (hlen : ns.length = r) (hb : ∀ x ∈ ns, 0 ≤ x ∧ x < (n : Int)) (hs : sg ns ≠ 0) : (valV (tab n r ss) (keyI (srt ns))).isSome = true := by
  obtain ⟨c, hc, e⟩ := lot_of hn hr hlen hb hs
  obtain ⟨i, hi⟩ := List.getElem?_of_mem hc
  have il := (List.getElem?_eq_some_iff.mp hi).1
  have := valV_tab hn hr hl hi (List.getElem?_eq_getElem (show i < ss.length by omega))
  rw [key_I] at this
  have e' : (c.map fun (n : Nat) => (n : Int)) = srt ns := e
  rw [e'] at this
  rw [this]
  rfl
end K14

set_option maxHeartbeats 8000000
/-! The law's products. -/
namespace K14
open PySem PySem.Spec PyProof.Rows L2
abbrev nPr : List Str := ["_law_m", "_law_lot", "_law_four", "_law_b", "_law_c", "_law_d", "_law_e", "_law_found"]
def spPr : Sp := fun vs H Q _ => ∃ (m d l q : Addr) (n r : Nat) (ss : List Int) (lot : List Nat) (b c e f : Nat), vs = [.ref m, .ref l, .ref q] ∧ ModAt H m d n r ss ∧ n ≤ 7 ∧ r ≤ n ∧ ss.length = (CB.combs n r).length ∧ ss.all isS = true ∧ H l = some (.tup (CB.lotV lot)) ∧ lot.length + 2 = r ∧ H q = some (.tup (CB.lotV [b, c, e, f])) ∧
  (∀ x ∈ lot, x < n) ∧ (b < n ∧ c < n ∧ e < n ∧ f < n) ∧ ∀ p H', Same H H' → H p = none → H' p = some (.lst (threeL (gT n r ss) (ci lot) b c e f)) → Q (.ref p) H'
theorem cat2 {K : PySem.W.Frag} {l T0 : Addr} {lot : List Nat} {x y : Nat} {H : Hp} {R : VK} (hl : H l = some (.tup (CB.lotV lot))) (ll : lot.length ≤ 7) (h0 : H T0 = some (.tup [.int (x : Int), .int (y : Int)]))
    (k : ∀ T H', Same H H' → SqT K H' T ((ci lot ++ [(x : Int), (y : Int)]).map V.int) → R (.ref T) H') : rCatA K (.ref l) (.ref T0) H R := by
  have e : (ci lot ++ [(x : Int), (y : Int)]).map V.int = CB.lotV lot ++ [.int (x : Int), .int (y : Int)] := by rw [lotV_ci, List.map_append]; rfl
  refine ⟨l, T0, _, _, rfl, rfl, SqT.of hl, SqT.of h0, by rw [sizeLine_eq]; simp; omega, fun e1 => k T0 H (Same.refl _) (SqT.of (by rw [h0, e, e1]; rfl)), fun _ e2 => absurd e2 (by simp), fun _ _ p np => k p _ (same_new np) (SqT.of (by rw [upd_same, e]))⟩
theorem tyl {K : PySem.W.Frag} {H : Hp} {p : Addr} {xs : List V} (h : H p = some (.lst xs)) : tyV K "list" (.ref p) H := .inl ⟨rfl, xs, SqL.of h⟩
section
variable {P : Program} {w : World} {K : PySem.W.Frag} {mg : Str → Option Value} {base : Heap}
end
end K14

set_option maxHeartbeats 8000000
/-! The law's fault of three products. -/
namespace K14
open PySem PySem.Spec PyProof.Rows L2
abbrev nLt : List Str := ["_law_m", "_law_lot", "_law_left", "_law_places", "_law_four", "_law_some", "_law_thing", "_law_k"]
theorem combs_ok {n r : Nat} (hn : n ≤ 7) (hr : r ≤ 8) {c : List Nat} (hc : c ∈ CB.combs n r) : c.length = r ∧ ∀ x ∈ c, x < n := by
  rw [← LL.gen_is n hn r hr] at hc
  exact (LL.gen_len n hn r hr).2 c hc
def spLt : Sp := fun vs H Q _ => ∃ (m d : Addr) (n r : Nat) (ss : List Int), vs = [.ref m] ∧ ModAt H m d n r ss ∧ n ≤ 7 ∧ r ≤ n ∧ ss.length = (CB.combs n r).length ∧ ss.all isS = true ∧ (thrF n r (gT n r ss) = none → ∀ H', Same H H' → Q .non H') ∧ (thrF n r (gT n r ss) ≠ none → ∀ T H', Same H H' → Q (.ref T) H')
section
variable {P : Program} {w : World} {K : PySem.W.Frag} {mg : Str → Option Value} {base : Heap}
end
end K14

set_option maxHeartbeats 8000000
/-! Whether what may come in fits. -/
namespace K14
open PySem PySem.Spec PyProof.Rows L2
abbrev nFi : List Str := ["_law_signs", "_law_one", "_law_other", "_law_thing", "_law_rest", "_law_more", "_law_here"]
theorem lot_ofN {n r : Nat} (hn : n ≤ 7) (hr : r ≤ n) {ns : List Int} (hl : ns.length = r) (hb : ∀ x ∈ ns, 0 ≤ x ∧ x < (n : Int)) (hs : ns.Nodup) : ∃ c ∈ CB.combs n r, ci c = srt ns := by
  have hp := srt_perm ns
  have nd : (srt ns).Nodup := hp.nodup_iff.mpr hs
  have hb' : ∀ x ∈ srt ns, 0 ≤ x ∧ x < (n : Int) := fun x hx => hb x (hp.mem_iff.mp hx)
  have hlt : (srt ns).Pairwise (· < ·) := by
    have h1 := (srt_rise ns).and nd
    exact h1.imp fun ⟨a, b⟩ => by omega
  refine ⟨(srt ns).map Int.toNat, ?_, ?_⟩
  · rw [← LL.gen_is n hn r (by omega)]
    refine rise_gen n r _ (by rw [List.length_map, hp.length_eq, hl]) ?_ fun x hx => ?_
    · rw [List.pairwise_map]
      exact hlt.imp_of_mem fun {a b} ha hb2 hab => by
        have := hb' a ha
        have := hb' b hb2
        omega
    · obtain ⟨y, hy, rfl⟩ := List.mem_map.mp hx
      have := hb' y hy
      omega
  · unfold ci
    rw [List.map_map]
    conv => rhs; rw [← List.map_id (srt ns)]
    refine List.map_congr_left fun y hy => ?_
    have := (hb' y hy).1
    show ((y.toNat : Nat) : Int) = y
    omega
theorem here_ofN {n r : Nat} {ss : List Int} (hn : n ≤ 7) (hr : r ≤ n) (hl : ss.length = (CB.combs n r).length) {ns : List Int} (hlen : ns.length = r) (hb : ∀ x ∈ ns, 0 ≤ x ∧ x < (n : Int)) (hs : ns.Nodup) : (valV (tab n r ss) (keyI (srt ns))).isSome = true := by
  obtain ⟨c, hc, e⟩ := lot_ofN hn hr hlen hb hs
  obtain ⟨i, hi⟩ := List.getElem?_of_mem hc
  have il := (List.getElem?_eq_some_iff.mp hi).1
  have := valV_tab hn hr hl hi (List.getElem?_eq_getElem (show i < ss.length by omega))
  rw [key_I] at this
  have e' : (c.map fun (n : Nat) => (n : Int)) = srt ns := e
  rw [e'] at this
  rw [this]
  rfl
theorem combs_in : ((List.range 8).all fun n => (List.range (n + 1)).all fun r => (CB.combs n r).all fun c => decide c.Nodup) = true := by decide +kernel
theorem combs_innd {n r : Nat} (hn : n ≤ 7) (hr : r ≤ n) {c : List Nat} (hc : c ∈ CB.combs n r) : c.Nodup := by
  have h1 := List.all_eq_true.mp combs_in n (List.mem_range.mpr (by omega))
  exact of_decide_eq_true (List.all_eq_true.mp (List.all_eq_true.mp h1 r (List.mem_range.mpr (by omega))) c hc)
/-- rest of a lot, and one more -/
def withM (one : List Nat) (t w : Nat) : List Int := ci (one.filter fun x => x != t) ++ [(w : Int)]
theorem withM_ok {n r : Nat} (hn : n ≤ 7) (hr : r ≤ n) {one : List Nat} (h1 : one ∈ CB.combs n r) {t w : Nat} (ht : t ∈ one) (hw : w < n) (hw1 : w ∉ one) : (withM one t w).length = r ∧ (∀ x ∈ withM one t w, 0 ≤ x ∧ x < (n : Int)) ∧ (withM one t w).Nodup := by
  obtain ⟨hl, hb⟩ := combs_ok hn (by omega) h1
  have nd := combs_innd hn hr h1
  have ef : (one.filter fun x => x != t) = one.erase t := (nd.erase_eq_filter t).symm
  have el := List.length_erase_of_mem ht
  have l0 : 0 < one.length := List.length_pos_of_mem ht
  unfold withM
  rw [ef]
  refine ⟨by simp [ci]; omega, fun x hx => ?_, ?_⟩
  · rcases List.mem_append.mp hx with h | h
    · obtain ⟨u, hu, rfl⟩ := List.mem_map.mp h
      have := hb u (List.mem_of_mem_erase hu)
      omega
    · simp at h
      subst h
      omega
  · rw [List.nodup_append]
    refine ⟨?_, by simp, fun a ha b hb2 => ?_⟩
    · unfold ci
      exact List.Pairwise.map _ (fun a b h e => h (by omega)) (nd.erase t)
    · simp at hb2
      subst hb2
      obtain ⟨u, hu, rfl⟩ := List.mem_map.mp ha
      intro e
      have e : u = w := by omega
      subst e
      exact hw1 (List.mem_of_mem_erase hu)
def fitsF (g : List Int → Int) (one other : List Nat) (t : Nat) : Bool := other.any fun w => !one.contains w && !decide (g (srt (withM one t w)) = 0)
def spFi : Sp := fun vs H Q _ => ∃ (d a b : Addr) (n r : Nat) (ss : List Int) (one other : List Nat) (t : Nat), vs = [.ref d, .ref a, .ref b, .int (t : Int)] ∧ H d = some (.dT (tab n r ss)) ∧ n ≤ 7 ∧ r ≤ n ∧ ss.length = (CB.combs n r).length ∧ ss.all isS = true ∧ H a = some (.tup (CB.lotV one)) ∧ H b = some (.tup (CB.lotV other)) ∧
  one ∈ CB.combs n r ∧ other ∈ CB.combs n r ∧ t ∈ one ∧ ∀ H', Same H H' → Q (.bl (fitsF (gT n r ss) one other t)) H'
section
variable {P : Program} {w : World} {K : PySem.W.Frag} {mg : Str → Option Value} {base : Heap}
end
end K14

set_option maxHeartbeats 8000000
/-! The law's fault of exchange. -/
namespace K14
open PySem PySem.Spec PyProof.Rows L2
theorem lc_keys {d : Addr} {o : Obj} {kvs : List (List Key × V)} {g : TG} {tt : TT} {te : TE} {vs : List Nat} {σ : L2.St} {H1 : Hp} {D : Addr} {Qd : Hp → Prop} (Pv : Nat → Hp → Prop) (h0 : Pv 0 (upd H1 D (.lst []))) (hl : ∀ i H, Pv i H → H d = some (.frz o (.dT kvs)))
    (hs : ∀ i k v q H, kvs[i]? = some (k, v) → H q = some (.tup (k.map kV)) → Pv i H → g (.ref q) (wipe σ vs) H fun σ2 H2 => wipe σ2 vs = wipe σ vs ∧ tt σ2 H2 fun b H3 =>
      if b = true then te σ2 H3 fun y H4 => ∃ acc, H4 D = some (.lst acc) ∧ acc.length < sizeLine ∧ Pv (i + 1) (upd H4 D (.lst (acc ++ [y]))) else Pv (i + 1) H3) (hd : ∀ H, Pv kvs.length H → Qd H) :
    ∃ W : Nat → Nat → Hp → Prop, (∃ m, W 0 m (upd H1 D (.lst []))) ∧ ∀ i m H, W i m H →
      ((Itkt d o kvs).stop i H ∧ Qd H) ∨ ((Itkt d o kvs).go i H ∧ ∃ Nx : Hp → Prop, (∀ H', Nx H' → ∃ m', m' < m ∧ W (i + 1) m' H') ∧ ∀ x H', (Itkt d o kvs).yld i H x H' → g x (wipe σ vs) H' fun σ2 H2 => wipe σ2 vs = wipe σ vs ∧ tt σ2 H2 fun b H3 =>
        if b = true then te σ2 H3 fun y H4 => ∃ acc, H4 D = some (.lst acc) ∧ acc.length < sizeLine ∧ Nx (upd H4 D (.lst (acc ++ [y]))) else Nx H3) := by
  refine ⟨fun i m H => m = kvs.length - i ∧ i ≤ kvs.length ∧ Pv i H, ⟨kvs.length, by simp, Nat.zero_le _, h0⟩, ?_⟩
  rintro i m H ⟨rfl, hi, p⟩
  have q := hl i H p
  by_cases hlt : i < kvs.length
  · refine .inr ⟨⟨q, hlt⟩, Pv (i + 1), fun H' p' => ⟨kvs.length - (i + 1), by omega, rfl, hlt, p'⟩, fun x H' y => ?_⟩
    obtain ⟨rfl, k, v, q2, e1, rfl, e2⟩ := y
    exact hs i k v q2 _ e1 e2 p
  · obtain rfl : i = kvs.length := by omega
    exact .inl ⟨⟨q, Nat.le_refl _⟩, hd H p⟩
abbrev nEf : List Str := ["_law_signs", "_law_bases", "_law_one", "_law_other", "_law_thing", "_law_lot"]
def lexF (g : List Int → Int) (bases : List (List Nat)) : Option Nat := bases.findSome? fun one => bases.findSome? fun other => one.find? fun t => !other.contains t && !fitsF g one other t
def spEf : Sp := fun vs H Q _ => ∃ (d : Addr) (n r : Nat) (ss : List Int), vs = [.ref d] ∧ H d = some (.dT (tab n r ss)) ∧ n ≤ 7 ∧ r ≤ n ∧ ss.length = (CB.combs n r).length ∧ ss.all isS = true ∧
  (lexF (gT n r ss) (basesF n r ss) = none → ∀ H', Same H H' → Q .non H') ∧ (lexF (gT n r ss) (basesF n r ss) ≠ none → ∀ T H', Same H H' → Q (.ref T) H')
section
variable {P : Program} {w : World} {K : PySem.W.Frag} {mg : Str → Option Value} {base : Heap}
end
end K14

set_option maxHeartbeats 8000000
/-! The law's fault of exchange is the program's. -/
namespace K14
open PySem PySem.Spec PyProof.Rows L2
theorem keyI_inj {a b : List Int} (h : keyI a = keyI b) : a = b := by
  unfold keyI at h
  exact List.map_inj_right (fun x y e => by injection e) |>.mp h
theorem base_iff {n r : Nat} {ss : List Int} (hn : n ≤ 7) (hr : r ≤ n) (hl : ss.length = (CB.combs n r).length) (ms : List Int) : ((basesF n r ss).map ci).contains ms = !decide (gT n r ss ms = 0) := by
  rw [Bool.eq_iff_iff, List.contains_iff_mem, Bool.not_eq_true', decide_eq_false_iff_not]
  constructor
  · intro h
    obtain ⟨c, hc, rfl⟩ := List.mem_map.mp h
    unfold basesF basesZ at hc
    obtain ⟨⟨c', sn⟩, hp, rfl⟩ := List.mem_map.mp hc
    obtain ⟨hz, hnz⟩ := List.mem_filter.mp hp
    obtain ⟨i, hi⟩ := List.getElem?_of_mem hz
    have hz2 := List.getElem?_zip_eq_some.mp hi
    have vv : valV (tab n r ss) (key c') = some (.int sn) := valV_tab hn hr hl hz2.1 hz2.2
    rw [key_I] at vv
    have e : gT n r ss (ci c') = sn := by
      unfold gT
      show (match valV (tab n r ss) (keyI (c'.map fun (n : Nat) => (n : Int))) with | some (.int s) => s | _ => 0) = sn
      rw [vv]
    show ¬ gT n r ss (ci c') = 0
    rw [e]
    simp [nz] at hnz
    exact hnz
  · intro h
    have hv : ∃ s : Int, valV (tab n r ss) (keyI ms) = some (.int s) ∧ s ≠ 0 := by
      unfold gT at h
      split at h
      · rename_i s e
        exact ⟨s, e, h⟩
      · exact absurd rfl h
    obtain ⟨s, hv, hs⟩ := hv
    unfold valV at hv
    obtain ⟨p, hp, ep⟩ := Option.map_eq_some_iff.mp hv
    have hm := List.mem_of_find?_eq_some hp
    have hk := List.find?_some hp
    have hk : p.1 = keyI ms := of_decide_eq_true hk
    rw [tab_zip] at hm
    obtain ⟨⟨c, sn⟩, hz, e⟩ := List.mem_map.mp hm
    subst e
    have ek : key c = keyI ms := hk
    rw [key_I] at ek
    have ec : ci c = ms := keyI_inj ek
    have es : sn = s := V.int.inj ep
    refine List.mem_map.mpr ⟨c, ?_, ec⟩
    unfold basesF basesZ
    refine List.mem_map.mpr ⟨(c, sn), List.mem_filter.mpr ⟨hz, ?_⟩, rfl⟩
    simp [nz, es, hs]
theorem fits_into {n r : Nat} {ss : List Int} (hn : n ≤ 7) (hr : r ≤ n) (hl : ss.length = (CB.combs n r).length) {one other : List Nat} (ho : other ∈ CB.combs n r) (t : Nat) : fitsF (gT n r ss) one other t = (intoF n (basesF n r ss) one t).any fun w => other.contains w := by
  obtain ⟨_, hb⟩ := combs_ok hn (by omega) ho
  unfold fitsF intoF
  rw [Bool.eq_iff_iff, List.any_eq_true, List.any_eq_true]
  constructor
  · rintro ⟨w, hw, h⟩
    rw [Bool.and_eq_true] at h
    refine ⟨w, List.mem_filter.mpr ⟨List.mem_range.mpr (hb w hw), ?_⟩, List.contains_iff_mem.mpr hw⟩
    rw [Bool.and_eq_true]
    refine ⟨h.1, ?_⟩
    rw [base_iff hn hr hl]
    exact h.2
  · rintro ⟨w, hw, h⟩
    obtain ⟨_, h2⟩ := List.mem_filter.mp hw
    rw [Bool.and_eq_true, base_iff hn hr hl] at h2
    refine ⟨w, List.contains_iff_mem.mp h, ?_⟩
    rw [Bool.and_eq_true]
    exact h2
theorem lex_ex {n r : Nat} {ss : List Int} (hn : n ≤ 7) (hr : r ≤ n) (hl : ss.length = (CB.combs n r).length) : lexF (gT n r ss) (basesF n r ss) = none ↔ exF n (basesF n r ss) = none := by
  have sub := basesF_sub (n := n) (r := r) hl
  have e : ∀ one other t, other ∈ basesF n r ss → badF n (basesF n r ss) one t other = (!other.contains t && !fitsF (gT n r ss) one other t) := fun one other t ho => by
    rw [fits_into hn hr hl (sub.subset ho)]
    rfl
  unfold lexF exF
  simp only [List.findSome?_eq_none_iff, List.find?_eq_none, Option.map_eq_none_iff]
  constructor
  · intro h one h1 t ht other h2
    rw [e one other t h2]
    exact h one h1 other h2 t ht
  · intro h one h1 other h2 t ht
    rw [← e one other t h2]
    exact h one h1 t ht other h2
end K14

set_option maxHeartbeats 8000000
/-! Whether a model is a house. -/
namespace K14
open PySem PySem.Spec PyProof.Rows L2
def houseF (n r : Nat) (ss : List Int) : Bool := !decide (basesF n r ss = []) && decide (exF n (basesF n r ss) = none) && decide (thrF n r (gT n r ss) = none)
theorem any_nz (n r : Nat) (ss : List Int) : (((CB.combs n r).zip ss).map nz).any id = !decide (basesF n r ss = []) := by
  unfold basesF basesZ
  rw [Bool.eq_iff_iff, List.any_map, List.any_eq_true, Bool.not_eq_true', decide_eq_false_iff_not, List.map_eq_nil_iff, List.filter_eq_nil_iff]
  constructor
  · rintro ⟨x, hx, h⟩ g
    exact g x hx h
  · intro g
    have ⟨x, hx⟩ := Classical.not_forall.mp g
    have ⟨h1, h2⟩ := Classical.not_imp.mp hx
    exact ⟨x, h1, Classical.not_not.mp h2⟩
theorem house_iff {n r : Nat} {ss : List Int} : houseF n r ss = true ↔ basesF n r ss ≠ [] ∧ exF n (basesF n r ss) = none ∧ thrF n r (gT n r ss) = none := by
  unfold houseF
  simp [and_assoc]
def spIh : Sp := fun vs H Q _ => ∃ (m d : Addr) (n r : Nat) (ss : List Int), vs = [.ref m] ∧ ModAt H m d n r ss ∧ n ≤ 7 ∧ r ≤ n ∧ ss.length = (CB.combs n r).length ∧ ss.all isS = true ∧ ∀ H', Same H H' → Q (.bl (houseF n r ss)) H'
section
variable {P : Program} {w : World} {K : PySem.W.Frag} {mg : Str → Option Value} {base : Heap}
end
end K14

set_option maxHeartbeats 2000000
/-! set(x), x a tuple of ints, as a set of ints that is kept -/
namespace STI
open PySem PySem.Spec PyProof.Rows L2
def rSetTup (K : PySem.W.Frag) (w : World) : List V → Hp → VK → Prop := fun xs H Q => ∃ (p : Addr) (ns : List Int), xs = [.ref p] ∧ SqT K H p (ns.map V.int) ∧ ns.length ≤ 1000 ∧
  ∀ a c, c ≤ ns.length → H a = none → Q (.ref a) (upd H a (SetO w a (fun j => decide (j ∈ ns)) c))
theorem cr_setTup {X : Cx} (hc : X.calm = true) : CallR X (.type "set") (rSetTup X.K X.w) := by
  intro pins s σ H xs us Q I r h
  obtain ⟨p, ns, rfl, hq, hl, q⟩ := h
  rw [Vals.ref1 r]
  obtain ⟨its, rv, pt, hz⟩ := I.tuple hq
  have hi : IntsAre its.toArray.toList ns := ints_of_vals rv
  refine call_set_tupI ns (I.ok.hd hc) (show s.heap.IsTuple p its.toArray from pt) hi (by unfold scanBound; omega) fun h' tk c R1 hcn k => ?_
  exact ⟨.ref _, upd H s.heap.objs.size (SetO X.w s.heap.objs.size (fun j => decide (j ∈ ns)) c), I.laid (t' := tk) k (Nat.le_refl _) (setO_new R1), rfl, q _ c hcn (I.hok.fresh (Nat.le_refl _))⟩
end STI

set_option maxHeartbeats 2000000
/-! Lists of ints, tuples of texts as data: alike, of bounded depth. -/
namespace DI
open PySem PySem.Spec PyProof.Rows L2
abbrev li (l : List Int) : PyData := .list (l.map PyData.int)
theorem eqvI : ∀ xs ys : List Int, PyData.eqvAll (xs.map PyData.int) (ys.map PyData.int) = decide (xs = ys)
  | [], [] => by simp [PyData.eqvAll]
  | [], _ :: _ => by simp [PyData.eqvAll]
  | _ :: _, [] => by simp [PyData.eqvAll]
  | x :: xs, y :: ys => by
    rw [List.map_cons, List.map_cons, PyData.eqvAll, PyData.eqv, eqvI xs ys]
    by_cases h : x = y <;> by_cases h2 : xs = ys <;> simp [h, h2]
theorem eqv_li (xs ys : List Int) : PyData.eqv (li xs) (li ys) = decide (xs = ys) := by
  rw [PyData.eqv]
  exact eqvI xs ys
theorem layI : ∀ l : List Int, PyData.canLayAll0 (l.map PyData.int) = true
  | [] => by simp [PyData.canLayAll0]
  | n :: r => by simp only [List.map_cons, PyData.canLayAll0, PyData.canLay0, layI r, Bool.and_self]
theorem depI : ∀ l : List Int, PyData.depthAll (l.map PyData.int) ≤ 1
  | [] => by simp [PyData.depthAll]
  | n :: r => by
    have := depI r
    simp only [List.map_cons, PyData.depthAll, PyData.depth]
    omega
theorem sh_li (l : List Int) : SeqAt.shaped (li l) = true := by
  unfold SeqAt.shaped
  have h := depI l
  have h2 : PyData.canLay0 (li l) = true := by
    rw [PyData.canLay0]
    exact layI l
  have h3 : PyData.depth (li l) ≤ 2 := by
    rw [PyData.depth]
    omega
  rw [h2, Bool.true_and]
  exact decide_eq_true (by omega)
theorem dpI {K : PySem.W.Frag} {H : Hp} : ∀ l : List Int, DpAll K H (l.map V.int) (l.map PyData.int)
  | [] => .nil
  | n :: r => .cons (.int n) (dpI r)
theorem dp_li {K : PySem.W.Frag} {H : Hp} {a : Addr} {l : List Int} (h : SqL K H a (l.map V.int)) : Dp K H (.ref a) (li l) := .lst h (dpI l)
end DI

set_option maxHeartbeats 8000000
/-! Whether a lot is good: those that the program tells are. -/
namespace K14
open PySem PySem.Spec PyProof.Rows L2
abbrev nLg : List Str := ["_law_lot", "_law_many", "_law_size", "_law_thing"]
structure TxL (mg : Str → Option Value) : Prop where
  isi : mg "isinstance" = none
  tup : mg "tuple" = none
  len : mg "len" = none
  list : mg "list" = none
  srt : mg "sorted" = none
  set : mg "set" = none
  all : mg "all" = none
  int : mg "int" = none
def spLg : Sp := fun vs H Q _ => ∃ (a : Addr) (c : List Nat) (n : Nat), vs = [.ref a, .int (n : Int), .int (c.length : Int)] ∧ H a = some (.tup (CB.lotV c)) ∧ c.length ≤ 8 ∧ c.Pairwise (· < ·) ∧ (∀ x ∈ c, x < n) ∧ ∀ H', Same H H' → Q (.bl true) H'
section
variable {P : Program} {w : World} {K : PySem.W.Frag} {mg : Str → Option Value} {base : Heap}
end
end K14

set_option maxHeartbeats 8000000
/-! The signs of boxes of columns. -/
namespace K14
open PySem PySem.Spec PyProof.Rows L2
abbrev sBx : Stmt := topS 50
abbrev nBx : List Str := ["_law_columns_here", "_law_size", "_law_lots_here", "_law_lot", "_law_thing"]
theorem scBx : FnScope nBx ["_law_columns_here", "_law_size"] (defScope sBx) := ⟨rfl, rfl, rfl, by decide +kernel, rfl, by decide +kernel, by decide +kernel⟩
theorem getD_at {α : Type} {xs : List α} {j : Nat} {d : α} (h : j < xs.length) : xs.getD j d = xs[j] := by
  rw [List.getD_eq_getElem?_getD, List.getElem?_eq_getElem h]
  rfl
def Small (cols : List (List Int)) (r : Nat) : Prop := ∀ c ∈ cols, c.length = r ∧ ∀ v ∈ c, -2 ^ 64 < v ∧ v < 2 ^ 64
/-- the box of a lot of columns -/
def bxW (cols : List (List Int)) (r : Nat) (lot : List Nat) : Int := wd r (lot.map fun j => cols.getD j [])
def bxL (cols : List (List Int)) (r : Nat) : List Int := (CB.combs cols.length r).map fun lot => sgn (bxW cols r lot)
def spBx (K : PySem.W.Frag) : Sp := fun vs H Q _ => ∃ (a : Addr) (cols : List (List Int)) (r : Nat), vs = [.ref a, .int (r : Int)] ∧ TLI K H a cols ∧ cols.length ≤ 7 ∧ r ≤ cols.length ∧ Small cols r ∧
  ∀ D H', Same H H' → H D = none → H' D = some (.lst ((bxL cols r).map V.int)) → Q (.ref D) H'
theorem bxL_len (cols : List (List Int)) (r : Nat) : (bxL cols r).length = (CB.combs cols.length r).length := by simp [bxL]
theorem bxL_isS (cols : List (List Int)) (r : Nat) : (bxL cols r).all isS = true := by
  unfold bxL
  rw [List.all_map, List.all_eq_true]
  intro lot _
  exact isS_of (sgn_un _)
section
variable {P : Program} {w : World} {K : PySem.W.Frag} {mg : Str → Option Value} {base : Heap}
theorem ok_bx {f fl fs fw : Addr} {fd dl ds dw : FuncData} (F : Fun K "_law_box_signs" "_law_box_signs" sBx f fd) (ml : mg "len" = none)
    (L : FnOk P w K mg base CX0 1 fl dl ["_law_many", "_law_size"] LL.spLL) (gL : mg "_law_lots" = some (.ref fl)) (kL : PySem.W.keepIn K (.ref fl) = true) (bL : Binds K dl ["_law_many", "_law_size"] [])
    (So : FnOk P w K mg base CX0 1 fs ds ["_law_number"] spSo) (gS : mg "_law_sign_of" = some (.ref fs)) (kS : PySem.W.keepIn K (.ref fs) = true) (bS : Binds K ds ["_law_number"] [])
    (Wo : FnOk P w K mg base CX0 8 fw dw ["_law_rows"] (spW K 8)) (gW : mg "_law_worth" = some (.ref fw)) (kW : PySem.W.keepIn K (.ref fw) = true) (bW : Binds K dw ["_law_rows"] []) : FnOk P w K mg base CX0 9 f fd ["_law_columns_here", "_law_size"] (spBx K) := by
  refine F.ok scBx (fun vs H Q E ⟨a, cols, r, e1, _⟩ => by rw [e1]; rfl) (fun cdv A outer s H vs Q E hr h => ?_)
  have r1 := hr.mono (j := 1) (by decide)
  refine ⟨_, pss_cons (ps_set (i := 2) scBx.nd rfl (Or.inl rfl) (pe_call L r1 (by rfl) gL kL bL .nil pass0 (pa_cons (pe_callB call_len_seq (by rfl) ml PySem.boot_len (pa_cons (pv 0) pa_nil)) (pa_cons (pv 1) pa_nil))))
    (pss_one (ps_ret (ZM.pe_bx (pe_lc (own := [("_law_lot", 3)]) (g := gName 3) (tt := tYes) rfl scBx.nd (pi_list (pv 2)) (blkOk_by (N := nBx) (sc := defScope sBx) (by decide +kernel))
        (fun _ _ _ _ _ => pg_name (i := 3) scBx.nd rfl (Or.inl rfl)) (fun _ _ _ _ _ => pts_nil)
        (fun _ _ _ _ _ => pe_call So r1 (by rfl) gS kS bS .nil pass0 (pa_cons (pe_call Wo hr (by rfl) gW kW bW .nil pass0 (pa_cons
          (ZM.pe_bx (pe_lc (own := [("_law_thing", 4)]) (g := gName 4) (wi := ZM.iSq K (tVar 3)) (tt := tYes) rfl scBx.nd (ZM.pi_sq (pv 3)) (blkOk_by (N := nBx) (by rfl))
            (fun _ _ _ _ _ => pg_name (i := 4) scBx.nd rfl (Or.inl rfl)) (fun _ _ _ _ _ => pts_nil) (fun _ _ _ _ _ => pe_ix (r := rIx K) ix_seq (pv 0) (pv 4) (fun _ _ => rfl)))) pa_nil)) pa_nil)))))), ?_⟩
  obtain ⟨a, cols, r, rfl, hT, c7, rc, hS, q⟩ := h
  obtain ⟨cs, hcs, lcs, hrow⟩ := hT
  refine ⟨_, rfl, a, _, rfl, .inl hcs, _, rfl, cols.length, r, by rw [List.length_map, lcs]; rfl, c7, by omega, fun l ts H1 s1 nl hl1 LA => ?_⟩
  obtain ⟨lt, LG⟩ := lots_get LA
  have c35 := combs_35 c7 rc
  refine ZM.own_lst (a := l) (xs := ts.map V.ref) (fun D i H' => ∃ ss : List Int, ss = (bxL cols r).take i ∧ Same H1 H' ∧ H' D = some (.lst (ss.map V.int))) (fun R rr => ⟨_, rfl, rr⟩) (SqL.of hl1) (fun D i H' nD p => by obtain ⟨_, _, s, _⟩ := p; exact s.seq (SqL.of hl1)) (fun _ => rfl) (fun D nD => ⟨[], rfl, same_new nD, upd_same⟩) ?_ ?_
  · rintro D i x H2 nD hx ⟨ss, ls, s2, hD⟩
    have ls35 : ss.length ≤ 35 := by
      have := bxL_len cols r
      rw [ls, List.length_take]
      omega
    rw [List.getElem?_map] at hx
    obtain ⟨t, ht, rfl⟩ := Option.map_eq_some_iff.mp hx
    have il : i < ts.length := (List.getElem?_eq_some_iff.mp ht).1
    obtain ⟨lot, hlot, htl⟩ := LG i t ht
    obtain ⟨ll, lb⟩ := combs_ok c7 (by omega) (List.mem_of_getElem? hlot)
    have s12 := s1.trans s2
    refine ZM.lcm_sq (ys := lot.map fun j => V.ref (cs.getD j 0)) (fun R rr => ⟨_, rfl, rr⟩) (.inr (SqT.of (s2 _ _ htl))) (by simp) (by simp; omega) (fun _ => rfl) ?_ ?_
    · intro i3 x y H3 R hx hy s3 hR
      obtain ⟨u, rfl, hu⟩ := get_lot hx
      rw [List.getElem?_map, hu] at hy
      cases hy
      have hlt := lb u (List.mem_of_getElem? hu)
      refine ⟨_, rfl, _, rfl, ix_ls (.inl ((s12.trans s3).seq hcs)) (atI_nat (j := u) ?_) (hR _ (Same.refl _))⟩
      have hlt2 : u < cs.length := by omega
      rw [List.getElem?_map, List.getElem?_eq_getElem hlt2]
      show some (V.ref cs[u]) = some (V.ref (cs.getD u 0))
      rw [getD_at hlt2]
    intro D3 H3 s3 nD3 hD3
    have s13 := s12.trans s3
    refine ⟨D3, lot.map fun j => cols.getD j [], rfl, ⟨lot.map fun j => cs.getD j 0, SqL.of (by rw [hD3, List.map_map]; rfl), by simp, fun i c r' e1 e2 => ?_⟩, by rw [List.length_map]; omega, by rw [List.length_map]; omega, fun r' hr' => ?_, fun H4 s4 => ?_⟩
    · rw [List.getElem?_map] at e1 e2
      obtain ⟨j, hj, rfl⟩ := Option.map_eq_some_iff.mp e1
      rw [hj] at e2
      cases e2
      have hlt := lb j (List.mem_of_getElem? hj)
      have hlt2 : j < cs.length := by omega
      show SqT K H3 (cs.getD j 0) ((cols.getD j []).map V.int)
      rw [getD_at hlt2, getD_at hlt]
      exact ZM.sqT_sm s13 (hrow j _ _ (List.getElem?_eq_getElem hlt2) (List.getElem?_eq_getElem hlt))
    · obtain ⟨j, hj, rfl⟩ := List.mem_map.mp hr'
      have hlt := lb j hj
      rw [getD_at hlt]
      have := hS _ (List.getElem_mem hlt)
      exact ⟨by rw [List.length_map, ll]; exact this.1, this.2⟩
    · refine ⟨_, rfl, fun H5 s5 => ?_⟩
      have sF := s3.trans (s4.trans s5)
      rw [List.length_map, ll]
      refine ⟨ss.map V.int, sF _ _ hD, by rw [List.length_map, sizeLine_eq]; omega, ss ++ [sgn (bxW cols r lot)], ?_, ZM.sm_at nD (s2.trans sF), by rw [upd_same, List.map_append]; rfl⟩
      rw [ls, List.take_add_one]
      unfold bxL
      rw [List.getElem?_map, hlot]
      rfl
  · rintro D H2 nD ⟨ss, ls, s2, hD⟩
    rw [List.length_map, ← lt, ← bxL_len cols r, List.take_length] at ls
    rw [ls] at hD
    refine q D H2 (s1.trans s2) ?_ hD
    cases e : H D with
    | none => rfl
    | some o => rw [s1 _ _ e] at nD; cases nD
end
end K14

set_option maxHeartbeats 4000000
/-! Signs drawn. -/
namespace K14
open PySem PySem.Spec PyProof.Rows L2
section
variable {P : Program} {w : World} {K : PySem.W.Frag} {mg : Str → Option Value} {base : Heap}
def isD (n : Int) : Prop := n = -1 ∨ n = 0 ∨ n = 1
/-- all that stood stands, but what the bag holds -/
def But (b : Addr) (H H' : Hp) : Prop := ∀ c o, c ≠ b → H c = some o → H' c = some o
theorem But.refl {b : Addr} {H : Hp} : But b H H := fun _ _ _ h => h
theorem But.trans {b : Addr} {H H' H2 : Hp} (h : But b H H') (h2 : But b H' H2) : But b H H2 := fun c o n e => h2 c o n (h c o n e)
theorem But.new {b p : Addr} {H : Hp} {o : HO} (np : H p = none) : But b H (upd H p o) := fun c o' _ e => by
  rw [upd_ne (fun z => by rw [z, np] at e; cases e)]
  exact e
theorem But.bag {b : Addr} {H : Hp} {o : HO} : But b H (upd H b o) := fun c o' n e => by
  rw [upd_ne n]
  exact e
theorem But.at {b D : Addr} {H H' : Hp} {o : HO} (h : But b H H') (nD : H D = none) : But b H (upd H' D o) := fun c o' n e => by
  rw [upd_ne (fun z => by rw [z, nD] at e; cases e)]
  exact h c o' n e
theorem But.none {b D l : Addr} {H H' : Hp} (h : But b H H') {xs : List V} (hb : H b = some (.lst xs)) (nD : H' D = none) (hb' : ∃ ys, H' b = some (.lst ys)) : H D = none := by
  cases e : H D with
  | none => rfl
  | some o =>
    by_cases c : D = b
    · obtain ⟨ys, hy⟩ := hb'
      rw [c, hy] at nD
      cases nD
    · rw [h D o c e] at nD
      cases nD
def spDrawn : Sp := fun vs H Q _ => ∃ (b l : Addr) (n : Nat) (bs : List Int), vs = [.ref b, .int n] ∧ n ≤ 1000 ∧ BagAt l bs H b ∧
  ∀ (D : Addr) (ns : List Int) (H' : Hp), ns.length = n → (∀ m ∈ ns, isD m) → H D = none → H' D = some (.lst (ns.map V.int)) → BagAt l bs H' b → But b H H' → Q (.ref D) H'
end
end K14

set_option maxHeartbeats 8000000
/-! A model's dual. -/
namespace K14
open PySem PySem.Spec PyProof.Rows L2
abbrev sDu : Stmt := topS 52
abbrev nDu : List Str := ["_law_m", "_law_many", "_law_signs", "_law_lot", "_law_others", "_law_thing"]
theorem scDu : FnScope nDu ["_law_m"] (defScope sDu) := ⟨rfl, rfl, rfl, by decide +kernel, rfl, by decide +kernel, by decide +kernel⟩
theorem rest_in : ((List.range 8).all fun n => (List.range (n + 1)).all fun k => (CB.combs n k).all fun lot => decide (restF n lot ∈ CB.combs n (n - k))) = true := by decide +kernel
theorem rest_of {n r : Nat} (hn : n ≤ 7) (hr : r ≤ n) {lot : List Nat} (h : lot ∈ CB.combs n (n - r)) : restF n lot ∈ CB.combs n r := by
  have h1 := List.all_eq_true.mp rest_in n (List.mem_range.mpr (by omega))
  have h2 := List.all_eq_true.mp (List.all_eq_true.mp h1 (n - r) (List.mem_range.mpr (by omega))) lot h
  have h3 := of_decide_eq_true h2
  rw [show n - (n - r) = r by omega] at h3
  exact h3
theorem Same.but {b : Addr} {H H' : Hp} (s : Same H H') : But b H H' := fun c o _ e => s c o e
theorem gT_at {n r : Nat} {ss : List Int} (hn : n ≤ 7) (hr : r ≤ n) (hl : ss.length = (CB.combs n r).length) {c : List Nat} (hc : c ∈ CB.combs n r) : valV (tab n r ss) (key c) = some (.int (gT n r ss (ci c))) := by
  obtain ⟨i, hi⟩ := List.getElem?_of_mem hc
  have il := (List.getElem?_eq_some_iff.mp hi).1
  have h := valV_tab hn hr hl hi (List.getElem?_eq_getElem (show i < ss.length by omega))
  have h2 : gT n r ss (ci c) = ss[i]'(by omega) := by
    unfold gT
    have e : keyI (ci c) = key c := (key_I c).symm
    rw [e, h]
  rw [h, h2]
/-- a dual's signs, ahead of being made normal -/
def duV (n r : Nat) (ss : List Int) (lot : List Nat) : Int := gT n r ss (ci (restF n lot)) * sg (ci lot ++ ci (restF n lot))
def duL (n r : Nat) (ss : List Int) : List Int := (CB.combs n (n - r)).map (duV n r ss)
theorem duV_un {n r : Nat} {ss : List Int} (ha : ss.all isS = true) (lot : List Nat) : unit3 (duV n r ss lot) := un_mul (gT_ok ha _).2 (sg_un _)
theorem duL_len (n r : Nat) (ss : List Int) : (duL n r ss).length = (CB.combs n (n - r)).length := by simp [duL]
theorem duL_isS {n r : Nat} {ss : List Int} (ha : ss.all isS = true) : (duL n r ss).all isS = true := by
  unfold duL
  rw [List.all_map, List.all_eq_true]
  intro lot _
  exact isS_of (duV_un ha lot)
def spDu : Sp := fun vs H Q _ => ∃ (m d : Addr) (n r : Nat) (ss : List Int), vs = [.ref m] ∧ ModAt H m d n r ss ∧ n ≤ 7 ∧ r ≤ n ∧ ss.length = (CB.combs n r).length ∧ ss.all isS = true ∧
  ∀ m2 d2 H', Same H H' → ModAt H' m2 d2 n (n - r) (norm (duL n r ss)) → Q (.ref m2) H'
section
variable {P : Program} {w : World} {K : PySem.W.Frag} {mg : Str → Option Value} {base : Heap}
theorem ok_du {f fl fo fm : Addr} {fd dl do_ dm : FuncData} {k : Nat} (F : Fun K "_law_dual" "_law_dual" sDu f fd) (mr : mg "range" = none) (mt : mg "tuple" = none)
    (L : FnOk P w K mg base CX0 k fl dl ["_law_many", "_law_size"] LL.spLL) (gL : mg "_law_lots" = some (.ref fl)) (kL : PySem.W.keepIn K (.ref fl) = true) (bL : Binds K dl ["_law_many", "_law_size"] [])
    (O : FnOk P w K mg base CX0 k fo do_ ["_law_row_here"] (spLOrd K)) (gO : mg "_law_order" = some (.ref fo)) (kO : PySem.W.keepIn K (.ref fo) = true) (bO : Binds K do_ ["_law_row_here"] [])
    (M : FnOk P w K mg base CX0 k fm dm ["_law_many", "_law_rank", "_law_signs"] (spMo K)) (gM : mg "_law_model" = some (.ref fm)) (kM : PySem.W.keepIn K (.ref fm) = true) (bM : Binds K dm ["_law_many", "_law_rank", "_law_signs"] []) : FnOk P w K mg base CX0 (k + 1) f fd ["_law_m"] spDu := by
  refine F.ok scDu (fun vs H Q E ⟨m, d, n, r, ss, e1, _⟩ => by rw [e1]; rfl) (fun cdv A outer s H vs Q E hr h => ?_)
  have u1 : (A.deeper (envOfC "_law_dual" (defScope sDu) s.heap.objs.size f cdv)).units + 1 < cLine := by
    have := hr.units
    omega
  refine ⟨_, pss_cons (ps_par (i := 1) (j := 2) rfl scDu.nd rfl rfl (by decide) rfl rfl (pa_cons (pe_dget u1 (pv 0) pe_str (fun _ _ => rfl)) (pa_cons (pe_lst pa_nil) pa_nil)) rfl)
    (pss_cons (ps_for PassesOwn.never rfl (pi_list (pe_call L hr (by rfl) gL kL bL .nil pass0 (pa_cons (pv 1) (pa_cons (pe_op op_sub (pv 1) (pe_dget u1 (pv 0) pe_str (fun _ _ => rfl))) pa_nil)))) (pg_name (i := 3) scDu.nd rfl (Or.inr rfl))
      (pss_cons (ps_set (i := 4) scDu.nd rfl (Or.inl rfl) (pe_callTy call_tuple_of (by rfl) mt (by decide +kernel) (pa_cons
          (ZM.pe_bx (pe_lc (own := [("_law_thing", 5)]) (g := gName 5) rfl scDu.nd (pi_range1 (by rfl) mr (pa_cons (pv 1) pa_nil)) (blkOk_by (N := nDu) (sc := defScope sDu) (by decide +kernel))
            (fun _ _ _ _ _ => pg_name (i := 5) scDu.nd rfl (Or.inl rfl)) (fun _ _ _ _ _ => pts_one (pt_cmpR (r := rIn K true) op_notIn_seq (pv 5) (pv 3) (by with_unfolding_all rfl))) (fun _ _ _ _ _ => pv 5))) pa_nil)))
      (pss_one (ps_expr (pe_bm PySem.F.plainAttrs_list PySem.F.slot_list_append PySem.F.type_list_append mt_append (pv 2) (pa_cons (pe_op op_mul (pe_dget u1 (pe_dget u1 (pv 0) pe_str (fun _ _ => rfl)) (pv 4) (fun _ _ => rfl))
          (pe_call O hr (by rfl) gO kO bO .nil pass0 (pa_cons (pe_op (r := rCatA K) op_catA (pv 3) (pv 4)) pa_nil))) pa_nil))))))
    (pss_one (ps_ret (pe_call M hr (by rfl) gM kM bM .nil pass0 (pa_cons (pv 1) (pa_cons (pe_op op_sub (pv 1) (pe_dget u1 (pv 0) pe_str (fun _ _ => rfl))) (pa_cons (pv 2) pa_nil))))))), ?_⟩
  obtain ⟨m, d, n, r, ss, rfl, hM, n7, rn, hl, ha, q⟩ := h
  refine ⟨_, rfl, m, _, rfl, hM.things, Nat.zero_le _, fun S nS => ⟨_, _, rfl, ?_⟩⟩
  have s0 := same_new (o := .lst []) nS
  have hS0 : upd H S (.lst []) S = some (.lst []) := upd_same
  generalize upd H S (.lst []) = H0 at s0 hS0 ⊢
  have M0 := hM.same s0
  have er : (n : Int) - (r : Int) = ((n - r : Nat) : Int) := by omega
  refine ⟨_, rfl, _, rfl, _, rfl, m, _, rfl, M0.rank, _, _, rfl, rfl, n, n - r, by rw [← er]; rfl, n7, by omega, fun l ts H1 s1 nl hl1 LA => ?_⟩
  obtain ⟨lt, LG⟩ := lots_get LA
  have lS : l ≠ S := fun z => by rw [z, hS0] at nl; cases nl
  have M1 := M0.same s1
  have mS : m ≠ S := fun z => by rw [z] at hM; rw [hM.m] at nS; cases nS
  have dS : d ≠ S := fun z => by rw [z] at hM; rw [hM.d] at nS; cases nS
  have c35 : (CB.combs n (n - r)).length ≤ 35 := combs_35 n7 (by omega)
  refine ⟨l, rfl, ⟨_, SqL.of hl1⟩, for_list (K := K) (a := l) (fun i σ H' => ∃ x3 x4 ss2, σ = [some (.ref m), some (.int (n : Int)), some (.ref S), x3, x4, none] ∧ But S H1 H' ∧ H' S = some (.lst ((ss2 : List Int).map V.int)) ∧ ss2 = (duL n r ss).take i)
    ⟨_, _, [], rfl, .refl, s1 _ _ hS0, rfl⟩ (fun i σ H' _ ⟨_, _, _, _, bu, _⟩ => SqL.of (bu _ _ lS hl1)) ?_ ?_⟩
  · rintro i x σ H2 hx ⟨x3, x4, ss2, rfl, bu, hS2, e2⟩
    rw [List.getElem?_map] at hx
    obtain ⟨t, ht, rfl⟩ := Option.map_eq_some_iff.mp hx
    have il : i < ts.length := (List.getElem?_eq_some_iff.mp ht).1
    obtain ⟨lot, hlot, htl⟩ := LG i t ht
    have hlin := List.mem_of_getElem? hlot
    have hrin := rest_of n7 rn hlin
    obtain ⟨ll, lb⟩ := combs_ok n7 (by omega) hlin
    obtain ⟨rl, rb⟩ := combs_ok n7 (by omega) hrin
    have htl2 : H2 t = some (.tup (CB.lotV lot)) := bu _ _ (fun z => by rw [z, s1 _ _ hS0] at htl; cases htl) htl
    have M2 : ModAt H2 m d n r ss := ⟨bu _ _ mS M1.m, bu _ _ dS M1.d⟩
    refine ZM.lcf_rng (n := n) (fun w => !lot.contains w) (fun w => V.int (w : Int)) (fun R rr => ⟨_, rfl, rr⟩) (by omega) (fun _ => rfl) ?_ ?_ ?_
    · intro w H5 R hw s5 hR
      refine ⟨_, rfl, _, rfl, t, CB.lotV lot, rfl, .inr (SqT.of (s5 _ _ htl2)), rfl, flat_lot _, _, rfl, ?_⟩
      have ei : inV (V.int (0 + (w : Int))) (CB.lotV lot) = lot.contains w := by rw [Int.zero_add, inV_lot]
      rw [ei]
      exact hR _ (Same.refl _)
    · intro w H5 R hw c s5 hR
      exact ⟨_, rfl, by rw [Int.zero_add]; exact hR _ (Same.refl _)⟩
    intro Dr H3 s3 nDr hDr
    refine ⟨Dr, _, rfl, .inl ⟨SqL.of hDr, fun t4 nt4 => ?_⟩⟩
    have s4 := same_new (o := .tup (CB.lotV (restF n lot))) nt4
    have ht4 : upd H3 t4 (.tup (CB.lotV (restF n lot))) t4 = some (.tup (CB.lotV (restF n lot))) := upd_same
    show gName 4 (V.ref t4) _ (upd H3 t4 (.tup (CB.lotV (restF n lot)))) _
    generalize upd H3 t4 (.tup (CB.lotV (restF n lot))) = H4 at s4 ht4 ⊢
    have s24 := s3.trans s4
    have M4 := M2.same s24
    have hS4 := s24 _ _ hS2
    have vv := gT_at n7 rn hl hrin
    have hun := (gT_ok (n := n) (r := r) ha (ci (restF n lot))).2
    have e3 : ss2 ++ [gT n r ss (ci (restF n lot)) * sg (ci lot ++ ci (restF n lot))] = (duL n r ss).take (i + 1) := by
      rw [e2, List.take_add_one]
      unfold duL
      rw [List.getElem?_map, hlot]
      rfl
    have l2 : ss2.length ≤ 35 := by
      have := duL_len n r ss
      rw [e2, List.length_take]
      omega
    refine ⟨_, rfl, tyl hS4, _, rfl, m, _, rfl, M4.signs, _, rfl, d, _, rfl, by rw [← vv]; exact DGet.t M4.d (by rw [key_kV]; exact ht4), ?_⟩
    have nb := un_mul hun (sg_un (ci lot ++ ci (restF n lot)))
    have tail : ∀ H5, Same H4 H5 → But S H1 (upd H5 S (.lst (ss2.map V.int ++ [V.int (gT n r ss (ci (restF n lot)) * sg (ci lot ++ ci (restF n lot)))]))) ∧ (upd H5 S (.lst (ss2.map V.int ++ [V.int (gT n r ss (ci (restF n lot)) * sg (ci lot ++ ci (restF n lot)))]))) S = some (.lst ((ss2 ++ [gT n r ss (ci (restF n lot)) * sg (ci lot ++ ci (restF n lot))]).map V.int)) := by
      intro H5 s5
      exact ⟨(bu.trans (Same.but (s24.trans s5))).trans .bag, by rw [upd_same, List.map_append]; rfl⟩
    have eV : (ci lot ++ ci (restF n lot)).map V.int = CB.lotV lot ++ CB.lotV (restF n lot) := by rw [List.map_append, ← lotV_ci, ← lotV_ci]
    have l35 : (ss2.map V.int).length < sizeLine := by rw [List.length_map, sizeLine_eq]; omega
    have lb1 : (ci lot ++ ci (restF n lot)).length ≤ 1000 := by simp [ci]; omega
    have ub : CMul (gT n r ss (ci (restF n lot))) (sg (ci lot ++ ci (restF n lot))) := .inl (by rcases hun with e | e | e <;> rw [e] <;> omega)
    refine ⟨_, rfl, _, rfl, t, t4, _, _, rfl, rfl, SqT.of (s24 _ _ htl2), SqT.of ht4, by rw [sizeLine_eq]; simp; omega, fun e => ?_, fun _ e => ?_, fun _ _ p np => ?_⟩
    · obtain ⟨k1, k2⟩ := tail H4 (Same.refl _)
      exact ⟨t4, _, rfl, .inr (SqT.of (by rw [ht4, eV, e]; rfl)), lb1, _, _, rfl, rfl, ub, S, _, _, rfl, rfl, hS4, l35, _, _, _, rfl, k1, k2, e3⟩
    · obtain ⟨k1, k2⟩ := tail H4 (Same.refl _)
      exact ⟨t, _, rfl, .inr (SqT.of (by rw [s24 _ _ htl2, eV, e, List.append_nil])), lb1, _, _, rfl, rfl, ub, S, _, _, rfl, rfl, hS4, l35, _, _, _, rfl, k1, k2, e3⟩
    · have sp := same_new (o := .tup (CB.lotV lot ++ CB.lotV (restF n lot))) np
      obtain ⟨k1, k2⟩ := tail _ sp
      exact ⟨p, _, rfl, .inr (SqT.of (by rw [upd_same, eV])), lb1, _, _, rfl, rfl, ub, S, _, _, rfl, rfl, sp _ _ hS4, l35, _, _, _, rfl, k1, k2, e3⟩
  · rintro σ H2 ⟨x3, x4, ss2, rfl, bu, hS2, e2⟩
    have s02 : Same H H2 := fun c o e => bu _ _ (fun z => by rw [z, nS] at e; cases e) (s1 _ _ (s0 _ _ e))
    rw [List.length_map, ← lt, ← duL_len n r ss, List.take_length] at e2
    have l2 := duL_len n r ss
    have a2 := duL_isS (n := n) (r := r) ha
    rw [← e2] at l2 a2
    have M2 := hM.same s02
    refine ⟨_, rfl, _, rfl, _, rfl, m, _, rfl, M2.rank, _, _, rfl, rfl, _, rfl, n, n - r, S, ss2, by rw [← er]; rfl, n7, by omega, .inl hS2, l2, a2, fun m2 d2 H3 s3 nm nd hM3 => ?_⟩
    exact q m2 d2 H3 (s02.trans s3) (by rw [← e2]; exact hM3)
end
end K14

set_option maxHeartbeats 8000000
/-! A table bent. -/
namespace K14
open PySem PySem.Spec PyProof.Rows L2
abbrev nBt : List Str := ["_law_bag_here", "_law_m", "_law_signs", "_law_by", "_law_k", "_law_sign"]
theorem combs_pos : ((List.range 8).all fun n => (List.range (n + 1)).all fun r => decide (0 < (CB.combs n r).length)) = true := by decide +kernel
theorem combs_0 {n r : Nat} (hn : n ≤ 7) (hr : r ≤ n) : 0 < (CB.combs n r).length := by
  have h1 := List.all_eq_true.mp combs_pos n (List.mem_range.mpr (by omega))
  exact of_decide_eq_true (List.all_eq_true.mp h1 r (List.mem_range.mpr (by omega)))
def spBt : Sp := fun vs H Q _ => ∃ (b l m d : Addr) (ms : List Int) (n r : Nat) (ss : List Int), vs = [.ref b, .ref m] ∧ BagAt l ms H b ∧ ModAt H m d n r ss ∧ n ≤ 7 ∧ r ≤ n ∧ ss.length = (CB.combs n r).length ∧ ss.all isS = true ∧
  ∀ D H' (ss2 : List Int), But b H H' → BagAt l ms H' b → H D = none → H' D = some (.lst (ss2.map V.int)) → ss2.length = ss.length → ss2.all isS = true → Q (.ref D) H'
section
variable {P : Program} {w : World} {K : PySem.W.Frag} {mg : Str → Option Value} {base : Heap}
end
end K14

set_option maxHeartbeats 8000000
/-! What a told reason says. -/
namespace K14
open PySem PySem.Spec PyProof.Rows L2
theorem combs_rs : ((List.range 8).all fun n => (List.range 9).all fun r => (CB.combs n r).all fun c => decide (c.Pairwise (· < ·))) = true := by decide +kernel
theorem combs_rise {n r : Nat} (hn : n ≤ 7) (hr : r ≤ 8) {c : List Nat} (hc : c ∈ CB.combs n r) : c.Pairwise (· < ·) := by
  have h1 := List.all_eq_true.mp combs_rs n (List.mem_range.mpr (by omega))
  exact of_decide_eq_true (List.all_eq_true.mp (List.all_eq_true.mp h1 r (List.mem_range.mpr (by omega))) c hc)
theorem rest_rise (n : Nat) (lot : List Nat) : (restF n lot).Pairwise (· < ·) := List.pairwise_lt_range.filter _
theorem pick_rise {rest c : List Nat} (hr : rest.Pairwise (· < ·)) (hc : c.Pairwise (· < ·)) (hb : ∀ j ∈ c, j < rest.length) : (pick rest c).Pairwise (· < ·) := by
  unfold pick
  rw [List.pairwise_map]
  refine hc.imp_of_mem fun {a b} ha hb2 hab => ?_
  have h1 := hb a ha
  have h2 := hb b hb2
  rw [getD_at h1, getD_at h2]
  exact List.pairwise_iff_getElem.mp hr a b h1 h2 hab
structure Four (n : Nat) (lot four : List Nat) : Prop where
  l : four.length = 4
  r : four.Pairwise (· < ·)
  b : ∀ x ∈ four, x < n
  o : ∀ x ∈ four, x ∉ lot
theorem four_of {n : Nat} (hn : n ≤ 7) {lot four : List Nat} (h : four ∈ fours (restF n lot)) : Four n lot four := by
  obtain ⟨c, hc, rfl⟩ := List.mem_map.mp h
  have rest7 : (restF n lot).length ≤ 7 := Nat.le_trans (List.length_filter_le _ _) (by simp; omega)
  obtain ⟨cl, cj⟩ := c4_of rest7 hc
  have hm : ∀ x ∈ pick (restF n lot) c, x ∈ restF n lot := fun x hx => by
    obtain ⟨j, hj, rfl⟩ := List.mem_map.mp hx
    rw [getD_at (cj j hj)]
    exact List.getElem_mem _
  refine ⟨by unfold pick; rw [List.length_map, cl], pick_rise (rest_rise n lot) (combs_rise rest7 (by omega) hc) cj, fun x hx => ?_, fun x hx hl => ?_⟩
  · exact List.mem_range.mp (List.mem_filter.mp (hm x hx)).1
  · have := (List.mem_filter.mp (hm x hx)).2
    rw [List.contains_iff_mem.mpr hl] at this
    cases this
/-- what the fault of three products says -/
theorem thr_some {n r : Nat} (hn : n ≤ 7) (hr : r ≤ n) {g : List Int → Int} {lot four : List Nat} (h : thrF n r g = some (lot, four)) : 2 ≤ r ∧ lot ∈ CB.combs n (r - 2) ∧ Four n lot four ∧ holdL g (ci lot) four = false := by
  unfold thrF at h
  by_cases r2 : r < 2
  · rw [if_pos r2] at h
    cases h
  · rw [if_neg r2] at h
    obtain ⟨lot', hl, h⟩ := List.exists_of_findSome?_eq_some h
    obtain ⟨four', hf, e⟩ := Option.map_eq_some_iff.mp h
    cases e
    have h1 := List.mem_of_find?_eq_some hf
    have h2 := List.find?_some hf
    exact ⟨by omega, hl, four_of hn h1, by simpa using h2⟩
/-- what the fault of exchange says -/
theorem ex_some {n : Nat} {bases : List (List Nat)} {one other : List Nat} {t : Nat} (h : exF n bases = some (one, other, t)) : one ∈ bases ∧ other ∈ bases ∧ t ∈ one ∧ other.contains t = false ∧ (intoF n bases one t).any (fun w => other.contains w) = false := by
  unfold exF at h
  obtain ⟨one', h1, h⟩ := List.exists_of_findSome?_eq_some h
  obtain ⟨t', h2, h⟩ := List.exists_of_findSome?_eq_some h
  obtain ⟨other', hf, e⟩ := Option.map_eq_some_iff.mp h
  cases e
  have h3 := List.mem_of_find?_eq_some hf
  have h4 := List.find?_some hf
  unfold badF at h4
  simp only [Bool.and_eq_true, Bool.not_eq_true'] at h4
  exact ⟨h1, h3, h2, h4.1, h4.2⟩
/-- a base's sign is not nought -/
theorem base_sign {n r : Nat} {ss : List Int} (hn : n ≤ 7) (hr : r ≤ n) (hl : ss.length = (CB.combs n r).length) {c : List Nat} (h : c ∈ basesF n r ss) : gT n r ss (ci c) ≠ 0 := by
  have h1 : ((basesF n r ss).map ci).contains (ci c) = true := List.contains_iff_mem.mpr (List.mem_map.mpr ⟨c, h, rfl⟩)
  rw [base_iff hn hr hl] at h1
  simpa using h1
end K14

set_option maxHeartbeats 8000000
/-! Columns that hold a base. -/
namespace K14
open PySem PySem.Spec PyProof.Rows L2
abbrev sFc : Stmt := topS 51
abbrev nFc : List Str := ["_law_bag_here", "_law_many", "_law_size", "_law_found", "_law_sign", "_law_k", "_law_j"]
theorem scFc : FnScope nFc ["_law_bag_here", "_law_many", "_law_size"] (defScope sFc) := ⟨rfl, rfl, rfl, by decide +kernel, rfl, by decide +kernel, by decide +kernel⟩
/-- what columns drawn are -/
def spCo (K : PySem.W.Frag) : Sp := fun vs H Q _ => ∃ (b l : Addr) (ms : List Int) (n r : Nat), vs = [.ref b, .int (n : Int), .int (r : Int)] ∧ BagAt l ms H b ∧ n ≤ 7 ∧ r ≤ n ∧
  ∀ D H' (cols : List (List Int)), But b H H' → BagAt l ms H' b → H D = none → TLI K H' D cols → cols.length = n → Small cols r → Q (.ref D) H'
def unitC (r k : Nat) : List Int := (List.range r).map fun (j : Nat) => if decide ((j : Int) = (k : Int)) = true then 1 else 0
theorem range_in : ((List.range 8).all fun n => (List.range (n + 1)).all fun r => decide (List.range r ∈ CB.combs n r)) = true := by decide +kernel
theorem unit_wd : ((List.range 4).all fun r => decide (wd r ((List.range r).map (unitC r)) = 1)) = true := by decide +kernel
/-- columns that hold a base -/
def spFc (K : PySem.W.Frag) : Sp := fun vs H Q _ => ∃ (b l : Addr) (ms : List Int) (n r : Nat), vs = [.ref b, .int (n : Int), .int (r : Int)] ∧ BagAt l ms H b ∧ n ≤ 7 ∧ r ≤ n ∧ r ≤ 3 ∧
  ∀ D H' (cols : List (List Int)), But b H H' → BagAt l ms H' b → H D = none → TLI K H' D cols → cols.length = n → Small cols r → (∃ lot ∈ CB.combs n r, bxW cols r lot ≠ 0) → Q (.ref D) H'
theorem sqT_new {K : PySem.W.Frag} {H : Hp} {t : Addr} {xs : List V} : SqT K (upd H t (.tup xs)) t xs := SqT.of upd_same
section
variable {P : Program} {w : World} {K : PySem.W.Frag} {mg : Str → Option Value} {base : Heap}
theorem ok_fc {f fc fb : Addr} {fd dc db : FuncData} (F : Fun K "_law_full_columns" "_law_full_columns" sFc f fd) (mr : mg "range" = none) (ma : mg "any" = none) (mt : mg "tuple" = none) (mi : mg "int" = none)
    (Co : FnOk P w K mg base CX0 9 fc dc ["_law_bag_here", "_law_many", "_law_size"] (spCo K)) (gC : mg "_law_columns" = some (.ref fc)) (kC : PySem.W.keepIn K (.ref fc) = true) (bC : Binds K dc ["_law_bag_here", "_law_many", "_law_size"] [])
    (Bx : FnOk P w K mg base CX0 9 fb db ["_law_columns_here", "_law_size"] (spBx K)) (gB : mg "_law_box_signs" = some (.ref fb)) (kB : PySem.W.keepIn K (.ref fb) = true) (bB : Binds K db ["_law_columns_here", "_law_size"] []) : FnOk P w K mg base CX0 10 f fd ["_law_bag_here", "_law_many", "_law_size"] (spFc K) := by
  refine F.ok scFc (fun vs H Q E ⟨b, l, ms, n, r, e1, _⟩ => by rw [e1]; rfl) (fun cdv A outer s H vs Q E hr h => ?_)
  refine ⟨_, pss_cons (ps_set (i := 3) scFc.nd rfl (Or.inl rfl) (pe_call Co hr (by rfl) gC kC bC .nil pass0 (pa_cons (pv 0) (pa_cons (pv 1) (pa_cons (pv 2) pa_nil)))))
    (pss_cons (ps_if (pt_not (pt_val (pe_callB (cr_any rfl) (by rfl) ma (by decide +kernel) (pa_cons
        (ZM.pe_bx (pe_lc (own := [("_law_sign", 4)]) (g := gName 4) (tt := tYes) rfl scFc.nd (ZM.pi_sq (pe_call Bx hr (by rfl) gB kB bB .nil pass0 (pa_cons (pv 3) (pa_cons (pv 2) pa_nil)))) (blkOk_by (N := nFc) (sc := defScope sFc) (by decide +kernel))
          (fun _ _ _ _ _ => pg_name (i := 4) scFc.nd rfl (Or.inl rfl)) (fun _ _ _ _ _ => pts_nil) (fun _ _ _ _ _ => pe_cmpR op_ne (pv 4) pe_int (nomark _)))) pa_nil))))
      (pss_one (ps_set (i := 3) scFc.nd rfl (Or.inl rfl) (pe_op op_cat
        (ZM.pe_bx (pe_lc (own := [("_law_k", 5)]) (g := gName 5) (tt := tYes) rfl scFc.nd (pi_range1 (by rfl) mr (pa_cons (pv 2) pa_nil)) (blkOk_by (N := nFc) (sc := defScope sFc) (by decide +kernel))
          (fun _ _ _ _ _ => pg_name (i := 5) scFc.nd rfl (Or.inr rfl)) (fun _ _ _ _ _ => pts_nil)
          (fun _ _ _ _ _ => pe_callTy (T := "tuple") (r := rTupO K) call_tuple_of (by rfl) mt (by decide +kernel) (pa_cons (ZM.pe_bx (pe_lc (own := [("_law_j", 6)]) (g := gName 6) (tt := tYes) rfl scFc.nd (pi_range1 (by rfl) mr (pa_cons (pv 2) pa_nil)) (blkOk_by (N := nFc) (by rfl))
            (fun _ _ _ _ _ => pg_name (i := 6) scFc.nd rfl (Or.inl rfl)) (fun _ _ _ _ _ => pts_nil) (fun _ _ _ _ _ => pe_callTy (T := "int") call_int1 (by rfl) mi (by first | rfl | boot_by_name) (pa_cons (pe_cmpR op_eq (pv 6) (pv 5) (nomark _)) pa_nil)))) pa_nil))))
        (pe_slice sl_list (pv 3) (po_some (pv 2)) po_none)))) pss_nil)
    (pss_one (ps_ret (pv 3)))), ?_⟩
  obtain ⟨b, l, ms, n, r, rfl, B, n7, rn, r3, q⟩ := h
  obtain ⟨bx, hb⟩ := B.at
  refine ⟨_, rfl, _, rfl, _, rfl, b, l, ms, n, r, rfl, B, n7, rn, fun D H1 cols bu1 B1 nD hT lc hS => ?_⟩
  refine lc_preS (fun a2 H2 => Same H1 H2 ∧ H2 a2 = some (.lst ((bxL cols r).map V.int))) (fun R rr => ⟨_, rfl, _, rfl, D, cols, r, rfl, hT, by omega, by omega, hS, fun a2 H2 s2 _ h2 => rr a2 H2 ⟨s2, h2⟩⟩) ?_
  rintro a2 H2 ⟨s2, h2⟩
  have l2 : (bxL cols r).length ≤ 35 := by rw [bxL_len]; exact combs_35 (by omega) (by omega)
  generalize ess : bxL cols r = ss at h2 l2
  refine ZM.lcm_sq (ys := ss.map fun s => V.bl (!decide (V.int s = V.int 0))) (fun R rr => rr) (.inl (SqL.of h2)) (by simp) (by simp; omega) (fun _ => rfl) ?_ ?_
  · intro i x y H3 R hx hy s3 hR
    obtain ⟨u, rfl, hu⟩ := get_ints hx
    rw [List.getElem?_map, hu] at hy
    cases hy
    exact ⟨_, rfl, rfl, hR _ (Same.refl _)⟩
  intro D3 H3 s3 nD3 hD3
  refine ⟨D3, ss.map fun s => !decide (V.int s = V.int 0), rfl, SqL.of (by rw [hD3, List.map_map]; rfl), _, rfl, ?_⟩
  have s13 := s2.trans s3
  have B3 := B1.same s13
  have hT3 := hT.same s13
  have bu3 := bu1.trans (Same.but s13)
  cases cc : (ss.map fun s => !decide (V.int s = V.int 0)).any id
  · refine if_t rfl ?_
    refine ZM.own_rng (n := r) (fun D i H' => ∃ cs : List Addr, cs.length = i ∧ Same H3 H' ∧ H' D = some (.lst (cs.map V.ref)) ∧ ∀ (m : Nat) (c : Addr) (rr : List Int), cs[m]? = some c → ((List.range i).map (unitC r))[m]? = some rr → SqT K H' c (rr.map V.int)) (fun R rr => ⟨_, rfl, rr⟩) (by omega) (fun _ => rfl) (fun D nD => ⟨[], rfl, same_new nD, upd_same, by simp⟩) ?_ ?_
    · rintro D5 i H5 nD5 hi ⟨cs, lcs, s5, hD5, hcs⟩
      refine ZM.lcm_rng (n := r) (ys := (unitC r i).map V.int) (fun R rr => ⟨_, rfl, rr⟩) (by omega) (by simp [unitC]) (fun _ => rfl) ?_ ?_
      · intro j y H6 R hj hy s6 hR
        unfold unitC at hy
        rw [List.getElem?_map, List.getElem?_map, List.getElem?_range hj] at hy
        cases hy
        refine ⟨_, rfl, _, rfl, rfl, .inr ⟨_, rfl, ?_⟩⟩
        have e9 : (if decide (V.int (0 + (j : Int)) = V.int (0 + (i : Int))) = true then (1 : Int) else 0) = if decide ((j : Int) = (i : Int)) = true then 1 else 0 := by simp
        rw [e9]
        exact hR _ (Same.refl _)
      · intro D6 H6 s6 nD6 hD6
        refine ⟨D6, _, rfl, .inl ⟨SqL.of hD6, fun t nt => ?_⟩⟩
        rw [List.range_succ, List.map_append]
        exact tl_next lcs (by simp) hD5 hcs nD5 s5 (s6.trans (same_new nt)) sqT_new (by omega)
    · rintro D5 H5 nD5 ⟨cs, lcs, s5, hD5, hcs⟩
      obtain ⟨ds, hds, lds, hrow⟩ := hT3.same s5
      refine ⟨_, rfl, _, rfl, _, rfl, D, _, rfl, hds, fun p np => ?_⟩
      rw [cutFrom]
      have s6 := same_new (o := .lst ((ds.map V.ref).drop r)) np
      refine ⟨D5, p, _, _, rfl, rfl, s6 _ _ hD5, upd_same, by rw [sizeLine_eq]; simp; omega, fun p2 np2 => ?_⟩
      have s7 := same_new (o := .lst (cs.map V.ref ++ (ds.map V.ref).drop r)) np2
      have s57 := s5.trans (s6.trans s7)
      refine ⟨_, rfl, q p2 _ ((List.range r).map (unitC r) ++ cols.drop r) (bu3.trans (Same.but s57)) (B3.same s57) ?_ ⟨cs ++ ds.drop r, SqL.of (by rw [upd_same, List.map_append, List.map_drop]), by simp [lcs, lds], fun i c rr e1 e2 => ?_⟩ (by simp [lc]; omega) (fun c hc => ?_) ?_⟩
      · cases e : H p2 with
        | none => rfl
        | some o =>
          exfalso
          by_cases cb : p2 = b
          · obtain ⟨zs, hz⟩ := (B3.same (s5.trans s6)).at
            rw [cb, hz] at np2
            cases np2
          · rw [s6 _ _ (s5 _ _ (bu3 _ _ cb e))] at np2
            cases np2
      · by_cases ci' : i < r
        · rw [List.getElem?_append_left (by omega)] at e1
          rw [List.getElem?_append_left (by simp; omega)] at e2
          exact ZM.sqT_sm (s6.trans s7) (hcs i c rr e1 e2)
        · rw [List.getElem?_append_right (by omega), List.getElem?_drop] at e1
          rw [List.getElem?_append_right (by simp; omega), List.getElem?_drop] at e2
          rw [lcs] at e1
          rw [List.length_map, List.length_range] at e2
          exact ZM.sqT_sm (s6.trans s7) (hrow _ c rr e1 e2)
      · rcases List.mem_append.mp hc with h | h
        · obtain ⟨k, _, rfl⟩ := List.mem_map.mp h
          refine ⟨by simp [unitC], fun v hv => ?_⟩
          obtain ⟨j, _, rfl⟩ := List.mem_map.mp hv
          split <;> omega
        · exact hS c (List.mem_of_mem_drop h)
      · have k1 := List.all_eq_true.mp range_in n (List.mem_range.mpr (by omega))
        have k1 := of_decide_eq_true (List.all_eq_true.mp k1 r (List.mem_range.mpr (by omega)))
        refine ⟨List.range r, k1, ?_⟩
        have k2 := of_decide_eq_true (List.all_eq_true.mp unit_wd r (List.mem_range.mpr (by omega)))
        unfold bxW
        rw [show (List.range r).map (fun j => ((List.range r).map (unitC r) ++ cols.drop r).getD j []) = (List.range r).map (unitC r) from List.map_congr_left fun j hj => by
          have jr := List.mem_range.mp hj
          rw [List.getD_eq_getElem?_getD, List.getElem?_append_left (by simp; exact jr), List.getElem?_map, List.getElem?_range jr]
          rfl, k2]
        decide
  · refine if_f rfl ⟨_, rfl, q D H3 cols bu3 B3 nD hT3 lc hS ?_⟩
    obtain ⟨x, hx, hx2⟩ := List.any_eq_true.mp cc
    obtain ⟨s, hs, rfl⟩ := List.mem_map.mp hx
    rw [← ess] at hs
    unfold bxL at hs
    obtain ⟨lot, hlot, rfl⟩ := List.mem_map.mp hs
    rw [lc] at hlot
    refine ⟨lot, hlot, fun z => ?_⟩
    rw [z] at hx2
    exact absurd hx2 (by decide)
end
end K14

/-! Things exchanged, and their complements. -/
namespace COX
def ct (n : Nat) (f : Nat → Bool) : Nat := (List.range n).countP f
theorem ct_succ (n : Nat) (f : Nat → Bool) : ct (n + 1) f = ct n f + if f n = true then 1 else 0 := by
  unfold ct
  rw [List.range_succ, List.countP_append]
  simp [List.countP_cons]
theorem ct_congr {n : Nat} {f g : Nat → Bool} (h : ∀ x, x < n → f x = g x) : ct n f = ct n g := by
  induction n with
  | zero => rfl
  | succ n ih =>
    rw [ct_succ, ct_succ, ih fun x hx => h x (by omega), h n (by omega)]
theorem ct_split (n : Nat) (f g : Nat → Bool) : ct n f = ct n (fun x => f x && g x) + ct n (fun x => f x && !g x) := by
  induction n with
  | zero => rfl
  | succ n ih =>
    rw [ct_succ, ct_succ, ct_succ, ih]
    cases f n <;> cases g n <;> simp <;> omega
theorem ct_not (n : Nat) (f : Nat → Bool) : ct n f + ct n (fun x => !f x) = n := by
  induction n with
  | zero => rfl
  | succ n ih =>
    rw [ct_succ, ct_succ]
    cases f n <;> simp <;> omega
theorem ct_at {n w : Nat} {f : Nat → Bool} (hw : w < n) (h : f w = true) : ct n f = ct n (fun x => f x && x != w) + 1 := by
  induction n with
  | zero => omega
  | succ n ih =>
    rw [ct_succ, ct_succ]
    by_cases c : w = n
    · subst c
      rw [ct_congr (f := fun x => f x && x != w) (g := f) fun x hx => by simp; intro _; omega]
      simp [h]
    · rw [ih (by omega)]
      have : (n != w) = true := by simp; omega
      cases f n <;> simp [this] <;> omega
theorem ct_pos {n : Nat} {f : Nat → Bool} (h : 0 < ct n f) : ∃ x, x < n ∧ f x = true := by
  unfold ct at h
  obtain ⟨x, hx, h2⟩ := List.countP_pos_iff.mp h
  exact ⟨x, List.mem_range.mp hx, h2⟩
theorem ct_one {n w x : Nat} {f : Nat → Bool} (h : ct n f = 1) (hw : w < n) (hx : x < n) (fw : f w = true) (fx : f x = true) : x = w := by
  have := ct_at hw fw
  by_cases c : x = w
  · exact c
  · have h2 := ct_at (f := fun x => f x && x != w) hx (by simp [fx, c])
    omega
/-- t out, w in -/
def mv (f : Nat → Bool) (t w : Nat) : Nat → Bool := fun x => (f x && x != t) || x == w
theorem ct_mv {n t w : Nat} {f : Nat → Bool} (ht : t < n) (hw : w < n) (ft : f t = true) (fw : f w = false) : ct n (mv f t w) = ct n f := by
  have h1 := ct_at ht ft
  have h2 := ct_at (f := mv f t w) hw (by simp [mv])
  rw [h1, h2, ct_congr (f := fun x => mv f t w x && x != w) (g := fun x => f x && x != t) fun x hx => ?_]
  show (((f x && x != t) || x == w) && x != w) = (f x && x != t)
  by_cases c : x = w
  · subst c; simp [fw]
  · have c1 : (x == w) = false := by simp [c]
    have c2 : (x != w) = true := by simp [c]
    rw [c1, c2, Bool.or_false, Bool.and_true]
def Ext (n : Nat) (B : (Nat → Bool) → Prop) : Prop := ∀ f g, (∀ x, x < n → f x = g x) → B f → B g
def Exc (n r : Nat) (B : (Nat → Bool) → Prop) : Prop := ∀ f g, ct n f = r → ct n g = r → B f → B g → ∀ t, t < n → f t = true → g t = false → ∃ w, w < n ∧ g w = true ∧ f w = false ∧ B (mv f t w)
theorem co {n r : Nat} {B : (Nat → Bool) → Prop} (ext : Ext n B) (ex : Exc n r B) {f g : Nat → Bool} (hf : ct n f = r) (Bf : B f) {t : Nat} (tn : t < n) (ft : f t = false) :
    ∀ (k : Nat) (d : Nat → Bool), ct n (fun x => d x && !f x) = k → ct n d = r → B d → d t = true → (∀ x, x < n → f x = true → g x = true → d x = true) → ∃ w, w < n ∧ f w = true ∧ g w = false ∧ B (mv f w t) := by
  intro k
  induction k with
  | zero =>
    intro d hk hd Bd dt _
    have := ct_at (f := fun x => d x && !f x) tn (by simp [dt, ft])
    omega
  | succ k ih =>
    intro d hk hd Bd dt hfg
    by_cases hz : ∃ z, z < n ∧ z ≠ t ∧ d z = true ∧ f z = false
    · obtain ⟨z, zn, zt, dz, fz⟩ := hz
      obtain ⟨u, un, fu, du, Bu⟩ := ex d f hd hf Bd Bf z zn dz fz
      refine ih (mv d z u) ?_ (by rw [ct_mv zn un dz du, hd]) Bu (by unfold mv; simp [dt]; left; exact fun e => zt e.symm) fun x xn fx gx => ?_
      · have h1 := ct_at (f := fun x => d x && !f x) zn (by simp [dz, fz])
        rw [ct_congr (g := fun x => (d x && !f x) && x != z) fun x hx => ?_]
        · omega
        · show (((d x && x != z) || x == u) && !f x) = ((d x && !f x) && x != z)
          by_cases c : x = u
          · subst c; simp [fu]
          · have c1 : (x == u) = false := by simp [c]
            rw [c1]
            cases d x <;> cases f x <;> simp
      · unfold mv
        have dx := hfg x xn fx gx
        have xz : x ≠ z := fun e => by rw [e, fz] at fx; cases fx
        simp [dx, xz]
    · have hz' : ∀ z, z < n → d z = true → f z = false → z = t := fun z zn dz fz => Classical.byContradiction fun c => hz ⟨z, zn, c, dz, fz⟩
      have e1 : ct n (fun x => d x && !f x) = 1 := by
        have h1 := ct_at (f := fun x => d x && !f x) tn (by simp [dt, ft])
        have h2 : ct n (fun x => (d x && !f x) && x != t) = 0 := by
          refine Nat.eq_zero_of_not_pos fun p => ?_
          obtain ⟨x, xn, hx⟩ := ct_pos p
          simp at hx
          exact hx.2 (hz' x xn hx.1.1 hx.1.2)
        omega
      have s1 := ct_split n d f
      have s2 := ct_split n f d
      have s3 : ct n (fun x => d x && f x) = ct n (fun x => f x && d x) := ct_congr fun x _ => Bool.and_comm _ _
      have e2 : ct n (fun x => f x && !d x) = 1 := by omega
      obtain ⟨w, wn, hw⟩ := ct_pos (n := n) (f := fun x => f x && !d x) (by omega)
      simp at hw
      refine ⟨w, wn, hw.1, ?_, ext d _ (fun x xn => ?_) Bd⟩
      · cases gw : g w with
        | false => rfl
        | true =>
          have := hfg w wn hw.1 gw
          rw [hw.2] at this
          cases this
      · unfold mv
        cases dx : d x with
        | true =>
          cases fx : f x with
          | true =>
            have : x ≠ w := fun e => by rw [e, hw.2] at dx; cases dx
            simp [this]
          | false => simp [hz' x xn dx fx]
        | false =>
          have xt : x ≠ t := fun e => by rw [e, dt] at dx; cases dx
          cases fx : f x with
          | false => simp [xt]
          | true =>
            have := ct_one e2 wn xn (by simp [hw]) (by simp [fx, dx])
            simp [this, xt]
            exact fun e => xt (by rw [this, e])
/-- what is exchanged is exchanged among complements -/
theorem dual {n r : Nat} (hr : r ≤ n) {B : (Nat → Bool) → Prop} (ext : Ext n B) (ex : Exc n r B) : Exc n (n - r) (fun f => B fun x => !f x) := by
  intro f g hf hg Bf Bg t tn ft gt
  have cf := ct_not n f
  have cg := ct_not n g
  obtain ⟨w, wn, fw, gw, Bw⟩ := co (f := fun x => !f x) (g := fun x => !g x) ext ex (by omega) Bf tn (by simp [ft]) _ (fun x => !g x) rfl (by omega) Bg (by simp [gt]) (fun x _ _ h => h)
  simp at fw gw
  refine ⟨w, wn, gw, fw, ext _ _ (fun x xn => ?_) Bw⟩
  have tw : t ≠ w := fun e => by rw [e, fw] at ft; cases ft
  unfold mv
  by_cases c : x = t
  · subst c; simp [ft, tw]
  · by_cases c2 : x = w
    · subst c2; simp [c]
    · have c1 : (x == t) = false := by simp [c]
      have c3 : (x != w) = true := by simp [c2]
      have c4 : (x != t) = true := by simp [c]
      have c5 : (x == w) = false := by simp [c2]
      rw [c1, c3, c4, c5]
      simp
end COX

set_option maxHeartbeats 8000000
/-! A house's dual is a house. -/
namespace K14
open PySem PySem.Spec PyProof.Rows L2 COX
def lotF (n : Nat) (f : Nat → Bool) : List Nat := (List.range n).filter f
theorem lotF_len (n : Nat) (f : Nat → Bool) : (lotF n f).length = ct n f := by
  unfold lotF ct
  rw [List.countP_eq_length_filter]
theorem lotF_rise (n : Nat) (f : Nat → Bool) : (lotF n f).Pairwise (· < ·) := List.pairwise_lt_range.filter _
theorem lotF_mem {n x : Nat} {f : Nat → Bool} : x ∈ lotF n f ↔ x < n ∧ f x = true := by
  unfold lotF
  rw [List.mem_filter, List.mem_range]
theorem lotF_in {n : Nat} (hn : n ≤ 7) (f : Nat → Bool) : lotF n f ∈ CB.combs n (ct n f) := by
  have c7 : ct n f ≤ 8 := by
    have := ct_not n f
    omega
  rw [← LL.gen_is n hn _ c7]
  exact rise_gen n _ _ (lotF_len n f) (lotF_rise n f) fun x hx => (lotF_mem.mp hx).1
theorem lot_ch : ((List.range 8).all fun n => (List.range (n + 1)).all fun r => (CB.combs n r).all fun c => decide (lotF n (fun x => c.contains x) = c)) = true := by decide +kernel
theorem lot_char {n r : Nat} (hn : n ≤ 7) (hr : r ≤ n) {c : List Nat} (hc : c ∈ CB.combs n r) : lotF n (fun x => c.contains x) = c := by
  have h1 := List.all_eq_true.mp lot_ch n (List.mem_range.mpr (by omega))
  exact of_decide_eq_true (List.all_eq_true.mp (List.all_eq_true.mp h1 r (List.mem_range.mpr (by omega))) c hc)
theorem lot_cnt {n r : Nat} (hn : n ≤ 7) (hr : r ≤ n) {c : List Nat} (hc : c ∈ CB.combs n r) : ct n (fun x => c.contains x) = r := by
  rw [← lotF_len, lot_char hn hr hc, (combs_ok hn (by omega) hc).1]
theorem lotF_congr {n : Nat} {f g : Nat → Bool} (h : ∀ x, x < n → f x = g x) : lotF n f = lotF n g := by
  unfold lotF
  exact List.filter_congr fun x hx => h x (List.mem_range.mp hx)
theorem rest_lot (n : Nat) (f : Nat → Bool) : restF n (lotF n f) = lotF n fun x => !f x := by
  unfold restF
  refine List.filter_congr fun x hx => ?_
  have e : (lotF n f).contains x = f x := by
    rw [Bool.eq_iff_iff, List.contains_iff_mem, lotF_mem]
    exact ⟨fun h => h.2, fun h => ⟨List.mem_range.mp hx, h⟩⟩
  rw [e]
theorem ci_nd {c : List Nat} (h : c.Pairwise (· < ·)) : (ci c).Nodup := by
  unfold ci
  exact List.Pairwise.map _ (fun a b h e => by omega) h
theorem ci_ri {c : List Nat} (h : c.Pairwise (· < ·)) : (ci c).Pairwise (· ≤ ·) := by
  unfold ci
  exact List.Pairwise.map _ (fun a b h => by omega) h
theorem ci_mem {c : List Nat} {x : Int} : x ∈ ci c ↔ ∃ k ∈ c, (k : Int) = x := by
  unfold ci
  rw [List.mem_map]
theorem srt_mv {n t w : Nat} {f : Nat → Bool} (ht : t < n) (hw : w < n) (ft : f t = true) (fw : f w = false) : srt (withM (lotF n f) t w) = ci (lotF n (mv f t w)) := by
  refine (srt_is ?_ (ci_ri (lotF_rise _ _))).symm
  have nd2 : (withM (lotF n f) t w).Nodup := by
    unfold withM
    refine List.nodup_append.mpr ⟨ci_nd ((lotF_rise n f).filter _), by simp, fun x hx y hy e => ?_⟩
    obtain ⟨k, hk, rfl⟩ := ci_mem.mp hx
    rw [List.mem_singleton.mp hy] at e
    have := (lotF_mem.mp (List.mem_filter.mp hk).1).2
    rw [show k = w by omega, fw] at this
    cases this
  refine (List.perm_ext_iff_of_nodup (ci_nd (lotF_rise _ _)) nd2).mpr fun x => ?_
  unfold withM
  rw [List.mem_append, ci_mem, ci_mem]
  constructor
  · rintro ⟨k, hk, rfl⟩
    obtain ⟨kn, hk⟩ := lotF_mem.mp hk
    unfold mv at hk
    rw [Bool.or_eq_true, Bool.and_eq_true] at hk
    rcases hk with ⟨h1, h2⟩ | h
    · exact .inl ⟨k, List.mem_filter.mpr ⟨lotF_mem.mpr ⟨kn, h1⟩, h2⟩, rfl⟩
    · right
      rw [eq_of_beq h]
      exact List.mem_singleton.mpr rfl
  · rintro (⟨k, hk, rfl⟩ | h)
    · obtain ⟨h1, h2⟩ := List.mem_filter.mp hk
      obtain ⟨kn, h1⟩ := lotF_mem.mp h1
      exact ⟨k, lotF_mem.mpr ⟨kn, by unfold mv; rw [h1, h2]; rfl⟩, rfl⟩
    · exact ⟨w, lotF_mem.mpr ⟨hw, by unfold mv; simp⟩, (List.mem_singleton.mp h).symm⟩
/-- what is a base -/
def Bp (n r : Nat) (ss : List Int) (f : Nat → Bool) : Prop := gT n r ss (ci (lotF n f)) ≠ 0
theorem bp_ext (n r : Nat) (ss : List Int) : Ext n (Bp n r ss) := fun f g h b => by
  unfold Bp
  rw [← lotF_congr h]
  exact b
theorem base_at {n r : Nat} {ss : List Int} (hn : n ≤ 7) (hr : r ≤ n) (hl : ss.length = (CB.combs n r).length) (c : List Nat) : c ∈ basesF n r ss ↔ gT n r ss (ci c) ≠ 0 := by
  have h := base_iff hn hr hl (ci c)
  rw [Bool.eq_iff_iff, List.contains_iff_mem, Bool.not_eq_true', decide_eq_false_iff_not] at h
  rw [Ne, ← h, List.mem_map]
  exact ⟨fun g => ⟨c, g, rfl⟩, fun ⟨c', g, e⟩ => ci_inj e ▸ g⟩
theorem ex_iff {n r : Nat} {ss : List Int} (hn : n ≤ 7) (hr : r ≤ n) (hl : ss.length = (CB.combs n r).length) : exF n (basesF n r ss) = none ↔ Exc n r (Bp n r ss) := by
  rw [← lex_ex hn hr hl]
  have sub := basesF_sub (n := n) (r := r) hl
  unfold lexF
  simp only [List.findSome?_eq_none_iff, List.find?_eq_none]
  constructor
  · intro h f g hf hg Bf Bg t tn ft gt
    have h1 := h _ ((base_at hn hr hl _).mpr Bf) _ ((base_at hn hr hl _).mpr Bg) t (lotF_mem.mpr ⟨tn, ft⟩)
    have ht : (lotF n g).contains t = false := by
      rw [Bool.eq_false_iff, Ne, List.contains_iff_mem, lotF_mem]
      rintro ⟨_, h⟩
      rw [gt] at h
      cases h
    rw [ht] at h1
    simp at h1
    unfold fitsF at h1
    obtain ⟨w, hw, h2⟩ := List.any_eq_true.mp h1
    obtain ⟨wn, gw⟩ := lotF_mem.mp hw
    rw [Bool.and_eq_true, Bool.not_eq_true', Bool.not_eq_true', decide_eq_false_iff_not] at h2
    have fw : f w = false := by
      cases e : f w with
      | false => rfl
      | true => rw [List.contains_iff_mem.mpr (lotF_mem.mpr ⟨wn, e⟩)] at h2; exact absurd h2.1 (by decide)
    refine ⟨w, wn, gw, fw, ?_⟩
    have h3 := h2.2
    rw [srt_mv tn wn ft fw] at h3
    exact h3
  · intro h one h1 other h2 t ht
    have k1 := sub.subset h1
    have k2 := sub.subset h2
    have e1 := lot_char hn hr k1
    have e2 := lot_char hn hr k2
    have tn := (combs_ok hn (by omega) k1).2 t ht
    cases ho : other.contains t with
    | true => simp
    | false =>
      obtain ⟨w, wn, gw, fw, Bw⟩ := h (fun x => one.contains x) (fun x => other.contains x) (lot_cnt hn hr k1) (lot_cnt hn hr k2) (by unfold Bp; rw [e1]; exact (base_at hn hr hl _).mp h1) (by unfold Bp; rw [e2]; exact (base_at hn hr hl _).mp h2) t tn (List.contains_iff_mem.mpr ht) ho
      have hf : fitsF (gT n r ss) one other t = true := by
        unfold fitsF
        refine List.any_eq_true.mpr ⟨w, List.contains_iff_mem.mp gw, ?_⟩
        rw [Bool.and_eq_true, Bool.not_eq_true', Bool.not_eq_true', decide_eq_false_iff_not]
        refine ⟨fw, ?_⟩
        have h3 := srt_mv (f := fun x => one.contains x) tn wn (List.contains_iff_mem.mpr ht) fw
        rw [e1] at h3
        rw [h3]
        exact Bw
      rw [hf]
      simp
theorem gT_ix {n r : Nat} {ss : List Int} (hn : n ≤ 7) (hr : r ≤ n) (hl : ss.length = (CB.combs n r).length) {i : Nat} {c : List Nat} {s : Int} (h1 : (CB.combs n r)[i]? = some c) (h2 : ss[i]? = some s) : gT n r ss (ci c) = s := by
  have h := valV_tab hn hr hl h1 h2
  have g := gT_at hn hr hl (List.mem_of_getElem? h1)
  rw [h] at g
  exact (V.int.inj (Option.some.inj g)).symm
theorem gT_out {n r : Nat} {ss : List Int} {ms : List Int} (h : ∀ c ∈ CB.combs n r, ci c ≠ ms) : gT n r ss ms = 0 := by
  unfold gT
  cases e : valV (tab n r ss) (keyI ms) with
  | none => rfl
  | some v =>
    exfalso
    unfold valV at e
    obtain ⟨p, hp, ep⟩ := Option.map_eq_some_iff.mp e
    have hm := List.mem_of_find?_eq_some hp
    have hk0 := List.find?_some hp
    have hk : p.1 = keyI ms := of_decide_eq_true hk0
    rw [tab_zip] at hm
    obtain ⟨⟨c, sn⟩, hz, e2⟩ := List.mem_map.mp hm
    subst e2
    have ek : key c = keyI ms := hk
    rw [key_I] at ek
    exact h c (List.of_mem_zip hz).1 (keyI_inj ek)
theorem du_at {n r : Nat} {ss : List Int} (hn : n ≤ 7) (hr : r ≤ n) {c : List Nat} (hc : c ∈ CB.combs n (n - r)) : gT n (n - r) (duL n r ss) (ci c) = duV n r ss c := by
  obtain ⟨i, hi⟩ := List.getElem?_of_mem hc
  exact gT_ix hn (by omega) (duL_len n r ss) hi (by unfold duL; rw [List.getElem?_map, hi]; rfl)
end K14

set_option maxHeartbeats 8000000
/-! A house's dual is a house: the three products. -/
namespace K14
open PySem PySem.Spec PyProof.Rows L2 COX
def sideX (l : List Nat) (i j : Nat) : List Nat := (srt (ci l ++ [(i : Int), (j : Int)])).map Int.toNat
def eps (n : Nat) (l m : List Nat) (i j k h : Nat) : Int := sg (ci l ++ [(i : Int), (j : Int)]) * sg (ci (sideX l i j) ++ ci (restF n (sideX l i j))) * sg (ci m ++ [(k : Int), (h : Int)])
def prOk (n s : Nat) (l m : List Nat) (i j k h : Nat) : Bool := decide (ci (sideX l i j) = srt (ci l ++ [(i : Int), (j : Int)])) && decide (sideX l i j ∈ CB.combs n s) && decide (ci (restF n (sideX l i j)) = srt (ci m ++ [(k : Int), (h : Int)])) && decide (sg (ci m ++ [(k : Int), (h : Int)]) * sg (ci m ++ [(k : Int), (h : Int)]) = 1)
def two (n s : Nat) (l m : List Nat) (i j k h : Nat) : Bool := prOk n s l m i j k h && prOk n s l m k h i j && decide (eps n l m i j k h * eps n l m k h i j = 1)
def fourOk (n r : Nat) (l four : List Nat) : Bool := match four with
  | [b, c, d, e] => two n (n - r) l (restF n (l ++ four)) b c d e && two n (n - r) l (restF n (l ++ four)) b d c e && two n (n - r) l (restF n (l ++ four)) b e c d && decide (restF n (l ++ four) ∈ CB.combs n (r - 2)) && decide (four ∈ fours (restF n (restF n (l ++ four))))
  | _ => false
theorem four_all : ((List.range 8).all fun n => (List.range (n + 1)).all fun r => (decide (r < 2) || decide (n - r < 2)) || (CB.combs n (n - r - 2)).all fun l => (fours (restF n l)).all fun four => fourOk n r l four) = true := by decide +kernel
theorem few_all : ((List.range 8).all fun n => (List.range (n + 1)).all fun r => decide (2 ≤ r) || (CB.combs n (n - r - 2)).all fun l => decide (fours (restF n l) = []) || decide (n - r < 2)) = true := by decide +kernel
theorem sgn_all : ((List.range 8).all fun n => (List.range (n + 1)).all fun r => (CB.combs n r).all fun c => decide (sg (ci (restF n c) ++ ci (restF n (restF n c))) * sg (ci c ++ ci (restF n c)) = (if r * (n - r) % 2 = 0 then 1 else -1))) = true := by decide +kernel
end K14

set_option maxHeartbeats 8000000
/-! A table is a house just where its dual is. -/
namespace K14
open PySem PySem.Spec PyProof.Rows L2 COX
section
variable {n r : Nat} {ss : List Int}
theorem pr_eq (hn : n ≤ 7) (hr : r ≤ n) {l m : List Nat} {i j k h : Nat} (ok : prOk n (n - r) l m i j k h = true) : readI (gT n (n - r) (duL n r ss)) (ci l ++ [(i : Int), (j : Int)]) = eps n l m i j k h * readI (gT n r ss) (ci m ++ [(k : Int), (h : Int)]) := by
  unfold prOk at ok
  simp only [Bool.and_eq_true, decide_eq_true_eq] at ok
  obtain ⟨⟨⟨h1, h2⟩, h3⟩, h4⟩ := ok
  unfold readI eps
  rw [← h1, du_at hn hr h2, ← h3]
  unfold duV
  have e : sg (ci m ++ [(k : Int), (h : Int)]) * (sg (ci m ++ [(k : Int), (h : Int)]) * gT n r ss (ci (restF n (sideX l i j)))) = gT n r ss (ci (restF n (sideX l i j))) := by
    rw [← Int.mul_assoc, h4, Int.one_mul]
  conv => rhs; rw [Int.mul_assoc, e]
  rw [Int.mul_comm (gT n r ss _) (sg _), ← Int.mul_assoc]
theorem prod_eq (hn : n ≤ 7) (hr : r ≤ n) {l m : List Nat} {i j k h : Nat} (ok : two n (n - r) l m i j k h = true) : prodF (gT n (n - r) (duL n r ss)) (ci l) i j k h = prodF (gT n r ss) (ci m) i j k h := by
  unfold two at ok
  simp only [Bool.and_eq_true, decide_eq_true_eq] at ok
  obtain ⟨⟨h1, h2⟩, h3⟩ := ok
  unfold prodF
  rw [pr_eq hn hr h1, pr_eq hn hr h2]
  rw [show ∀ a b c d : Int, a * b * (c * d) = (a * c) * (d * b) from fun a b c d => by
    rw [Int.mul_assoc, Int.mul_assoc, ← Int.mul_assoc b, Int.mul_comm b c, Int.mul_assoc c, Int.mul_comm b d], h3, Int.one_mul]
theorem hold_eq (hn : n ≤ 7) (hr : r ≤ n) {l four : List Nat} (ok : fourOk n r l four = true) : holdL (gT n (n - r) (duL n r ss)) (ci l) four = holdL (gT n r ss) (ci (restF n (l ++ four))) four ∧ restF n (l ++ four) ∈ CB.combs n (r - 2) ∧ four ∈ fours (restF n (restF n (l ++ four))) := by
  unfold fourOk at ok
  split at ok
  · rename_i b c d e
    simp only [Bool.and_eq_true, decide_eq_true_eq] at ok
    obtain ⟨⟨⟨⟨h1, h2⟩, h3⟩, h4⟩, h5⟩ := ok
    refine ⟨?_, h4, h5⟩
    show holdF _ _ b c d e = holdF _ _ b c d e
    unfold holdF threeL
    rw [prod_eq hn hr h1, prod_eq hn hr h2, prod_eq hn hr h3]
  · cases ok
theorem thr_none (n r : Nat) (g : List Int → Int) : thrF n r g = none ↔ r < 2 ∨ ∀ lot ∈ CB.combs n (r - 2), ∀ four ∈ fours (restF n lot), holdL g (ci lot) four = true := by
  unfold thrF
  by_cases c : r < 2
  · simp [c]
  · rw [if_neg c]
    simp only [List.findSome?_eq_none_iff, List.find?_eq_none, Option.map_eq_none_iff, c, false_or]
    refine ⟨fun h lot hl four hf => ?_, fun h lot hl four hf => ?_⟩
    · have := h lot hl four hf
      simpa using this
    · simp [h lot hl four hf]
theorem thr_dual (hn : n ≤ 7) (hr : r ≤ n) (h : thrF n r (gT n r ss) = none) : thrF n (n - r) (gT n (n - r) (duL n r ss)) = none := by
  rw [thr_none] at h ⊢
  by_cases c2 : n - r < 2
  · exact .inl c2
  right
  intro l hl four hf
  have a1 := List.all_eq_true.mp four_all n (List.mem_range.mpr (by omega))
  have a1 := List.all_eq_true.mp a1 r (List.mem_range.mpr (by omega))
  have b1 := List.all_eq_true.mp few_all n (List.mem_range.mpr (by omega))
  have b1 := List.all_eq_true.mp b1 r (List.mem_range.mpr (by omega))
  by_cases c1 : r < 2
  · exfalso
    rw [Bool.or_eq_true, decide_eq_true_eq] at b1
    rcases b1 with b1 | b1
    · omega
    · have := List.all_eq_true.mp b1 l hl
      rw [Bool.or_eq_true, decide_eq_true_eq, decide_eq_true_eq] at this
      rcases this with e | e
      · rw [e] at hf; cases hf
      · omega
  · rw [Bool.or_eq_true, Bool.or_eq_true, decide_eq_true_eq, decide_eq_true_eq] at a1
    rcases a1 with (a1 | a1) | a1
    · omega
    · omega
    · obtain ⟨e, m1, m2⟩ := hold_eq (ss := ss) hn hr (List.all_eq_true.mp (List.all_eq_true.mp a1 l hl) four hf)
      rw [e]
      rcases h with h | h
      · omega
      · exact h _ m1 _ m2
theorem bp_dual (hn : n ≤ 7) (hr : r ≤ n) (f : Nat → Bool) (hf : ct n f = n - r) : Bp n (n - r) (duL n r ss) f ↔ Bp n r ss fun x => !f x := by
  unfold Bp
  have hc := lotF_in hn f
  rw [hf] at hc
  rw [du_at hn hr hc]
  unfold duV
  rw [rest_lot]
  have k := ct_not n f
  have hs : sg (ci (lotF n f) ++ ci (lotF n fun x => !f x)) ≠ 0 := by
    have a := List.all_eq_true.mp sgn_all n (List.mem_range.mpr (by omega))
    have a := List.all_eq_true.mp a (n - r) (List.mem_range.mpr (by omega))
    have a := of_decide_eq_true (List.all_eq_true.mp a _ hc)
    rw [rest_lot] at a
    intro z
    rw [z, Int.mul_zero] at a
    split at a <;> omega
  exact ⟨fun h z => h (by rw [z, Int.zero_mul]), fun h z => (Int.mul_eq_zero.mp z).elim h hs⟩
theorem house_bp (hn : n ≤ 7) (hr : r ≤ n) (hl : ss.length = (CB.combs n r).length) : houseF n r ss = true ↔ (∃ f, ct n f = r ∧ Bp n r ss f) ∧ Exc n r (Bp n r ss) ∧ thrF n r (gT n r ss) = none := by
  rw [house_iff, ex_iff hn hr hl]
  refine and_congr ?_ Iff.rfl
  have sub := basesF_sub (n := n) (r := r) hl
  constructor
  · intro h
    obtain ⟨c, hc⟩ := List.exists_mem_of_ne_nil _ h
    have k := sub.subset hc
    exact ⟨_, lot_cnt hn hr k, by unfold Bp; rw [lot_char hn hr k]; exact (base_at hn hr hl c).mp hc⟩
  · rintro ⟨f, hf, b⟩ e
    have := (base_at hn hr hl _).mpr b
    rw [e] at this
    cases this
theorem exc_congr {B B' : (Nat → Bool) → Prop} (h : ∀ f, ct n f = r → (B f ↔ B' f)) (e : Exc n r B) : Exc n r B' := fun f g hf hg Bf Bg t tn ft gt => by
  obtain ⟨w, wn, gw, fw, b⟩ := e f g hf hg ((h f hf).mpr Bf) ((h g hg).mpr Bg) t tn ft gt
  exact ⟨w, wn, gw, fw, (h _ (by rw [ct_mv tn wn ft fw, hf])).mp b⟩
theorem dual_imp (hn : n ≤ 7) (hr : r ≤ n) (hl : ss.length = (CB.combs n r).length) (h : houseF n r ss = true) : houseF n (n - r) (duL n r ss) = true := by
  obtain ⟨⟨f, hf, b⟩, ex, th⟩ := (house_bp hn hr hl).mp h
  refine (house_bp hn (by omega) (duL_len n r ss)).mpr ⟨⟨fun x => !f x, by have := ct_not n f; omega, ?_⟩, ?_, thr_dual hn hr th⟩
  · rw [bp_dual hn hr _ (by have := ct_not n f; omega)]
    refine bp_ext n r ss _ _ (fun x _ => ?_) b
    simp
  · exact exc_congr (fun f hf => (bp_dual hn hr f hf).symm) (COX.dual hr (bp_ext n r ss) ex)
theorem gT_scale (hn : n ≤ 7) (hr : r ≤ n) (hl : ss.length = (CB.combs n r).length) (c : Int) (ms : List Int) : gT n r (ss.map fun x => x * c) ms = gT n r ss ms * c := by
  by_cases h : ∃ l ∈ CB.combs n r, ci l = ms
  · obtain ⟨l, hm, rfl⟩ := h
    obtain ⟨i, hi⟩ := List.getElem?_of_mem hm
    have il := (List.getElem?_eq_some_iff.mp hi).1
    have hs := List.getElem?_eq_getElem (show i < ss.length by omega)
    rw [gT_ix hn hr hl hi hs, gT_ix (s := (ss[i]'(by omega)) * c) hn hr (by simp [hl]) hi (by rw [List.getElem?_map, hs]; rfl)]
  · have h' : ∀ l ∈ CB.combs n r, ci l ≠ ms := fun l hl e => h ⟨l, hl, e⟩
    rw [gT_out h', gT_out h', Int.zero_mul]
theorem house_scale (hn : n ≤ 7) (hr : r ≤ n) (hl : ss.length = (CB.combs n r).length) {c : Int} (hc : c * c = 1) : houseF n r (ss.map fun x => x * c) = houseF n r ss := by
  have c0 : c ≠ 0 := fun z => by rw [z] at hc; omega
  have hb : ∀ f, Bp n r (ss.map fun x => x * c) f ↔ Bp n r ss f := fun f => by
    unfold Bp
    rw [gT_scale hn hr hl]
    exact ⟨fun h z => h (by rw [z, Int.zero_mul]), fun h z => (Int.mul_eq_zero.mp z).elim h c0⟩
  have hp : ∀ ns a b d e, prodF (gT n r (ss.map fun x => x * c)) ns a b d e = prodF (gT n r ss) ns a b d e := fun ns a b d e => by
    unfold prodF readI
    rw [gT_scale hn hr hl, gT_scale hn hr hl]
    rw [show ∀ p q u v : Int, p * (q * c) * (u * (v * c)) = p * q * (u * v) * (c * c) from fun p q u v => by
      rw [← Int.mul_assoc p, ← Int.mul_assoc u, Int.mul_assoc (p * q), Int.mul_comm c, Int.mul_assoc (u * v), ← Int.mul_assoc], hc, Int.mul_one]
  have hh : ∀ ns four, holdL (gT n r (ss.map fun x => x * c)) ns four = holdL (gT n r ss) ns four := fun ns four => by
    unfold holdL
    split
    · unfold holdF threeL
      rw [hp, hp, hp]
    · rfl
  have ht : thrF n r (gT n r (ss.map fun x => x * c)) = none ↔ thrF n r (gT n r ss) = none := by
    rw [thr_none, thr_none]
    simp only [hh]
  rw [Bool.eq_iff_iff, house_bp hn hr (by simp [hl]), house_bp hn hr hl, ht]
  refine and_congr ?_ (and_congr ?_ Iff.rfl)
  · exact ⟨fun ⟨f, a, b⟩ => ⟨f, a, (hb f).mp b⟩, fun ⟨f, a, b⟩ => ⟨f, a, (hb f).mpr b⟩⟩
  · exact ⟨exc_congr fun f _ => hb f, exc_congr fun f _ => (hb f).symm⟩
theorem house_norm (hn : n ≤ 7) (hr : r ≤ n) (hl : ss.length = (CB.combs n r).length) (ha : ss.all isS = true) : houseF n r (norm ss) = houseF n r ss := by
  unfold norm
  split
  · rfl
  · rename_i h
    rcases fst_isS ha with e | e | e
    · exact absurd e h
    · rw [e]; exact house_scale hn hr hl (by omega)
    · rw [e]; exact house_scale hn hr hl (by omega)
theorem dudu (hn : n ≤ 7) (hr : r ≤ n) (hl : ss.length = (CB.combs n r).length) : duL n (n - r) (duL n r ss) = ss.map fun x => x * (if r * (n - r) % 2 = 0 then 1 else -1) := by
  have er : n - (n - r) = r := by omega
  refine List.ext_getElem? fun i => ?_
  unfold duL
  rw [List.getElem?_map, List.getElem?_map, er]
  by_cases il : i < (CB.combs n r).length
  · have hi := List.getElem?_eq_getElem il
    have hs := List.getElem?_eq_getElem (show i < ss.length by omega)
    rw [hi, hs]
    show some (duV n (n - r) (duL n r ss) _) = some _
    congr 1
    have hm := List.getElem_mem il
    generalize (CB.combs n r)[i] = c at hi hm
    have hg := gT_ix hn hr hl hi hs
    unfold duV
    have e1 := lot_char hn hr hm
    have hrest : restF n c ∈ CB.combs n (n - r) := by
      rw [← e1, rest_lot]
      have k := ct_not n (fun x => c.contains x)
      have k2 := lot_cnt hn hr hm
      have := lotF_in hn (fun x => !c.contains x)
      rw [show ct n (fun x => !c.contains x) = n - r by omega] at this
      exact this
    rw [du_at hn hr hrest]
    unfold duV
    have e2 : restF n (restF n c) = c := by
      conv => lhs; rw [← e1]
      rw [rest_lot, rest_lot]
      conv => rhs; rw [← e1]
      exact lotF_congr fun x _ => by simp
    have a := List.all_eq_true.mp sgn_all n (List.mem_range.mpr (by omega))
    have a := List.all_eq_true.mp a r (List.mem_range.mpr (by omega))
    have a := of_decide_eq_true (List.all_eq_true.mp a _ hm)
    rw [e2] at a ⊢
    rw [hg, Int.mul_assoc, a]
  · rw [List.getElem?_eq_none (by omega), List.getElem?_eq_none (by omega)]
    rfl
theorem house_dual (hn : n ≤ 7) (hr : r ≤ n) (hl : ss.length = (CB.combs n r).length) : houseF n (n - r) (duL n r ss) = houseF n r ss := by
  rw [Bool.eq_iff_iff]
  refine ⟨fun h => ?_, dual_imp hn hr hl⟩
  have g := dual_imp hn (by omega) (duL_len n r ss) h
  rw [dudu hn hr hl] at g
  have er : n - (n - r) = r := by omega
  rw [er, house_scale hn hr hl (by split <;> omega)] at g
  exact g
end
end K14

set_option maxHeartbeats 8000000
/-! Boxes of two and three rows: what holds among them. -/
namespace GP
def d2 (a0 a1 b0 b1 : Int) : Int := a0 * b1 - a1 * b0
def d3 (a0 a1 a2 b0 b1 b2 c0 c1 c2 : Int) : Int := a0 * (b1 * c2 - b2 * c1) - a1 * (b0 * c2 - b2 * c0) + a2 * (b0 * c1 - b1 * c0)
theorem gp2 (b0 b1 c0 c1 d0 d1 e0 e1 : Int) : d2 b0 b1 c0 c1 * d2 d0 d1 e0 e1 - d2 b0 b1 d0 d1 * d2 c0 c1 e0 e1 + d2 b0 b1 e0 e1 * d2 c0 c1 d0 d1 = 0 := by
  unfold d2
  grind
theorem ex2 (t0 t1 x0 x1 y0 y1 z0 z1 : Int) : d2 x0 x1 t0 t1 * d2 y0 y1 z0 z1 = d2 x0 x1 y0 y1 * d2 t0 t1 z0 z1 + d2 x0 x1 z0 z1 * d2 y0 y1 t0 t1 := by
  unfold d2
  grind
theorem gp3 (a0 a1 a2 b0 b1 b2 c0 c1 c2 e0 e1 e2 f0 f1 f2 : Int) : d3 a0 a1 a2 b0 b1 b2 c0 c1 c2 * d3 a0 a1 a2 e0 e1 e2 f0 f1 f2 - d3 a0 a1 a2 b0 b1 b2 e0 e1 e2 * d3 a0 a1 a2 c0 c1 c2 f0 f1 f2 + d3 a0 a1 a2 b0 b1 b2 f0 f1 f2 * d3 a0 a1 a2 c0 c1 c2 e0 e1 e2 = 0 := by
  unfold d3
  grind
theorem ex3 (t0 t1 t2 u0 u1 u2 v0 v1 v2 x0 x1 x2 y0 y1 y2 z0 z1 z2 : Int) : d3 u0 u1 u2 v0 v1 v2 t0 t1 t2 * d3 x0 x1 x2 y0 y1 y2 z0 z1 z2 =
    d3 u0 u1 u2 v0 v1 v2 x0 x1 x2 * d3 t0 t1 t2 y0 y1 y2 z0 z1 z2 + d3 u0 u1 u2 v0 v1 v2 y0 y1 y2 * d3 x0 x1 x2 t0 t1 t2 z0 z1 z2 + d3 u0 u1 u2 v0 v1 v2 z0 z1 z2 * d3 x0 x1 x2 y0 y1 y2 t0 t1 t2 := by
  unfold d3
  grind
end GP

set_option maxHeartbeats 8000000
/-! Boxes of columns make a house. -/
namespace K14
open PySem PySem.Spec PyProof.Rows L2 COX
theorem sgn_p {x : Int} (h : 0 < x) : sgn x = 1 := if_pos h
theorem sgn_n {x : Int} (h : x < 0) : sgn x = -1 := (if_neg (by omega)).trans (if_pos h)
theorem sgn_0 : sgn 0 = 0 := rfl
theorem sgn_mul (x y : Int) : sgn (x * y) = sgn x * sgn y := by
  rcases Int.lt_trichotomy x 0 with h | h | h
  · rcases Int.lt_trichotomy y 0 with g | g | g
    · rw [sgn_p (Int.mul_pos_of_neg_of_neg h g), sgn_n h, sgn_n g]; rfl
    · rw [g, Int.mul_zero, sgn_0, Int.mul_zero]
    · rw [sgn_n (Int.mul_neg_of_neg_of_pos h g), sgn_n h, sgn_p g]; rfl
  · rw [h, Int.zero_mul, sgn_0, Int.zero_mul]
  · rcases Int.lt_trichotomy y 0 with g | g | g
    · rw [sgn_n (Int.mul_neg_of_pos_of_neg h g), sgn_p h, sgn_n g]; rfl
    · rw [g, Int.mul_zero, sgn_0, Int.mul_zero]
    · rw [sgn_p (Int.mul_pos h g), sgn_p h, sgn_p g]; rfl
theorem sgn_neg (x : Int) : sgn (-x) = - sgn x := by
  rcases Int.lt_trichotomy x 0 with h | h | h
  · rw [sgn_p (x := -x) (by omega), sgn_n h]; rfl
  · rw [h]; rfl
  · rw [sgn_n (x := -x) (by omega), sgn_p h]
theorem sgn_ne {x : Int} : sgn x ≠ 0 ↔ x ≠ 0 := by
  rcases Int.lt_trichotomy x 0 with h | h | h
  · rw [sgn_n h]; simp; omega
  · rw [h]; simp [sgn_0]
  · rw [sgn_p h]; simp; omega
theorem three_sum {p q s : Int} (h : p - q + s = 0) : (inV (.int 1) [.int (sgn p), .int (- sgn q), .int (sgn s)] == inV (.int (-1)) [.int (sgn p), .int (- sgn q), .int (sgn s)]) = true := by
  rcases Int.lt_trichotomy p 0 with hp | hp | hp <;> rcases Int.lt_trichotomy q 0 with hq | hq | hq <;> rcases Int.lt_trichotomy s 0 with hs | hs | hs
  all_goals first
    | (exfalso; omega)
    | (simp only [sgn_p, sgn_n, hp, hq, hs, sgn_0]; decide)
section
variable {cols : List (List Int)}
def col (cols : List (List Int)) (a i : Nat) : Int := (cols.getD a []).getD i 0
theorem len2 {l : List Int} (h : l.length = 2) : ∃ x y, l = [x, y] := by
  match l, h with
  | [x, y], _ => exact ⟨x, y, rfl⟩
theorem len3 {l : List Int} (h : l.length = 3) : ∃ x y z, l = [x, y, z] := by
  match l, h with
  | [x, y, z], _ => exact ⟨x, y, z, rfl⟩
theorem w1 (a : Nat) : bxW cols 1 [a] = col cols a 0 := by
  unfold bxW col
  simp [wd, pws]
theorem w2 {a b : Nat} (ha : (cols.getD a []).length = 2) (hb : (cols.getD b []).length = 2) : bxW cols 2 [a, b] = GP.d2 (col cols a 0) (col cols a 1) (col cols b 0) (col cols b 1) := by
  unfold bxW col
  obtain ⟨x, y, ea⟩ := len2 ha
  obtain ⟨z, u, eb⟩ := len2 hb
  simp only [List.map_cons, List.map_nil, ea, eb]
  simp [wd, pws, GP.d2]
  grind
theorem w3 {a b c : Nat} (ha : (cols.getD a []).length = 3) (hb : (cols.getD b []).length = 3) (hc : (cols.getD c []).length = 3) : bxW cols 3 [a, b, c] = GP.d3 (col cols a 0) (col cols a 1) (col cols a 2) (col cols b 0) (col cols b 1) (col cols b 2) (col cols c 0) (col cols c 1) (col cols c 2) := by
  unfold bxW col
  obtain ⟨x1, x2, x3, ea⟩ := len3 ha
  obtain ⟨y1, y2, y3, eb⟩ := len3 hb
  obtain ⟨z1, z2, z3, ec⟩ := len3 hc
  simp only [List.map_cons, List.map_nil, ea, eb, ec]
  simp [wd, pws, GP.d3]
  grind
/-- columns of r numbers -/
def CL (cols : List (List Int)) (r : Nat) : Prop := ∀ c ∈ cols, c.length = r
theorem CL.at {r a : Nat} (h : CL cols r) (ha : a < cols.length) : (cols.getD a []).length = r := by
  rw [getD_at ha]
  exact h _ (List.getElem_mem ha)
theorem sw2 (h : CL cols 2) {a b : Nat} (ha : a < cols.length) (hb : b < cols.length) : bxW cols 2 [b, a] = - bxW cols 2 [a, b] := by
  rw [w2 (h.at hb) (h.at ha), w2 (h.at ha) (h.at hb)]
  unfold GP.d2
  grind
theorem sw3a (h : CL cols 3) {a b c : Nat} (ha : a < cols.length) (hb : b < cols.length) (hc : c < cols.length) : bxW cols 3 [b, a, c] = - bxW cols 3 [a, b, c] := by
  rw [w3 (h.at hb) (h.at ha) (h.at hc), w3 (h.at ha) (h.at hb) (h.at hc)]
  unfold GP.d3
  grind
theorem sw3b (h : CL cols 3) {a b c : Nat} (ha : a < cols.length) (hb : b < cols.length) (hc : c < cols.length) : bxW cols 3 [a, c, b] = - bxW cols 3 [a, b, c] := by
  rw [w3 (h.at ha) (h.at hc) (h.at hb), w3 (h.at ha) (h.at hb) (h.at hc)]
  unfold GP.d3
  grind
/-- the signs of boxes at lots -/
theorem g_at {r : Nat} (hn : cols.length ≤ 7) (hr : r ≤ cols.length) {c : List Nat} (hc : c ∈ CB.combs cols.length r) : gT cols.length r (bxL cols r) (ci c) = sgn (bxW cols r c) := by
  obtain ⟨i, hi⟩ := List.getElem?_of_mem hc
  exact gT_ix hn hr (bxL_len cols r) hi (by unfold bxL; rw [List.getElem?_map, hi]; rfl)
theorem rise_in {n r : Nat} (hn : n ≤ 7) (hr : r ≤ n) {c : List Nat} (hl : c.length = r) (h : c.Pairwise (· < ·)) (hb : ∀ x ∈ c, x < n) : c ∈ CB.combs n r := by
  rw [← LL.gen_is n hn r (by omega)]
  exact rise_gen n r c hl h hb
theorem srt_of {c d : List Nat} (p : d.Perm c) (h : d.Pairwise (· < ·)) : srt (ci c) = ci d := (srt_is (p.map _) (ci_ri h)).symm
/-- what a row of things reads -/
theorem rd2 (hn : cols.length ≤ 7) (h : CL cols 2) (hr : 2 ≤ cols.length) {a b : Nat} (ha : a < cols.length) (hb : b < cols.length) : readI (gT cols.length 2 (bxL cols 2)) (ci [a, b]) = sgn (bxW cols 2 [a, b]) := by
  unfold readI
  have e : sg (ci [a, b]) = s2 a b := by simp [ci, sg, pr]
  rw [e]
  rcases Nat.lt_trichotomy a b with c | c | c
  · rw [srt_of (List.Perm.refl _) (d := [a, b]) (by simp [c]), g_at hn hr (rise_in hn hr rfl (by simp [c]) (by simp [ha, hb])), s2_gt (by omega), Int.one_mul]
  · subst c
    rw [s2_eq, Int.zero_mul]
    have := sw2 h ha ha
    rw [show bxW cols 2 [a, a] = 0 by omega, sgn_0]
  · rw [srt_of (List.Perm.swap _ _ _) (d := [b, a]) (by simp [c]), g_at hn hr (rise_in hn hr rfl (by simp [c]) (by simp [ha, hb])), s2_lt (by omega), sw2 h ha hb, sgn_neg]
    omega
theorem rd3 (hn : cols.length ≤ 7) (h : CL cols 3) (hr : 3 ≤ cols.length) {a b d : Nat} (ha : a < cols.length) (hb : b < cols.length) (hd : d < cols.length) : readI (gT cols.length 3 (bxL cols 3)) (ci [a, b, d]) = sgn (bxW cols 3 [a, b, d]) := by
  unfold readI
  have e : sg (ci [a, b, d]) = s2 a b * s2 a d * s2 b d := by simp [ci, sg, pr]
  rw [e]
  have rise : ∀ x y z : Nat, x < y → y < z → x < cols.length → y < cols.length → z < cols.length → [x, y, z].Perm [a, b, d] → gT cols.length 3 (bxL cols 3) (srt (ci [a, b, d])) = sgn (bxW cols 3 [x, y, z]) := fun x y z h1 h2 hx hy hz p => by
    rw [srt_of p (by simp [h1, h2]; omega), g_at hn hr (rise_in hn hr rfl (by simp [h1, h2]; omega) (by simp [hx, hy, hz]))]
  have p1 : [b, a, d].Perm [a, b, d] := List.Perm.swap _ _ _
  have p2 : [a, d, b].Perm [a, b, d] := (List.Perm.swap _ _ _).cons _
  have p3 : [b, d, a].Perm [a, b, d] := ((List.Perm.swap _ _ _).cons _).trans p1
  have p4 : [d, a, b].Perm [a, b, d] := (List.Perm.swap _ _ _).trans p2
  have p5 : [d, b, a].Perm [a, b, d] := (List.Perm.swap _ _ _).trans p3
  rcases Nat.lt_trichotomy a b with c1 | c1 | c1
  · rcases Nat.lt_trichotomy b d with c2 | c2 | c2
    · rw [rise a b d c1 c2 ha hb hd (List.Perm.refl _), s2_gt (x := a) (y := b) (by omega), s2_gt (x := a) (y := d) (by omega), s2_gt (x := b) (y := d) (by omega)]
      omega
    · subst c2
      rw [s2_eq]
      have := sw3b h ha hb hb
      rw [show bxW cols 3 [a, b, b] = 0 by omega, sgn_0, Int.mul_zero, Int.zero_mul]
    · rcases Nat.lt_trichotomy a d with c3 | c3 | c3
      · rw [rise a d b c3 c2 ha hd hb p2, s2_gt (x := a) (y := b) (by omega), s2_gt (x := a) (y := d) (by omega), s2_lt (x := b) (y := d) (by omega), sw3b h ha hb hd, sgn_neg]
        omega
      · subst c3
        rw [s2_eq]
        have k1 := sw3a h ha hb ha
        have k2 := sw3b h hb ha ha
        rw [show bxW cols 3 [a, b, a] = 0 by omega, sgn_0, Int.mul_zero, Int.zero_mul, Int.zero_mul]
      · rw [rise d a b c3 c1 hd ha hb p4, s2_gt (x := a) (y := b) (by omega), s2_lt (x := a) (y := d) (by omega), s2_lt (x := b) (y := d) (by omega), show bxW cols 3 [d, a, b] = bxW cols 3 [a, b, d] by rw [sw3a h ha hd hb, sw3b h ha hb hd]; omega]
        omega
  · subst c1
    rw [s2_eq]
    have := sw3a h ha ha hd
    rw [show bxW cols 3 [a, a, d] = 0 by omega, sgn_0, Int.zero_mul, Int.zero_mul, Int.zero_mul]
  · rcases Nat.lt_trichotomy b d with c2 | c2 | c2
    · rcases Nat.lt_trichotomy a d with c3 | c3 | c3
      · rw [rise b a d c1 c3 hb ha hd p1, s2_lt (x := a) (y := b) (by omega), s2_gt (x := a) (y := d) (by omega), s2_gt (x := b) (y := d) (by omega), sw3a h ha hb hd, sgn_neg]
        omega
      · subst c3
        rw [s2_eq]
        have k1 := sw3a h ha hb ha
        have k2 := sw3b h hb ha ha
        rw [show bxW cols 3 [a, b, a] = 0 by omega, sgn_0, Int.mul_zero, Int.zero_mul, Int.zero_mul]
      · rw [rise b d a c2 c3 hb hd ha p3, s2_lt (x := a) (y := b) (by omega), s2_lt (x := a) (y := d) (by omega), s2_gt (x := b) (y := d) (by omega), show bxW cols 3 [b, d, a] = bxW cols 3 [a, b, d] by rw [sw3b h hb ha hd, sw3a h ha hb hd]; omega]
        omega
    · subst c2
      rw [s2_eq]
      have := sw3b h ha hb hb
      rw [show bxW cols 3 [a, b, b] = 0 by omega, sgn_0, Int.mul_zero, Int.zero_mul]
    · rw [rise d b a c2 c1 hd hb ha p5, s2_lt (x := a) (y := b) (by omega), s2_lt (x := a) (y := d) (by omega), s2_lt (x := b) (y := d) (by omega), show bxW cols 3 [d, b, a] = - bxW cols 3 [a, b, d] by rw [sw3a h hb hd ha, sw3b h hb ha hd, sw3a h ha hb hd]; omega, sgn_neg]
      omega
/-- what may come in, for one row, two, three -/
theorem exD {r : Nat} (h : CL cols r) (r3 : r ≤ 3) {rest : List Nat} {t : Nat} {other : List Nat} (lr : rest.length + 1 = r) (lo : other.length = r) (br : ∀ x ∈ rest, x < cols.length) (bt : t < cols.length) (bo : ∀ x ∈ other, x < cols.length)
    (h1 : bxW cols r (rest ++ [t]) ≠ 0) (h2 : bxW cols r other ≠ 0) : ∃ w ∈ other, bxW cols r (rest ++ [w]) ≠ 0 := by
  rcases (show r = 1 ∨ r = 2 ∨ r = 3 by omega) with e | e | e
  · subst e
    match rest, lr, other, lo with
    | [], _, [y], _ => exact ⟨y, by simp, h2⟩
  · subst e
    match rest, lr, other, lo with
    | [x], _, [y, z], _ =>
      have bx := h.at (br x (by simp))
      have by' := h.at (bo y (by simp))
      have bz := h.at (bo z (by simp))
      have bt' := h.at bt
      refine Classical.byContradiction fun no => ?_
      have n1 : bxW cols 2 [x, y] = 0 := Classical.byContradiction fun c => no ⟨y, by simp, c⟩
      have n2 : bxW cols 2 [x, z] = 0 := Classical.byContradiction fun c => no ⟨z, by simp, c⟩
      have id := GP.ex2 (col cols t 0) (col cols t 1) (col cols x 0) (col cols x 1) (col cols y 0) (col cols y 1) (col cols z 0) (col cols z 1)
      rw [w2 bx by'] at n1
      rw [w2 bx bz] at n2
      have h1' : bxW cols 2 [x, t] ≠ 0 := h1
      rw [w2 bx bt'] at h1'
      rw [w2 by' bz] at h2
      rw [n1, n2, Int.zero_mul, Int.zero_mul] at id
      exact (Int.mul_eq_zero.mp id).elim h1' h2
  · subst e
    match rest, lr, other, lo with
    | [u, v], _, [x, y, z], _ =>
      have bu := h.at (br u (by simp))
      have bv := h.at (br v (by simp))
      have bx := h.at (bo x (by simp))
      have by' := h.at (bo y (by simp))
      have bz := h.at (bo z (by simp))
      have bt' := h.at bt
      refine Classical.byContradiction fun no => ?_
      have n1 : bxW cols 3 [u, v, x] = 0 := Classical.byContradiction fun c => no ⟨x, by simp, c⟩
      have n2 : bxW cols 3 [u, v, y] = 0 := Classical.byContradiction fun c => no ⟨y, by simp, c⟩
      have n3 : bxW cols 3 [u, v, z] = 0 := Classical.byContradiction fun c => no ⟨z, by simp, c⟩
      have id := GP.ex3 (col cols t 0) (col cols t 1) (col cols t 2) (col cols u 0) (col cols u 1) (col cols u 2) (col cols v 0) (col cols v 1) (col cols v 2) (col cols x 0) (col cols x 1) (col cols x 2) (col cols y 0) (col cols y 1) (col cols y 2) (col cols z 0) (col cols z 1) (col cols z 2)
      rw [w3 bu bv bx] at n1
      rw [w3 bu bv by'] at n2
      rw [w3 bu bv bz] at n3
      have h1' : bxW cols 3 [u, v, t] ≠ 0 := h1
      rw [w3 bu bv bt'] at h1'
      rw [w3 bx by' bz] at h2
      rw [n1, n2, n3, Int.zero_mul, Int.zero_mul, Int.zero_mul] at id
      exact (Int.mul_eq_zero.mp id).elim h1' h2
/-- what a row of as many things as the rank reads -/
theorem rd {r : Nat} (hn : cols.length ≤ 7) (h : CL cols r) (hr : r ≤ cols.length) (r3 : r ≤ 3) {c : List Nat} (lc : c.length = r) (bc : ∀ x ∈ c, x < cols.length) : readI (gT cols.length r (bxL cols r)) (ci c) = sgn (bxW cols r c) := by
  rcases (show r = 0 ∨ r = 1 ∨ r = 2 ∨ r = 3 by omega) with e | e | e | e
  · subst e
    match c, lc with
    | [], _ =>
      unfold readI
      rw [srt_of (List.Perm.refl _) (d := []) (by simp), g_at hn hr (rise_in hn hr rfl (by simp) (by simp))]
      show (1 : Int) * _ = _
      omega
  · subst e
    match c, lc with
    | [a], _ =>
      unfold readI
      rw [srt_of (List.Perm.refl _) (d := [a]) (by simp), g_at hn hr (rise_in hn hr rfl (by simp) (by simpa using bc)), show sg (ci [a]) = 1 by simp [ci, sg, pr]]
      omega
  · subst e
    match c, lc with
    | [a, b], _ => exact rd2 hn h hr (bc a (by simp)) (bc b (by simp))
  · subst e
    match c, lc with
    | [a, b, d], _ => exact rd3 hn h hr (bc a (by simp)) (bc b (by simp)) (bc d (by simp))
theorem box_thr {r : Nat} (hn : cols.length ≤ 7) (h : CL cols r) (hr : r ≤ cols.length) (r3 : r ≤ 3) : thrF cols.length r (gT cols.length r (bxL cols r)) = none := by
  rw [thr_none]
  by_cases r2 : r < 2
  · exact .inl r2
  right
  intro lot hl four hf
  obtain ⟨l1, b1⟩ := combs_ok hn (by omega) hl
  have F4 := four_of hn hf
  obtain ⟨b, c, d, e, rfl⟩ : ∃ b c d e, four = [b, c, d, e] := by
    match four, F4.l with
    | [b, c, d, e], _ => exact ⟨_, _, _, _, rfl⟩
  have fb := F4.b
  have bb := fb b (by simp)
  have bc := fb c (by simp)
  have bd := fb d (by simp)
  have be := fb e (by simp)
  have rr : ∀ x y, x < cols.length → y < cols.length → readI (gT cols.length r (bxL cols r)) (ci lot ++ [(x : Int), (y : Int)]) = sgn (bxW cols r (lot ++ [x, y])) := fun x y hx hy => by
    have := rd hn h hr r3 (c := lot ++ [x, y]) (by simp [l1]; omega) (fun z hz => by
      rcases List.mem_append.mp hz with g | g
      · exact b1 z g
      · simp at g; rcases g with g | g <;> omega)
    rw [← this]
    unfold ci
    rw [List.map_append]
    rfl
  have pp : ∀ x y z u, x < cols.length → y < cols.length → z < cols.length → u < cols.length → prodF (gT cols.length r (bxL cols r)) (ci lot) x y z u = sgn (bxW cols r (lot ++ [x, y]) * bxW cols r (lot ++ [z, u])) := fun x y z u hx hy hz hu => by
    unfold prodF
    rw [rr x y hx hy, rr z u hz hu, sgn_mul]
  show holdF _ _ b c d e = true
  unfold holdF threeL
  rw [pp b c d e bb bc bd be, pp b d c e bb bd bc be, pp b e c d bb be bc bd]
  refine three_sum ?_
  rcases (show r = 2 ∨ r = 3 by omega) with er | er
  · subst er
    obtain rfl := List.eq_nil_of_length_eq_zero l1
    simp only [List.nil_append]
    rw [w2 (h.at bb) (h.at bc), w2 (h.at bd) (h.at be), w2 (h.at bb) (h.at bd), w2 (h.at bc) (h.at be), w2 (h.at bb) (h.at be), w2 (h.at bc) (h.at bd)]
    exact GP.gp2 _ _ _ _ _ _ _ _
  · subst er
    match lot, l1, b1 with
    | [a], _, b1 =>
      have ba := h.at (b1 a (by simp))
      simp only [List.cons_append, List.nil_append]
      rw [w3 ba (h.at bb) (h.at bc), w3 ba (h.at bd) (h.at be), w3 ba (h.at bb) (h.at bd), w3 ba (h.at bc) (h.at be), w3 ba (h.at bb) (h.at be), w3 ba (h.at bc) (h.at bd)]
      exact GP.gp3 _ _ _ _ _ _ _ _ _ _ _ _ _ _ _
theorem pr_ne {x : Int} : ∀ {ns : List Int}, x ∉ ns → pr x ns ≠ 0
  | [], _ => by show (1 : Int) ≠ 0; decide
  | y :: ns, h => by
    rw [List.mem_cons, not_or] at h
    unfold pr
    have h1 : s2 x y ≠ 0 := by
      unfold s2
      rw [if_neg h.1]
      split <;> decide
    exact fun z => (Int.mul_eq_zero.mp z).elim h1 (pr_ne h.2)
theorem sg_ne : ∀ {ns : List Int}, ns.Nodup → sg ns ≠ 0
  | [], _ => by show (1 : Int) ≠ 0; decide
  | x :: ns, h => by
    rw [List.nodup_cons] at h
    unfold sg
    exact fun z => (Int.mul_eq_zero.mp z).elim (pr_ne h.1) (sg_ne h.2)
theorem rep0 {r : Nat} (hn : cols.length ≤ 7) (h : CL cols r) (hr : r ≤ cols.length) (r3 : r ≤ 3) {c : List Nat} (lc : c.length = r) (bc : ∀ x ∈ c, x < cols.length) (nd : bxW cols r c ≠ 0) : (ci c).Nodup := by
  refine sg_nd fun z => nd ?_
  have := rd hn h hr r3 lc bc
  unfold readI at this
  rw [z, Int.zero_mul] at this
  exact Classical.byContradiction fun g => sgn_ne.mpr g this.symm
theorem box_house {r : Nat} (hn : cols.length ≤ 7) (h : CL cols r) (hr : r ≤ cols.length) (r3 : r ≤ 3) (hb : ∃ lot ∈ CB.combs cols.length r, bxW cols r lot ≠ 0) : houseF cols.length r (bxL cols r) = true := by
  have hl := bxL_len cols r
  refine house_iff.mpr ⟨?_, ?_, box_thr hn h hr r3⟩
  · obtain ⟨lot, hm, nz⟩ := hb
    intro e
    have := (base_at hn hr hl lot).mpr (by rw [g_at hn hr hm]; exact sgn_ne.mpr nz)
    rw [e] at this
    cases this
  · rw [← lex_ex hn hr hl]
    have sub := basesF_sub (n := cols.length) (r := r) hl
    unfold lexF
    simp only [List.findSome?_eq_none_iff, List.find?_eq_none]
    intro one h1 other h2 t ht
    have k1 := sub.subset h1
    have k2 := sub.subset h2
    obtain ⟨l1, b1⟩ := combs_ok hn (by omega) k1
    obtain ⟨l2, b2⟩ := combs_ok hn (by omega) k2
    have z1 := (base_at hn hr hl _).mp h1
    have z2 := (base_at hn hr hl _).mp h2
    cases ho : other.contains t with
    | true => simp
    | false =>
      have nd1 := combs_innd hn hr k1
      have rise1 := combs_rise hn (by omega) k1
      have ef : (one.filter fun x => x != t) = one.erase t := (nd1.erase_eq_filter t).symm
      have el := List.length_erase_of_mem ht
      have l0 : 0 < one.length := List.length_pos_of_mem ht
      generalize eR : (one.filter fun x => x != t) = rest at *
      have lr : rest.length + 1 = r := by rw [ef, el]; omega
      have br : ∀ x ∈ rest, x < cols.length := fun x hx => b1 x (List.mem_of_mem_erase (ef ▸ hx))
      have tn := b1 t ht
      have perm : one.Perm (rest ++ [t]) := by
        rw [ef]
        exact (List.perm_cons_erase ht).trans (List.perm_append_comm (l₁ := [t]))
      have d1 : bxW cols r (rest ++ [t]) ≠ 0 := by
        have k := rd hn h hr r3 (c := rest ++ [t]) (by simp [lr]) (fun x hx => by
          rcases List.mem_append.mp hx with g | g
          · exact br x g
          · rw [List.mem_singleton.mp g]; exact tn)
        unfold readI at k
        rw [srt_of perm rise1] at k
        refine sgn_ne.mp ?_
        rw [← k]
        refine fun z => (Int.mul_eq_zero.mp z).elim (sg_ne ?_) z1
        exact (perm.map (fun (i : Nat) => (i : Int))).nodup_iff.mp (ci_nd rise1)
      have d2 : bxW cols r other ≠ 0 := by
        rw [g_at hn hr k2] at z2
        exact sgn_ne.mp z2
      obtain ⟨w, hw, dw⟩ := exD h r3 lr l2 br tn b2 d1 d2
      have bw : ∀ x ∈ rest ++ [w], x < cols.length := fun x hx => by
        rcases List.mem_append.mp hx with g | g
        · exact br x g
        · rw [List.mem_singleton.mp g]; exact b2 w hw
      have lw : (rest ++ [w]).length = r := by simp [lr]
      have ndw := rep0 hn h hr r3 lw bw dw
      have w1 : one.contains w = false := by
        rw [Bool.eq_false_iff, Ne, List.contains_iff_mem]
        intro hw1
        have wt : w ≠ t := fun e => by rw [e] at hw; rw [List.contains_iff_mem.mpr hw] at ho; cases ho
        have hwr : w ∈ rest := by rw [ef]; exact (List.mem_erase_of_ne wt).mpr hw1
        unfold ci at ndw
        rw [List.map_append, List.nodup_append] at ndw
        exact ndw.2.2 (w : Int) (List.mem_map.mpr ⟨w, hwr, rfl⟩) (w : Int) (by simp) rfl
      have fit : fitsF (gT cols.length r (bxL cols r)) one other t = true := by
        unfold fitsF
        refine List.any_eq_true.mpr ⟨w, hw, ?_⟩
        rw [Bool.and_eq_true, Bool.not_eq_true', Bool.not_eq_true', decide_eq_false_iff_not]
        refine ⟨w1, fun z => ?_⟩
        have k := rd hn h hr r3 lw bw
        unfold readI at k
        have e : withM one t w = ci (rest ++ [w]) := by
          unfold withM
          rw [eR]
          unfold ci
          rw [List.map_append]
          rfl
        rw [← e, z, Int.mul_zero] at k
        exact sgn_ne.mpr dw k.symm
      rw [fit]
      simp
end
end K14

set_option maxHeartbeats 8000000
/-! A model drawn. -/
namespace K14
open PySem PySem.Spec PyProof.Rows L2
abbrev sDr : Stmt := topS 53
abbrev nDr : List Str := ["_law_bag_here", "_law_most", "_law_many", "_law_rank", "_law_low", "_law_m"]
theorem scDr : FnScope nDr ["_law_bag_here", "_law_most"] (defScope sDr) := ⟨rfl, rfl, rfl, by decide +kernel, rfl, by decide +kernel, by decide +kernel⟩
theorem fst_map {c : Int} (hc : c ≠ 0) : ∀ ns : List Int, fst (ns.map fun n => n * c) = fst ns * c
  | [] => (Int.zero_mul c).symm
  | n :: ns => by
    have ih := fst_map hc ns
    rw [List.map_cons, fst, fst, ih]
    by_cases h : n = 0
    · subst h
      rw [if_neg (by simp), if_neg (by simp)]
    · rw [if_pos (fun z => (Int.mul_eq_zero.mp z).elim h hc), if_pos h]
theorem norm_norm {ss : List Int} (ha : ss.all isS = true) : norm (norm ss) = norm ss := by
  by_cases h : fst ss = 0
  · have e : norm ss = ss := by unfold norm; rw [if_pos h]
    rw [e, e]
  · have e : norm ss = ss.map fun n => n * fst ss := by unfold norm; rw [if_neg h]
    have e1 : fst (norm ss) = 1 := by
      rw [e, fst_map h]
      rcases fst_isS ha with f | f | f
      · exact absurd f h
      · rw [f]; rfl
      · rw [f]; rfl
    generalize norm ss = s2 at e1
    unfold norm
    rw [e1, if_neg (by decide)]
    simp
def spDr : Sp := fun vs H Q _ => ∃ (b l : Addr) (ms : List Int) (mo : Nat), vs = [.ref b, .int (mo : Int)] ∧ BagAt l ms H b ∧ 1 ≤ mo ∧ mo ≤ 7 ∧
  ∀ m d H' (n r : Nat) (ss : List Int), But b H H' → BagAt l ms H' b → ModAt H' m d n r ss → n ≤ 7 → r ≤ n → ss.length = (CB.combs n r).length → ss.all isS = true → houseF n r ss = true → norm ss = ss → Q (.ref m) H'
section
variable {P : Program} {w : World} {K : PySem.W.Frag} {mg : Str → Option Value} {base : Heap}
theorem ok_dr {f fo fp fm fb fc fu : Addr} {fd do_ dp dm db dc du : FuncData} (F : Fun K "_law_drawn" "_law_drawn" sDr f fd) (mx : mg "max" = none) (mn : mg "min" = none)
    (O : FnOk P w K mg base CX0 10 fo do_ ["_law_bag_here", "_law_some"] (spOf K)) (gO : mg "_law_of" = some (.ref fo)) (kO : PySem.W.keepIn K (.ref fo) = true) (bO : Binds K do_ ["_law_bag_here", "_law_some"] [])
    (Pu : FnOk P w K mg base CX0 10 fp dp ["_law_bag_here", "_law_many"] spPull) (gP : mg "_law_pull" = some (.ref fp)) (kP : PySem.W.keepIn K (.ref fp) = true) (bP : Binds K dp ["_law_bag_here", "_law_many"] [])
    (M : FnOk P w K mg base CX0 10 fm dm ["_law_many", "_law_rank", "_law_signs"] (spMo K)) (gM : mg "_law_model" = some (.ref fm)) (kM : PySem.W.keepIn K (.ref fm) = true) (bM : Binds K dm ["_law_many", "_law_rank", "_law_signs"] [])
    (Bx : FnOk P w K mg base CX0 9 fb db ["_law_columns_here", "_law_size"] (spBx K)) (gB : mg "_law_box_signs" = some (.ref fb)) (kB : PySem.W.keepIn K (.ref fb) = true) (bB : Binds K db ["_law_columns_here", "_law_size"] [])
    (Fc : FnOk P w K mg base CX0 10 fc dc ["_law_bag_here", "_law_many", "_law_size"] (spFc K)) (gC : mg "_law_full_columns" = some (.ref fc)) (kC : PySem.W.keepIn K (.ref fc) = true) (bC : Binds K dc ["_law_bag_here", "_law_many", "_law_size"] [])
    (Du : FnOk P w K mg base CX0 10 fu du ["_law_m"] spDu) (gU : mg "_law_dual" = some (.ref fu)) (kU : PySem.W.keepIn K (.ref fu) = true) (bU : Binds K du ["_law_m"] []) : FnOk P w K mg base CX0 11 f fd ["_law_bag_here", "_law_most"] spDr := by
  refine F.ok scDr (fun vs H Q E ⟨b, l, ms, mo, e1, _⟩ => by rw [e1]; rfl) (fun cdv A outer s H vs Q E hr h => ?_)
  have r9 := hr.mono (j := 9) (by decide)
  refine ⟨_, pss_cons (ps_set (i := 2) scDr.nd rfl (Or.inl rfl) (pe_call O hr (by rfl) gO kO bO .nil pass0 (pa_cons (pv 0) (pa_cons (pe_lst (pa_cons (pe_call Pu hr (by rfl) gP kP bP .nil pass0 (pa_cons (pv 0) (pa_cons (pe_op op_add (pv 1) pe_int) pa_nil)))
        (pa_cons (pv 1) (pa_cons (pe_callB (call_max2 rfl) (by rfl) mx (by decide +kernel) (pa_cons pe_int (pa_cons (pe_op op_sub (pv 1) pe_int) pa_nil))) pa_nil)))) pa_nil))))
    (pss_cons (ps_set (i := 3) scDr.nd rfl (Or.inl rfl) (pe_call Pu hr (by rfl) gP kP bP .nil pass0 (pa_cons (pv 0) (pa_cons (pe_op op_add (pv 2) pe_int) pa_nil))))
    (pss_cons (ps_set (i := 4) scDr.nd rfl (Or.inl rfl) (pe_callB (call_min2 rfl) (by rfl) mn (by decide +kernel) (pa_cons (pv 3) (pa_cons (pe_op op_sub (pv 2) (pv 3)) pa_nil))))
    (pss_cons (ps_set (i := 5) scDr.nd rfl (Or.inl rfl) (pe_call M hr (by rfl) gM kM bM .nil pass0 (pa_cons (pv 2) (pa_cons (pv 4) (pa_cons
        (pe_call Bx r9 (by rfl) gB kB bB .nil pass0 (pa_cons (pe_call Fc hr (by rfl) gC kC bC .nil pass0 (pa_cons (pv 0) (pa_cons (pv 2) (pa_cons (pv 4) pa_nil)))) (pa_cons (pv 4) pa_nil))) pa_nil)))))
    (pss_one (ps_ret (pe_ifExp (pt_cmpR op_eq (pv 4) (pv 3) (nomark _)) (pv 5) (pe_call Du hr (by rfl) gU kU bU .nil pass0 (pa_cons (pv 5) pa_nil)))))))), ?_⟩
  obtain ⟨b, l, ms, mo, rfl, B, m1, m7, q⟩ := h
  obtain ⟨bx, hb⟩ := B.at
  refine ⟨_, rfl, _, rfl, _, rfl, _, _, rfl, rfl, b, l, _, ms, rfl, by omega, by omega, B, fun z ys z0 z1 B1 => ?_⟩
  have bu1 : But b H (upd H b (.lst ys)) := .bag
  refine ⟨_, rfl, _, rfl, _, _, rfl, rfl, _, _, rfl, by simp [sizeLine_eq], fun p np => ?_⟩
  obtain ⟨bx1, hb1⟩ := B1.at
  have pb : p ≠ b := fun z => by rw [z, hb1] at np; cases np
  refine ⟨b, l, p, ms, _, rfl, B1.new np, upd_same, pb, by simp, by simp, fun v zs hv B2 => ?_⟩
  obtain ⟨n, rfl, n7⟩ : ∃ n : Nat, v = .int (n : Int) ∧ n ≤ 7 := by
    simp only [List.mem_cons, List.not_mem_nil, or_false] at hv
    rcases hv with e | e | e
    · exact ⟨z.toNat, by rw [e]; congr 1; omega, by omega⟩
    · exact ⟨mo, e, m7⟩
    · refine ⟨mo - 1, ?_, by omega⟩
      rw [e]
      congr 1
      split <;> omega
  have bu2 : ∀ o o', But b H (upd (upd (upd H b (.lst ys)) p o) b o') := fun o o' => (bu1.trans (But.new (o := o) np)).trans (.bag (o := o'))
  refine ⟨_, rfl, _, rfl, _, _, rfl, rfl, b, l, _, ms, rfl, by omega, by omega, B2, fun rk ys2 k0 k1 B3 => ?_⟩
  obtain ⟨rk, rfl⟩ := Int.eq_ofNat_of_zero_le k0
  have rkn : rk ≤ n := by omega
  refine ⟨_, rfl, _, rfl, _, rfl, _, _, rfl, rfl, _, _, rfl, ?_⟩
  obtain ⟨lw, elw, lwn, lw3⟩ : ∃ lw : Nat, (if (n : Int) - (rk : Int) < (rk : Int) then (n : Int) - (rk : Int) else (rk : Int)) = (lw : Int) ∧ lw ≤ n ∧ (lw = rk ∧ 2 * rk ≤ n ∨ lw = n - rk ∧ n < 2 * rk) := by
    by_cases c : (n : Int) - (rk : Int) < (rk : Int)
    · exact ⟨n - rk, by rw [if_pos c]; omega, by omega, by omega⟩
    · exact ⟨rk, by rw [if_neg c], rkn, by omega⟩
  show gName 4 (V.int (if (n : Int) - (rk : Int) < (rk : Int) then (n : Int) - (rk : Int) else (rk : Int))) _ _ _
  rw [elw]
  refine ⟨_, rfl, _, rfl, _, rfl, _, rfl, _, rfl, b, l, ms, n, lw, rfl, B3, n7, lwn, by omega, fun D H1 cols bu4 B4 nD hT lc hS hbase => ?_⟩
  refine ⟨_, rfl, D, cols, lw, rfl, hT, by omega, by omega, hS, fun D2 H2 s2 nD2 h2 => ?_⟩
  have l2 := bxL_len cols lw
  have a2 := bxL_isS cols lw
  have hh : houseF n lw (bxL cols lw) = true := by
    have := box_house (cols := cols) (r := lw) (by omega) (fun c hc => (hS c hc).1) (by omega) (by omega) (by rw [lc]; exact hbase)
    rw [lc] at this
    exact this
  generalize bxL cols lw = ss at h2 l2 a2 hh
  rw [lc] at l2
  refine ⟨n, lw, D2, ss, rfl, n7, lwn, .inl h2, l2, a2, fun m d H3 s3 nm nd hM => ?_⟩
  have buA : But b H H3 := ((bu2 _ _).trans .bag).trans (bu4.trans (Same.but (s2.trans s3)))
  have BA := B4.same (s2.trans s3)
  have ln : (norm ss).length = (CB.combs n lw).length := by rw [norm_len, l2]
  refine ⟨_, rfl, _, rfl, rfl, _, rfl, ?_⟩
  by_cases c : lw = rk
  · exact if_t (by simp [c]) ⟨_, rfl, q m d H3 n lw _ buA BA hM n7 lwn ln (norm_isS a2) (by rw [house_norm n7 lwn l2 a2, hh]) (norm_norm a2)⟩
  · refine if_f (by simp [c]; omega) ⟨_, rfl, m, d, n, lw, norm ss, rfl, hM, n7, lwn, ln, norm_isS a2, fun m2 d2 H4 s4 hM2 => ?_⟩
    exact q m2 d2 H4 n (n - lw) _ (buA.trans (Same.but s4)) (BA.same s4) hM2 n7 (by omega) (by rw [norm_len, duL_len]) (norm_isS (duL_isS (norm_isS a2))) (by rw [house_norm n7 (by omega) (duL_len _ _ _) (duL_isS (norm_isS a2)), house_dual n7 lwn ln, house_norm n7 lwn l2 a2, hh]) (norm_norm (duL_isS (norm_isS a2)))
end
end K14

set_option maxHeartbeats 4000000
/-! t * k, t a tuple, k from 0 on -/
namespace TR
open PySem PySem.Spec PyProof.Rows L2
theorem tuple_mul1 (l : Addr) (items : Array Value) (n : Nat) (dd : Option Addr) (sl : Array (Option Value)) (u : Tok) :
    Meets (Builtin.«tuple.__mul__» ⟨[.ref l, .int 1 u], []⟩) (fun _ R s => s.heap.get? l = some { cls := .type "tuple", dict := dd, data := .seq items n, slots := sl } ∧ R (.ok (.ret (Value.ref l))) s) :=
  .of_wp fun prog w A R s h => by
    obtain ⟨hp, g, d, tk, os⟩ := s
    obtain ⟨hl, h⟩ := h
    have f1 := AutoSeq1.idx_int
    have hT : Shared.TypeIs ⟨hp, g, d, tk, os⟩ (.ref l) "tuple" := ⟨_, hl, rfl⟩
    wp_walk using wpAny_loadPart' hl
    have c0 : (decide ((1 : Int) < -(2 ^ 63)) || decide ((1 : Int) ≥ 2 ^ 63)) = false := by decide
    have c1 : (items.isEmpty || (1 : Int) == 1) = true := by simp
    repeat (first
      | (refine wpAny_ite_false (decide_eq_false (by rw [c0]; exact Bool.false_ne_true)) ?_; wp_walk using wpAny_loadPart' hl)
      | (refine wpAny_ite_true (decide_eq_true c1) ?_; wp_walk using wpAny_loadPart' hl))
    exact ⟨_, rfl, h⟩
theorem tuple_mul0 (l : Addr) (items : Array Value) (n : Nat) (dd : Option Addr) (sl : Array (Option Value)) (u : Tok) (he : items.isEmpty = false) :
    Meets (Builtin.«tuple.__mul__» ⟨[.ref l, .int 0 u], []⟩) (fun _ R s => s.heap.get? l = some { cls := .type "tuple", dict := dd, data := .seq items n, slots := sl } ∧
      R (.ok (.ret (Value.ref s.heap.objs.size))) { s with heap := s.heap.push { cls := Value.type "tuple", data := Data.seq #[] }, toks := s.toks }) :=
  .of_wp fun prog w A R s h => by
    obtain ⟨hp, g, d, tk, os⟩ := s
    obtain ⟨hl, h⟩ := h
    have f1 := AutoSeq1.idx_int
    have c0 : (decide ((0 : Int) < -(2 ^ 63)) || decide ((0 : Int) ≥ 2 ^ 63)) = false := by decide
    have c1 : (items.isEmpty || (0 : Int) == 1) = false := by rw [he]; rfl
    have c2 : (decide ((0 : Int) ≤ 0) || items.isEmpty) = true := by rfl
    wp_walk using wpAny_loadPart' hl
    repeat (first
      | (refine wpAny_ite_false (decide_eq_false (by rw [c0]; exact Bool.false_ne_true)) ?_; wp_walk using wpAny_loadPart' hl)
      | (refine wpAny_ite_false (decide_eq_false (by rw [c1]; exact Bool.false_ne_true)) ?_; wp_walk using wpAny_loadPart' hl)
      | (refine wpAny_ite_true (decide_eq_true c2) ?_; wp_walk using wpAny_loadPart' hl))
    exact ⟨_, rfl, h⟩
def rRepA (K : PySem.W.Frag) : R2 := fun x y H Q => ∃ (l : Addr) (k : Nat) (v : V), x = .ref l ∧ y = .int (k : Int) ∧ SqT K H l [v] ∧ k ≤ 1000 ∧ (k = 1 → Q (.ref l) H) ∧ (k ≠ 1 → ∀ p, H p = none → Q (.ref p) (upd H p (.tup (List.replicate k v))))
theorem flat_rep {v : V} : ∀ k : Nat, (List.replicate k [v]).flatten = List.replicate k v
  | 0 => rfl
  | k + 1 => by rw [List.replicate_succ, List.flatten_cons, flat_rep k]; rfl
theorem op_repA {X : Cx} : OpR X (binaryOp .Mult) (rRepA X.K) := by
  intro pins s σ H x y v u Q I rx ry h
  obtain ⟨l, k, v0, rfl, rfl, hT, hk, q1, q2⟩ := h
  by_cases k2 : 2 ≤ k
  · refine op_repT pins s σ H _ _ v u Q I rx ry ⟨l, k, [v0], rfl, rfl, hT, by simp, by omega, by omega, by simp, fun p np => ?_⟩
    rw [Int.toNat_natCast, flat_rep]
    exact q2 (by omega) p np
  cases rx
  obtain ⟨t, rfl⟩ := ry
  obtain ⟨its, r, ⟨⟨cls, dd, data, sl⟩, ho, hc, n, hd⟩, hs⟩ := I.tuple hT
  simp only at hc hd
  subst hc hd
  have hi : its.toArray.isEmpty = false := by
    cases r with
    | cons a b => rfl
  rcases (show k = 0 ∨ k = 1 by omega) with e | e
  · subst e
    refine wpAny_binaryOp_repeat_ref (T := "tuple") (U := "int") (by decide) ⟨_, ho, rfl⟩ (fun s' => typeIs_int s' _ t) noFill_tuple_mul F.fills_int_mul F.slot_int_rmul repeat_tuple F.slot_int_index.lookup
      (call_meets F.slot_int_rmul (typeIs_int s _ t) F.entry_int_rmul (F.args_int_rmul_2 _ _) (int_rmul_tuple _ t l its.toArray n dd sl)
        ⟨ho, rfl, ⟨_, ho, rfl⟩, call_meets F.slot_tuple_mul ⟨_, ho, rfl⟩ F.entry_tuple_mul (F.args_tuple_mul_2 _ _) (tuple_mul0 l its.toArray n dd sl t hi) ⟨ho, ?_⟩⟩)
    refine ⟨.ref s.heap.objs.size, _, I.laid (t' := s.toks) (o := .tup (List.replicate 0 v0)) (fun b ob q => Heap.get?_push_of_some _ q) (Nat.le_refl _) ?_, rfl, q2 (by decide) _ (I.hok.fresh (Nat.le_refl _))⟩
    exact ⟨by show 0 ≤ sizeLine; exact Nat.zero_le _, [], .nil, IsTup.new _ _⟩
  · subst e
    refine wpAny_binaryOp_repeat_ref (T := "tuple") (U := "int") (by decide) ⟨_, ho, rfl⟩ (fun s' => typeIs_int s' _ t) noFill_tuple_mul F.fills_int_mul F.slot_int_rmul repeat_tuple F.slot_int_index.lookup
      (call_meets F.slot_int_rmul (typeIs_int s _ t) F.entry_int_rmul (F.args_int_rmul_2 _ _) (int_rmul_tuple _ t l its.toArray n dd sl)
        ⟨ho, rfl, ⟨_, ho, rfl⟩, call_meets F.slot_tuple_mul ⟨_, ho, rfl⟩ F.entry_tuple_mul (F.args_tuple_mul_2 _ _) (tuple_mul1 l its.toArray n dd sl t) ⟨ho, ?_⟩⟩)
    exact ⟨.ref l, H, I, rfl, q1 rfl⟩
end TR

set_option maxHeartbeats 8000000
/-! Columns drawn. -/
namespace K14
open PySem PySem.Spec PyProof.Rows L2
abbrev sCo : Stmt := topS 49
abbrev nCo : List Str := ["_law_bag_here", "_law_many", "_law_size", "_law_top", "_law_found", "_law_k", "_law_kind", "_law_column", "_law_by", "_law_other", "_law_j", "_law_one"]
theorem scCo : FnScope nCo ["_law_bag_here", "_law_many", "_law_size"] (defScope sCo) := ⟨rfl, rfl, rfl, by decide +kernel, rfl, by decide +kernel, by decide +kernel⟩
/-- a column: r numbers, none beyond B -/
def ColB (B r : Nat) (c : List Int) : Prop := c.length = r ∧ ∀ v ∈ c, v.natAbs ≤ B
theorem ColB.up {B B' r : Nat} {c : List Int} (h : ColB B r c) (le : B ≤ B') : ColB B' r c := ⟨h.1, fun v hv => Nat.le_trans (h.2 v hv) le⟩
/-- columns found so far -/
structure CoI (K : PySem.W.Frag) (b l : Addr) (ms : List Int) (H H' : Hp) (D : Addr) (i r : Nat) (cols : List (List Int)) : Prop where
  bu : But b H H'
  B : BagAt l ms H' b
  N : ∃ cs : List Addr, cs.length = i ∧ H' D = some (.lst (cs.map V.ref)) ∧ ∀ (m : Nat) (c : Addr) (rr : List Int), cs[m]? = some c → cols[m]? = some rr → SqT K H' c (rr.map V.int)
  n : cols.length = i
  z : ∀ c ∈ cols, ColB (99 * 2 ^ i) r c
theorem CoI.same {K : PySem.W.Frag} {b l : Addr} {ms : List Int} {H H' H2 : Hp} {D : Addr} {i r : Nat} {cols : List (List Int)} (h : CoI K b l ms H H' D i r cols) (s : Same H' H2) : CoI K b l ms H H2 D i r cols := by
  obtain ⟨cs, h1, h2, h3⟩ := h.N
  exact ⟨h.bu.trans (Same.but s), h.B.same s, ⟨cs, h1, s _ _ h2, fun m c rr e1 e2 => ZM.sqT_sm s (h3 m c rr e1 e2)⟩, h.n, h.z⟩
theorem CoI.bag {K : PySem.W.Frag} {b l : Addr} {ms : List Int} {H H' : Hp} {D : Addr} {i r : Nat} {cols : List (List Int)} (h : CoI K b l ms H H' D i r cols) (Db : D ≠ b) {xs : List V} (B2 : BagAt l ms (upd H' b (.lst xs)) b) : CoI K b l ms H (upd H' b (.lst xs)) D i r cols := by
  obtain ⟨cs, h1, h2, h3⟩ := h.N
  obtain ⟨bx, hb⟩ := h.B.at
  exact ⟨h.bu.trans .bag, B2, ⟨cs, h1, by rw [upd_ne Db]; exact h2, fun m c rr e1 e2 => sqT_off hb (h3 m c rr e1 e2)⟩, h.n, h.z⟩
theorem sqT_bag {K : PySem.W.Frag} {b l c : Addr} {ms : List Int} {H : Hp} {ys : List V} {o : HO} (B : BagAt l ms H b) (h : SqT K H c ys) : SqT K (upd H b o) c ys := by
  obtain ⟨bx, hb⟩ := B.at
  exact sqT_off hb h
theorem CoI.off {K : PySem.W.Frag} {b l L : Addr} {ms : List Int} {H H' : Hp} {D : Addr} {i r : Nat} {cols : List (List Int)} (h : CoI K b l ms H H' D i r cols) (nL : H L = none) {ys : List V} {o : HO} (hL : H' L = some (.lst ys)) (Lb : L ≠ b) (Ll : L ≠ l) (LD : D ≠ L) : CoI K b l ms H (upd H' L o) D i r cols := by
  obtain ⟨cs, h1, h2, h3⟩ := h.N
  exact ⟨h.bu.at nL, h.B.off Lb Ll, ⟨cs, h1, by rw [upd_ne LD]; exact h2, fun m c rr e1 e2 => sqT_off hL (h3 m c rr e1 e2)⟩, h.n, h.z⟩
theorem CoI.put {K : PySem.W.Frag} {b l c : Addr} {ms rr : List Int} {H H' : Hp} {D : Addr} {i r : Nat} {cols : List (List Int)} (h : CoI K b l ms H H' D i r cols) (nD : H D = none) (Db : D ≠ b) (Dl : D ≠ l) (hc : SqT K H' c (rr.map V.int)) (hb : ColB (99 * 2 ^ (i + 1)) r rr) :
    ∃ xs, H' D = some (.lst xs) ∧ xs.length = i ∧ CoI K b l ms H (upd H' D (.lst (xs ++ [.ref c]))) D (i + 1) r (cols ++ [rr]) := by
  obtain ⟨cs, h1, h2, h3⟩ := h.N
  have lc := h.n
  refine ⟨_, h2, by rw [List.length_map, h1], h.bu.at nD, h.B.off Db Dl, ⟨cs ++ [c], by simp [h1], by rw [upd_same, List.map_append]; rfl, fun m c' r' e1 e2 => sqT_off h2 ?_⟩, by simp [lc], fun x hx => ?_⟩
  · by_cases hm : m < i
    · rw [List.getElem?_append_left (by omega)] at e1 e2
      exact h3 m c' r' e1 e2
    · rw [List.getElem?_append_right (by omega)] at e1 e2
      have hm' : m - cs.length = 0 := by
        have := (List.getElem?_eq_some_iff.mp e1).1
        simp at this
        omega
      have hm2 : m - cols.length = 0 := by omega
      rw [hm'] at e1
      rw [hm2] at e2
      cases e1
      cases e2
      exact hc
  · rcases List.mem_append.mp hx with g | g
    · exact (h.z x g).up (Nat.mul_le_mul_left _ (Nat.pow_le_pow_right (by decide) (by omega)))
    · rw [List.mem_singleton.mp g]
      exact hb
section
variable {P : Program} {w : World} {K : PySem.W.Frag} {mg : Str → Option Value} {base : Heap}
theorem ok_co {f fo fp : Addr} {fd do_ dp : FuncData} (F : Fun K "_law_columns" "_law_columns" sCo f fd) (mr : mg "range" = none) (mt : mg "tuple" = none)
    (O : FnOk P w K mg base CX0 8 fo do_ ["_law_bag_here", "_law_some"] (spOf K)) (gO : mg "_law_of" = some (.ref fo)) (kO : PySem.W.keepIn K (.ref fo) = true) (bO : Binds K do_ ["_law_bag_here", "_law_some"] [])
    (Pu : FnOk P w K mg base CX0 8 fp dp ["_law_bag_here", "_law_many"] spPull) (gP : mg "_law_pull" = some (.ref fp)) (kP : PySem.W.keepIn K (.ref fp) = true) (bP : Binds K dp ["_law_bag_here", "_law_many"] []) : FnOk P w K mg base CX0 9 f fd ["_law_bag_here", "_law_many", "_law_size"] (spCo K) := by
  refine F.ok scCo (fun vs H Q E ⟨b, l, ms, n, r, e1, _⟩ => by rw [e1]; rfl) (fun cdv A outer s H vs Q E hr h => ?_)
  refine ⟨_, pss_cons (ps_asg (pe_tup (pa_cons (pe_call O hr (by rfl) gO kO bO .nil pass0 (pa_cons (pv 0) (pa_cons (pe_lst (pa_cons pe_int (pa_cons pe_int (pa_cons pe_int (pa_cons pe_int (pa_cons pe_int pa_nil)))))) pa_nil))) (pa_cons (pe_lst pa_nil) pa_nil)))
      (pg_tup rfl (pgs_cons (pg_name (i := 3) scCo.nd rfl (Or.inr rfl)) (pgs_cons (pg_name (i := 4) scCo.nd rfl (Or.inl rfl)) pgs_nil))))
    (pss_cons (ps_for PassesOwn.never rfl (pi_range1 (by rfl) mr (pa_cons (pv 1) pa_nil)) (pg_name (i := 5) scCo.nd rfl (Or.inl rfl))
      (pss_cons (ps_set (i := 6) scCo.nd rfl (Or.inl rfl) (pe_call Pu hr (by rfl) gP kP bP .nil pass0 (pa_cons (pv 0) (pa_cons pe_int pa_nil))))
      (pss_cons (ps_set (i := 7) scCo.nd rfl (Or.inl rfl) (pe_callTy call_tuple_of (by rfl) mt (by decide +kernel) (pa_cons
        (ZM.pe_bx (pe_lc (own := [("_law_j", 10)]) (g := gName 10) (tt := tYes) rfl scCo.nd (pi_range1 (by rfl) mr (pa_cons (pv 2) pa_nil)) (blkOk_by (N := nCo) (sc := defScope sCo) (by decide +kernel))
          (fun _ _ _ _ _ => pg_name (i := 10) scCo.nd rfl (Or.inl rfl)) (fun _ _ _ _ _ => pts_nil)
          (fun _ _ _ _ _ => pe_op op_sub (pe_call Pu hr (by rfl) gP kP bP .nil pass0 (pa_cons (pv 0) (pa_cons (pe_op op_add (pe_op op_mul pe_int (pv 3)) pe_int) pa_nil))) (pv 3)))) pa_nil)))
      (C8.pss_cut (ps_if (pt_cmpR op_eq (pv 6) pe_int (nomark _)) (pss_one (ps_set (i := 7) scCo.nd rfl (Or.inl rfl) (pe_op TR.op_repA (pe_tup (pa_cons pe_int pa_nil)) (pv 2)))) pss_nil)
      (C8.pss_cut (ps_if (PW.pt (pw_and (pt_cmpR op_eq (pv 6) pe_int (nomark _)) (pw_and1 (pt_cmpR (op_neD hr.units) (pv 4) (pe_lst pa_nil) (nomark _)))))
        (pss_cons (ps_asg (pe_tup (pa_cons (pe_call O hr (by rfl) gO kO bO .nil pass0 (pa_cons (pv 0) (pa_cons (pe_lst (pa_cons pe_int (pa_cons (pe_un un_neg pe_int) (pa_cons pe_int pa_nil)))) pa_nil))) (pa_cons (pe_call O hr (by rfl) gO kO bO .nil pass0 (pa_cons (pv 0) (pa_cons (pv 4) pa_nil))) pa_nil)))
          (pg_tup rfl (pgs_cons (pg_name (i := 8) scCo.nd rfl (Or.inr rfl)) (pgs_cons (pg_name (i := 9) scCo.nd rfl (Or.inl rfl)) pgs_nil))))
        (pss_one (ps_set (i := 7) scCo.nd rfl (Or.inl rfl) (pe_callTy call_tuple_of (by rfl) mt (by decide +kernel) (pa_cons
          (ZM.pe_bx (pe_lc (own := [("_law_one", 11)]) (g := gName 11) (tt := tYes) rfl scCo.nd (ZM.pi_sq (pv 9)) (blkOk_by (N := nCo) (sc := defScope sCo) (by decide +kernel))
            (fun _ _ _ _ _ => pg_name (i := 11) scCo.nd rfl (Or.inl rfl)) (fun _ _ _ _ _ => pts_nil) (fun _ _ _ _ _ => pe_op op_mul (pv 8) (pv 11)))) pa_nil))))) pss_nil)
      (pss_one (ps_expr (pe_bm PySem.F.plainAttrs_list PySem.F.slot_list_append PySem.F.type_list_append mt_append (pv 4) (pa_cons (pv 7) pa_nil)))))))))
    (pss_one (ps_ret (pv 4)))), ?_⟩
  obtain ⟨b, l, ms, n, r, rfl, B, n7, rn, q⟩ := h
  obtain ⟨bx, hb⟩ := B.at
  refine ⟨_, rfl, by simp [sizeLine_eq], fun p np => ?_⟩
  have pb : p ≠ b := fun z => by rw [z, hb] at np; cases np
  refine ⟨b, l, p, ms, _, rfl, B.new np, upd_same, pb, by simp, by simp, fun v zs hv B1 => ?_⟩
  obtain ⟨t, rfl, t1, t9⟩ : ∃ t : Nat, v = .int (t : Int) ∧ 1 ≤ t ∧ t ≤ 99 := by
    simp only [List.mem_cons, List.not_mem_nil, or_false] at hv
    rcases hv with e | e | e | e | e
    · exact ⟨1, e, by omega, by omega⟩
    · exact ⟨1, e, by omega, by omega⟩
    · exact ⟨2, e, by omega, by omega⟩
    · exact ⟨9, e, by omega, by omega⟩
    · exact ⟨99, e, by omega, by omega⟩
  have bu1 := (But.new (b := b) (o := .lst [V.int 1, V.int 1, V.int 2, V.int 9, V.int 99]) np).trans (.bag (o := .lst zs))
  generalize upd (upd H p (.lst [V.int 1, V.int 1, V.int 2, V.int 9, V.int 99])) b (.lst zs) = H1 at B1 bu1 ⊢
  refine ⟨Nat.zero_le _, fun D nD => ⟨by simp [sizeLine_eq], fun T nT => ?_⟩⟩
  obtain ⟨bx1, hb1⟩ := B1.at
  have Db : D ≠ b := fun z => by rw [z, hb1] at nD; cases nD
  have Dl : D ≠ l := fun z => by rw [z, B1.ls] at nD; cases nD
  have nDH : H D = none := bu1.none (l := l) hb nD B1.at
  refine ⟨T, _, rfl, SqT.of upd_same, rfl, _, _, rfl, _, _, rfl, rfl, ?_⟩
  have sT := same_new (o := .tup [V.int (t : Int), V.ref D]) nT
  have C0 : CoI K b l ms H (upd (upd H1 D (.lst [])) T (.tup [V.int (t : Int), V.ref D])) D 0 r [] := CoI.same (H' := upd H1 D (.lst [])) ⟨bu1.at nDH, B1.new nD, ⟨[], rfl, upd_same, by simp⟩, rfl, by simp⟩ sT
  generalize upd (upd H1 D (.lst [])) T (.tup [V.int (t : Int), V.ref D]) = H2 at C0 ⊢
  refine ⟨_, rfl, (n : Int), rfl, by omega, by omega, for_range (lo := 0) (n := n) (fun i σ H' => ∃ x5 x6 x7 x8 x9 cols, σ = [some (.ref b), some (.int (n : Int)), some (.int (r : Int)), some (.int (t : Int)), some (.ref D), x5, x6, x7, x8, x9, none, none] ∧ CoI K b l ms H H' D i r cols)
    ⟨_, _, _, _, _, [], rfl, C0⟩ ?_ ?_⟩
  · rintro i σ H3 hi ⟨x5, x6, x7, x8, x9, cols, rfl, C⟩
    refine ⟨_, rfl, b, l, _, ms, rfl, by omega, by omega, C.B, fun kd ys k0 k1 B2 => ?_⟩
    have C2 := C.bag Db B2
    generalize upd H3 b (.lst ys) = H4 at B2 C2 ⊢
    obtain ⟨bx4, hb4⟩ := B2.at
    refine ZM.own_rng (n := r) (fun L j H' => ∃ c : List Int, ColB 99 j c ∧ H' L = some (.lst (c.map V.int)) ∧ CoI K b l ms H H' D i r cols) (fun R rr => ⟨_, rfl, rr⟩) (by omega) (fun _ => rfl) (fun L nL => ⟨[], ⟨rfl, by simp⟩, upd_same, C2.same (same_new nL)⟩) ?_ ?_
    · rintro L j H5 nL hj ⟨c, hc, hL, C5⟩
      have Lb : L ≠ b := fun z => by rw [z, hb4] at nL; cases nL
      have nLH : H L = none := C2.bu.none (l := l) hb nL B2.at
      have Ll : L ≠ l := fun z => by rw [z, B.ls] at nLH; cases nLH
      have DL : D ≠ L := fun z => by obtain ⟨_, _, h2, _⟩ := C2.N; rw [← z, h2] at nL; cases nL
      refine ⟨_, rfl, _, rfl, _, _, rfl, rfl, .inl (by omega), _, _, rfl, rfl, b, l, _, ms, rfl, by omega, by omega, C5.B, fun u xs u0 u1 B6 => ⟨_, rfl, _, _, rfl, rfl, c.map V.int, by rw [upd_ne Lb]; exact hL, by rw [List.length_map, sizeLine_eq, hc.1]; omega, c ++ [u - t], ⟨by simp [hc.1], fun v hv => ?_⟩, by rw [upd_same, List.map_append]; rfl, (C5.bag Db B6).off nLH (by rw [upd_ne Lb]; exact hL) Lb Ll DL⟩⟩
      rcases List.mem_append.mp hv with g | g
      · exact hc.2 v g
      · rw [List.mem_singleton.mp g]; omega
    · rintro L H5 nL ⟨c, hc, hL, C5⟩
      refine ⟨L, _, rfl, .inl ⟨SqL.of hL, fun T2 nT2 => ?_⟩⟩
      have C6 := C5.same (same_new (o := .tup (c.map V.int)) nT2)
      have hT2 : SqT K (upd H5 T2 (.tup (c.map V.int))) T2 (c.map V.int) := sqT_new
      generalize upd H5 T2 (.tup (c.map V.int)) = H6 at C6 hT2 ⊢
      refine ⟨fun σ H' => ∃ (p : Addr) (c : List Int), σ = [some (.ref b), some (.int (n : Int)), some (.int (r : Int)), some (.int (t : Int)), some (.ref D), some (.int (0 + (i : Int))), some (.int kd), some (.ref p), x8, x9, none, none] ∧ CoI K b l ms H H' D i r cols ∧ SqT K H' p (c.map V.int) ∧ ColB 99 r c, ?_, ?_⟩
      · refine ⟨_, rfl, rfl, _, rfl, ite2 (fun h0 => ?_) (fun h0 => ⟨T2, c, rfl, C6, hT2, hc⟩)⟩
        refine ⟨by simp [sizeLine_eq], fun T3 nT3 => ⟨_, rfl, T3, r, .int 0, rfl, rfl, sqT_new, by omega, fun e1 => ?_, fun e1 p np => ?_⟩⟩
        · exact ⟨T3, [0], rfl, C6.same (same_new nT3), sqT_new, by simp [ColB, e1]⟩
        · have s2 := (same_new (o := .tup [V.int 0]) nT3).trans (same_new (o := .tup (List.replicate r (V.int 0))) np)
          exact ⟨p, List.replicate r 0, rfl, C6.same s2, by rw [List.map_replicate]; exact sqT_new, by simp [ColB]⟩
      · rintro σ H7 ⟨p, c, rfl, C7, hp, hc⟩
        refine ⟨fun σ H' => ∃ (p : Addr) (c : List Int) (x8 x9 : Option V), σ = [some (.ref b), some (.int (n : Int)), some (.int (r : Int)), some (.int (t : Int)), some (.ref D), some (.int (0 + (i : Int))), some (.int kd), some (.ref p), x8, x9, none, none] ∧ CoI K b l ms H H' D i r cols ∧ SqT K H' p (c.map V.int) ∧ ColB (99 * 2 ^ (i + 1)) r c, ?_, ?_⟩
        · have hup : ColB (99 * 2 ^ (i + 1)) r c := hc.up (by have := Nat.pow_pos (n := i + 1) (show 0 < 2 by decide); omega)
          have no : ∀ H', Same H7 H' → ∃ (p : Addr) (c : List Int) (x8' x9' : Option V), [some (V.ref b), some (.int (n : Int)), some (.int (r : Int)), some (.int (t : Int)), some (.ref D), some (.int (0 + (i : Int))), some (.int kd), some (.ref p), x8, x9, none, none] = [some (.ref b), some (.int (n : Int)), some (.int (r : Int)), some (.int (t : Int)), some (.ref D), some (.int (0 + (i : Int))), some (.int kd), some (.ref p), x8', x9', none, none] ∧ CoI K b l ms H H' D i r cols ∧ SqT K H' p (c.map V.int) ∧ ColB (99 * 2 ^ (i + 1)) r c := fun H' s => ⟨p, c, x8, x9, rfl, C7.same s, ZM.sqT_sm s hp, hup⟩
          refine ⟨_, rfl, rfl, _, rfl, ite2 (fun h1 => ?_) (fun h1 => ⟨p, c, x8, x9, rfl, C7, hp, hup⟩)⟩
          refine ⟨_, rfl, Nat.zero_le _, fun E nE => ?_⟩
          have C8 := C7.same (same_new (o := .lst []) nE)
          have hE : upd H7 E (.lst []) E = some (.lst []) := upd_same
          have sE := same_new (o := .lst []) nE
          generalize upd H7 E (.lst []) = H8 at C8 hE sE ⊢
          obtain ⟨cs, lcs, hD8, hcs8⟩ := C8.N
          refine ⟨.list (cols.map DL.ti), .list [], TLI.dp ⟨cs, SqL.of hD8, by rw [lcs, C8.n], hcs8⟩, .lst (xs := []) (SqL.of hE) .nil, DL.sh_lt cols, DL.sh_lt [], _, rfl, ?_⟩
          rw [tl_nil]
          by_cases ec : cols = []
          · exact if_f (by simp [ec]) ⟨p, c, x8, x9, rfl, C8, ZM.sqT_sm sE hp, hup⟩
          refine if_t (by simp [ec]) ?_
          have cl0 : 0 < cs.length := by
            have h0 := List.length_pos_iff.mpr ec
            rw [C8.n] at h0
            omega
          refine ⟨_, rfl, _, rfl, by simp [sizeLine_eq], fun p3 np3 => ?_⟩
          obtain ⟨bx8, hb8⟩ := C8.B.at
          have pb3 : p3 ≠ b := fun z => by rw [z, hb8] at np3; cases np3
          have C9 := C8.same (same_new (o := .lst [V.int 1, V.int (-1), V.int 2]) np3)
          refine ⟨b, l, p3, ms, _, rfl, C9.B, upd_same, pb3, by simp, by simp, fun v zs9 hv9 B9 => ?_⟩
          obtain ⟨y, rfl, hy⟩ : ∃ y : Int, v = .int y ∧ y.natAbs ≤ 2 := by
            simp only [List.mem_cons, List.not_mem_nil, or_false] at hv9
            rcases hv9 with e | e | e <;> exact ⟨_, e, by decide⟩
          have C10 := C9.bag Db B9
          generalize upd (upd H8 p3 (.lst [V.int 1, V.int (-1), V.int 2])) b (.lst zs9) = H10 at C10 ⊢
          obtain ⟨cs2, lcs2, hD10, hcs10⟩ := C10.N
          refine ⟨_, rfl, _, rfl, b, l, D, ms, cs2.map V.ref, rfl, C10.B, hD10, Db, by rw [List.length_map]; omega, by rw [List.length_map]; omega, fun v zs11 hv11 B11 => ?_⟩
          obtain ⟨c9, hc9, rfl⟩ := List.mem_map.mp hv11
          obtain ⟨m, hm⟩ := List.getElem?_of_mem hc9
          have ml := (List.getElem?_eq_some_iff.mp hm).1
          have hcol := List.getElem?_eq_getElem (show m < cols.length by rw [C10.n]; omega)
          have hcz := C10.z _ (List.mem_of_getElem? hcol)
          have h9 := hcs10 m c9 _ hm hcol
          generalize cols[m]'(by rw [C10.n]; omega) = col at hcol hcz h9
          have h9' := sqT_bag (o := .lst zs11) C10.B h9
          have C11 := C10.bag Db B11
          generalize upd H10 b (.lst zs11) = H11 at C11 h9' ⊢
          refine ⟨by simp [sizeLine_eq], fun T4 nT4 => ?_⟩
          have s4 := same_new (o := .tup [V.int y, V.ref c9]) nT4
          have C12 := C11.same s4
          have h9'' := ZM.sqT_sm s4 h9'
          refine ⟨T4, _, rfl, SqT.of upd_same, rfl, _, _, rfl, _, _, rfl, rfl, ?_⟩
          generalize upd H11 T4 (.tup [V.int y, V.ref c9]) = H12 at C12 h9'' ⊢
          refine ZM.lcm_sq (ys := (col.map fun x => y * x).map V.int) (fun R rr => ⟨_, rfl, rr⟩) (.inr h9'') (by simp) (by simp [hcz.1]; omega) (fun _ => rfl) ?_ ?_
          · intro i3 x yy H13 R hx hy3 s13 hR
            obtain ⟨u, rfl, hu⟩ := get_ints hx
            rw [List.getElem?_map, List.getElem?_map, hu] at hy3
            cases hy3
            exact ⟨_, rfl, _, rfl, _, _, rfl, rfl, .inl (by omega), hR _ (Same.refl _)⟩
          · intro D5 H13 s13 nD5 hD5
            refine ⟨D5, _, rfl, .inl ⟨SqL.of hD5, fun T6 nT6 => ?_⟩⟩
            refine ⟨T6, col.map fun x => y * x, _, _, rfl, C12.same (s13.trans (same_new nT6)), sqT_new, by simp [hcz.1], fun v hv => ?_⟩
            obtain ⟨x, hx, rfl⟩ := List.mem_map.mp hv
            have hx2 := hcz.2 x hx
            rw [Int.natAbs_mul, Nat.pow_succ]
            have := Nat.mul_le_mul hy hx2
            omega
        · rintro σ H8 ⟨p2, c2, x8, x9, rfl, C8, hp2, hc2⟩
          obtain ⟨xs, hxs, lxs, Cn⟩ := C8.put nDH Db Dl hp2 hc2
          refine ⟨_, rfl, tyl hxs, _, rfl, D, _, _, rfl, rfl, hxs, by rw [lxs, sizeLine_eq]; omega, _, _, _, _, _, _, rfl, Cn⟩
  · rintro σ H3 ⟨x5, x6, x7, x8, x9, cols, rfl, C⟩
    obtain ⟨cs, h1, h2, h3⟩ := C.N
    have hp : 99 * 2 ^ n ≤ 99 * 2 ^ 7 := Nat.mul_le_mul_left _ (Nat.pow_le_pow_right (by decide) n7)
    refine ⟨_, rfl, q D H3 cols C.bu C.B nDH ⟨cs, SqL.of h2, by rw [h1, C.n], h3⟩ C.n fun c hc => ⟨(C.z c hc).1, fun v hv => ?_⟩⟩
    have := (C.z c hc).2 v hv
    omega
end
end K14

set_option maxHeartbeats 2000000
/-! Sets of ints of a known size: set(tuple), len(set), == of sets of unlike size -/
namespace SE
open PySem PySem.Spec PyProof.Rows L2
theorem setR_len {w : World} {h : Heap} {a : Addr} {ns : List Int} {c : Nat} (R : SetR w h a (fun j => decide (j ∈ ns)) c) (nd : ns.Nodup) : c = ns.length := by
  obtain ⟨o, es, ep, t, ho, hx, hd, g, nd2, hm, hb, hf, hn, _⟩ := R
  have hp : (es.toList.map keyOf).Perm ns := (List.perm_ext_iff_of_nodup nd2 nd).mpr fun k => by
    rw [← hm k]
    simp
  have := hp.length_eq
  simp at this
  omega
def rSetN (K : PySem.W.Frag) (w : World) : List V → Hp → VK → Prop := fun xs H Q => ∃ (p : Addr) (ns : List Int), xs = [.ref p] ∧ SqT K H p (ns.map V.int) ∧ ns.length ≤ 1000 ∧ ns.Nodup ∧
  ∀ a, H a = none → Q (.ref a) (upd H a (SetO w a (fun j => decide (j ∈ ns)) ns.length))
theorem cr_setN {X : Cx} (hc : X.calm = true) : CallR X (.type "set") (rSetN X.K X.w) := by
  intro pins s σ H xs us Q I r h
  obtain ⟨p, ns, rfl, hq, hl, nd, q⟩ := h
  rw [Vals.ref1 r]
  obtain ⟨its, rv, pt, hz⟩ := I.tuple hq
  have hi : IntsAre its.toArray.toList ns := ints_of_vals rv
  refine call_set_tupI ns (I.ok.hd hc) (show s.heap.IsTuple p its.toArray from pt) hi (by unfold scanBound; omega) fun h' tk c R1 hcn k => ?_
  obtain rfl := setR_len R1 nd
  exact ⟨.ref _, upd H s.heap.objs.size (SetO X.w s.heap.objs.size (fun j => decide (j ∈ ns)) ns.length), I.laid (t' := tk) k (Nat.le_refl _) (setO_new R1), rfl, q _ (I.hok.fresh (Nat.le_refl _))⟩
def rLenSet (w : World) : List V → Hp → VK → Prop := fun xs H Q => ∃ (a : Addr) (S : Int → Bool) (n : Nat), xs = [.ref a] ∧ H a = some (SetO w a S n) ∧ Q (.int (n : Nat)) H
theorem cr_lenSet {X : Cx} : CallR X (.builtin "len") (rLenSet X.w) := by
  intro pins s σ H xs us Q I r h
  obtain ⟨a, S, n, rfl, ha, q⟩ := h
  rw [Vals.ref1 r]
  obtain ⟨o, es, ep, t, ho, hx, hd, g, nd2, hm, hb, hf, hn, _⟩ := setO_get I ha
  exact call_len_set ho hx hd hf (by unfold scanBound at hb; omega) ⟨.int (n : Nat), H, I.tok _, ⟨_, by rw [hn]⟩, q⟩
theorem entry_set_eq : entryFor table "set.__eq__" = some Builtin.«frozenset.__eq__» :=
  entryFor_alias (id' := "frozenset.__eq__") (by kernel_rfl) rfl (by decide +kernel) (by kernel_rfl)
def rEqSet (w : World) : R2 := fun x y H Q => ∃ (a b : Addr) (S T : Int → Bool) (n m : Nat), x = .ref a ∧ y = .ref b ∧ H a = some (SetO w a S n) ∧ H b = some (SetO w b T m) ∧ n ≠ m ∧ Q (.bl false) H
theorem op_eqSet {X : Cx} (hu : X.A.units < cLine) : OpR X (compareOp .Eq) (rEqSet X.w) := by
  intro pins s σ H x y v u Q I rx ry h
  obtain ⟨a, b, S, T, n, m, rfl, rfl, ha, hb, nm, q⟩ := h
  cases rx
  cases ry
  obtain ⟨o, es, ep, t, ho, hx, hd, g, nd2, hm, hbd, hf, hn, _⟩ := setO_get I ha
  obtain ⟨o', es', ep', t', ho', hx', hd', g', nd2', hm', hbd', hf', hn', _⟩ := setO_get I hb
  have hT : s.TypeIs (.ref a) "set" := ⟨o, ho, hx.1⟩
  have hT' : s.TypeIs (.ref b) "set" := ⟨o', ho', hx'.1⟩
  refine wpAny_richCompare_same_room (op := .Eq) hT hT' PySem.F.slot_set_eq (wpAny_call_entry PySem.F.slot_set_eq hT entry_set_eq ?_ (PySem.F.args_set_eq_2 _ _)) hu
  unfold Builtin.«frozenset.__eq__»
  have hsu := F.sub_set_set
  wp_walk
  rw [hd]
  dsimp only
  have hf2 : (t.place.size != es.size || decide (t.fill > t.mask)) = false := by
    have := hf
    unfold SetTable.fits at this
    simp at this ⊢
    omega
  rw [hf2]
  refine wpAny_pure ?_
  refine wpAny_pure ?_
  refine wpAny_pure ?_
  unfold Builtin.Frozenset.sizeOf
  refine wpAny_bind (wpAny_bind (wpAny_setEntries_of ho' hd' hf' (wpAny_pure ?_)))
  have hnm : (es.size != es'.size) = true := by
    simp
    omega
  dsimp only
  rw [hnm]
  refine wpAny_bind (wpAny_pure ?_)
  refine wpAny_pure ⟨_, rfl, (fun x => nomatch x), ⟨.bl false, H, I, rfl, q⟩⟩
end SE

set_option maxHeartbeats 8000000
/-! Whether a told reason holds. -/
namespace K14
open PySem PySem.Spec PyProof.Rows L2
abbrev nRh : List Str := ["_law_m", "_law_told", "_law_many", "_law_rank", "_law_lot", "_law_one", "_law_other", "_law_thing", "_law_four", "_law_some"]
/-- a told reason -/
inductive Told (H : Hp) (n r : Nat) (ss : List Int) (T : Addr) : Prop
  | none : basesF n r ss = [] → H T = some (.tup [.str "none"]) → Told H n r ss T
  | ex {one other : List Nat} {t : Nat} {a1 a2 : Addr} : exF n (basesF n r ss) = some (one, other, t) → H T = some (.tup [.str "exchange", .ref a1, .ref a2, .int (t : Int)]) → H a1 = some (.tup (CB.lotV one)) → H a2 = some (.tup (CB.lotV other)) → Told H n r ss T
  | three {lot four : List Nat} {a1 a2 : Addr} : basesF n r ss ≠ [] → exF n (basesF n r ss) = none → thrF n r (gT n r ss) = some (lot, four) → H T = some (.tup [.str "three", .ref a1, .ref a2]) → H a1 = some (.tup (CB.lotV lot)) → H a2 = some (.tup (CB.lotV four)) → Told H n r ss T
theorem Told.same {H H' : Hp} {n r : Nat} {ss : List Int} {T : Addr} (h : Told H n r ss T) (s : Same H H') : Told H' n r ss T := by
  cases h with
  | none a b => exact .none a (s _ _ b)
  | ex a b c d => exact .ex a (s _ _ b) (s _ _ c) (s _ _ d)
  | three y z a b c d => exact .three y z a (s _ _ b) (s _ _ c) (s _ _ d)
def spRh : Sp := fun vs H Q _ => ∃ (m d T : Addr) (n r : Nat) (ss : List Int), vs = [.ref m, .ref T] ∧ ModAt H m d n r ss ∧ n ≤ 7 ∧ r ≤ n ∧ ss.length = (CB.combs n r).length ∧ ss.all isS = true ∧ Told H n r ss T ∧ ∀ H', Same H H' → Q (.bl true) H'
theorem catN {K : PySem.W.Frag} {l q : Addr} {lot four : List Nat} {H : Hp} {R : VK} (hl : H l = some (.tup (CB.lotV lot))) (hq : H q = some (.tup (CB.lotV four))) (ll : lot.length ≤ 7) (lf : four.length ≤ 7) (k : ∀ T H', Same H H' → SqT K H' T ((ci lot ++ ci four).map V.int) → R (.ref T) H') : rCatA K (.ref l) (.ref q) H R := by
  have e : (ci lot ++ ci four).map V.int = CB.lotV lot ++ CB.lotV four := by rw [List.map_append, ← lotV_ci, ← lotV_ci]
  exact ⟨l, q, _, _, rfl, rfl, SqT.of hl, SqT.of hq, by rw [sizeLine_eq]; simp; omega, fun e1 => k q H (Same.refl _) (SqT.of (by rw [hq, e, e1]; rfl)), fun _ e2 => k l H (Same.refl _) (SqT.of (by rw [hl, e, e2, List.append_nil])), fun _ _ p np => k p _ (same_new np) (SqT.of (by rw [upd_same, e]))⟩
theorem so_none : PyData.strOk "none" = true := by decide +kernel
theorem so_ex : PyData.strOk "exchange" = true := by decide +kernel
theorem so_th : PyData.strOk "three" = true := by decide +kernel
theorem sh_none : SeqAt.shaped (.tuple [.str "none"]) = true := by
  unfold SeqAt.shaped
  simp [PyData.canLay0, PyData.canLayAll0, PyData.depth, PyData.depthAll, so_none]
theorem sh_nil : SeqAt.shaped (.tuple []) = true := by
  unfold SeqAt.shaped
  simp [PyData.canLay0, PyData.canLayAll0, PyData.depth, PyData.depthAll]
theorem sh_ex {x : Str} (hx : PyData.strOk x = true) (a b : List Int) (t : Int) : SeqAt.shaped (.tuple [.str x, DL.ti a, DL.ti b, .int t]) = true := by
  unfold SeqAt.shaped
  have h1 := DL.depI a
  have h2 := DL.depI b
  have l1 := DL.layI a
  have l2 := DL.layI b
  simp [PyData.canLay0, PyData.canLayAll0, PyData.depth, PyData.depthAll, l1, l2, hx]
  omega
theorem sh_th {x : Str} (hx : PyData.strOk x = true) (a b : List Int) : SeqAt.shaped (.tuple [.str x, DL.ti a, DL.ti b]) = true := by
  unfold SeqAt.shaped
  have h1 := DL.depI a
  have h2 := DL.depI b
  have l1 := DL.layI a
  have l2 := DL.layI b
  simp [PyData.canLay0, PyData.canLayAll0, PyData.depth, PyData.depthAll, l1, l2, hx]
  omega
theorem eqv_nil (d : PyData) (ds : List PyData) : PyData.eqv (.tuple (d :: ds)) (.tuple []) = false := by
  rw [PyData.eqv, PyData.eqvAll]
section
variable {P : Program} {w : World} {K : PySem.W.Frag} {mg : Str → Option Value} {base : Heap}
end
end K14

set_option maxHeartbeats 8000000
/-! What a judged table tells, as one word. -/
namespace K14
open PySem PySem.Spec PyProof.Rows L2
/-- a def with all that is known of it -/
structure Ent (P : Program) (w : World) (K : PySem.W.Frag) (mg : Str → Option Value) (base : Heap) (n : Nat) (nm : Str) (ps : List Str) (sp : Sp) where
  f : Addr
  fd : FuncData
  ok : FnOk P w K mg base CX0 n f fd ps sp
  g : mg nm = some (.ref f)
  k : PySem.W.keepIn K (.ref f) = true
  b : Binds K fd ps []
theorem FnOk.le {P : Program} {w : World} {K : PySem.W.Frag} {mg : Str → Option Value} {base : Heap} {CX : CXT} {n : Nat} {f : Addr} {fd : FuncData} {ps : List Str} {sp sp' : Sp} (F : FnOk P w K mg base CX n f fd ps sp) (h : ∀ vs H Q E, sp' vs H Q E → sp vs H Q E) : FnOk P w K mg base CX n f fd ps sp' :=
  ⟨fun vs H Q E g => F.1 vs H Q E (h vs H Q E g), fun A outer s H args us vs Q E hr he hb hv g => F.2 A outer s H args us vs Q E hr he hb hv (h vs H Q E g)⟩
/-- what is told of a table -/
inductive JT (H : Hp) (n r : Nat) (ss : List Int) (T : Addr) : Prop
  | bad : houseF n r ss = false → Told H n r ss T → JT H n r ss T
  | good {a : Addr} : houseF n r ss = true → H T = some (.tup [.str "house", .ref a]) → H a = some (.tup ((told ss).map V.int)) → JT H n r ss T
def dtI (ns : List Int) : Dt := .tup (ns.map Dt.int)
/-- the same as data -/
def dtJ (n r : Nat) (ss : List Int) : Dt := if basesF n r ss = [] then .tup [.str "none"] else match exF n (basesF n r ss) with
  | some (one, other, t) => .tup [.str "exchange", dtI (ci one), dtI (ci other), .int (t : Int)]
  | none => match thrF n r (gT n r ss) with
    | some (lot, four) => .tup [.str "three", dtI (ci lot), dtI (ci four)]
    | none => .tup [.str "house", dtI (told ss)]
theorem Has.tints {H : Hp} {a : Addr} {ns : List Int} {n : Nat} (e : H a = some (.tup (ns.map V.int))) (z : ns.length ≤ 1000000) : Has H (n + 2) (.ref a) (dtI ns) := by
  refine .tup e (by rw [List.length_map, List.length_map]) (by rw [List.length_map]; exact z) fun i x d h1 h2 => ?_
  rw [List.getElem?_map] at h1 h2
  cases q : ns[i]? with
  | none => rw [q] at h1; cases h1
  | some v =>
    rw [q] at h1 h2
    have e1 : V.int v = x := Option.some.inj h1
    have e2 : Dt.int v = d := Option.some.inj h2
    rw [← e1, ← e2]
    exact .int v
/-- one after another -/
inductive HasAll (H : Hp) (n : Nat) : List V → List Dt → Prop
  | nil : HasAll H n [] []
  | cons {x : V} {d : Dt} {xs : List V} {ds : List Dt} : Has H n x d → HasAll H n xs ds → HasAll H n (x :: xs) (d :: ds)
theorem HasAll.len {H : Hp} {n : Nat} {xs : List V} {ds : List Dt} (h : HasAll H n xs ds) : xs.length = ds.length := by
  induction h with
  | nil => rfl
  | cons _ _ ih => simp [ih]
theorem HasAll.at {H : Hp} {n : Nat} {xs : List V} {ds : List Dt} (h : HasAll H n xs ds) : ∀ (i : Nat) (x : V) (d : Dt), xs[i]? = some x → ds[i]? = some d → Has H n x d := by
  induction h with
  | nil => intro i x d h1; simp at h1
  | cons a _ ih =>
    intro i x d h1 h2
    cases i with
    | zero => cases h1; cases h2; exact a
    | succ i => exact ih i x d h1 h2
theorem Has.mkT {H : Hp} {n : Nat} {a : Addr} {xs : List V} {ds : List Dt} (e : H a = some (.tup xs)) (z : ds.length ≤ 1000000) (h : HasAll H n xs ds) : Has H (n + 1) (.ref a) (.tup ds) := .tup e h.len z h.at
theorem Has.mkL {H : Hp} {n : Nat} {a : Addr} {xs : List V} {ds : List Dt} (e : H a = some (.lst xs)) (z : ds.length ≤ 1000000) (h : HasAll H n xs ds) : Has H (n + 1) (.ref a) (.lst ds) := .lst e h.len z h.at
theorem opp_len (ns : List Int) : (told ns).length = ns.length := by
  unfold told opp
  split <;> simp
/-- the lot of a fault is none too long -/
theorem JT.has {H : Hp} {n r : Nat} {ss : List Int} {T : Addr} (hn : n ≤ 7) (hr : r ≤ n) (hl : ss.length = (CB.combs n r).length) (h : JT H n r ss T) (m : Nat) : Has H (m + 3) (.ref T) (dtJ n r ss) := by
  have c35 := combs_35 hn hr
  have lot : ∀ {a : Addr} {c : List Nat}, H a = some (.tup (CB.lotV c)) → c.length ≤ 8 → Has H (m + 2) (.ref a) (dtI (ci c)) := fun {a c} e l => Has.tints (by rw [e, lotV_ci]) (by simp [ci]; omega)
  cases h with
  | bad hh ht =>
    cases ht with
    | none eb hT =>
      unfold dtJ
      rw [if_pos eb]
      exact .mkT hT (by simp) (.cons (.str _) .nil)
    | @ex one other t a1 a2 ef hT h1 h2 =>
      obtain ⟨m1, m2, _, _, _⟩ := ex_some ef
      have sub := basesF_sub (n := n) (r := r) hl
      have nb : basesF n r ss ≠ [] := fun e => by rw [e] at m1; cases m1
      unfold dtJ
      rw [if_neg nb, ef]
      exact .mkT hT (by simp) (.cons (.str _) (.cons (lot h1 (by rw [(combs_ok hn (by omega) (sub.subset m1)).1]; omega)) (.cons (lot h2 (by rw [(combs_ok hn (by omega) (sub.subset m2)).1]; omega)) (.cons (.int _) .nil))))
    | @three lo fo a1 a2 nb ex et hT h1 h2 =>
      obtain ⟨r2, k1, F4, _⟩ := thr_some hn hr et
      unfold dtJ
      rw [if_neg nb, ex, et]
      exact .mkT hT (by simp) (.cons (.str _) (.cons (lot h1 (by rw [(combs_ok hn (by omega) k1).1]; omega)) (.cons (lot h2 (by rw [F4.l]; omega)) .nil)))
  | @good a hh hT ha =>
    obtain ⟨nb, ex, et⟩ := house_iff.mp hh
    unfold dtJ
    rw [if_neg nb, ex, et]
    exact .mkT hT (by simp) (.cons (.str _) (.cons (Has.tints ha (by rw [opp_len]; omega)) .nil))
def spJ : Sp := fun vs H Q _ => ∃ (n r : Nat) (a : Addr) (ss : List Int), vs = [.int (n : Int), .int (r : Int), .ref a] ∧ n ≤ 7 ∧ r ≤ n ∧ SqE H a ss ∧ ss.length = (CB.combs n r).length ∧ ss.all isS = true ∧ ∀ T H', Same H H' → H T = none → JT H' n r ss T → Q (.ref T) H'
theorem j_of {P : Program} {w : World} {K : PySem.W.Frag} {mg : Str → Option Value} {base : Heap} {k : Nat} {f : Addr} {fd : FuncData} (F : FnOk P w K mg base CX0 k f fd ["things", "rank", "signs"] (spJd K)) : FnOk P w K mg base CX0 k f fd ["things", "rank", "signs"] spJ :=
  FnOk.le F fun vs H Q E ⟨n, r, a, ss, e, n7, rn, hE, hl, ha, q⟩ => ⟨n, r, a, ss, e, n7, rn, hE, hl, ha,
    fun eb T H' s nT hT => q T H' s nT (.bad (by unfold houseF; rw [decide_eq_true eb]; rfl) (.none eb hT)),
    fun nb one other t ex T a1 a2 H' s nT hT h1 h2 => q T H' s nT (.bad (by unfold houseF; rw [decide_eq_false (show ¬ exF n (basesF n r ss) = none by rw [ex]; simp), Bool.and_false, Bool.false_and]) (.ex ex hT h1 h2)),
    fun nb ex lot four et T a1 a2 H' s nT hT h1 h2 => q T H' s nT (.bad (by unfold houseF; rw [decide_eq_false (show ¬ thrF n r (gT n r ss) = none by rw [et]; simp), Bool.and_false]) (.three nb ex et hT h1 h2)),
    fun nb ex et T a1 H' s nT hT h1 => q T H' s nT (.good (house_iff.mpr ⟨nb, ex, et⟩) hT h1)⟩
end K14

set_option maxHeartbeats 8000000
/-! The class House: made of a table that is a house; what it tells. -/
namespace K14
open PySem PySem.Spec PyProof.Rows L2
abbrev sHi : Stmt := inClass (topS 35) 0
abbrev sHt : Stmt := inClass (topS 35) 1
abbrev sHr : Stmt := inClass (topS 35) 2
abbrev sHs : Stmt := inClass (topS 35) 3
abbrev sHb : Stmt := inClass (topS 35) 5
theorem scHi : FnScope ["self", "things", "rank", "signs", "told"] ["self", "things", "rank", "signs"] (defScope sHi) := ⟨rfl, rfl, rfl, by decide +kernel, rfl, by decide +kernel, by decide +kernel⟩
theorem scHt : FnScope ["self"] ["self"] (defScope sHt) := ⟨rfl, rfl, rfl, by decide +kernel, rfl, by decide +kernel, by decide +kernel⟩
theorem scHr : FnScope ["self"] ["self"] (defScope sHr) := ⟨rfl, rfl, rfl, by decide +kernel, rfl, by decide +kernel, by decide +kernel⟩
theorem scHs : FnScope ["self"] ["self"] (defScope sHs) := ⟨rfl, rfl, rfl, by decide +kernel, rfl, by decide +kernel, by decide +kernel⟩
theorem scHb : FnScope ["self", "lot", "sign"] ["self"] (defScope sHb) := ⟨rfl, rfl, rfl, by decide +kernel, rfl, by decide +kernel, by decide +kernel⟩
theorem n12 : ¬ (("_things" : Str) = "_rank") := by decide +kernel
theorem n13 : ¬ (("_things" : Str) = "_signs") := by decide +kernel
theorem n14 : ¬ (("_things" : Str) = "_by_lot") := by decide +kernel
theorem n23 : ¬ (("_rank" : Str) = "_signs") := by decide +kernel
theorem n24 : ¬ (("_rank" : Str) = "_by_lot") := by decide +kernel
theorem n34 : ¬ (("_signs" : Str) = "_by_lot") := by decide +kernel
/-- the attributes, as __init__ stores them -/
def hf (n r : Nat) (a d : Addr) : List (Str × V) := putF "_by_lot" (.ref d) (putF "_signs" (.ref a) (putF "_rank" (.int (r : Int)) (putF "_things" (.int (n : Int)) [])))
theorem hf_t (n r : Nat) (a d : Addr) : (hf n r a d).lookup ("_things" : Str) = some (.int (n : Int)) := by
  unfold hf
  rw [lookup_putF, if_neg n14, lookup_putF, if_neg n13, lookup_putF, if_neg n12, lookup_putF, if_pos rfl]
theorem hf_r (n r : Nat) (a d : Addr) : (hf n r a d).lookup ("_rank" : Str) = some (.int (r : Int)) := by
  unfold hf
  rw [lookup_putF, if_neg n24, lookup_putF, if_neg n23, lookup_putF, if_pos rfl]
theorem hf_s (n r : Nat) (a d : Addr) : (hf n r a d).lookup ("_signs" : Str) = some (.ref a) := by
  unfold hf
  rw [lookup_putF, if_neg n34, lookup_putF, if_pos rfl]
theorem hf_b (n r : Nat) (a d : Addr) : (hf n r a d).lookup ("_by_lot" : Str) = some (.ref d) := by
  unfold hf
  rw [lookup_putF, if_pos rfl]
theorem hf_no (n r : Nat) (a d : Addr) {m : Str} (h1 : ¬ m = "_things") (h2 : ¬ m = "_rank") (h3 : ¬ m = "_signs") (h4 : ¬ m = "_by_lot") : (hf n r a d).lookup m = none := by
  unfold hf
  rw [lookup_putF, if_neg h4, lookup_putF, if_neg h3, lookup_putF, if_neg h2, lookup_putF, if_neg h1]
  all_goals rfl
/-- a House stands at p -/
structure HouseAt (C : Addr) (H : Hp) (p : Addr) (n r : Nat) (ss : List Int) : Prop where
  ob : ∃ dx a d, H p = some (.ins C dx (hf n r a d)) ∧ H a = some (.tup (ss.map V.int)) ∧ H d = some (.dT (tab n r ss))
theorem HouseAt.same {C p : Addr} {H H' : Hp} {n r : Nat} {ss : List Int} (h : HouseAt C H p n r ss) (s : Same H H') : HouseAt C H' p n r ss := by
  obtain ⟨dx, a, d, h1, h2, h3⟩ := h.ob
  exact ⟨dx, a, d, s _ _ h1, s _ _ h2, s _ _ h3⟩
/-- the class as the top has made it -/
structure TxH (K : PySem.W.Frag) (mg : Str → Option Value) (C : Addr) : Prop where
  cl : Cls K C
  n1 : NoAttr K C "_things"
  n2 : NoAttr K C "_rank"
  n3 : NoAttr K C "_signs"
  n4 : NoAttr K C "_by_lot"
  gC : mg "House" = some (.ref C)
def spHi (C : Addr) : Sp := fun vs H Q _ => ∃ (p dx : Addr) (n r : Nat) (a : Addr) (ss : List Int), vs = [.ref p, .int (n : Int), .int (r : Int), .ref a] ∧ H p = some (.ins C dx []) ∧ n ≤ 7 ∧ r ≤ n ∧ SqE H a ss ∧ ss.length = (CB.combs n r).length ∧ ss.all isS = true ∧ houseF n r ss = true ∧
  ∀ H', (∀ b o, H b = some o → b ≠ p → H' b = some o) → HouseAt C H' p n r (told ss) → Q .non H'
section
variable {P : Program} {w : World} {K : PySem.W.Frag} {mg : Str → Option Value} {base : Heap}
theorem ok_hi {f fj fs C : Addr} {fd dj ds : FuncData} {k : Nat} (F : Fun K "__init__" "House.__init__" sHi f fd) (T : TxH K mg C)
    (J : FnOk P w K mg base CX0 k fj dj ["things", "rank", "signs"] spJ) (gJ : mg "judged" = some (.ref fj)) (kJ : PySem.W.keepIn K (.ref fj) = true) (bJ : Binds K dj ["things", "rank", "signs"] [])
    (S : FnOk P w K mg base CX0 k fs ds ["things", "rank", "signs"] (spSbl K)) (gS : mg "signs_by_lot" = some (.ref fs)) (kS : PySem.W.keepIn K (.ref fs) = true) (bS : Binds K ds ["things", "rank", "signs"] []) : FnOk P w K mg base CX0 (k + 1) f fd ["self", "things", "rank", "signs"] (spHi C) := by
  refine F.ok scHi (fun vs H Q E ⟨p, dx, n, r, a, ss, e, _⟩ => by rw [e]; rfl) (fun cdv A outer s H vs Q E hr h => ?_)
  refine ⟨_, pss_cons (ps_set (i := 4) scHi.nd rfl (Or.inl rfl) (pe_call J hr (by rfl) gJ kJ bJ .nil pass0 (pa_cons (pv 1) (pa_cons (pv 2) (pa_cons (pv 3) pa_nil)))))
    (pss_cons (ps_if (pt_cmpR op_ne (pe_ix (r := rIx K) ix_seq (pv 4) pe_int (fun _ _ => rfl)) pe_str (nomark _)) (pss_one ps_no) pss_nil)
    (pss_cons (ps_fld (pv 0) (pv 1) rfl)
    (pss_cons (ps_fld (pv 0) (pv 2) rfl)
    (pss_cons (ps_fld (pv 0) (pe_ix (r := rIx K) ix_seq (pv 4) pe_int (fun _ _ => rfl)) rfl)
    (pss_one (ps_fld (pv 0) (pe_call S hr (by rfl) gS kS bS .nil pass0 (pa_cons (pv 1) (pa_cons (pv 2) (pa_cons (pe_fld (pv 0) rfl) pa_nil)))) rfl)))))), ?_⟩
  obtain ⟨p, dx, n, r, a, ss, rfl, hp, n7, rn, hE, hl, ha, hh, q⟩ := h
  refine ⟨_, rfl, _, rfl, _, rfl, n, r, a, ss, rfl, n7, rn, hE, hl, ha, fun T1 H1 s1 nT hT => ?_⟩
  cases hT with
  | bad g _ => rw [hh] at g; cases g
  | @good a1 _ hT1 ha1 =>
  have hp1 := s1 _ _ hp
  refine ⟨_, rfl, ix_ls (.inr (SqT.of hT1)) (atI_nat (j := 0) rfl) ⟨rfl, _, rfl, if_f rfl ?_⟩⟩
  have pT : T1 ≠ p := fun z => by rw [z, hp1] at hT1; cases hT1
  have pa : a1 ≠ p := fun z => by rw [z, hp1] at ha1; cases ha1
  have kp : ∀ {H' : Hp} {b : Addr} {o o' : HO}, b ≠ p → H' b = some o → upd H' p o' b = some o := fun ne e => by rw [upd_ne ne]; exact e
  refine ⟨_, rfl, _, rfl, p, C, dx, [], rfl, hp1, T.cl, T.n1, (by show 0 < 1000; decide), ?_⟩
  refine ⟨_, rfl, _, rfl, p, C, dx, _, rfl, upd_same, T.cl, T.n2, (by show 1 < 1000; decide), ?_⟩
  refine ⟨_, rfl, ix_ls (xs := [.str "house", .ref a1]) (.inr (SqT.of (kp pT (kp pT hT1)))) (atI_nat (j := 1) rfl) ⟨_, rfl, p, C, dx, _, rfl, upd_same, T.cl, T.n3, (by show 2 < 1000; decide), ?_⟩⟩
  have ltd : (told ss).length = (CB.combs n r).length := by rw [opp_len, hl]
  have std : (told ss).all isS = true := by rw [told_norm ha]; exact norm_isS ha
  refine ⟨_, rfl, _, rfl, _, rfl, p, C, dx, _, _, rfl, upd_same, T.cl, T.n3, by rw [lookup_putF, if_pos rfl], n, r, a1, told ss, rfl, n7, rn, .inr (SqT.of (kp pa (kp pa (kp pa ha1)))), ltd, std, fun d H2 s2 nd hd => ?_⟩
  have hp2 := s2 _ _ upd_same
  refine ⟨_, rfl, p, C, dx, _, rfl, hp2, T.cl, T.n4, (by show 3 < 1000; decide), ?_⟩
  have dp : d ≠ p := fun z => by rw [z, hp2] at hd; cases hd
  refine q _ (fun b o e ne => kp ne (s2 _ _ (kp ne (kp ne (kp ne (s1 _ _ e)))))) ⟨dx, a1, d, upd_same, kp pa (s2 _ _ (kp pa (kp pa (kp pa ha1)))), kp dp hd⟩
def spHt (C : Addr) : Sp := fun vs H Q _ => ∃ (p : Addr) (n r : Nat) (ss : List Int), vs = [.ref p] ∧ HouseAt C H p n r ss ∧ Q (.int (n : Int)) H
theorem ok_ht {f C : Addr} {fd : FuncData} {k : Nat} (F : Fun K "things" "House.things" sHt f fd) (T : TxH K mg C) : FnOk P w K mg base CX0 (k + 1) f fd ["self"] (spHt C) := by
  refine F.ok scHt (fun vs H Q E ⟨p, n, r, ss, e, _⟩ => by rw [e]; rfl) (fun cdv A outer s H vs Q E hr h => ⟨_, pss_one (ps_ret (pe_fld (pv 0) rfl)), ?_⟩)
  obtain ⟨p, n, r, ss, rfl, ⟨dx, a, d, h1, h2, h3⟩, q⟩ := h
  exact ⟨_, rfl, p, C, dx, _, _, rfl, h1, T.cl, T.n1, hf_t _ _ _ _, q⟩
def spHr (C : Addr) : Sp := fun vs H Q _ => ∃ (p : Addr) (n r : Nat) (ss : List Int), vs = [.ref p] ∧ HouseAt C H p n r ss ∧ Q (.int (r : Int)) H
theorem ok_hr {f C : Addr} {fd : FuncData} {k : Nat} (F : Fun K "rank" "House.rank" sHr f fd) (T : TxH K mg C) : FnOk P w K mg base CX0 (k + 1) f fd ["self"] (spHr C) := by
  refine F.ok scHr (fun vs H Q E ⟨p, n, r, ss, e, _⟩ => by rw [e]; rfl) (fun cdv A outer s H vs Q E hr h => ⟨_, pss_one (ps_ret (pe_fld (pv 0) rfl)), ?_⟩)
  obtain ⟨p, n, r, ss, rfl, ⟨dx, a, d, h1, h2, h3⟩, q⟩ := h
  exact ⟨_, rfl, p, C, dx, _, _, rfl, h1, T.cl, T.n2, hf_r _ _ _ _, q⟩
def spHs (C : Addr) : Sp := fun vs H Q _ => ∃ (p : Addr) (n r : Nat) (ss : List Int), vs = [.ref p] ∧ HouseAt C H p n r ss ∧ ∀ a, H a = some (.tup (ss.map V.int)) → Q (.ref a) H
theorem ok_hs {f C : Addr} {fd : FuncData} {k : Nat} (F : Fun K "signs" "House.signs" sHs f fd) (T : TxH K mg C) : FnOk P w K mg base CX0 (k + 1) f fd ["self"] (spHs C) := by
  refine F.ok scHs (fun vs H Q E ⟨p, n, r, ss, e, _⟩ => by rw [e]; rfl) (fun cdv A outer s H vs Q E hr h => ⟨_, pss_one (ps_ret (pe_fld (pv 0) rfl)), ?_⟩)
  obtain ⟨p, n, r, ss, rfl, ⟨dx, a, d, h1, h2, h3⟩, q⟩ := h
  exact ⟨_, rfl, p, C, dx, _, _, rfl, h1, T.cl, T.n3, hf_s _ _ _ _, q a h2⟩
def spHb (C : Addr) : Sp := fun vs H Q _ => ∃ (p : Addr) (n r : Nat) (ss : List Int), vs = [.ref p] ∧ HouseAt C H p n r ss ∧ n ≤ 7 ∧ r ≤ n ∧ ss.length = (CB.combs n r).length ∧
  ∀ D ts H', Same H H' → H D = none → BsAt H' D ts (basesF n r ss) → Q (.ref D) H'
theorem ok_hb {f C : Addr} {fd : FuncData} {k : Nat} (F : Fun K "bases" "House.bases" sHb f fd) (T : TxH K mg C) : FnOk P w K mg base CX0 (k + 1) f fd ["self"] (spHb C) := by
  refine F.ok scHb (fun vs H Q E ⟨p, n, r, ss, e, _⟩ => by rw [e]; rfl) (fun cdv A outer s H vs Q E hr h => ?_)
  refine ⟨_, pss_one (ps_ret (pe_lock (pe_lc (own := [("lot", 1), ("sign", 2)]) (g := gTup K 2 (gCons (gName 1) (gCons (gName 2) gNil))) rfl scHb.nd (ITT.pi_items (pe_fld (pv 0) rfl)) (blkOk_by (N := ["self", "lot", "sign"]) (sc := defScope sHb) (by decide +kernel))
        (fun _ _ _ _ _ => pg_tup rfl (pgs_cons (pg_name (i := 1) scHb.nd rfl (Or.inl rfl)) (pgs_cons (pg_name (i := 2) scHb.nd rfl (Or.inl rfl)) pgs_nil))) (fun _ _ _ _ _ => pts_one (pt_cmpR op_ne (pv 2) pe_int (nomark _))) (fun _ _ _ _ _ => pv 1)))), ?_⟩
  obtain ⟨p, n, r, ss, rfl, ⟨dx, a, d, h1, h2, hd⟩, n7, rn, hl, q⟩ := h
  have zl : ((CB.combs n r).zip ss).length = (CB.combs n r).length := by rw [List.length_zip, hl, Nat.min_self]
  have c35 := combs_35 n7 rn
  have pd : p ≠ d := fun z => by rw [z, hd] at h1; cases h1
  refine ⟨d, .dT (tab n r ss), hd, trivial, fun od => ?_⟩
  refine ⟨_, rfl, p, C, dx, _, _, rfl, by rw [upd_ne pd]; exact h1, T.cl, T.n4, hf_b _ _ _ _, d, od, tab n r ss, rfl, upd_same, fun D nD => lc_items (o := od) (kvs := tab n r ss) (fun i H' => Same (upd H d (.frz od (.dT (tab n r ss)))) H' ∧ ∃ ts : List Addr, H' D = some (.lst (ts.map V.ref)) ∧ ts.length = (basesZ (((CB.combs n r).zip ss).take i)).length ∧ ∀ (j : Nat) (t : Addr) (c : List Nat), ts[j]? = some t → (basesZ (((CB.combs n r).zip ss).take i))[j]? = some c → H' t = some (.tup (CB.lotV c)))
    ⟨same_new nD, [], upd_same, by simp [basesZ], fun j t c e => by simp at e⟩ (fun i H' p => p.1 _ _ upd_same) ?_ ?_⟩
  · rintro i k v q T H2 hkv hq2 nT ⟨sm, ts, hD, hlen, hts⟩
    rw [tab_zip, List.getElem?_map] at hkv
    obtain ⟨⟨c, sn⟩, hz, ep⟩ := Option.map_eq_some_iff.mp hkv
    cases ep
    have il := (List.getElem?_eq_some_iff.mp hz).1
    have sT := same_new (o := .tup [.ref q, .int sn]) nT
    refine ⟨T, _, rfl, SqT.of upd_same, rfl, _, _, rfl, _, _, rfl, rfl, rfl, _, rfl, rfl, _, rfl, ?_⟩
    have en := basesZ_next hz
    have bl : (basesZ (((CB.combs n r).zip ss).take i)).length ≤ i := by
      unfold basesZ
      rw [List.length_map]
      exact Nat.le_trans (List.length_filter_le _ _) (by rw [List.length_take]; omega)
    by_cases c0 : sn = 0
    · refine if_f (by simp [c0]) ⟨sm.trans sT, ts, sT _ _ hD, ?_⟩
      rw [if_neg (by simp [nz, c0])] at en
      rw [en]
      exact ⟨hlen, fun j t c e1 e2 => sT _ _ (hts j t c e1 e2)⟩
    · refine if_t (by simp [c0]) ⟨_, rfl, ts.map V.ref, sT _ _ hD, by rw [List.length_map, sizeLine_eq]; omega, ZM.sm_at nD (sm.trans sT), ts ++ [q], by rw [upd_same, List.map_append]; rfl, ?_⟩
      rw [if_pos (by simp [nz, c0])] at en
      rw [en]
      refine ⟨by rw [List.length_append, List.length_append, hlen]; rfl, fun j t c' e1 e2 => ?_⟩
      have ht : upd H2 T (.tup [.ref q, .int sn]) t = some (.tup (CB.lotV c')) := by
        by_cases cj : j < ts.length
        · rw [List.getElem?_append_left cj] at e1
          rw [List.getElem?_append_left (by omega)] at e2
          exact sT _ _ (hts j t c' e1 e2)
        · have cj2 : j = ts.length := by
            have := (List.getElem?_eq_some_iff.mp e1).1
            rw [List.length_append] at this
            simp at this
            omega
          subst cj2
          rw [List.getElem?_append_right (Nat.le_refl _), Nat.sub_self] at e1
          rw [hlen, List.getElem?_append_right (Nat.le_refl _), Nat.sub_self] at e2
          cases e1
          cases e2
          rw [key_kV] at hq2
          exact sT _ _ hq2
      rw [upd_ne (fun z => by rw [z, sT _ _ hD] at ht; cases ht)]
      exact ht
  rintro H2 ⟨sm, ts, hD, hlen, hts⟩
  have tl : (tab n r ss).length = ((CB.combs n r).zip ss).length := by rw [tab_len hl, zl]
  rw [tl, List.take_length] at hlen hts
  have hfz := sm _ _ (upd_same (H := H) (a := d) (o := HO.frz od (.dT (tab n r ss))))
  refine ⟨hfz, ?_⟩
  have s2 := unlock_same hd sm
  refine q D ts _ s2 ?_ ⟨by rw [upd_ne (fun z => by rw [z, hfz] at hD; cases hD)]; exact hD, hlen, fun j t c e1 e2 => by
    have ht := hts j t c e1 e2
    rw [upd_ne (fun z => by rw [z, hfz] at ht; cases ht)]
    exact ht⟩
  cases e : H D with
  | none => rfl
  | some o =>
    rw [upd_ne (fun z => by rw [z, hd] at e; rw [z, upd_same] at nD; cases nD)] at nD
    rw [nD] at e
    cases e
end
end K14

set_option maxHeartbeats 8000000
/-! House.sign; a model read. -/
namespace K14
open PySem PySem.Spec PyProof.Rows L2
abbrev sSg : Stmt := inClass (topS 35) 4
theorem scSg : FnScope ["self", "row", "thing"] ["self", "row"] (defScope sSg) := ⟨rfl, rfl, rfl, by decide +kernel, rfl, by decide +kernel, by decide +kernel⟩
def inN (n : Nat) (i : Int) : Bool := decide (0 ≤ i) && decide (i < (n : Int))
def spSg (K : PySem.W.Frag) (C : Addr) : Sp := fun vs H Q _ => ∃ (p b : Addr) (n r : Nat) (ss ns : List Int), vs = [.ref p, .ref b] ∧ HouseAt C H p n r ss ∧ n ≤ 7 ∧ r ≤ n ∧ ss.all isS = true ∧ SqI K H b ns ∧ ns.length = r ∧ ns.all (inN n) = true ∧ ∀ H', Same H H' → Q (.int (readI (gT n r ss) ns)) H'
section
variable {P : Program} {w : World} {K : PySem.W.Frag} {mg : Str → Option Value} {base : Heap} {C : Addr}
theorem ok_sgn {f fs : Addr} {fd ds : FuncData} {k : Nat} (F : Fun K "sign" "House.sign" sSg f fd) (T : TxH K mg C) (ma : mg "any" = none) (ml : mg "len" = none)
    (S : FnOk P w K mg base CX0 k fs ds ["by_lot", "row"] (spSin K)) (gS : mg "sign_in" = some (.ref fs)) (kS : PySem.W.keepIn K (.ref fs) = true) (bS : Binds K ds ["by_lot", "row"] []) : FnOk P w K mg base CX0 (k + 1) f fd ["self", "row"] (spSg K C) := by
  refine F.ok scSg (fun vs H Q E ⟨p, b, n, r, ss, ns, e, _⟩ => by rw [e]; rfl) (fun cdv A outer s H vs Q E hr h => ?_)
  refine ⟨_, pss_cons (ps_if (pt_cmpR op_ne (pe_callB call_len_seq (by rfl) ml PySem.boot_len (pa_cons (pv 1) pa_nil)) (pe_fld (pv 0) rfl) (nomark _)) (pss_one ps_no) pss_nil)
    (pss_cons (ps_if (pt_val (pe_callB (cr_any rfl) (by rfl) ma (by decide +kernel) (pa_cons
      (ZM.pe_bx (pe_lc (own := [("thing", 2)]) (g := gName 2) (tt := tYes) rfl scSg.nd (ZM.pi_sq (pv 1)) (blkOk_by (N := ["self", "row", "thing"]) (sc := defScope sSg) (by decide +kernel))
        (fun _ _ _ _ _ => pg_name (i := 2) scSg.nd rfl (Or.inl rfl)) (fun _ _ _ _ _ => pts_nil)
        (fun _ _ _ _ _ => pe_not (pe_chain (tc := tFld K (tVar 0) "_things") op_le op_lt pe_int (pv 2) (by exact pe_fld (pv 0) rfl))))) pa_nil))) (pss_one ps_no) pss_nil)
    (pss_one (ps_ret (pe_call S hr (by rfl) gS kS bS .nil pass0 (pa_cons (pe_fld (pv 0) rfl) (pa_cons (pv 1) pa_nil)))))), ?_⟩
  obtain ⟨p, b, n, r, ss, ns, rfl, ⟨dx, a, d, h1, h2, h3⟩, n7, rn, ha, hb, hl, hin, q⟩ := h
  refine ⟨_, rfl, b, _, rfl, hb, _, rfl, p, C, dx, _, _, rfl, h1, T.cl, T.n2, hf_r _ _ _ _, rfl, _, rfl, if_f (by simp [hl]) ?_⟩
  refine ZM.lcm_sq (ys := ns.map fun i => V.bl (!inN n i)) (fun R r => ⟨_, rfl, r⟩) hb (by simp) (by simp; omega) (fun _ => rfl) ?_ ?_
  · intro i x y H2 R hx hy s2 hR
    obtain ⟨m, rfl, hm⟩ := get_ints hx
    rw [List.getElem?_map, hm] at hy
    cases hy
    refine ⟨_, rfl, _, _, rfl, rfl, _, rfl, ?_⟩
    have hR : ∀ H4, Same H2 H4 → R (V.bl (!(decide (0 ≤ m) && decide (m < (n : Int))))) H4 := hR
    cases c : decide (0 ≤ m) with
    | true =>
      rw [c] at hR
      rw [if_pos rfl]
      exact ⟨_, rfl, p, C, dx, _, _, rfl, s2 _ _ h1, T.cl, T.n1, hf_t _ _ _ _, _, _, rfl, rfl, _, rfl, hR _ (Same.refl _)⟩
    | false =>
      rw [c] at hR
      rw [if_neg (by decide)]
      exact ⟨_, rfl, hR _ (Same.refl _)⟩
  · intro D2 H2 s2 nD2 hD2
    have ea : (ns.map fun i => !inN n i).any id = !ns.all (inN n) := by
      rw [List.any_map, List.not_all_eq_any_not]
      rfl
    refine ⟨D2, ns.map fun i => !inN n i, rfl, SqL.of (by rw [hD2, List.map_map]; rfl), _, rfl, if_f (by rw [ea, hin]; rfl) ?_⟩
    exact ⟨_, rfl, p, C, dx, _, _, rfl, s2 _ _ h1, T.cl, T.n4, hf_b _ _ _ _, _, rfl, d, b, tab n r ss, ns, gT n r ss, rfl, s2 _ _ h3, hb.same s2, by omega, fun ms => (gT_ok ha ms).1, fun H3 s3 => q _ (s2.trans s3)⟩
end
abbrev sRe : Stmt := topS 48
theorem scRe : FnScope ["_law_m", "_law_row_here", "_law_turned_so"] ["_law_m", "_law_row_here"] (defScope sRe) := ⟨rfl, rfl, rfl, by decide +kernel, rfl, by decide +kernel, by decide +kernel⟩
section
variable {P : Program} {w : World} {K : PySem.W.Frag} {mg : Str → Option Value} {base : Heap}
theorem ok_re {f fo : Addr} {fd do_ : FuncData} {k : Nat} (F : Fun K "_law_read" "_law_read" sRe f fd) (mt : mg "tuple" = none) (ms : mg "sorted" = none)
    (O : FnOk P w K mg base CX0 k fo do_ ["_law_row_here"] (spLOrd K)) (gO : mg "_law_order" = some (.ref fo)) (kO : PySem.W.keepIn K (.ref fo) = true) (bO : Binds K do_ ["_law_row_here"] []) : FnOk P w K mg base CX0 (k + 1) f fd ["_law_m", "_law_row_here"] (spRe K) := by
  refine F.ok scRe (fun vs H Q E ⟨m, d, a, n, r, ss, ns, e, _⟩ => by rw [e]; rfl) (fun cdv A outer s H vs Q E hr h => ?_)
  have u1 : (A.deeper (envOfC "_law_read" (defScope sRe) s.heap.objs.size f cdv)).units + 1 < cLine := by
    have := hr.units
    omega
  obtain ⟨m, d, a, n, r, ss, ns, rfl, hM, n7, rn, hl, ha, hq, l64, hp, q⟩ := h
  refine ⟨_, pss_cons (ps_set (i := 2) scRe.nd rfl (Or.inl rfl) (pe_call O hr (by rfl) gO kO bO .nil pass0 (pa_cons (pv 1) pa_nil)))
    (pss_one (ps_ret (pe_ifExp (pt_cmpR op_eq (pv 2) pe_int (nomark _)) pe_int (pe_op op_mul (pv 2) (pe_dget u1 (pe_dget u1 (pv 0) pe_str (fun _ _ => rfl)) (pe_callTy call_tuple_of (by rfl) mt (by decide +kernel) (pa_cons (pe_callB SRT.cr_sort (by rfl) ms (by decide +kernel) (pa_cons (pv 1) pa_nil)) pa_nil)) (fun _ _ => rfl)))))), ?_⟩
  refine ⟨_, rfl, a, ns, rfl, hq, by omega, _, rfl, rfl, _, rfl, ?_⟩
  by_cases c : sg ns = 0
  · refine if_t (by simp [c]) ?_
    have := q _ (Same.refl _)
    unfold readI at this
    rw [c, Int.zero_mul] at this
    exact this
  · refine if_f (by simp [c]) ⟨_, rfl, _, rfl, m, _, rfl, hM.signs, _, rfl, a, ns, rfl, hq, l64, fun ns' p hpe hrise np => ?_⟩
    obtain rfl := srt_is hpe hrise
    have s2 := same_new (o := .lst ((srt ns).map V.int)) np
    refine ⟨p, _, rfl, .inl ⟨SqL.of upd_same, fun t nt => ?_⟩⟩
    have s3 := same_new (o := .tup ((srt ns).map V.int)) nt
    have hs := hp c
    obtain ⟨v, hv⟩ := Option.isSome_iff_exists.mp hs
    have hg := (gT_ok (n := n) (r := r) ha (srt ns)).1
    rw [hv] at hg
    have ev : v = .int (gT n r ss (srt ns)) := hg
    refine ⟨d, .int (gT n r ss (srt ns)), rfl, ?_, _, _, rfl, rfl, .inl ?_, q _ (s2.trans s3)⟩
    · rw [← ev, ← hv]
      exact DGet.t (s3 _ _ (s2 _ _ hM.d)) (by rw [upd_same, keyI_kV])
    · rcases sg_un ns with e | e | e <;> rw [e] <;> omega
end
end K14

set_option maxHeartbeats 8000000
/-! Ranks and closed things: what the program asks and tells. -/
namespace K14
open PySem PySem.Spec PyProof.Rows L2
abbrev nRk : List Str := ["bases", "things", "base", "thing"]
abbrev nClo : List Str := ["house", "things", "bases", "rank", "thing"]
/-- len's reading -/
abbrev rLen (K : PySem.W.Frag) : List V → Hp → VK → Prop := fun xs H Q => ∃ (p : Addr) (ys : List V), xs = [V.ref p] ∧ (SqL K H p ys ∨ SqT K H p ys) ∧ Q (.int (ys.length : Nat)) H
/-- how many of a lot are among the things -/
def cnt (c : List Nat) (ns : List Int) : Nat := ((CB.lotV c).filter fun v => inV v (ns.map V.int)).length
def rkF (bs : List (List Nat)) (ns : List Int) : Nat := (bs.map fun c => cnt c ns).foldr max 0
theorem le_foldr {x : Nat} : ∀ {l : List Nat}, x ∈ l → x ≤ l.foldr max 0
  | y :: l, h => by
    rw [List.foldr_cons]
    rcases List.mem_cons.mp h with e | e
    · omega
    · have := le_foldr e
      omega
theorem foldr_mem : ∀ {l : List Nat}, l ≠ [] → l.foldr max 0 ∈ l
  | [y], _ => by simp
  | y :: z :: l, _ => by
    have ih := foldr_mem (l := z :: l) (by simp)
    rw [List.foldr_cons]
    rcases Nat.le_total y ((z :: l).foldr max 0) with c | c
    · rw [Nat.max_eq_right c]
      exact List.mem_cons_of_mem _ ih
    · rw [Nat.max_eq_left c]
      exact List.mem_cons_self
theorem max_is {l : List Nat} (h : l ≠ []) {m : Int} (hm : m ∈ l.map fun n : Nat => (n : Int)) (hle : ∀ y ∈ l.map (fun n : Nat => (n : Int)), y ≤ m) : m = ((l.foldr max 0 : Nat) : Int) := by
  obtain ⟨k, hk, rfl⟩ := List.mem_map.mp hm
  have h1 := le_foldr hk
  have h2 := hle _ (List.mem_map.mpr ⟨_, foldr_mem h, rfl⟩)
  omega
theorem flat_ints : ∀ ns : List Int, (ns.map V.int).all flatV = true
  | [] => rfl
  | _ :: ns => flat_ints ns
def spRk (K : PySem.W.Frag) : Sp := fun vs H Q _ => ∃ (D : Addr) (ts : List Addr) (bs : List (List Nat)) (b : Addr) (ns : List Int), vs = [.ref D, .ref b] ∧ BsAt H D ts bs ∧ bs ≠ [] ∧ bs.length ≤ 35 ∧ (∀ c ∈ bs, c.length ≤ 7) ∧ SqI K H b ns ∧
  ∀ H', Same H H' → Q (.int (rkF bs ns : Nat)) H'
section
variable {P : Program} {w : World} {K : PySem.W.Frag} {mg : Str → Option Value} {base : Heap}
end
end K14

set_option maxHeartbeats 8000000
/-! The asking defs of flats: things checked, rank_of, closed. -/
namespace K14
open PySem PySem.Spec PyProof.Rows L2
/-- a refusal by the class at C of the name c -/
def Refuses (C : Addr) (c : Str) (H : Hp) (E : XK) : Prop := ∀ d : Addr, H d = none → E (.ref C) (some d) (upd H d (.xd (CX4.wd c)))
/-- an error's class as the top has made it -/
structure TxE (P : Program) (K : PySem.W.Frag) (mg : Str → Option Value) (C D fI : Addr) (c : Str) : Prop where
  iT : PySem.CleX.InitTxt P K mg D fI
  cT : ∃ nv, PySem.CleX.ClsTxt K C D fI nv ∧ RelV (.str c) nv
  gC : mg c = some (.ref C)
theorem log_ok {i : Int} (h : i.natAbs < 10 ^ 30) : i.natAbs.log2 < 1920 := by
  by_cases z : i.natAbs = 0
  · rw [z]; decide
  · exact Nat.lt_trans ((Nat.log2_lt z).mpr (Nat.lt_of_lt_of_le h (by decide : 10 ^ 30 ≤ 2 ^ 100))) (by decide)
theorem len_ok {i : Int} (h : i.natAbs < 10 ^ 30) : (Str.ofString (toString i)).length ≤ 31 := by
  rw [PySem.ofString_length]
  exact int_text_length_le10 (by decide) h
theorem lit_ok {x : String} (h : x.length ≤ 100 := by decide) : (Str.ofString x).length ≤ 100 := by
  rw [PySem.ofString_length]
  exact h
theorem j2 {a b : Str} {n m : Nat} (ha : a.length ≤ n) (hb : b.length ≤ m) : (a ++ b).length ≤ n + m := by
  rw [Str.length_append]
  omega
theorem fits {a : Str} {n : Nat} (h : a.length ≤ n) (hn : n ≤ 16777216 := by decide) : a.length ≤ sizeLine := by
  rw [sizeLine_eq]
  omega
theorem e0 : Str.empty.length ≤ 0 := by decide
def inR (n : Nat) (i : Int) : Bool := decide (0 ≤ i) && decide (i < (n : Int))
theorem inR_iff {n : Nat} {i : Int} : inR n i = true ↔ 0 ≤ i ∧ i < (n : Int) := by
  unfold inR
  rw [Bool.and_eq_true, decide_eq_true_eq, decide_eq_true_eq]
def spCk (K : PySem.W.Frag) (CH CB : Addr) : Sp := fun vs H Q E => ∃ (p : Addr) (n r : Nat) (ss : List Int) (b : Addr) (ns : List Int), vs = [.ref p, .ref b] ∧ HouseAt CH H p n r ss ∧ n ≤ 7 ∧ SqI K H b ns ∧ ns.length ≤ 1000 ∧
  (ns.all (inR n) = false → ∀ H', Same H H' → Refuses CB "BadThing" H' E) ∧ (ns.all (inR n) = true → ∀ H', Same H H' → Q .non H')
section
variable {P : Program} {w : World} {K : PySem.W.Frag} {mg : Str → Option Value} {base : Heap} {CH CB D fI : Addr}
end
end K14

set_option maxHeartbeats 8000000
/-! rank_of, closed. -/
namespace K14
open PySem PySem.Spec PyProof.Rows L2
/-- what both defs are asked -/
structure Asked (K : PySem.W.Frag) (CH : Addr) (H : Hp) (p : Addr) (n r : Nat) (ss : List Int) (b : Addr) (ns : List Int) : Prop where
  h : HouseAt CH H p n r ss
  n7 : n ≤ 7
  rn : r ≤ n
  l : ss.length = (CB.combs n r).length
  b0 : basesF n r ss ≠ []
  q : SqI K H b ns
  z : ns.length ≤ 1000
theorem Asked.b35 {K : PySem.W.Frag} {CH : Addr} {H : Hp} {p : Addr} {n r : Nat} {ss : List Int} {b : Addr} {ns : List Int} (h : Asked K CH H p n r ss b ns) : (basesF n r ss).length ≤ 35 := Nat.le_trans (basesF_sub h.l).length_le (combs_35 h.n7 h.rn)
theorem Asked.l7 {K : PySem.W.Frag} {CH : Addr} {H : Hp} {p : Addr} {n r : Nat} {ss : List Int} {b : Addr} {ns : List Int} (h : Asked K CH H p n r ss b ns) : ∀ c ∈ basesF n r ss, c.length ≤ 7 := fun c hc => combs_le7 h.n7 h.rn ((basesF_sub h.l).subset hc)
def cloF (n : Nat) (bs : List (List Nat)) (ns : List Int) : List Nat := (List.range n).filter fun t => decide (rkF bs (ns ++ [(t : Int)]) = rkF bs ns)
def spRof (K : PySem.W.Frag) (CH CE : Addr) : Sp := fun vs H Q E => ∃ (p : Addr) (n r : Nat) (ss : List Int) (b : Addr) (ns : List Int), vs = [.ref p, .ref b] ∧ Asked K CH H p n r ss b ns ∧
  (ns.all (inR n) = false → ∀ H', Same H H' → Refuses CE "BadThing" H' E) ∧ (ns.all (inR n) = true → ∀ H', Same H H' → Q (.int (rkF (basesF n r ss) ns : Nat)) H')
def spClo (K : PySem.W.Frag) (CH CE : Addr) : Sp := fun vs H Q E => ∃ (p : Addr) (n r : Nat) (ss : List Int) (b : Addr) (ns : List Int), vs = [.ref p, .ref b] ∧ Asked K CH H p n r ss b ns ∧
  (ns.all (inR n) = false → ∀ H', Same H H' → Refuses CE "BadThing" H' E) ∧ (ns.all (inR n) = true → ∀ D H', Same H H' → H D = none → H' D = some (.lst (CB.lotV (cloF n (basesF n r ss) ns))) → Q (.ref D) H')
section
variable {P : Program} {w : World} {K : PySem.W.Frag} {mg : Str → Option Value} {base : Heap} {CH CE : Addr}
theorem house_no {C p : Addr} {H : Hp} {n r : Nat} {ss : List Int} (h : HouseAt C H p n r ss) {m : Str} (h1 : ¬ m = "_things") (h2 : ¬ m = "_rank") (h3 : ¬ m = "_signs") (h4 : ¬ m = "_by_lot") : ∃ dx fs, H p = some (.ins C dx fs) ∧ fs.lookup m = none := by
  obtain ⟨dx, a, d, e, _⟩ := h.ob
  exact ⟨dx, _, e, hf_no n r a d h1 h2 h3 h4⟩
end
end K14

set_option maxHeartbeats 8000000
/-! The law's own bases, ranks and closed things. -/
namespace K14
open PySem PySem.Spec PyProof.Rows L2
abbrev nLrk : List Str := ["_law_bases_here", "_law_things9", "_law_base", "_law_thing"]
abbrev nLcl : List Str := ["_law_m", "_law_things9", "_law_bases_here", "_law_here", "_law_rank", "_law_thing"]
theorem own_lstF {K : PySem.W.Frag} {tt : TT} {te t0 : TE} {vs : List Nat} {σ : L2.St} {H H1 : Hp} {Q : VK} {a : Addr} {xs : List V} {j : Nat} (Pv : Addr → Nat → Hp → Prop) (h0 : ∀ R : VK, R (.ref a) H1 → t0 σ H R) (hq : SqL K H1 a xs) (hl : ∀ D i H, H1 D = none → Pv D i H → SqL K H a xs)
    (hw : ∀ x, wipe ((wipe σ vs).set j (some x)) vs = wipe σ vs) (start : ∀ D, H1 D = none → Pv D 0 (upd H1 D (.lst [])))
    (hs : ∀ (D : Addr) (i : Nat) (x : V) (H : Hp), H1 D = none → xs[i]? = some x → Pv D i H → tt ((wipe σ vs).set j (some x)) H fun b H3 => if b = true then te ((wipe σ vs).set j (some x)) H3 fun y H4 => ∃ acc, H4 D = some (.lst acc) ∧ acc.length < sizeLine ∧ Pv D (i + 1) (upd H4 D (.lst (acc ++ [y]))) else Pv D (i + 1) H3)
    (hd : ∀ D H, H1 D = none → Pv D xs.length H → Q (.ref D) H) :
    ZM.Bx (tLc (ZM.iSq K t0) (gName j) tt te vs) σ H Q := ⟨h0 _ ⟨a, xs, rfl, .inl ⟨hq, fun D nD => lc_list (K := K) (a := a) (xs := xs) (Pv D) (start D nD) (fun i H _ p => hl D i H nD p) (fun i x H hx p => ⟨hw _, hs D i x H nD hx p⟩) (fun H p => hd D H nD p)⟩⟩⟩
section
variable {P : Program} {w : World} {K : PySem.W.Frag} {mg : Str → Option Value} {base : Heap}
def spLb : Sp := fun vs H Q _ => ∃ (m d : Addr) (n r : Nat) (ss : List Int), vs = [.ref m] ∧ ModAt H m d n r ss ∧ n ≤ 7 ∧ r ≤ n ∧ ss.length = (CB.combs n r).length ∧ ∀ D ts H', Same H H' → H D = none → BsAt H' D ts (basesF n r ss) → Q (.ref D) H'
end
end K14

set_option maxHeartbeats 8000000
/-! Closed things as the law tells them; things drawn; numbers far off. -/
namespace K14
open PySem PySem.Spec PyProof.Rows L2
abbrev nLtd : List Str := ["_law_bag_here", "_law_many", "_law_most", "_law_k"]
theorem lc_preR {ta : TA} {te : TE} {g : TG} {tt : TT} {vs : List Nat} {σ : L2.St} {H : Hp} {Q : VK} (G : List V → Hp → Prop) (h0 : ∀ R : List V → Hp → Prop, (∀ a H1, G a H1 → R a H1) → ta σ H R)
    (k : ∀ a H1, G a H1 → ZM.Bx (tLc (iRng1 (fun _ _ R => R a H1)) g tt te vs) σ H1 Q) : ZM.Bx (tLc (iRng1 ta) g tt te vs) σ H Q := ⟨h0 _ fun a H1 g => (k a H1 g).run⟩
section
variable {P : Program} {w : World} {K : PySem.W.Frag} {mg : Str → Option Value} {base : Heap}
def spLcl (K : PySem.W.Frag) : Sp := fun vs H Q _ => ∃ (m d : Addr) (n r : Nat) (ss : List Int) (b : Addr) (ns : List Int), vs = [.ref m, .ref b] ∧ ModAt H m d n r ss ∧ n ≤ 7 ∧ r ≤ n ∧ ss.length = (CB.combs n r).length ∧ basesF n r ss ≠ [] ∧ H b = some (.lst (ns.map V.int)) ∧ ns.length ≤ 1000 ∧
  ∀ D H', Same H H' → H D = none → H' D = some (.lst (CB.lotV (cloF n (basesF n r ss) ns))) → Q (.ref D) H'
def spLtd : Sp := fun vs H Q _ => ∃ (b l : Addr) (ms : List Int) (n mo : Nat), vs = [.ref b, .int (n : Int), .int (mo : Int)] ∧ BagAt l ms H b ∧ n ≤ 7 ∧ mo ≤ 60 ∧
  ∀ (D : Addr) (ns : List Int) (H' : Hp), But b H H' → BagAt l ms H' b → H D = none → H' D = some (.lst (ns.map V.int)) → ns.length ≤ mo → ns.all (inR n) = true → Q (.ref D) H'
def spFar (K : PySem.W.Frag) : Sp := fun vs H Q _ => ∃ (b l : Addr) (ms : List Int), vs = [.ref b] ∧ BagAt l ms H b ∧
  ∀ (v : Int) (H' : Hp), But b H H' → BagAt l ms H' b → (v < 0 ∨ 7 < v) → Q (.int v) H'
end
end K14

set_option maxHeartbeats 8000000
/-! The law makes a house of a model. -/
namespace K14
open PySem PySem.Spec PyProof.Rows L2
abbrev sLh : Stmt := topS 54
abbrev nLh : List Str := ["_law_bag_here", "_law_m", "_law_by", "_law_signs", "_law_house9", "_law_sign"]
theorem scLh : FnScope nLh ["_law_bag_here", "_law_m"] (defScope sLh) := ⟨rfl, rfl, rfl, by decide +kernel, rfl, by decide +kernel, by decide +kernel⟩
theorem norm_scale {ss : List Int} (ha : ss.all isS = true) (hn : norm ss = ss) {c : Int} (hc : c = 1 ∨ c = -1) : norm (ss.map fun x => c * x) = ss := by
  have e1 : (ss.map fun x => c * x) = ss.map fun x => x * c := by
    apply List.map_congr_left
    intro x _
    exact Int.mul_comm _ _
  rw [e1]
  rcases hc with rfl | rfl
  · rw [show (ss.map fun x => x * 1) = ss from by simp]
    exact hn
  · have f := fst_map (c := -1) (by decide) ss
    unfold norm
    by_cases f0 : fst ss = 0
    · rw [if_pos (by rw [f, f0]; rfl)]
      have all0 : ∀ (l : List Int), fst l = 0 → ∀ x ∈ l, x = 0 := by
        intro l
        induction l with
        | nil => intro _ x hx; cases hx
        | cons y l ih =>
          intro h x hx
          unfold fst at h
          split at h
          · exact absurd h (by assumption)
          · rename_i hy
            have y0 : y = 0 := Classical.not_not.mp hy
            rcases List.mem_cons.mp hx with e | e
            · rw [e, y0]
            · exact ih h x e
      have hz := all0 ss f0
      calc ss.map (fun x => x * -1) = ss.map id := List.map_congr_left fun x hx => by rw [hz x hx]; rfl
        _ = ss := List.map_id ss
    · rw [if_neg (by rw [f]; omega), f, List.map_map]
      have : norm ss = ss.map fun n => n * fst ss := by unfold norm; rw [if_neg f0]
      rw [this] at hn
      refine Eq.trans (List.map_congr_left fun x _ => ?_) hn
      show x * -1 * (fst ss * -1) = x * fst ss
      rw [Int.mul_assoc, ← Int.mul_assoc (-1) (fst ss) (-1), Int.mul_comm (-1) (fst ss), Int.mul_assoc (fst ss) (-1) (-1)]
      simp
theorem scale_S {ss : List Int} (ha : ss.all isS = true) {c : Int} (hc : c = 1 ∨ c = -1) : (ss.map fun x => c * x).all isS = true := by
  rw [List.all_map, List.all_eq_true]
  intro x hx
  have := isS_un (List.all_eq_true.mp ha x hx)
  refine isS_of ?_
  unfold unit3 at *
  show c * x = 0 ∨ c * x = 1 ∨ c * x = -1
  rcases hc with rfl | rfl <;> omega
theorem ModAt.but {H H' : Hp} {b m d : Addr} {n r : Nat} {ss : List Int} {bx : List V} (h : ModAt H m d n r ss) (hb : H b = some (.lst bx)) (s : But b H H') : ModAt H' m d n r ss :=
  ⟨s _ _ (fun z => by have := h.m; rw [z, hb] at this; cases this) h.m, s _ _ (fun z => by have := h.d; rw [z, hb] at this; cases this) h.d⟩
theorem HouseAt.but {C : Addr} {H H' : Hp} {b p : Addr} {n r : Nat} {ss : List Int} {bx : List V} (h : HouseAt C H p n r ss) (hb : H b = some (.lst bx)) (s : But b H H') : HouseAt C H' p n r ss := by
  obtain ⟨dx, a, d, h1, h2, h3⟩ := h.ob
  exact ⟨dx, a, d, s _ _ (fun z => by rw [z, hb] at h1; cases h1) h1, s _ _ (fun z => by rw [z, hb] at h2; cases h2) h2, s _ _ (fun z => by rw [z, hb] at h3; cases h3) h3⟩
def spLh (C : Addr) : Sp := fun vs H Q _ => ∃ (b l m d : Addr) (ms : List Int) (n r : Nat) (ss : List Int), vs = [.ref b, .ref m] ∧ BagAt l ms H b ∧ ModAt H m d n r ss ∧ n ≤ 7 ∧ r ≤ n ∧ ss.length = (CB.combs n r).length ∧ ss.all isS = true ∧ houseF n r ss = true ∧ norm ss = ss ∧
  ∀ (p : Addr) (H' : Hp), But b H H' → BagAt l ms H' b → H p = none → HouseAt C H' p n r ss → Q (.ref p) H'
section
variable {P : Program} {w : World} {K : PySem.W.Frag} {mg : Str → Option Value} {base : Heap} {C : Addr}
theorem ok_lh {f fo fr fi : Addr} {fd do_ dr di : FuncData} {k : Nat} (F : Fun K "_law_house" "_law_house" sLh f fd) (T : TxH K mg C)
    (O : FnOk P w K mg base CX0 (k + 1) fo do_ ["_law_bag_here", "_law_some"] (spOf K)) (gO : mg "_law_of" = some (.ref fo)) (kO : PySem.W.keepIn K (.ref fo) = true) (bO : Binds K do_ ["_law_bag_here", "_law_some"] [])
    (R : FnOk P w K mg base CX0 (k + 1) fr dr ["_law_m"] (spRo K)) (gR : mg "_law_row" = some (.ref fr)) (kR : PySem.W.keepIn K (.ref fr) = true) (bR : Binds K dr ["_law_m"] [])
    (M : Mk K C fi) (I : FnOk P w K mg base CX0 k fi di ["self", "things", "rank", "signs"] (spHi C)) (bI : Binds K di ["self", "things", "rank", "signs"] []) : FnOk P w K mg base CX0 (k + 2) f fd ["_law_bag_here", "_law_m"] (spLh C) := by
  refine F.ok scLh (fun vs H Q E ⟨b, l, m, d, ms, n, r, ss, e, _⟩ => by rw [e]; rfl) (fun cdv A outer s H vs Q E hr h => ?_)
  have u1 : (A.deeper (envOfC "_law_house" (defScope sLh) s.heap.objs.size f cdv)).units + 1 < cLine := by
    have := hr.units
    omega
  refine ⟨_, pss_cons (ps_set (i := 2) scLh.nd rfl (Or.inr rfl) (pe_call O hr (by rfl) gO kO bO .nil pass0 (pa_cons (pv 0) (pa_cons (pe_lst (pa_cons pe_int (pa_cons (pe_un un_neg pe_int) pa_nil))) pa_nil))))
    (pss_cons (ZM.ps_bx (ps_setLc (i := 3) (own := [("_law_sign", 5)]) (g := gName 5) (tt := tYes) rfl scLh.nd rfl rfl (sw_true rfl rfl rfl (by decide +kernel)) (ZM.pi_sq (pe_call R hr (by rfl) gR kR bR .nil pass0 (pa_cons (pv 1) pa_nil))) (blkOk_by (N := nLh) (sc := defScope sLh) (by decide +kernel))
        (fun _ _ _ _ _ => pg_name (i := 5) scLh.nd rfl (Or.inl rfl)) (fun _ _ _ _ _ => pts_nil) (fun _ _ _ _ _ => pe_op op_mul (pv 2) (pv 5))))
    (pss_cons (ps_set (i := 4) scLh.nd rfl (Or.inl rfl) (pe_make M I hr (by rfl) T.gC bI .nil pass0 (pa_cons (pe_dget u1 (pv 1) pe_str (fun _ _ => rfl)) (pa_cons (pe_dget u1 (pv 1) pe_str (fun _ _ => rfl)) (pa_cons (pv 3) pa_nil)))))
    (pss_cons (ps_expr (pe_bm0 PySem.F.plainAttrs_list PySem.F.slot_list_clear PySem.F.type_list_clear mt_clear (pv 3)))
    (pss_one (ps_ret (pv 4)))))), ?_⟩
  obtain ⟨b, l, m, d, ms, n, r, ss, rfl, B, hM, n7, rn, hl, ha, hh, hn, q⟩ := h
  obtain ⟨bx, hb⟩ := B.at
  refine ⟨_, rfl, _, rfl, by simp [sizeLine_eq], fun p0 np0 => ?_⟩
  have p0b : p0 ≠ b := fun z => by rw [z, hb] at np0; cases np0
  refine ⟨b, l, p0, ms, _, rfl, B.new np0, upd_same, p0b, by simp, by simp, fun v zs hv B1 => ?_⟩
  obtain ⟨c, rfl, hc⟩ : ∃ c : Int, v = .int c ∧ (c = 1 ∨ c = -1) := by
    simp only [List.mem_cons, List.not_mem_nil, or_false] at hv
    rcases hv with e | e
    · exact ⟨1, e, .inl rfl⟩
    · exact ⟨-1, e, .inr rfl⟩
  have bu1 := (But.new (b := b) (o := .lst [V.int 1, V.int (-1)]) np0).trans (But.bag (o := .lst zs))
  have M1 := hM.but hb bu1
  generalize upd (upd H p0 (.lst [V.int 1, V.int (-1)])) b (.lst zs) = H1 at *
  refine lc_preS (fun t H2 => Same H1 H2 ∧ H2 t = some (.tup (ss.map V.int))) (fun R rr => ⟨_, rfl, m, d, n, r, ss, rfl, M1, n7, rn, hl, fun t H2 s2 nt ht => rr t H2 ⟨s2, ht⟩⟩) ?_
  rintro t H2 ⟨s2, ht⟩
  refine ZM.lcm_sq (ys := (ss.map fun x => c * x).map V.int) (fun R rr => rr) (.inr (SqT.of ht)) (by simp) (by simp; have := combs_35 n7 rn; omega) (fun _ => rfl) ?_ ?_
  · intro i x y H3 R hx hy s3 hR
    obtain ⟨u, rfl, hu⟩ := get_ints hx
    rw [List.getElem?_map, List.getElem?_map, hu] at hy
    cases hy
    exact ⟨_, rfl, _, rfl, _, _, rfl, rfl, by rcases hc with rfl | rfl <;> exact .inl ⟨by decide, by decide⟩, hR _ (Same.refl _)⟩
  · intro D H3 s3 nD hD
    have s13 := s2.trans s3
    have M3 := M1.same s13
    refine ⟨_, rfl, m, _, rfl, M3.things, _, rfl, m, _, rfl, M3.rank, _, rfl, fun x dx nx ndx nex => ?_⟩
    have sI : Same H3 (upd (upd H3 dx (.own x)) x (.ins C dx [])) := (same_new ndx).trans (same_new (by rw [upd_ne nex.symm]; exact nx))
    have hs := scale_S ha hc
    refine ⟨x, dx, n, r, D, _, rfl, upd_same, n7, rn, .inl (sI _ _ hD), by rw [List.length_map, hl], hs, ?_, fun H4 s4 hH => ⟨rfl, ?_⟩⟩
    · rw [← house_scale n7 rn hl (c := c) (by rcases hc with rfl | rfl <;> rfl)] at hh
      rw [← hh]
      congr 1
      exact List.map_congr_left fun x _ => Int.mul_comm _ _
    rw [told_norm hs, norm_scale ha hn hc] at hH
    have xf : ∀ {a : Addr} {o : HO}, H3 a = some o → a ≠ x := fun {a o} e z => by rw [z, nx] at e; cases e
    have k4 : ∀ (a : Addr) (o : HO), H3 a = some o → H4 a = some o := fun a o e => s4 _ _ (sI _ _ e) (xf e)
    have hD4 := k4 _ _ hD
    refine ⟨_, rfl, .inl ⟨rfl, _, SqL.of hD4⟩, D, _, rfl, rfl, hD4, _, rfl, ?_⟩
    have nDH : H1 D = none := by
      cases e : H1 D with
      | none => rfl
      | some o => rw [s2 _ _ e] at nD; cases nD
    have nD0 : H D = none := bu1.none (l := l) hb nDH B1.at
    have nx0 : H x = none := bu1.none (l := l) hb (by
      cases e : H1 x with
      | none => rfl
      | some o => rw [s13 _ _ e] at nx; cases nx) B1.at
    have B4 : BagAt l ms H4 b := B1.same (fun a o e => k4 a o (s13 _ _ e))
    obtain ⟨b4, hb4⟩ := B4.at
    have Db : D ≠ b := fun z => by rw [z, hb] at nD0; cases nD0
    have Dl : D ≠ l := fun z => by rw [z, B.ls] at nD0; cases nD0
    refine q x _ (fun a o ne e => ?_) (B4.off Db Dl) nx0 (hH.but hD4 (b := D) fun a o ne e => by rw [upd_ne ne]; exact e)
    rw [upd_ne (fun z => by rw [z, nD0] at e; cases e)]
    exact k4 _ _ (s13 _ _ (bu1 _ _ ne e))
end
end K14

set_option maxHeartbeats 8000000
/-! ring_row, cut_row. -/
namespace K14
open PySem PySem.Spec PyProof.Rows L2 ET
/-- signs by turns -/
def alt (k : Nat) (v : Int) : Int := if k % 2 = 1 then -v else v
def ringU (g : List Int → Int) (n : Nat) (lot : List Nat) : Nat → List Int
  | 0 => List.replicate n 0
  | k + 1 => (ringU g n lot k).set (lot.getD k 0) (alt k (g (ci (lot.eraseIdx k))))
/-- the row of a lot of rank and one more things -/
def ringR (g : List Int → Int) (n : Nat) (lot : List Nat) : List Int := ringU g n lot lot.length
/-- the row of a lot of rank less one things -/
def cutR (g : List Int → Int) (n : Nat) (lot : List Nat) : List Int := (List.range n).map fun (t : Nat) => readI g (ci lot ++ [(t : Int)])
theorem ringU_len (g : List Int → Int) (n : Nat) (lot : List Nat) : ∀ k, (ringU g n lot k).length = n
  | 0 => List.length_replicate
  | k + 1 => by rw [ringU, List.length_set, ringU_len g n lot k]
theorem ringR_len (g : List Int → Int) (n : Nat) (lot : List Nat) : (ringR g n lot).length = n := ringU_len g n lot _
theorem cutR_len (g : List Int → Int) (n : Nat) (lot : List Nat) : (cutR g n lot).length = n := by simp [cutR]
theorem pr_ri {x : Int} : ∀ {ns : List Int}, (∀ y ∈ ns, x < y) → pr x ns = 1
  | [], _ => rfl
  | y :: ns, h => by
    rw [pr, s2_gt (h y List.mem_cons_self), Int.one_mul]
    exact pr_ri fun z hz => h z (List.mem_cons_of_mem _ hz)
theorem sg_rise : ∀ {c : List Nat}, c.Pairwise (· < ·) → sg (ci c) = 1
  | [], _ => rfl
  | x :: c, h => by
    rw [List.pairwise_cons] at h
    show pr (x : Int) (ci c) * sg (ci c) = 1
    rw [sg_rise h.2, pr_ri fun y hy => ?_]
    · rfl
    · obtain ⟨z, hz, rfl⟩ := List.mem_map.mp hy
      have := h.1 z hz
      omega
theorem read_rise {g : List Int → Int} {c : List Nat} (h : c.Pairwise (· < ·)) : readI g (ci c) = g (ci c) := by
  unfold readI
  rw [sg_rise h, srt_of (List.Perm.refl _) h, Int.one_mul]
theorem del_all : ((List.range 8).all fun n => (List.range n).all fun r => (CB.combs n (r + 1)).all fun c => (List.range (r + 1)).all fun k => decide (c.eraseIdx k ∈ CB.combs n r)) = true := by decide +kernel
theorem del_in {n r : Nat} (hn : n ≤ 7) (hr : r < n) {c : List Nat} (hc : c ∈ CB.combs n (r + 1)) {k : Nat} (hk : k < r + 1) : c.eraseIdx k ∈ CB.combs n r := by
  have h1 := List.all_eq_true.mp del_all n (List.mem_range.mpr (by omega))
  have h2 := List.all_eq_true.mp h1 r (List.mem_range.mpr hr)
  exact of_decide_eq_true (List.all_eq_true.mp (List.all_eq_true.mp h2 c hc) k (List.mem_range.mpr hk))
theorem inN_of {n : Nat} {c : List Nat} (h : ∀ x ∈ c, x < n) : (ci c).all (inN n) = true := by
  rw [List.all_eq_true]
  intro z hz
  obtain ⟨x, hx, rfl⟩ := List.mem_map.mp hz
  have := h x hx
  unfold inN
  simp
  omega
theorem band1 (k : Nat) : Builtin.bitAnd (k : Int) 1 = ((k % 2 : Nat) : Int) := by
  show (((k : Int).toNat &&& (1 : Int).toNat : Nat) : Int) = _
  rw [Int.toNat_natCast]
  show ((k &&& 1 : Nat) : Int) = _
  rw [Nat.and_one_is_mod]
theorem ci_take (c : List Nat) (k : Nat) : (ci c).take k = ci (c.take k) := by simp [ci]
theorem lotV_take (c : List Nat) (k : Nat) : (CB.lotV c).take k = CB.lotV (c.take k) := by simp [CB.lotV]
theorem lotV_drop (c : List Nat) (k : Nat) : (CB.lotV c).drop k = CB.lotV (c.drop k) := by simp [CB.lotV]
theorem lotV_app (c d : List Nat) : CB.lotV c ++ CB.lotV d = CB.lotV (c ++ d) := by simp [CB.lotV]
theorem ci_len (c : List Nat) : (ci c).length = c.length := by simp [ci]
theorem ix_nat {l m : Nat} (h : m < l) : ixN l (m : Int) = some m := by
  unfold ixN
  rw [if_pos (by omega)]
  simp
  omega
theorem lotV_len (c : List Nat) : (CB.lotV c).length = c.length := by simp [CB.lotV]
theorem cat_any {K : PySem.W.Frag} {H : Hp} {a b : Addr} {xs ys : List V} {Q : VK} (ha : H a = some (.tup xs)) (hb : H b = some (.tup ys)) (z : xs.length + ys.length ≤ sizeLine) (q : ∀ c H', Same H H' → H' c = some (.tup (xs ++ ys)) → Q (.ref c) H') : rCatA K (.ref a) (.ref b) H Q :=
  ⟨a, b, xs, ys, rfl, rfl, SqT.of ha, SqT.of hb, z, fun e => q b H (Same.refl _) (by rw [e]; exact hb), fun _ e => q a H (Same.refl _) (by rw [e, List.append_nil]; exact ha), fun _ _ p hp => q p _ (same_new hp) upd_same⟩
theorem rep_flat (n : Nat) : (List.replicate n [V.int 0]).flatten = (List.replicate n (0 : Int)).map V.int := by
  induction n with
  | zero => rfl
  | succ n ih => rw [List.replicate_succ, List.flatten_cons, ih, List.replicate_succ]; rfl
theorem Same.butL {b : Addr} {H0 H H' : Hp} (bu : But b H0 H) (s : Same H H') : But b H0 H' := fun c o ne e => s _ _ (bu c o ne e)
abbrev sRr : Stmt := topS 23
abbrev sCr : Stmt := topS 24
abbrev nRr : List Str := ["house", "lot", "row", "at", "thing", "sign"]
theorem scRr : FnScope nRr ["house", "lot"] (defScope sRr) := ⟨rfl, rfl, rfl, by decide +kernel, rfl, by decide +kernel, by decide +kernel⟩
abbrev nCr : List Str := ["house", "lot", "thing"]
theorem scCr : FnScope nCr ["house", "lot"] (defScope sCr) := ⟨rfl, rfl, rfl, by decide +kernel, rfl, by decide +kernel, by decide +kernel⟩
def spRr (C : Addr) : Sp := fun vs H Q _ => ∃ (p t : Addr) (n r : Nat) (ss : List Int) (lot : List Nat), vs = [.ref p, .ref t] ∧ HouseAt C H p n r ss ∧ n ≤ 7 ∧ r < n ∧ ss.all isS = true ∧ H t = some (.tup (CB.lotV lot)) ∧ lot ∈ CB.combs n (r + 1) ∧
  ∀ q H', Same H H' → H q = none → H' q = some (.tup ((ringR (gT n r ss) n lot).map V.int)) → Q (.ref q) H'
def spCr (C : Addr) : Sp := fun vs H Q _ => ∃ (p t : Addr) (n r : Nat) (ss : List Int) (lot : List Nat), vs = [.ref p, .ref t] ∧ HouseAt C H p n r ss ∧ n ≤ 7 ∧ r ≤ n ∧ ss.all isS = true ∧ H t = some (.tup (CB.lotV lot)) ∧ lot.length + 1 = r ∧ (∀ x ∈ lot, x < n) ∧
  ∀ q H', Same H H' → H q = none → H' q = some (.tup ((cutR (gT n r ss) n lot).map V.int)) → Q (.ref q) H'
section
variable {P : Program} {w : World} {K : PySem.W.Frag} {mg : Str → Option Value} {base : Heap} {C : Addr}
theorem ok_rr {f ft fs : Addr} {fd dt ds : FuncData} {k : Nat} (F : Fun K "ring_row" "ring_row" sRr f fd) (T : TxH K mg C) (me : mg "enumerate" = none) (mt : mg "tuple" = none)
    (Ht : FnOk P w K mg base CX0 k ft dt ["self"] (spHt C)) (mT : Meth K C "things" ft) (bT : Binds K dt ["self"] [])
    (Sg : FnOk P w K mg base CX0 k fs ds ["self", "row"] (spSg K C)) (mS : Meth K C "sign" fs) (bS : Binds K ds ["self", "row"] []) : FnOk P w K mg base CX0 (k + 1) f fd ["house", "lot"] (spRr C) := by
  refine F.ok scRr (fun vs H Q E ⟨p, t, n, r, ss, lot, e, _⟩ => by rw [e]; rfl) (fun cdv A outer s H vs Q E hr h => ?_)
  refine ⟨_, pss_cons (ps_set (i := 2) scRr.nd rfl (Or.inl rfl) (pe_op op_rep (pe_lst (pa_cons pe_int pa_nil)) (pe_meth0 (pv 0) T.cl mT Ht hr bT .nil pass0)))
    (pss_cons (ps_for PassesOwn.never rfl (pi_enumT (by rfl) me (pa_cons (pv 1) pa_nil)) (pg_tup rfl (pgs_cons (pg_name (i := 3) scRr.nd rfl (Or.inl rfl)) (pgs_cons (pg_name (i := 4) scRr.nd rfl (Or.inl rfl)) pgs_nil)))
      (pss_cons (ps_set (i := 5) scRr.nd rfl (Or.inl rfl) (pe_meth (pv 0) T.cl mS Sg hr bS .nil pass0 (pa_cons (pe_op (r := rCatA K) op_catA (pe_slice sl_tup (pv 1) po_none (po_some (pv 3))) (pe_slice sl_tup (pv 1) (po_some (pe_op op_add (pv 3) pe_int)) po_none)) pa_nil)))
      (pss_one (ps_asg (pe_ifExp (pt_truth (pe_op op_and (pv 3) pe_int) (by intro _; rfl)) (pe_un un_neg (pv 5)) (pv 5)) (pg_sub (pv 2) (pv 4) set_list)))))
    (pss_one (ps_ret (pe_callTy call_tuple_of (by rfl) mt (by decide +kernel) (pa_cons (pv 2) pa_nil))))), ?_⟩
  obtain ⟨p, t, n, r, ss, lot, rfl, hO, n7, rn, ha, ht, hlot, q⟩ := h
  obtain ⟨ll, lb⟩ := combs_ok n7 (by omega) hlot
  have lrise := combs_rise n7 (by omega) hlot
  obtain ⟨dx, aS, d, h1, h2, h3⟩ := id hO.ob
  have no : ∀ {m : Str}, ¬ m = "_things" → ¬ m = "_rank" → ¬ m = "_signs" → ¬ m = "_by_lot" → (hf n r aS d).lookup m = none := fun a b c e => hf_no n r aS d a b c e
  have l7 : lot.length ≤ 7 := by omega
  refine ⟨by simp [sizeLine_eq], fun p0 np0 => ?_⟩
  have s0 := same_new (o := .lst [V.int 0]) np0
  refine ⟨_, rfl, p, dx, _, rfl, s0 _ _ h1, no (by decide +kernel) (by decide +kernel) (by decide +kernel) (by decide +kernel), p, n, r, ss, rfl, hO.same s0, p0, _, _, rfl, rfl, upd_same, by omega, by omega, by simp [sizeLine_eq]; omega, fun R nR => ?_⟩
  rw [Int.toNat_natCast, rep_flat]
  have s1 := s0.trans (same_new (o := .lst ((List.replicate n (0 : Int)).map V.int)) nR)
  have hR0 : upd (upd H p0 (.lst [V.int 0])) R (.lst ((List.replicate n (0 : Int)).map V.int)) R = some (.lst ((List.replicate n (0 : Int)).map V.int)) := upd_same
  have nRH : H R = none := by
    cases e : H R with
    | none => rfl
    | some o => rw [s0 _ _ e] at nR; cases nR
  generalize upd (upd H p0 (.lst [V.int 0])) R (.lst ((List.replicate n (0 : Int)).map V.int)) = H1 at s1 hR0 ⊢
  have tR : t ≠ R := fun z => by rw [z, nRH] at ht; cases ht
  have O1 := hO.same s1
  have key : ∀ H', But R H1 H' → HouseAt C H' p n r ss ∧ H' t = some (.tup (CB.lotV lot)) := fun H' bu => ⟨O1.but hR0 bu, bu _ _ tR (s1 _ _ ht)⟩
  refine ⟨_, rfl, t, _, rfl, SqT.of (s1 _ _ ht), for_enumT (K := K) (a := t) (xs := CB.lotV lot) (fun i σ H' => ∃ x3 x4 x5, σ = [some (.ref p), some (.ref t), some (.ref R), x3, x4, x5] ∧ But R H1 H' ∧ H' R = some (.lst ((ringU (gT n r ss) n lot i).map V.int)))
    ⟨_, _, _, rfl, .refl, hR0⟩ (fun i σ H' _ ⟨_, _, _, _, bu, _⟩ => SqT.of (key _ bu).2) ?_ ?_⟩
  · rintro i x σ H2 T hi ⟨x3, x4, x5, rfl, bu, hR⟩ nT
    obtain ⟨m, rfl, hm⟩ := get_lot hi
    have il : i < lot.length := (List.getElem?_eq_some_iff.mp hm).1
    have mn := lb m (List.mem_of_getElem? hm)
    refine ⟨T, _, rfl, SqT.of upd_same, rfl, _, _, rfl, _, _, rfl, rfl, ?_⟩
    have sT := same_new (o := .tup [.int (i : Nat), .int (m : Int)]) nT
    generalize upd H2 T (.tup [.int (i : Nat), .int (m : Int)]) = H3 at sT ⊢
    have bu3 : But R H1 H3 := Same.butL bu sT
    obtain ⟨O3, ht3⟩ := key _ bu3
    have hR3 := sT _ _ hR
    obtain ⟨dx3, aS3, d3, g1, g2, g3⟩ := id O3.ob
    refine ⟨_, rfl, p, dx3, _, rfl, g1, hf_no n r aS3 d3 (by decide +kernel) (by decide +kernel) (by decide +kernel) (by decide +kernel), _, rfl, _, rfl, _, rfl, t, _, rfl, SqT.of ht3, ?_, fun t1 nt1 => ?_⟩
    · rw [HT.sIx_nat, lotV_len]
      omega
    rw [cutTo, lotV_take]
    have s4 := same_new (o := .tup (CB.lotV (lot.take i))) nt1
    have ht1 : upd H3 t1 (.tup (CB.lotV (lot.take i))) t1 = some (.tup (CB.lotV (lot.take i))) := upd_same
    generalize upd H3 t1 (.tup (CB.lotV (lot.take i))) = H4 at s4 ht1 ⊢
    refine ⟨_, rfl, _, rfl, _, _, rfl, rfl, _, rfl, t, _, rfl, SqT.of (s4 _ _ ht3), ?_, fun t2 nt2 => ?_⟩
    · rw [show ((i : Int) + 1) = ((i + 1 : Nat) : Int) by omega, HT.sIx_nat]
      rw [lotV_len]
      omega
    rw [show ((i : Int) + 1) = ((i + 1 : Nat) : Int) by omega, cutFrom, lotV_drop]
    have s5 := same_new (o := .tup (CB.lotV (lot.drop (i + 1)))) nt2
    refine cat_any (s5 _ _ ht1) upd_same (by rw [lotV_len, lotV_len, List.length_take, List.length_drop, sizeLine_eq]; omega) fun c H6 s6 hc => ?_
    rw [lotV_app, ← List.eraseIdx_eq_take_drop_succ] at hc
    have s46 := s4.trans (s5.trans s6)
    have din := del_in n7 rn hlot (k := i) (by omega)
    obtain ⟨dl, db⟩ := combs_ok n7 (by omega) din
    refine ⟨p, c, n, r, ss, ci (lot.eraseIdx i), rfl, O3.same s46, n7, by omega, ha, .inr (SqT.of (by rw [hc, lotV_ci])), by rw [ci_len, dl], inN_of db, fun H7 s7 => ?_⟩
    rw [read_rise (combs_rise n7 (by omega) din)]
    have hR7 := s7 _ _ (s46 _ _ hR3)
    have rl : ((ringU (gT n r ss) n lot i).map V.int).length = n := by rw [List.length_map, ringU_len]
    have fin : ∀ v : Int, v = alt i (gT n r ss (ci (lot.eraseIdx i))) → But R H1 (upd H7 R (.lst (((ringU (gT n r ss) n lot i).map V.int).set m (.int v)))) ∧ (upd H7 R (.lst (((ringU (gT n r ss) n lot i).map V.int).set m (.int v)))) R = some (.lst ((ringU (gT n r ss) n lot (i + 1)).map V.int)) := fun v ev => by
      refine ⟨fun c o ne e => by rw [upd_ne ne]; exact s7 _ _ (s46 _ _ (bu3 _ _ ne e)), ?_⟩
      rw [upd_same, ringU, ev, List.map_set, List.getD_eq_getElem?_getD, hm]
      rfl
    refine ⟨_, rfl, _, _, rfl, rfl, i % 2 != 0, ?_, ?_⟩
    · show (i % 2 != 0) = (Builtin.bitAnd (i : Int) 1 != 0)
      rw [band1]
      rcases Nat.mod_two_eq_zero_or_one i with e | e <;> rw [e] <;> rfl
    rcases Nat.mod_two_eq_zero_or_one i with e | e
    · refine if_f (by rw [e]; rfl) ⟨_, rfl, _, rfl, _, rfl, R, _, _, m, rfl, rfl, hR7, ?_, ?_⟩
      · rw [rl]; exact ix_nat mn
      · obtain ⟨f1, f2⟩ := fin _ (show gT n r ss (ci (lot.eraseIdx i)) = alt i _ by unfold alt; rw [if_neg (by omega)])
        exact ⟨_, _, _, rfl, f1, f2⟩
    · refine if_t (by rw [e]; rfl) ⟨_, rfl, _, rfl, _, rfl, _, rfl, R, _, _, m, rfl, rfl, hR7, ?_, ?_⟩
      · rw [rl]; exact ix_nat mn
      · obtain ⟨f1, f2⟩ := fin _ (show -gT n r ss (ci (lot.eraseIdx i)) = alt i _ by unfold alt; rw [if_pos e])
        exact ⟨_, _, _, rfl, f1, f2⟩
  · rintro σ H2 ⟨x3, x4, x5, rfl, bu, hR⟩
    rw [lotV_len] at hR
    have sm : Same H H2 := fun c o e => bu c o (fun z => by rw [z, nRH] at e; cases e) (s1 _ _ e)
    refine ⟨_, rfl, R, _, rfl, .inl ⟨SqL.of hR, fun q1 nq => q q1 _ (sm.trans (same_new nq)) ?_ upd_same⟩⟩
    cases e : H q1 with
    | none => rfl
    | some o => rw [sm _ _ e] at nq; cases nq
theorem ok_cr {f ft fs : Addr} {fd dt ds : FuncData} {k : Nat} (F : Fun K "cut_row" "cut_row" sCr f fd) (T : TxH K mg C) (mr : mg "range" = none) (mt : mg "tuple" = none)
    (Ht : FnOk P w K mg base CX0 k ft dt ["self"] (spHt C)) (mT : Meth K C "things" ft) (bT : Binds K dt ["self"] [])
    (Sg : FnOk P w K mg base CX0 k fs ds ["self", "row"] (spSg K C)) (mS : Meth K C "sign" fs) (bS : Binds K ds ["self", "row"] []) : FnOk P w K mg base CX0 (k + 1) f fd ["house", "lot"] (spCr C) := by
  refine F.ok scCr (fun vs H Q E ⟨p, t, n, r, ss, lot, e, _⟩ => by rw [e]; rfl) (fun cdv A outer s H vs Q E hr h => ?_)
  refine ⟨_, pss_one (ps_ret (pe_callTy call_tuple_of (by rfl) mt (by decide +kernel) (pa_cons
      (ZM.pe_bx (pe_lc (own := [("thing", 2)]) (g := gName 2) (tt := tYes) rfl scCr.nd (pi_range1 (by rfl) mr (pa_cons (pe_meth0 (pv 0) T.cl mT Ht hr bT .nil pass0) pa_nil)) (blkOk_by (N := nCr) (sc := defScope sCr) (by decide +kernel))
        (fun _ _ _ _ _ => pg_name (i := 2) scCr.nd rfl (Or.inl rfl)) (fun _ _ _ _ _ => pts_nil)
        (fun _ _ _ _ _ => pe_meth (t := tCons (tTup (StX.tStar K (tVar 1) (tCons (tVar 2) tNil))) tNil) (pv 0) T.cl mS Sg hr bS .nil pass0 (pa_cons (pe_tup (t := StX.tStar K (tVar 1) (tCons (tVar 2) tNil)) (StX.pa_star (pv 1) (pa_cons (pv 2) pa_nil))) pa_nil)))) pa_nil))), ?_⟩
  obtain ⟨p, t, n, r, ss, lot, rfl, hO, n7, rn, ha, ht, ll, lb, q⟩ := h
  obtain ⟨dx, aS, d, h1, h2, h3⟩ := id hO.ob
  refine ZM.lcm_rng (n := n) (ys := (cutR (gT n r ss) n lot).map V.int) (fun R rr => ⟨_, rfl, p, dx, _, rfl, h1, hf_no n r aS d (by decide +kernel) (by decide +kernel) (by decide +kernel) (by decide +kernel), p, n, r, ss, rfl, hO, rr⟩) (by omega) (by simp [cutR]) (fun _ => rfl) ?_ ?_
  · intro i y H2 R hi hy s2 hR
    rw [cutR, List.map_map, List.getElem?_map, List.getElem?_range hi] at hy
    cases hy
    have ht2 := s2 _ _ ht
    refine ⟨_, rfl, p, dx, _, rfl, s2 _ _ h1, hf_no n r aS d (by decide +kernel) (by decide +kernel) (by decide +kernel) (by decide +kernel), _, rfl, t, _, rfl, .inl (SqT.of ht2), _, rfl, by simp [sizeLine_eq]; omega, fun c nc => ?_⟩
    have s3 := same_new (o := .tup (CB.lotV lot ++ [V.int (0 + (i : Int))])) nc
    have e2 : CB.lotV lot ++ [V.int (0 + (i : Int))] = (ci lot ++ [(i : Int)]).map V.int := by rw [lotV_ci, Int.zero_add, List.map_append]; rfl
    refine ⟨p, c, n, r, ss, ci lot ++ [(i : Int)], rfl, (hO.same s2).same s3, n7, rn, ha, .inr (SqT.of (by rw [← e2]; exact upd_same)), by rw [List.length_append, ci_len]; exact ll, ?_, fun H4 s4 => hR _ (s3.trans s4)⟩
    rw [List.all_append, inN_of lb]
    unfold inN
    simp
    omega
  · intro D H2 s2 nD hD
    refine ⟨D, _, rfl, .inl ⟨SqL.of hD, fun q1 nq => q q1 _ (s2.trans (same_new nq)) ?_ upd_same⟩⟩
    cases e : H q1 with
    | none => rfl
    | some o => rw [s2 _ _ e] at nq; cases nq
end
end K14

set_option maxHeartbeats 2000000
/-! Sets of tuples of ints: one added by set.add. -/
namespace SRS
open PySem PySem.Spec PyProof.Rows L2
section
variable {P : Program} {w : World} {A : Around} {E : Value → Shared → Prop} {s : Shared} {a : Addr} {L : List (Addr × List Int)} {es : Array (Int × Value)} {ep : Nat} {t : SetTable}
theorem call_addT (T : SetTR P w s.heap a L es ep t) {x : Addr} {k : List Int} (hx : L2.IsT P w s.heap k x) (hu : A.in1.units < cLine) (few : L.length + 1 < 64) {Q : Value → Shared → Prop}
    (h : ∀ (h' : Heap) (tk : Nat) (L' : List (Addr × List Int)) (es' : Array (Int × Value)) (ep' : Nat) (t' : SetTable), Heap.SameBut a s.heap h' → SetTR P w h' a L' es' ep' t' → (k ∈ L.map (·.2) → L' = L) → (¬ k ∈ L.map (·.2) → L'.Perm ((x, k) :: L)) →
      Q Value.none { heap := h', gens := s.gens, drawn := s.drawn, toks := tk, os := s.os }) :
    wpAny (model P w) A (call (.builtin "set.add") [.ref a, .ref x]) Q E s := by
  obtain ⟨o, ho, hex, hd⟩ := T.ob
  refine wpAny_call_entry PySem.F.slot_set_add ⟨o, ho, hex.1⟩ PySem.F.entry_set_add ?_ (PySem.F.args_set_add_2 _ _)
  unfold Builtin.«set.add»
  refine wpAny_bind (m := Builtin.Frozenset.oneOther _ _) ?_
  show wpAny _ _ (do let a ← Builtin.Frozenset.addrOf (.ref a); pure (a, Value.ref x)) _ _ _
  refine wpAny_bind (m := Builtin.Frozenset.addrOf (.ref a)) (wpAny_pure (wpAny_pure ?_))
  refine wpAny_bind (m := setAdd a (.ref x)) ?_
  unfold setAdd
  refine wpAny_holding (wpAny_bind (m := pyHash (.ref x)) ?_)
  refine (TK P w).pyHash (k := k) ?_ hx ?_
  · exact hu
  have hx2 : L2.IsT P w s.heap k x := hx
  refine add_at (s := { heap := s.heap, gens := s.gens, drawn := s.drawn, toks := s.toks + (TK P w).draws k, os := s.os }) T hx hu few fun b h' L' es' ep' t' sb T' e1 e2 => ?_
  exact wpAny_pure ⟨_, rfl, h h' _ L' es' ep' t' sb T' e1 e2⟩
end
theorem setTO_get {X : Cx} {pins : List (Addr × Obj)} {σ : L2.St} {H : Hp} {s : Shared} {a : Addr} {L : List (Addr × List Int)} (I : L2.Inv X pins σ H s) (h : H a = some (SetTO X.prog X.w a L)) : SetT0 X.prog X.w s.heap a L := by
  have k := I.hok a _ h
  have e : ∀ φ, ObjOk X.prog X.w H s.heap a (HO.ext φ) → φ s.heap := fun φ k => by
    unfold ObjOk at k
    exact k.1
  exact e _ k
theorem setTO_full {X : Cx} {pins : List (Addr × Obj)} {σ : L2.St} {H : Hp} {s : Shared} {a : Addr} {L : List (Addr × List Int)} (I : L2.Inv X pins σ H s) (h : H a = some (SetTO X.prog X.w a L)) (hL : ∀ p ∈ L, SqT X.K H p.1 (p.2.map V.int)) : ∃ es ep t, SetTR X.prog X.w s.heap a L es ep t :=
  (setTO_get I h).full fun p hp => I.isT (hL p hp)
theorem addT_ok {X : Cx} {pins : List (Addr × Obj)} {σ : L2.St} {H : Hp} {s : Shared} {E : Value → Shared → Prop} {D x : Addr} {L : List (Addr × List Int)} {k : List Int} {Q : Value → Shared → Prop} (I : L2.Inv X pins σ H s) (hD : H D = some (SetTO X.prog X.w D L))
    (hL : ∀ p ∈ L, SqT X.K H p.1 (p.2.map V.int)) (hx : SqT X.K H x (k.map V.int)) (hu : X.A.units + 1 < cLine) (few : L.length + 1 < 64)
    (q : ∀ (s' : Shared) (L' : List (Addr × List Int)), (k ∈ L.map (·.2) → L' = L) → (¬ k ∈ L.map (·.2) → L'.Perm ((x, k) :: L)) → L2.Inv X pins σ (upd H D (SetTO X.prog X.w D L')) s' → Q .none s') :
    wpAny (model X.prog X.w) X.A (call (.builtin "set.add") [.ref D, .ref x]) Q E s := by
  obtain ⟨es, ep, t, T⟩ := setTO_full I hD hL
  refine call_addT T (I.isT hx) hu few fun h' tk L' es' ep' t' sb T' e1 e2 => q _ L' e1 e2 ?_
  obtain ⟨o', ho', _⟩ := T'.ob
  exact I.write (x := D) (e := D) (by rw [hD]; trivial) (.inl rfl) (fun b u ne e => (sb.2 b ne).trans e) ⟨o', ho'⟩ (setTO_new T'.t0)
end SRS

set_option maxHeartbeats 2000000
/-! Tuples of ints sorted. -/
namespace SRS
open PySem PySem.Spec PyProof.Rows L2
theorem lex_ints {prog : Program} {w : World} {A : Around} {s : Shared} {b : Bool} {Q : Bool → Shared → Prop} : ∀ {xs ys : List Value} {ns ms : List Int} (i : Nat), IntsAre xs ns → IntsAre ys ms → ns.length = ms.length → Q (HT.lexLt ns ms) s → W.KatLex prog w A b false Q (xs.zip ys) i s
  | _, _, _, _, i, .nil, .nil, _, q => W.kat_nil (by rw [HT.lexLt_nil_nil] at q; exact q)
  | _, _, _, _, i, .nil, .cons m u rm, hl, q => by simp at hl
  | _, _, _, _, i, .cons n t rn, .nil, hl, q => by simp at hl
  | _, _, _, _, i, .cons n t rn, .cons m u rm, hl, q => by
    rw [HT.lexLt_cons] at q
    rw [List.zip_cons_cons]
    refine W.kat_cons (wpAny_eqBool_int ?_)
    by_cases e : n = m
    · rw [if_pos e] at q
      rw [show (n == m) = true by simpa using e]
      exact W.kat_yes (lex_ints (i + 1) rn rm (by simpa using hl) q)
    · rw [if_neg e] at q
      rw [show (n == m) = false by simpa using e]
      exact W.kat_no (TS.oneLt_ints _ q)
theorem lex_irr : ∀ ns : List Int, HT.lexLt ns ns = false
  | [] => HT.lexLt_nil_nil
  | n :: ns => by rw [HT.lexLt_cons, if_pos rfl]; exact lex_irr ns
theorem lex_asym : ∀ ns ms : List Int, HT.lexLt ns ms = true → HT.lexLt ms ns = false
  | [], [], _ => HT.lexLt_nil_nil
  | [], m :: ms, _ => HT.lexLt_cons_nil _ _
  | n :: ns, [], h => by rw [HT.lexLt_cons_nil] at h; cases h
  | n :: ns, m :: ms, h => by
    rw [HT.lexLt_cons] at h ⊢
    by_cases e : n = m
    · rw [if_pos e] at h
      rw [if_pos e.symm]
      exact lex_asym ns ms h
    · rw [if_neg e] at h
      rw [if_neg (fun z => e z.symm)]
      have := of_decide_eq_true h
      exact decide_eq_false (by omega)
theorem lex_tr : ∀ x y z : List Int, HT.lexLt y x = false → HT.lexLt z y = false → HT.lexLt z x = false
  | x, [], z, h1, h2 => by
    cases x with
    | nil => exact h2
    | cons a x => rw [HT.lexLt_nil_cons] at h1; cases h1
  | [], b :: y, z, h1, h2 => by
    cases z with
    | nil => exact HT.lexLt_nil_nil
    | cons c z => exact HT.lexLt_cons_nil _ _
  | a :: x, b :: y, [], h1, h2 => by rw [HT.lexLt_nil_cons] at h2; cases h2
  | a :: x, b :: y, c :: z, h1, h2 => by
    rw [HT.lexLt_cons] at h1 h2 ⊢
    by_cases e1 : b = a
    · rw [if_pos e1] at h1
      by_cases e2 : c = b
      · rw [if_pos e2] at h2
        rw [if_pos (by omega)]
        exact lex_tr x y z h1 h2
      · rw [if_neg e2] at h2
        have := of_decide_eq_false h2
        rw [if_neg (by omega)]
        exact decide_eq_false (by omega)
    · rw [if_neg e1] at h1
      have k1 := of_decide_eq_false h1
      by_cases e2 : c = b
      · rw [if_neg (by omega)]
        exact decide_eq_false (by omega)
      · rw [if_neg e2] at h2
        have := of_decide_eq_false h2
        rw [if_neg (by omega)]
        exact decide_eq_false (by omega)
theorem lex_swo (g : Value → List Int) : SrtO.Swo (fun v u => HT.lexLt (g v) (g u)) := ⟨fun x y h => lex_asym _ _ h, fun x y z h1 h2 => lex_tr _ _ _ h1 h2⟩
theorem tup_keep {h h' : Heap} {a : Addr} {v : Value} {ns : List Int} (t : TS.TupInts h v ns) (hk : ∀ (b : Addr) (o : Obj), b ≠ a → h.get? b = some o → h'.get? b = some o) (ha : ∀ o, h.get? a = some o → o.cls ≠ .type "tuple") : TS.TupInts h' v ns := by
  obtain ⟨x, xs, rfl, ⟨o, ho, hc, hd⟩, hi⟩ := t
  exact ⟨x, xs, rfl, ⟨o, hk _ _ (fun z => by rw [z] at ho; exact ha o ho hc) ho, hc, hd⟩, hi⟩
theorem firsts {h : Heap} {g : Value → List Int} {d : Nat} (hd : 1 ≤ d) : ∀ vs : List Value, (∀ v ∈ vs, TS.TupInts h v (g v) ∧ (g v).length = d) → ∃ fs, W.KatTups h vs fs ∧ fs.length = vs.length ∧ ∀ f ∈ fs, ∃ n t, f = Value.int n t
  | [], _ => ⟨[], W.KatTups.nil, rfl, by simp⟩
  | v :: vs, hv => by
    obtain ⟨fs, k, l, hf⟩ := firsts hd vs fun u hu => hv u (List.mem_cons_of_mem _ hu)
    obtain ⟨⟨x, xs, e, ⟨o, ho, hc, n, hdt⟩, hi⟩, hl⟩ := hv v List.mem_cons_self
    subst e
    generalize g (.ref x) = ns at hi hl
    have hx : ∃ n t, xs[0]? = some (Value.int n t) := by
      obtain ⟨xl⟩ := xs
      cases hi with
      | nil => simp at hl; omega
      | cons n t r => exact ⟨n, t, rfl⟩
    obtain ⟨n0, t0, hx⟩ := hx
    refine ⟨.int n0 t0 :: fs, W.KatTups.cons ho hc hdt hx k, by simp [l], fun f h => ?_⟩
    rcases List.mem_cons.mp h with e | e
    · exact ⟨n0, t0, e⟩
    · exact hf f e
theorem tups_sortable {prog : Program} {w : World} {A : Around} {s : Shared} {a : Addr} {vs : List Value} {g : Value → List Int} {d : Nat} (hd : 1 ≤ d) (h2 : 2 ≤ vs.length) (hv : ∀ v ∈ vs, TS.TupInts s.heap v (g v) ∧ (g v).length = d) (ha : ∀ o, s.heap.get? a = some o → o.cls ≠ .type "tuple") :
    SrtO.SortableO prog w A s a vs (fun v u => HT.lexLt (g v) (g u)) := by
  intro h' hk
  have hv' : ∀ v ∈ vs, TS.TupInts h' v (g v) ∧ (g v).length = d := fun v hm => ⟨tup_keep (hv v hm).1 hk ha, (hv v hm).2⟩
  obtain ⟨fs, kt, fl, hf⟩ := firsts hd vs hv'
  refine ⟨_, fun Q E q => W.kat_kind (T := .type "int") kt (by omega) (fun v hm => ?_) (by decide) q, fun p q hp hq => ?_⟩
  · obtain ⟨n, t, rfl⟩ := hf v hm
    intro A Q E s hs q
    exact wpAny_pure q
  · obtain ⟨⟨x, xs, e1, ⟨ox, hx, _, nx, dx⟩, ix⟩, lx⟩ := hv' _ hp
    obtain ⟨⟨y, ys, e2, ⟨oy, hy, _, ny, dy⟩, iy⟩, ly⟩ := hv' _ hq
    show wpAny _ _ (keyLt' _ p.fst q.fst) _ _ _
    have er : SrtO.lt2 (fun v u => HT.lexLt (g v) (g u)) p q = HT.lexLt (g p.fst) (g q.fst) := rfl
    rw [er]
    rw [e1] at ix lx ⊢
    rw [e2] at iy ly ⊢
    refine W.kat_lt hx dx hy dy ?_
    have l : xs.size = ys.size := by
      have a1 := ix.length
      have a2 := iy.length
      simp at a1 a2
      omega
    rw [show decide (xs.size < ys.size) = false from decide_eq_false (by omega)]
    exact lex_ints 0 ix iy (by omega) ⟨rfl, rfl⟩
end SRS

set_option maxHeartbeats 4000000
/-! Sets of up to 76 tuples of ints. -/
namespace SRB
open PySem PySem.Spec PyProof.Rows L2
structure SetB (P : Program) (w : World) (h : Heap) (a : Addr) (L : List (Addr × List Int)) (es : Array (Int × Value)) (ep : Nat) (t : SetTable) : Prop where
  ob : ∃ o, h.get? a = some o ∧ o.ExactSet ∧ o.data = .set es ep t
  rows : es.toList = rowsOf P w L
  tab : TabOk t (L.map fun p => thash P w p.2)
  nd : (L.map (·.2)).Nodup
  tup : ∀ p ∈ L, L2.IsT P w h p.2 p.1
  plain : t.plain = true
  led : w.params.followText "set-order" = true ∨ t.led = true
  room : L.length * 5 < t.mask * 3
section
variable {P : Program} {w : World} {A : Around} {E : Value → Shared → Prop} {s : Shared} {h : Heap} {a : Addr} {L : List (Addr × List Int)} {es : Array (Int × Value)} {ep : Nat} {t : SetTable}
theorem SetB.of (T : SetTR P w h a L es ep t) : SetB P w h a L es ep t := ⟨T.ob, T.rows, T.tab, T.nd, T.tup, T.plain, T.led, T.room⟩
theorem SetB.tr (T : SetB P w h a L es ep t) (few : L.length < 64) : SetTR P w h a L es ep t := ⟨T.ob, T.rows, T.tab, T.nd, T.tup, T.plain, T.led, T.room, few⟩
theorem SetB.mask (T : SetB P w h a L es ep t) : t.mask = 7 ∨ t.mask = 31 ∨ t.mask = 127 := T.tab.mok
theorem SetB.size (T : SetB P w h a L es ep t) : es.size = L.length := by
  have := congrArg List.length T.rows
  simpa [rowsOf] using this
theorem SetB.le (T : SetB P w h a L es ep t) : L.length ≤ 76 := by
  have := T.room
  rcases T.mask with m | m | m <;> rw [m] at this <;> omega
theorem SetB.fill (T : SetB P w h a L es ep t) : t.fill = L.length := by
  unfold SetTable.fill
  rw [T.tab.sz, T.tab.dm]
  simp
theorem SetB.fits (T : SetB P w h a L es ep t) : t.fits es.size = true := by
  unfold SetTable.fits
  rw [T.size, T.fill, T.tab.sz, List.length_map]
  have := T.room
  simp
  omega
theorem SetB.gw (T : SetB P w h a L es ep t) : t.gaveWay = false := by
  unfold SetTable.gaveWay
  rcases T.mask with m | m | m <;> rw [m] <;> rfl
theorem SetB.entry (T : SetB P w h a L es ep t) {i : Nat} {p : Addr × List Int} (hp : L[i]? = some p) : es[i]? = some (thash P w p.2, Value.ref p.1) := by
  rw [← Array.getElem?_toList, T.rows]
  unfold rowsOf
  rw [List.getElem?_map, hp]
  rfl
theorem nth_dummy (m : Nat) (p : SetTable.Probe) (hp : p.dummy = none) : ∀ k, (nth m p k).dummy = none
  | 0 => hp
  | k + 1 => by
    rw [nth_succ]
    have ih := nth_dummy m p hp k
    unfold adv
    split <;> exact ih
end
end SRB

set_option maxHeartbeats 4000000
/-! A tuple looked for in a set. -/
namespace SRB
open PySem PySem.Spec PyProof.Rows L2
section
variable {P : Program} {w : World} {A : Around} {E : Value → Shared → Prop} {s : Shared} {a : Addr} {L : List (Addr × List Int)} {es : Array (Int × Value)} {ep : Nat} {t : SetTable}
abbrev hAt (es : Array (Int × Value)) : Nat → Int := fun i => (es[i]?.map (·.1)).getD 0
theorem SetB.hat (T : SetB P w s.heap a L es ep t) {i : Nat} {p : Addr × List Int} (hp : L[i]? = some p) : hAt es i = thash P w p.2 := by
  unfold hAt
  rw [T.entry hp]
  rfl
theorem search_b (T : SetB P w s.heap a L es ep t) {x : Addr} {k : List Int} (hx : L2.IsT P w s.heap k x) (hu : A.units < cLine) {K : Nat} (hK : K < 10 * SetTable.turns t.mask) (free : ¬ way t.mask (thash P w k) K ∈ t.place.toList) (occ : ∀ c, c < K → way t.mask (thash P w k) c ∈ t.place.toList)
    {Q : SetFound → Shared → Prop} (q1 : k ∈ L.map (·.2) → Q (.there none) s) (q2 : ¬ k ∈ L.map (·.2) → Q (.free (way t.mask (thash P w k) K) false) s) : ∀ (f c : Nat) (stand : Option SetTable.Probe),
    stand.getD (t.probeStart (thash P w k)) = nth t.mask (runAt t.mask (SetTable.bits (thash P w k) % (t.mask + 1)) (SetTable.bits (thash P w k))) c → c ≤ K → K - c < f →
    (∀ (i : Nat) (p : Addr × List Int), L[i]? = some p → p.2 = k → ∃ c', c ≤ c' ∧ c' < K ∧ t.place.toList[i]? = some (way t.mask (thash P w k) c')) →
    wpAny (model P w) A (setSearchFrom a (.ref x) (thash P w k) true f stand) Q E s := by
  intro f
  induction f with
  | zero => intro c stand _ _ h; omega
  | succ f ih =>
    intro c stand hst hc hf hin
    obtain ⟨o, ho, hex, hd⟩ := T.ob
    rw [setSearchFrom_succ]
    refine wpAny_bind (wpAny_setState_of ho hd T.fits ?_)
    show wpAny _ _ (if t.gaveWay = true then _ else _) _ _ _
    rw [if_neg (by rw [T.gw]; decide)]
    rw [hst]
    generalize hp0 : runAt t.mask (SetTable.bits (thash P w k) % (t.mask + 1)) (SetTable.bits (thash P w k)) = p0 at *
    have dm0 : p0.dummy = none := by rw [← hp0]; rfl
    have wy : ∀ j, way t.mask (thash P w k) j = (nth t.mask p0 j).j := fun j => by
      unfold way
      rw [hp0]
    have gs := go_spec t T.tab.ris T.tab.dm (hAt es) (thash P w k) (10 * SetTable.turns t.mask) (K - c) (nth t.mask p0 c) (nth_dummy _ _ dm0 c) (by omega) (fun j hj => by
      rw [← nth_add, ← wy]
      exact occ _ (by omega)) (by
      rw [← nth_add, show c + (K - c) = K by omega, ← wy]
      exact free)
    unfold SetTable.probe
    have mem : ∀ (i : Nat) (p : Addr × List Int), L[i]? = some p → p.2 = k → hAt es i = thash P w k := fun i p hp e => by rw [T.hat hp, e]
    rcases gs with ⟨j, i, hj, hpl, hh, before, hgo⟩ | ⟨none_, hgo⟩
    · rw [← nth_add] at hpl hgo
      have li : i < L.length := by
        have := (List.getElem?_eq_some_iff.mp hpl).1
        have k := T.tab.sz
        rw [List.length_map] at k
        simpa [← k] using this
      obtain ⟨y, hy⟩ : ∃ y, L[i]? = some y := ⟨_, List.getElem?_eq_getElem li⟩
      have hes := T.entry hy
      have ty := T.tup y (List.mem_of_getElem? hy)
      have go : SetTable.probe.go t (fun i => (Option.map (fun x => x.fst) es[i]?).getD 0) (thash P w k) (10 * SetTable.turns t.mask) (nth t.mask p0 c) = some (SetTable.Met.candidate (nth t.mask p0 (c + j)).j i (nth t.mask (nth t.mask p0 c) (j + 1))) := hgo
      rw [go]
      have rest : wpAny (model P w) A (searchRest a (.ref x) (thash P w k) true f es t (nth t.mask p0 (c + j)).j i (nth t.mask (nth t.mask p0 c) (j + 1))) Q E s := by
        unfold searchRest
        rw [hes]
        refine wpAny_bind (wpAny_holding ((TK P w).eqBool (a := y.1) (b := x) (x := y.2) (y := k) hu ty hx ?_))
        refine wpAny_bind (wpAny_setState_of ho hd T.fits ?_)
        by_cases e : y.2 = k
        · rw [decide_eq_true e]
          exact wpAny_pure (q1 (List.mem_map.mpr ⟨y, List.mem_of_getElem? hy, e⟩))
        · rw [decide_eq_false e]
          show wpAny _ _ (match t.sameMemory t.moves t.mask with | some same => _ | x => _) _ _ _
          rw [sameMem]
          show wpAny _ _ (match t.slot (nth t.mask p0 (c + j)).j with | SetTable.Slot.live i' => _ | x => _) _ _ _
          rw [slot_live T.tab.ris hpl]
          show wpAny _ _ (match es[i]? with | some (_, y') => _ | none => _) _ _ _
          rw [hes]
          refine wpAny_bind (wpAny_isSame_ref_self (wpAny_bind (wpAny_pure ?_)))
          refine ih (c + (j + 1)) _ ?_ (by omega) (by omega) fun i2 p hp ep => ?_
          · exact (nth_add _ _ _ _).symm
          · obtain ⟨c', c1, c2, c3⟩ := hin i2 p hp ep
            refine ⟨c', ?_, c2, c3⟩
            have hm := mem i2 p hp ep
            rcases Nat.lt_trichotomy c' (c + j) with g | g | g
            · exfalso
              refine before (c' - c) i2 (by omega) ?_ hm
              rw [← nth_add, show c + (c' - c) = c' by omega, ← wy]
              exact c3
            · exfalso
              subst g
              rw [wy] at c3
              have nd : t.place.toList.Nodup := T.tab.ris.imp fun {x y} h => Nat.ne_of_lt h
              have := (List.getElem?_inj (List.getElem?_eq_some_iff.mp c3).1 nd).mp (c3.trans hpl.symm)
              subst this
              rw [hp] at hy
              cases hy
              exact e ep
            · omega
      show wpAny _ _ (if (!t.led) = true then _ else _) _ _ _
      by_cases hl : (!t.led) = true
      · rw [if_pos hl]
        refine wpAny_bind (seen_tup hx (fun y' hy' => ?_) ?_)
        · obtain ⟨z, hz, rfl⟩ := List.mem_map.mp hy'
          rw [Array.mem_toList_iff, Array.mem_filter] at hz
          have hz := Array.mem_toList_iff.mpr hz.1
          rw [T.rows] at hz
          unfold rowsOf at hz
          obtain ⟨q, hq, rfl⟩ := List.mem_map.mp hz
          exact ⟨q.2, q.1, rfl, T.tup q hq⟩
        · exact rest
      · rw [if_neg hl]
        exact rest
    · have go : SetTable.probe.go t (fun i => (Option.map (fun x => x.fst) es[i]?).getD 0) (thash P w k) (10 * SetTable.turns t.mask) (nth t.mask p0 c) = some (SetTable.Met.empty (nth t.mask (nth t.mask p0 c) (K - c)).j none) := hgo
      rw [go, ← nth_add, show c + (K - c) = K by omega]
      refine wpAny_pure ?_
      rw [← wy]
      refine q2 fun hk => ?_
      obtain ⟨p, hp, ep⟩ := List.mem_map.mp hk
      obtain ⟨i, hi, rfl⟩ := List.mem_iff_getElem.mp hp
      have hp := List.getElem?_eq_getElem hi
      obtain ⟨c', c1, c2, c3⟩ := hin i _ hp ep
      refine none_ (c' - c) i (by omega) ?_ (mem i _ hp ep)
      rw [← nth_add, show c + (c' - c) = c' by omega, ← wy]
      exact c3
end
end SRB

set_option maxHeartbeats 4000000
/-! A tuple put into a set of up to 75. -/
namespace SRB
open PySem PySem.Spec PyProof.Rows L2
section
variable {P : Program} {w : World} {A : Around} {E : Value → Shared → Prop} {s : Shared} {a : Addr} {L : List (Addr × List Int)} {es : Array (Int × Value)} {ep : Nat} {t : SetTable}
theorem ins_list {α : Type} (xs : Array α) (p : Nat) (x : α) : (SetTable.insertAt xs p x).toList = xs.toList.take p ++ x :: xs.toList.drop p := by
  unfold SetTable.insertAt
  simp only [Array.toList_append, Array.toList_push, Array.toList_extract, List.append_assoc, List.cons_append, List.nil_append]
  rw [List.extract_eq_drop_take, List.extract_eq_drop_take]
  congr 1
  congr 1
  exact List.take_of_length_le (by simp)
theorem SetB.keep {h' : Heap} (T : SetB P w s.heap a L es ep t) (sb : ∀ (b : Addr) (o : Obj), s.heap.get? b = some o → h'.get? b = some o) : SetB P w h' a L es ep t := by
  obtain ⟨o, ho, r⟩ := T.ob
  exact ⟨⟨o, sb _ _ ho, r⟩, T.rows, T.tab, T.nd, fun p hp => isT_keep (T.tup p hp) sb, T.plain, T.led, T.room⟩
theorem add_big (T : SetB P w s.heap a L es ep t) {x : Addr} {k : List Int} (hx : L2.IsT P w s.heap k x) (hu : A.units < cLine) (few : L.length + 1 ≤ 76) (hm : t.mask = 127) {Q : Bool → Shared → Prop}
    (q : ∀ (b : Bool) (h' : Heap) (L' : List (Addr × List Int)) (es' : Array (Int × Value)) (ep' : Nat) (t' : SetTable), Heap.SameBut a s.heap h' → SetB P w h' a L' es' ep' t' → (k ∈ L.map (·.2) → L' = L) → (¬ k ∈ L.map (·.2) → L'.Perm ((x, k) :: L)) →
      Q b { heap := h', gens := s.gens, drawn := s.drawn, toks := s.toks, os := s.os }) :
    wpAny (model P w) A (setAddHashed a (.ref x) (thash P w k)) Q E s := by
  obtain ⟨o, ho, hex, hd⟩ := id T.ob
  unfold setAddHashed
  refine wpAny_holding ?_
  rw [show (100000 : Nat) = 99999 + 1 from rfl, setAddHashedIn_succ]
  refine wpAny_bind (wpAny_setState_of ho hd T.fits ?_)
  have bs : byScan (.ref x) es = false := by
    unfold byScan
    rfl
  show wpAny _ _ (if byScan (.ref x) es = true then _ else _) _ _ _
  rw [if_neg (by rw [bs]; decide)]
  have hlen : (L.map fun p => thash P w p.2).length = L.length := List.length_map _
  obtain ⟨K, hK, free, occ⟩ := T.tab.first (by rw [hlen, hm]; omega) (thash P w k)
  refine wpAny_bind ?_
  unfold setSearch
  have inn : ∀ (i : Nat) (p : Addr × List Int), L[i]? = some p → p.2 = k → ∃ c', 0 ≤ c' ∧ c' < K ∧ t.place.toList[i]? = some (way t.mask (thash P w k) c') := fun i p hp e => by
    have li := (List.getElem?_eq_some_iff.mp hp).1
    have lp : i < t.place.toList.length := by
      have k := T.tab.sz
      rw [hlen] at k
      rw [Array.length_toList, k]
      exact li
    have hpl := List.getElem?_eq_getElem lp
    obtain ⟨c', c1, c2⟩ := T.tab.before free (h := thash P w k) (i := i) (j := t.place.toList[i]) (by rw [List.getElem?_map, hp, ← e]; rfl) hpl
    exact ⟨c', Nat.zero_le _, c1, by rw [c2]; exact hpl⟩
  refine search_b T hx hu hK free occ (fun hk => ?_) (fun hk => ?_) 100000 0 none ?_ (Nat.zero_le _) ?_ inn
  · exact wpAny_pure (q false s.heap L es ep t ⟨rfl, fun _ _ => rfl⟩ T (fun _ => rfl) fun z => absurd hk z)
  · refine wpAny_bind (wpAny_setState_of ho hd T.fits ?_)
    obtain ⟨p1, p2, p3, p4, p5, p6, p7, p8, p9⟩ := T.tab.put free occ
    generalize hslot : way t.mask (thash P w k) K = slot at *
    dsimp only
    generalize hput : t.put slot = tp at *
    obtain ⟨t', p⟩ := tp
    dsimp only at p1 p2 p3 p4 p5 p6 p7 p8 p9 ⊢
    subst p1
    generalize hpp : SetTable.below t.place slot = p at *
    rw [if_pos (p6.trans T.plain)]
    refine wpAny_bind (hashBy_tup hx ?_)
    simp only [if_true]
    have hsz : (SetTable.insertAt es p (thash P w k, Value.ref x)).size ≤ sizeLine := by
      rw [← Array.length_toList, ins_list, List.length_append, List.length_cons, List.length_take, List.length_drop, Array.length_toList, T.size, sizeLine_eq]
      omega
    refine wpAny_bind (wpAny_storeSet_of ho hd ?_ hsz)
    have full : (!false && t'.tooFull) = false := by
      unfold SetTable.tooFull
      rw [p9, p4, hm, hlen]
      simp
      omega
    show wpAny _ _ (if (!false && t'.tooFull) = true then _ else _) _ _ _
    rw [full, if_neg (by decide)]
    refine wpAny_pure ?_
    have lb := Heap.lt_size ho
    obtain ⟨cls, dict, data, slots⟩ := o
    simp only at hd
    subst hd
    have hget : (s.heap.update a (Obj.putSet (SetTable.insertAt es p (thash P w k, Value.ref x)) t')).get? a = some ⟨cls, dict, .set (SetTable.insertAt es p (thash P w k, Value.ref x)) (ep + 1) t', slots⟩ := Heap.get?_update_self _ ho rfl
    have sb : Heap.SameBut a s.heap (s.heap.update a (Obj.putSet (SetTable.insertAt es p (thash P w k, Value.ref x)) t')) := Heap.SameBut.update _ _ _
    refine q true _ (L.take p ++ (x, k) :: L.drop p) _ (ep + 1) t' sb ⟨⟨_, hget, hex, rfl⟩, ?_, ?_, ?_, ?_, by rw [p6]; exact T.plain, by rw [p5]; exact T.led, ?_⟩ (fun z => absurd z hk) fun _ => put_perm L p (x, k)
    · rw [ins_list, T.rows, rows_put]
    · rw [List.map_append, List.map_cons, List.map_take, List.map_drop]
      exact p3
    · have e : ((L.take p ++ (x, k) :: L.drop p).map (·.2)).Perm (k :: L.map (·.2)) := (put_perm L p (x, k)).map _
      rw [e.nodup_iff, List.nodup_cons]
      exact ⟨hk, T.nd⟩
    · intro z hz
      rcases mem_ins.mp hz with e | e
      · rw [e]
        exact isT_same hx ho rfl sb
      · exact isT_same (T.tup z e) ho rfl sb
    · rw [(put_perm L p (x, k)).length_eq, List.length_cons, p4, hm]
      omega
  · show t.probeStart (thash P w k) = _
    rw [start_run]
    rfl
  · rw [hm] at hK
    have : SetTable.turns 127 = 142 := rfl
    omega
end
end SRB

set_option maxHeartbeats 4000000
/-! Sets of up to 76 tuples of ints, kept. -/
namespace SRB
open PySem PySem.Spec PyProof.Rows L2
section
variable {P : Program} {w : World} {A : Around} {E : Value → Shared → Prop} {s : Shared} {a : Addr} {L : List (Addr × List Int)} {es : Array (Int × Value)} {ep : Nat} {t : SetTable}
theorem add_any (T : SetB P w s.heap a L es ep t) {x : Addr} {k : List Int} (hx : L2.IsT P w s.heap k x) (hu : A.units < cLine) (few : L.length + 1 ≤ 76) {Q : Bool → Shared → Prop}
    (q : ∀ (b : Bool) (h' : Heap) (L' : List (Addr × List Int)) (es' : Array (Int × Value)) (ep' : Nat) (t' : SetTable), Heap.SameBut a s.heap h' → SetB P w h' a L' es' ep' t' → (k ∈ L.map (·.2) → L' = L) → (¬ k ∈ L.map (·.2) → L'.Perm ((x, k) :: L)) →
      Q b { heap := h', gens := s.gens, drawn := s.drawn, toks := s.toks, os := s.os }) :
    wpAny (model P w) A (setAddHashed a (.ref x) (thash P w k)) Q E s := by
  by_cases c : L.length + 1 < 64
  · exact add_at (T.tr (by omega)) hx hu c fun b h' L' es' ep' t' sb T' e1 e2 => q b h' L' es' ep' t' sb (.of T') e1 e2
  · refine add_big T hx hu few ?_ q
    have r := T.room
    rcases T.mask with m | m | m
    · rw [m] at r; omega
    · rw [m] at r; omega
    · exact m
end
section
variable {P : Program} {w : World} {A : Around} {E : Value → Shared → Prop} {s : Shared} {a : Addr} {L : List (Addr × List Int)} {es : Array (Int × Value)} {ep : Nat} {t : SetTable}
theorem call_addB (T : SetB P w s.heap a L es ep t) {x : Addr} {k : List Int} (hx : L2.IsT P w s.heap k x) (hu : A.in1.units < cLine) (few : L.length + 1 ≤ 76) {Q : Value → Shared → Prop}
    (h : ∀ (h' : Heap) (tk : Nat) (L' : List (Addr × List Int)) (es' : Array (Int × Value)) (ep' : Nat) (t' : SetTable), Heap.SameBut a s.heap h' → SetB P w h' a L' es' ep' t' → (k ∈ L.map (·.2) → L' = L) → (¬ k ∈ L.map (·.2) → L'.Perm ((x, k) :: L)) →
      Q Value.none { heap := h', gens := s.gens, drawn := s.drawn, toks := tk, os := s.os }) :
    wpAny (model P w) A (call (.builtin "set.add") [.ref a, .ref x]) Q E s := by
  obtain ⟨o, ho, hex, hd⟩ := T.ob
  refine wpAny_call_entry PySem.F.slot_set_add ⟨o, ho, hex.1⟩ PySem.F.entry_set_add ?_ (PySem.F.args_set_add_2 _ _)
  unfold Builtin.«set.add»
  refine wpAny_bind (m := Builtin.Frozenset.oneOther _ _) ?_
  show wpAny _ _ (do let a ← Builtin.Frozenset.addrOf (.ref a); pure (a, Value.ref x)) _ _ _
  refine wpAny_bind (m := Builtin.Frozenset.addrOf (.ref a)) (wpAny_pure (wpAny_pure ?_))
  refine wpAny_bind (m := setAdd a (.ref x)) ?_
  unfold setAdd
  refine wpAny_holding (wpAny_bind (m := pyHash (.ref x)) ?_)
  refine (TK P w).pyHash (k := k) ?_ hx ?_
  · exact hu
  have hx2 : L2.IsT P w s.heap k x := hx
  refine add_any (s := { heap := s.heap, gens := s.gens, drawn := s.drawn, toks := s.toks + (TK P w).draws k, os := s.os }) T hx hu few fun b h' L' es' ep' t' sb T' e1 e2 => ?_
  exact wpAny_pure ⟨_, rfl, h h' _ L' es' ep' t' sb T' e1 e2⟩
end
/-- the same without what stands at other addresses -/
def SetB0 (P : Program) (w : World) (h : Heap) (a : Addr) (L : List (Addr × List Int)) : Prop := ∃ es ep t, (∃ o, h.get? a = some o ∧ o.ExactSet ∧ o.data = .set es ep t) ∧ es.toList = rowsOf P w L ∧ TabOk t (L.map fun p => thash P w p.2) ∧ (L.map (·.2)).Nodup ∧ t.plain = true ∧ (w.params.followText "set-order" = true ∨ t.led = true) ∧ L.length * 5 < t.mask * 3
def SetBO (P : Program) (w : World) (a : Addr) (L : List (Addr × List Int)) : HO := .ext fun h => SetB0 P w h a L
theorem SetB.b0 {P : Program} {w : World} {h : Heap} {a : Addr} {L : List (Addr × List Int)} {es : Array (Int × Value)} {ep : Nat} {t : SetTable} (T : SetB P w h a L es ep t) : SetB0 P w h a L := ⟨es, ep, t, T.ob, T.rows, T.tab, T.nd, T.plain, T.led, T.room⟩
theorem setBO_new {P : Program} {w : World} {H : Hp} {h : Heap} {a : Addr} {L : List (Addr × List Int)} (T : SetB0 P w h a L) : ObjOk P w H h a (SetBO P w a L) := by
  have e : ∀ φ : Heap → Prop, (φ h ∧ (∃ o, h.get? a = some o) ∧ ∀ (h1 h2 : Heap), φ h1 → (∀ (o : Obj), h1.get? a = some o → h2.get? a = some o) → φ h2) → ObjOk P w H h a (HO.ext φ) := fun φ k => by
    unfold ObjOk
    exact k
  refine e _ ⟨T, ?_, fun h1 h2 k g => ?_⟩
  · obtain ⟨_, _, _, ⟨o, ho, _⟩, _⟩ := T
    exact ⟨o, ho⟩
  · obtain ⟨es, ep, t, ⟨o, ho, r⟩, z⟩ := k
    exact ⟨es, ep, t, ⟨o, g o ho, r⟩, z⟩
theorem setBO_get {X : Cx} {pins : List (Addr × Obj)} {σ : L2.St} {H : Hp} {s : Shared} {a : Addr} {L : List (Addr × List Int)} (I : L2.Inv X pins σ H s) (h : H a = some (SetBO X.prog X.w a L)) : SetB0 X.prog X.w s.heap a L := by
  have k := I.hok a _ h
  have e : ∀ φ, ObjOk X.prog X.w H s.heap a (HO.ext φ) → φ s.heap := fun φ k => by
    unfold ObjOk at k
    exact k.1
  exact e _ k
theorem setBO_full {X : Cx} {pins : List (Addr × Obj)} {σ : L2.St} {H : Hp} {s : Shared} {a : Addr} {L : List (Addr × List Int)} (I : L2.Inv X pins σ H s) (h : H a = some (SetBO X.prog X.w a L)) (hL : ∀ p ∈ L, SqT X.K H p.1 (p.2.map V.int)) : ∃ es ep t, SetB X.prog X.w s.heap a L es ep t := by
  obtain ⟨es, ep, t, o, r, tb, nd, pl, led, room⟩ := setBO_get I h
  exact ⟨es, ep, t, o, r, tb, nd, fun p hp => I.isT (hL p hp), pl, led, room⟩
theorem addB_ok {X : Cx} {pins : List (Addr × Obj)} {σ : L2.St} {H : Hp} {s : Shared} {E : Value → Shared → Prop} {D x : Addr} {L : List (Addr × List Int)} {k : List Int} {Q : Value → Shared → Prop} (I : L2.Inv X pins σ H s) (hD : H D = some (SetBO X.prog X.w D L))
    (hL : ∀ p ∈ L, SqT X.K H p.1 (p.2.map V.int)) (hx : SqT X.K H x (k.map V.int)) (hu : X.A.units + 1 < cLine) (few : L.length + 1 ≤ 76)
    (q : ∀ (s' : Shared) (L' : List (Addr × List Int)), (k ∈ L.map (·.2) → L' = L) → (¬ k ∈ L.map (·.2) → L'.Perm ((x, k) :: L)) → L2.Inv X pins σ (upd H D (SetBO X.prog X.w D L')) s' → Q .none s') :
    wpAny (model X.prog X.w) X.A (call (.builtin "set.add") [.ref D, .ref x]) Q E s := by
  obtain ⟨es, ep, t, T⟩ := setBO_full I hD hL
  refine call_addB T (I.isT hx) hu few fun h' tk L' es' ep' t' sb T' e1 e2 => q _ L' e1 e2 ?_
  obtain ⟨o', ho', _⟩ := T'.ob
  exact I.write (x := D) (e := D) (by rw [hD]; trivial) (.inl rfl) (fun b u ne e => (sb.2 b ne).trans e) ⟨o', ho'⟩ (setBO_new T'.b0)
end SRB

set_option maxHeartbeats 4000000
/-! The members of a list of up to 76 tuples of ints put into a set. -/
namespace SRB
open PySem PySem.Spec PyProof.Rows L2
theorem loop_units (args : Args) : (Code.builtin "set.update.loop" args).cUnits = 1 := by kernel_rfl
theorem loop_weight (args : Args) : (Code.builtin "set.update.loop" args).weight = 0 := by kernel_rfl
section
variable {P : Program} {w : World} {A : Around} {E : Value → Shared → Prop} {s : Shared}
theorem SetB.keepB {h h' : Heap} {a : Addr} {L : List (Addr × List Int)} {es : Array (Int × Value)} {ep : Nat} {t : SetTable} (T : SetB P w h a L es ep t) (ha : ∀ o, h.get? a = some o → h'.get? a = some o) (hk : ∀ p ∈ L, L2.IsT P w h' p.2 p.1) : SetB P w h' a L es ep t := by
  obtain ⟨o, ho, r⟩ := T.ob
  exact ⟨⟨o, ha _ ho, r⟩, T.rows, T.tab, T.nd, hk, T.plain, T.led, T.room⟩
theorem upd_loop {I S l : Addr} {items : Array Value} {ks : List (Addr × List Int)} {R : Result → Shared → Prop} (hA : A.handled = none) (hu : A.units + 2 < cLine) (nIl : l ≠ I)
    (hi : items.toList = ks.map fun p => Value.ref p.1) (few : ks.length ≤ 76) (nSI : S ≠ I) (nSl : S ≠ l) (h0 : Heap) (hk : ∀ p ∈ ks, L2.IsT P w h0 p.2 p.1) (h0S : h0.get? S = none) (h0I : h0.get? I = none)
    (q : ∀ (s' : Shared) (L : List (Addr × List Int)) (es : Array (Int × Value)) (ep : Nat) (t : SetTable), s'.gens = s.gens → s'.drawn = s.drawn → s'.os = s.os → SetB P w s'.heap S L es ep t → Got ks ks.length L → (∀ (b : Addr) (o : Obj), h0.get? b = some o → s'.heap.get? b = some o) → R (.ok (.ret .none)) s') :
    ∀ (k i : Nat) (s1 : Shared), items.size - i = k → i ≤ items.size → s1.gens = s.gens → s1.drawn = s.drawn → s1.os = s.os → (s1.heap.IsListIter I l i ∧ s1.heap.IsList l items) → (∀ (b : Addr) (o : Obj), h0.get? b = some o → s1.heap.get? b = some o) → (∃ L es ep t, SetB P w s1.heap S L es ep t ∧ Got ks i L) →
      codeAny (model P w) A (Code.builtin "set.update.loop" { pos := [Value.ref S, Value.ref I] }) R s1 := by
  have hU : A.under (Code.builtin "set.update.loop" { pos := [Value.ref S, Value.ref I] }) = A.in1 := Around.under_plain (loop_weight _) (loop_units _)
  have W := Walks.list (prog := P) (w := w) (A := A.in1) hA I l nIl items
  have szk : items.size = ks.length := by
    have := congrArg List.length hi
    simpa using this
  intro k
  induction k with
  | zero =>
    intro i s1 e hi2 g d os st keep ⟨L, es, ep, t, T, G⟩
    have ei : i = items.size := by omega
    subst ei
    refine codeAny_builtin F.entry_set_update_loop ?_
    rw [hU]
    unfold Builtin.«set.update.loop»
    refine wpAny_bind (W.done _ _ _ st fun h' tk kp => ?_)
    have keep' : ∀ (b : Addr) (o : Obj), h0.get? b = some o → h'.get? b = some o := fun b o e => kp b o (fun z => by rw [List.mem_singleton] at z; rw [z, h0I] at e; cases e) (keep b o e)
    refine wpAny_pure ?_
    refine q _ L es ep t g d os (T.keepB (fun o e => kp _ _ (by rw [List.mem_singleton]; exact nSI) e) fun p hp => ?_) (by rw [← szk]; exact G) keep'
    exact isT_keep (hk p (List.mem_of_mem_take (G.sub p hp))) keep'
  | succ k ih =>
    intro i s1 e hi2 g d os st keep ⟨L, es, ep, t, T, G⟩
    have li : i < items.size := by omega
    refine codeAny_builtin F.entry_set_update_loop ?_
    rw [hU]
    unfold Builtin.«set.update.loop»
    refine wpAny_bind (W.item _ _ _ _ li st fun v h' tk hv st' kp => ?_)
    have keep' : ∀ (b : Addr) (o : Obj), h0.get? b = some o → h'.get? b = some o := fun b o e => kp b o (fun z => by rw [List.mem_singleton] at z; rw [z, h0I] at e; cases e) (keep b o e)
    obtain ⟨p, hp, rfl⟩ : ∃ p, ks[i]? = some p ∧ v = Value.ref p.1 := by
      have hv' : items.toList[i]? = some v := by simpa using hv
      rw [hi, List.getElem?_map] at hv'
      obtain ⟨p, hp, e⟩ := Option.map_eq_some_iff.mp hv'
      exact ⟨p, hp, e.symm⟩
    have T' : SetB P w h' S L es ep t := T.keepB (fun o e => kp _ _ (by rw [List.mem_singleton]; exact nSI) e) fun p hp => isT_keep (hk p (List.mem_of_mem_take (G.sub p hp))) keep'
    have hx : L2.IsT P w h' p.2 p.1 := isT_keep (hk p (List.mem_of_getElem? hp)) keep'
    show wpAny _ _ (do
      let _ ← holding [Value.ref p.1] (setAdd S (.ref p.1))
      again (Code.builtin "set.update.loop" { pos := [Value.ref S, Value.ref I] })) _ _ _
    refine wpAny_bind (wpAny_holding ?_)
    unfold setAdd
    refine wpAny_holding (wpAny_bind ((TK P w).pyHash (k := p.2) (show A.in1.units < cLine from by show A.units + 1 < cLine; omega) hx ?_))
    have hlen : L.length + 1 ≤ 76 := by
      have := G.len
      omega
    refine add_any (s := { heap := h', gens := s1.gens, drawn := s1.drawn, toks := tk + (TK P w).draws p.2, os := s1.os }) T' hx (by show A.units + 1 < cLine; omega) hlen fun b h2 L2 es2 ep2 t2 sb T2 c1 c2 => ?_
    refine wpAny_pure ⟨Code.quiet_builtin _ (by decide +kernel), ?_⟩
    have sbk : ∀ (b : Addr) (o : Obj), b ≠ S → h'.get? b = some o → h2.get? b = some o := fun b o ne e => (sb.2 b ne).trans e
    refine ih (i + 1) _ (by omega) (by omega) g d os ⟨?_, ?_⟩ (fun b o e => sbk b o (fun z => by rw [z, h0S] at e; cases e) (keep' b o e)) ⟨L2, es2, ep2, t2, T2, ?_⟩
    · obtain ⟨o, ho, r⟩ := st'.1
      exact ⟨o, sbk _ _ (Ne.symm nSI) ho, r⟩
    · obtain ⟨o, ho, r⟩ := st'.2
      exact ⟨o, sbk _ _ (Ne.symm nSl) ho, r⟩
    · by_cases m : p.2 ∈ L.map (·.2)
      · rw [c1 m]
        exact G.same hp m
      · exact G.more hp (c2 m)
end
end SRB

set_option maxHeartbeats 2000000
/-! {e for x in .. if ..} whose members are tuples of ints. -/
namespace SRB
open PySem PySem.Spec PyProof.Rows L2 LamX LV
section
variable {X : Cx}
def tScB (P : Program) (w : World) (K : PySem.W.Frag) (wi : TI) (g : TG) (tt : TT) (te : TE) (vs : List Nat) : TE := fun σ H Q =>
  wi σ H fun J H1 => ∀ D : Addr, H1 D = none → ∃ W : Nat → Nat → Hp → Prop, (∃ m, W 0 m (upd H1 D (SetBO P w D []))) ∧
    ∀ (i m : Nat) (H : Hp), W i m H →
      J.stop i H ∧ Q (.ref D) H ∨
      J.go i H ∧ ∃ Nx : Hp → Prop, (∀ H', Nx H' → ∃ m', m' < m ∧ W (i + 1) m' H') ∧
        ∀ (x : V) (H' : Hp), J.yld i H x H' → g x (wipe σ vs) H' fun σ2 H2 => wipe σ2 vs = wipe σ vs ∧
          tt σ2 H2 fun b H3 => if b = true then te σ2 H3 fun y H4 => ∃ (e : Addr) (k : List Int) (L : List (Addr × List Int)), y = .ref e ∧ SqT K H4 e (k.map V.int) ∧ H4 D = some (SetBO P w D L) ∧ (∀ p ∈ L, SqT K H4 p.1 (p.2.map V.int)) ∧ L.length + 1 ≤ 76 ∧
            (∀ L' : List (Addr × List Int), (k ∈ L.map (·.2) → L' = L) → (¬ k ∈ L.map (·.2) → L'.Perm ((e, k) :: L)) → Nx (upd H4 D (SetBO P w D L'))) else Nx H3
theorem pe_scB {elt tg iter : Expr} {ifs : List Expr} {scope : Scope} {own : List (Str × Nat)} {pos : Pos} {wi : TI} {g : TG} {tt : TT} {te : TE} (hu : X.A.units + 1 < cLine) (hc : X.calm = true) (hN : X.N.Nodup) (hi : PI X tg iter wi) (ok : BlkOk X.N X.env.scope scope own)
    (hg : ∀ (s : Shared) (H : Hp) (C : Addr) (cl : List (Str × Addr)) (fp : List Addr), PG (X.blk s H scope (compEnvC scope cl C X.env) fp) tg g)
    (ht : ∀ (s : Shared) (H : Hp) (C : Addr) (cl : List (Str × Addr)) (fp : List Addr), PTs (X.blk s H scope (compEnvC scope cl C X.env) fp) ifs tt)
    (he : ∀ (s : Shared) (H : Hp) (C : Addr) (cl : List (Str × Addr)) (fp : List Addr), PE (X.blk s H scope (compEnvC scope cl C X.env) fp) elt te)
    (hs : ∀ x, foldedSetIterable iter X.env x = pure x := by intro _; rfl) :
    PE X (.SetComp elt [⟨tg, iter, ifs, 0⟩] scope pos) (tScB X.prog X.w X.K wi g tt te (own.map (·.2))) := by
  refine ⟨fun pins s σ H Q I h => ?_⟩
  rw [PpSet.eval_SetComp]
  have clo : ∀ y ∈ scope.names, y.2 = .free → ∃ c, X.env.cells.lookup y.1 = some c := fun y hy e => (ok.free y hy e).elim (fun k => I.ok.has _ (.inl k)) fun k => I.ok.has _ (.inr k)
  refine wpAny_comprehension_free (use := none) rfl hs (closure_ok clo) ok.kind (fun y hy e => (ok.uniq y hy).trans (by rw [e])) (thn (hi.run pins s σ H _ I h) fun xv s1 hx => thn hx fun itv s2 h2 => ?_)
  obtain ⟨it, fp, tn, J, H2, rfl, I2, T, st2, f2, q⟩ := h2
  refine PpSet.newSet_ok (newEnv_comp ?_)
  obtain ⟨D, hD⟩ : ∃ D, s2.heap.objs.size = D := ⟨_, rfl⟩
  rw [hD]
  obtain ⟨W, ⟨m0, w0⟩, turn⟩ := q D (I2.hok.fresh (Nat.le_of_eq hD))
  obtain ⟨s3, e3⟩ : ∃ s3 : Shared, s3 = { s2 with heap := s2.heap.push { cls := .type "set", data := .set #[] 0 (SetTable.fresh 0 0 !X.w.params.followText "set-order") } } := ⟨_, rfl⟩
  have I3 : Inv X pins σ (upd H2 D (SetBO X.prog X.w D [])) s3 := by
    rw [e3]
    refine I2.laid (t' := s2.toks) (fun b o e => Heap.get?_push_of_some _ e) (Nat.le_of_eq hD) ?_
    rw [← hD]
    exact setBO_new (SetB.of (setTR_fresh (Heap.get?_push_size _ rfl))).b0
  have h3 : s3.heap = s2.heap.push { cls := .type "set", data := .set #[] 0 (SetTable.fresh 0 0 !X.w.params.followText "set-order") } := by rw [e3]
  have f3 : ∀ b ∈ fp, FpOk X pins (upd H2 D (SetBO X.prog X.w D [])) b ∧ b < s3.heap.objs.size := fun b hb => by
    obtain ⟨ob, eb, _⟩ := T.obj _ _ st2 b hb
    have lb := Heap.lt_size eb
    exact ⟨⟨(upd_ne (hD ▸ Nat.ne_of_lt lb)).trans (f2 b hb).1, (f2 b hb).2⟩, by rw [h3, Heap.size_push]; exact Nat.lt_succ_of_lt lb⟩
  have fpB : BlkFp X pins fp := fun b hb => ⟨(f3 b hb).1.2.2.2.1, (f3 b hb).1.2.1, (f3 b hb).1.2.2.2.2.1, (f3 b hb).1.2.2.2.2.2⟩
  have st3 : tn 0 s3.heap := T.keep _ _ _ st2 fun b _ o e => by rw [h3]; exact Heap.get?_push_of_some _ e
  have I4 := block_start I3 ok hN f3
  have pg := hg s3 (upd H2 D (SetBO X.prog X.w D [])) s3.heap.objs.size (cellsFrom (s3.heap.objs.size + 1) scope.names (cloFrom X.env.cells scope.names [])) fp
  have pt := ht s3 (upd H2 D (SetBO X.prog X.w D [])) s3.heap.objs.size (cellsFrom (s3.heap.objs.size + 1) scope.names (cloFrom X.env.cells scope.names [])) fp
  have pe := he s3 (upd H2 D (SetBO X.prog X.w D [])) s3.heap.objs.size (cellsFrom (s3.heap.objs.size + 1) scope.names (cloFrom X.env.cells scope.names [])) fp
  rw [← e3]
  show codeAny _ _ (.compStart (.SetComp elt [⟨tg, iter, ifs, 0⟩] scope pos) 0 (.ref it) (.ref D) (compEnvC scope (cellsFrom (s3.heap.objs.size + 1) scope.names (cloFrom X.env.cells scope.names [])) s3.heap.objs.size X.env)) _ { s3 with heap := pushCells (s3.heap.push { cls := .type "dict", data := .dict #[] }) scope.names }
  have n3 : ∀ b ∈ fp, (upd H2 D (SetBO X.prog X.w D [])) b = none := fun b hb => (f3 b hb).1.1
  generalize hce : compEnvC scope (cellsFrom (s3.heap.objs.size + 1) scope.names (cloFrom X.env.cells scope.names [])) s3.heap.objs.size X.env = ce at I4 pg pt pe ⊢
  have cL : ce.locals = s3.heap.objs.size := by rw [← hce]; rfl
  generalize upd H2 D (SetBO X.prog X.w D []) = H3 at I3 I4 pg pt pe w0 n3 f3
  generalize hs4 : ({ s3 with heap := pushCells (s3.heap.push { cls := .type "dict", data := .dict #[] }) scope.names } : Shared) = s4 at I4 ⊢
  have st4 : tn 0 s4.heap := T.keep _ _ _ st3 fun b _ o e => by rw [← hs4]; exact pushCells_keeps _ _ _ _ (Heap.get?_push_of_some _ e)
  have own' : ∀ {σ' : L2.St} {H' : Hp} {s' : Shared}, Inv (X.blk s3 H3 scope ce fp) [] σ' H' s' → (∀ b ∈ fp, H' b = none) → ∀ b ∈ fp, FpOk (X.blk s3 H3 scope ce fp) [] H' b := fun {σ' H' s'} I' n b hb =>
    ⟨n b hb, (I'.ok.exf b hb).1, I'.ok.exfs b hb, .inl hb, (I'.ok.exf b hb).2, fun p hp => absurd hp List.not_mem_nil⟩
  suffices loop : codeAny (model X.prog X.w) X.A (.compLoop (.SetComp elt [⟨tg, iter, ifs, 0⟩] scope pos) 0 (.ref it) (.ref D) ce) (compPost (model X.prog X.w) X.A X.xe none (EP X pins σ Q) (.ref D) s3.heap.objs.size) s4 from PpSet.codeAny_compStart_set loop (T.self X.A 0 _ _ _ st4 loop)
  refine PpSet.compLoopS_any (fun n s' => ∃ i H', Inv (X.blk s3 H3 scope ce fp) [] (wipe σ (own.map (·.2))) H' s' ∧ tn i s'.heap ∧ (∀ b ∈ fp, H' b = none) ∧ W i n H') ?_ m0 ⟨0, H3, I4, st4, n3, w0⟩
  rintro n s5 ⟨i, H5, I5, st5, n5, w5⟩
  rcases turn i n H5 w5 with ⟨stop, qq⟩ | ⟨go, Nx, hNx, step⟩
  · refine thnF (T.done (X.blk s3 H3 scope ce fp) rfl rfl rfl hc i [] s5 _ H5 (fun _ _ => False) I5 (own' I5 n5) st5 stop) fun r s6 ⟨hr, I6⟩ => ?_
    rw [hr]
    have I7 : Inv X pins σ H5 s6 := I3.call' (ch := fp) I6.os I6.base I6.hok I6.bare fpB
    obtain ⟨m, hn, _⟩ := I6.loc
    have z : H5 ce.locals = none := I6.free
    have hn : s6.heap.Ns ce.locals m := hn
    rw [cL] at hn z
    obtain ⟨f0, f1, f2, f3', f4, f5⟩ := I3.fpOk (H' := H5) (Nat.le_refl _) z
    exact ⟨m, hn, fun h'' sb => ⟨.ref D, H5, I7.turned (t' := s6.toks) (fun b o hb e => (sb.2 b hb).trans e) f0 f1 f3' f4 f5, rfl, qq⟩⟩
  · refine thnF (T.item (X.blk s3 H3 scope ce fp) rfl rfl rfl hc i [] s5 _ H5 (fun _ _ => False) I5 (own' I5 n5) st5 go) fun r s6 ⟨u, hr, h6⟩ => ?_
    rw [hr]
    refine thnF h6 fun _ s7 ⟨x, H7, I7, r7, y7, st7, n7⟩ => ?_
    refine thnF (pg.run _ s7 _ H7 x u _ (I7.pinned (own' I7 n7) (T.obj _ _ st7)) r7 (step x H7 y7)) fun _ s8 ⟨σ8, H8, I8, hw8, q8⟩ => ?_
    have hl : (wipe σ (own.map (·.2))).length = σ8.length := by rw [← hw8, wipe_length]
    refine thnF (pt.run _ s8 σ8 H8 _ I8 q8) fun okv s9 h9 => ?_
    obtain ⟨H9, I9, h9⟩ := h9
    cases okv with
    | true =>
      show wpAny _ _ _ _ _ _
      refine thnF (pe.run _ s9 σ8 H9 _ I9 h9) fun ev s10 ⟨y, H10, I10, r10, e, k, L, hy, hk, hD10, hL, few, nx⟩ => ?_
      subst hy
      have er : ev = .ref e := r10
      subst er
      refine addB_ok (X := X.blk s3 H3 scope ce fp) I10 hD10 hL hk hu few fun s11 L' c1 c2 I11 => ?_
      obtain ⟨m', hm, w'⟩ := hNx _ (nx L' c1 c2)
      have pin' : ∀ b ∈ fp, ∀ o, s7.heap.get? b = some o → s11.heap.get? b = some o ∧ (upd H10 D (SetBO X.prog X.w D L')) b = none := fun b hb o e => (I11.pin (b, o) (List.mem_append_right _ (List.mem_append_right _ (mem_pinsAt hb e)))).imp id And.left
      refine ⟨m', hm, i + 1, _, (I11.unpinned (pins := [])).weak hl (fun j v e => (wipe_some (hw8 ▸ e)).1), T.keep _ _ _ st7 fun b hb o e => (pin' b hb o e).1, fun b hb => ?_, w'⟩
      obtain ⟨o, e, _⟩ := T.obj _ _ st7 b hb
      exact (pin' b hb o e).2
    | false =>
      show _
      obtain ⟨m', hm, w'⟩ := hNx _ h9
      have pin' : ∀ b ∈ fp, ∀ o, s7.heap.get? b = some o → s9.heap.get? b = some o ∧ H9 b = none := fun b hb o e => (I9.pin (b, o) (List.mem_append_right _ (List.mem_append_right _ (mem_pinsAt hb e)))).imp id And.left
      refine ⟨m', hm, i + 1, _, (I9.unpinned (pins := [])).weak hl (fun j v e => (wipe_some (hw8 ▸ e)).1), T.keep _ _ _ st7 fun b hb o e => (pin' b hb o e).1, fun b hb => ?_, w'⟩
      obtain ⟨o, e, _⟩ := T.obj _ _ st7 b hb
      exact (pin' b hb o e).2
end
end SRB

set_option maxHeartbeats 4000000
/-! sorted(x), x a set of up to 76 tuples of ints. -/
namespace SRB
open PySem PySem.Spec PyProof.Rows L2 SRS
theorem perm_lift {α β : Type} (f : α → β) {m l : List β} (h : m.Perm l) : ∀ L : List α, L.map f = m → ∃ L' : List α, L'.Perm L ∧ L'.map f = l := by
  induction h with
  | nil => intro L e; exact ⟨L, List.Perm.refl _, e⟩
  | @cons x m l _ ih =>
    intro L e
    cases L with
    | nil => cases e
    | cons a L =>
      rw [List.map_cons] at e
      injection e with e1 e2
      obtain ⟨L', p, e'⟩ := ih L e2
      exact ⟨a :: L', p.cons a, by rw [List.map_cons, e1, e']⟩
  | @swap x y l =>
    intro L e
    match L, e with
    | a :: b :: L, e =>
      simp only [List.map_cons] at e
      injection e with e1 e2
      injection e2 with e2 e3
      exact ⟨b :: a :: L, List.Perm.swap _ _ _, by simp only [List.map_cons]; rw [e1, e2, e3]⟩
    | [], e => cases e
    | [_], e => simp at e
  | trans _ _ ih1 ih2 =>
    intro L e
    obtain ⟨L1, p1, e1⟩ := ih1 L e
    obtain ⟨L2, p2, e2⟩ := ih2 L1 e1
    exact ⟨L2, p2.trans p1, e2⟩
theorem sorted_sb {P : Program} {w : World} {A : Around} {E : Value → Shared → Prop} {s : Shared} {a : Addr} {L : List (Addr × List Int)} {es : Array (Int × Value)} {ep : Nat} {t : SetTable} {Q : Value → Shared → Prop} (T : SetB P w s.heap a L es ep t) (hA : A.handled = none) {d : Nat} (hd : L ≠ [] → 1 ≤ d) (hl : ∀ p ∈ L, p.2.length = d)
    (h : ∀ (s' : Shared) (p : Addr) (L' : List (Addr × List Int)) (out : Array Value) (c : Nat), (∀ (b : Addr) (o : Obj), s.heap.get? b = some o → s'.heap.get? b = some o) → s'.gens = s.gens → s'.os = s.os → s.heap.objs.size ≤ p → s'.heap.get? p = some (seqObj "list" out c) → out.toList = L'.map (fun q => Value.ref q.1) → L'.Perm L → L'.Pairwise (fun q r => HT.lexLt r.2 q.2 = false) → Q (.ref p) s') :
    wpAny (model P w) A (call (.builtin "sorted") [.ref a]) Q E s := by
  obtain ⟨o, ho, hex, hdat⟩ := T.ob
  have few := T.le
  have hsz : es.size = L.length := T.size
  refine Calls.call_function_entry kind_sorted plain_sorted entry_sorted (args_sorted1 _) ?_
  unfold Builtin.«sorted»
  refine wpAny_bind (m := checkCount "sorted" 1 1 _) (wpAny_pure ?_)
  refine wpAny_bind (collect_set (s := s) hA ⟨o, ho, hex.1, hdat⟩ T.fits (by rw [hsz]; unfold scanBound; omega) T.tab.ris T.led fun s1 out keep big gens os perm => ?_)
  have perm' : out.Perm (L.map fun q => Value.ref q.1) := by
    rw [T.rows] at perm
    simpa [rowsOf, List.map_map, Function.comp_def] using perm
  have ol : out.length = L.length := by rw [perm'.length_eq, List.length_map]
  refine wpAny_bind (wpAny_newList ?_ (by rw [sizeLine_eq]; omega))
  have hoL : (s1.heap.push (seqObj "list" out.toArray 0)).get? s1.heap.objs.size = some (seqObj "list" out.toArray 0) := Heap.get?_push_size _ rfl
  have hv : ∀ v ∈ out, TS.TupInts (s1.heap.push (seqObj "list" out.toArray 0)) v (TS.intsOf s.heap v) ∧ (TS.intsOf s.heap v).length = d := fun v hm => by
    obtain ⟨q, hq, rfl⟩ := List.mem_map.mp (perm'.mem_iff.mp hm)
    have ti := tupInts_of (T.tup q hq)
    rw [ti.ints]
    refine ⟨?_, hl q hq⟩
    obtain ⟨x, xs, e, ⟨o2, h2, h3, h4⟩, hi⟩ := ti
    exact ⟨x, xs, e, ⟨o2, Heap.get?_push_of_some _ (keep _ _ h2), h3, h4⟩, hi⟩
  refine wpAny_bind (wpAny_holding (wpAny_call_entry slot_list_sort ⟨_, hoL, rfl⟩ entry_list_sort (SrtO.list_sort_ord (ltv := fun v u => HT.lexLt (TS.intsOf s.heap v) (TS.intsOf s.heap u)) (lex_swo _) hoL (by rw [sizeLine_eq]; omega) (fun h2 => tups_sortable (hd (fun z => by rw [z] at ol; simp at ol; rw [ol] at h2; simp at h2)) h2 hv (fun o2 e => by rw [hoL] at e; cases e; intro z; injection z with z; exact absurd z (by decide))) fun out2 srt stb => ⟨_, rfl, ?_⟩) (args_list_sort _)))
  refine wpAny_pure ⟨_, rfl, ?_⟩
  obtain ⟨L', pL, eL⟩ := perm_lift (fun q : Addr × List Int => Value.ref q.1) ((stb.perm.trans perm').symm) L rfl
  obtain ⟨c, hc⟩ := PyProof.Rows.sortedHeap_at (out := out2.toArray) hoL
  refine h _ s1.heap.objs.size L' out2.toArray c (fun b o2 e => ?_) gens os big hc (by simpa using eL.symm) pL ?_
  · have lb := Heap.lt_size (keep _ _ e)
    rw [PyProof.Rows.sortedHeap_old (Nat.ne_of_lt lb) (by rw [Heap.size_push]; exact Nat.lt_succ_of_lt lb)]
    exact Heap.get?_push_of_some _ (keep _ _ e)
  · have : (L'.map fun q => Value.ref q.1).Pairwise (fun x y => HT.lexLt (TS.intsOf s.heap y) (TS.intsOf s.heap x) = false) := by
      rw [eL]
      exact srt
    rw [List.pairwise_map] at this
    refine this.imp_of_mem fun {q r} hq hr k => ?_
    rw [(tupInts_of (T.tup q (pL.mem_iff.mp hq))).ints, (tupInts_of (T.tup r (pL.mem_iff.mp hr))).ints] at k
    exact k
/-- sorted(x), x a set of tuples of ints, all of one length -/
def rSortB (K : PySem.W.Frag) (P : Program) (w : World) : List V → Hp → VK → Prop := fun vs H Q => ∃ (a : Addr) (L : List (Addr × List Int)) (d : Nat), vs = [V.ref a] ∧ H a = some (SetBO P w a L) ∧ (∀ p ∈ L, SqT K H p.1 (p.2.map V.int)) ∧ (L ≠ [] → 1 ≤ d) ∧ (∀ p ∈ L, p.2.length = d) ∧
  ∀ (L' : List (Addr × List Int)) (p : Addr), L'.Perm L → (L'.map (·.2)).Nodup → L'.Pairwise (fun q r => HT.lexLt r.2 q.2 = false) → H p = none → Q (.ref p) (upd H p (.lst (L'.map fun q => V.ref q.1)))
theorem cr_sortB {X : Cx} (hc : X.calm = true) : CallR X (.builtin "sorted") (rSortB X.K X.prog X.w) := by
  intro pins s σ H vs us Q I r h
  obtain ⟨a, L, d, rfl, hH, hL, hd, hl, q⟩ := h
  rw [Vals.ref1 r]
  obtain ⟨es, ep, t, T⟩ := setBO_full I hH hL
  refine sorted_sb T (I.ok.hd hc) hd hl fun s' p L' out c keep gens os big hp ho pL srt => ?_
  have lL : (L'.map fun q => V.ref q.1).length ≤ sizeLine := by
    rw [List.length_map, pL.length_eq, sizeLine_eq]
    have := T.le
    omega
  have vals : Vals (L'.map fun q => V.ref q.1) out.toList := by
    rw [ho]
    exact vals_of_refs L'
  obtain ⟨hp', g', dr', tk', os'⟩ := s'
  have gens : g' = s.gens := gens
  have os : os' = s.os := os
  subst gens
  subst os
  have J : L2.Inv X pins σ (upd H p (.lst (L'.map fun q => V.ref q.1))) { heap := hp', gens := s.gens, drawn := s.drawn, toks := tk', os := s.os } := I.laid (t' := tk') keep big ⟨lL, out.toList, c, vals, hp⟩
  have J' : L2.Inv X pins σ (upd H p (.lst (L'.map fun q => V.ref q.1))) { heap := hp', gens := s.gens, drawn := dr', toks := tk', os := s.os } := by
    cases J
    constructor <;> assumption
  refine ⟨.ref p, _, J', rfl, q L' p pL ?_ srt (I.hok.fresh big)⟩
  exact (pL.map _).nodup_iff.mpr T.nd
end SRB

set_option maxHeartbeats 4000000
/-! set(list), the list's members up to 76 tuples of ints. -/
namespace SRB
open PySem PySem.Spec PyProof.Rows L2
section
variable {P : Program} {w : World} {A : Around} {E : Value → Shared → Prop} {s : Shared}
theorem call_set_B {l : Addr} {items : Array Value} (ks : List (Addr × List Int)) {Q : Value → Shared → Prop} (hA : A.handled = none) (hl : s.heap.IsList l items) (hi : items.toList = ks.map fun p => Value.ref p.1) (hk : ∀ p ∈ ks, L2.IsT P w s.heap p.2 p.1) (few : ks.length ≤ 76) (hu : A.units + 4 < cLine)
    (q : ∀ (s' : Shared) (L : List (Addr × List Int)) (es : Array (Int × Value)) (ep : Nat) (t : SetTable), s'.gens = s.gens → s'.drawn = s.drawn → s'.os = s.os → SetB P w s'.heap s.heap.objs.size L es ep t → Got ks ks.length L → (∀ (b : Addr) (o : Obj), s.heap.get? b = some o → s'.heap.get? b = some o) → Q (.ref s.heap.objs.size) s') :
    wpAny (model P w) A (call (.type "set") [.ref l]) Q E s := by
  obtain ⟨c0, tl, hm⟩ := F.called_set.mro
  have hmade := F.called_set.made
  have hsub := F.called_set.sub
  refine wpAny_call (codeAny_of_tree ?_)
  show wpAny _ _ (pure (Fin.again (Code.builtin "type.__call__" { pos := Value.type "set" :: [Value.ref l], kw := [] }))) _ _ _
  refine wpAny_pure ⟨Code.quiet_builtin _ (by decide +kernel), ?_⟩
  refine codeAny_builtin F.entry_type_call ?_
  rw [Around.under_plain (weight_type_call_type _ _ _) rfl]
  unfold Builtin.«type.__call__»
  simp only [F.called_set.notType, F.called_set.canCreate, F.typeCall_set_1, hm, hmade]
  refine wpAny_ite_false (by decide) ?_
  refine wpAny_ite_false (by decide) ?_
  refine wpAny_bind (wpAny_of_eq rfl ?_)
  refine wpAny_bind (wpAny_of_eq rfl ?_)
  refine wpAny_ite_false (by simp) ?_
  refine wpAny_bind (wpAny_of_eq rfl ?_)
  refine wpAny_bind (wpAny_pure ?_)
  refine wpAny_bind (wpAny_holding (wpAny_call (codeAny_mono (code_set_led1 (E := fun _ _ => False) (.ref l) (Q₁ := fun v s' => v = .ref s.heap.objs.size ∧ s' = _) ⟨rfl, rfl⟩) ?_)))
  intro r s1 wr
  match r, wr with
  | .ok (.ret v), ⟨ev, es1⟩ => ?_
  subst ev es1
  have hS0 : (s.heap.push { cls := Value.type "set", data := Data.set #[] 0 (SetTable.fresh 0 0 !w.params.followText "set-order") }).get? s.heap.objs.size = some { cls := Value.type "set", data := Data.set #[] 0 (SetTable.fresh 0 0 !w.params.followText "set-order") } := Heap.get?_push_size _ rfl
  generalize ehS : s.heap.push { cls := Value.type "set", data := Data.set #[] 0 (SetTable.fresh 0 0 !w.params.followText "set-order") } = hS at hS0
  have kS : ∀ (b : Addr) (o : Obj), s.heap.get? b = some o → hS.get? b = some o := fun b o e => by rw [← ehS]; exact Heap.get?_push_of_some _ e
  have tyS : Shared.TypeIs { heap := hS, gens := s.gens, drawn := s.drawn, toks := s.toks, os := s.os } (.ref s.heap.objs.size) "set" := ⟨_, hS0, rfl⟩
  refine wpAny_bind (wpAny_isInstance tyS hsub ?_)
  refine wpAny_ite_false (by decide) ?_
  refine wpAny_bind (wpAny_holding ?_)
  unfold callSpecial?
  refine wpAny_bind (wpAny_specialOf tyS F.called_set.init.lookup ?_)
  refine wpAny_holding (wpAny_bind (wpAny_of_eq (F.called_set.init.bind _) ?_))
  refine wpAny_bind (wpAny_call (codeAny_call_builtin F.called_set.init.plain F.entry_set_init ?_))
  refine check_set_init_1 tyS ?_
  unfold Builtin.«set.__init__»
  refine wpAny_bind (wpAny_of_eq rfl ?_)
  show wpAny _ _ (do
      let nm ← typeNameOfCut 200 (.ref s.heap.objs.size)
      checkCount nm 0 1 1
      let st ← Builtin.Frozenset.addrOf (.ref s.heap.objs.size)
      let used ← setUsed st
      if used = true then do
          Builtin.Frozenset.clearAll st
          Builtin.Frozenset.updateFrom "set.__init__" st (.ref l)
          ret Value.none
        else do
          Builtin.Frozenset.updateFrom "set.__init__" st (.ref l)
          ret Value.none) _ _ _
  have nm : wpAny (model P w) A.in1.in1 (typeNameOfCut 200 (.ref s.heap.objs.size)) (fun v s' => v = "set" ∧ s' = { heap := hS, gens := s.gens, drawn := s.drawn, toks := s.toks, os := s.os }) (fun _ _ => False) { heap := hS, gens := s.gens, drawn := s.drawn, toks := s.toks, os := s.os } := by
    unfold typeNameOfCut
    refine wpAny_bind ?_
    unfold shownTypeOf
    refine wpAny_bind (wpAny_typeOf tyS ?_)
    refine wpAny_ite_false (by decide) ?_
    refine wpAny_pure ?_
    exact wpAny_of_eq (by kernel_rfl) ⟨rfl, rfl⟩
  refine wpAny_bind (wpAny_mono nm (fun v s1 hv => ?_) (fun _ _ f => f.elim))
  obtain ⟨rfl, rfl⟩ := hv
  refine wpAny_bind (wpAny_of_eq rfl ?_)
  refine wpAny_bind (wpAny_of_eq rfl ?_)
  unfold setUsed
  refine wpAny_bind (wpAny_bind (wpAny_setState_of hS0 rfl rfl (wpAny_pure ?_)))
  refine wpAny_ite_false (show decide (((SetTable.fresh 0 0 !w.params.followText "set-order").fill != 0) = true) = false by rw [show (SetTable.fresh 0 0 !w.params.followText "set-order").fill = 0 from rfl]; decide) ?_
  have tyl : Shared.TypeIs { heap := hS, gens := s.gens, drawn := s.drawn, toks := s.toks, os := s.os } (.ref l) "list" := by
    obtain ⟨o, ho, c, _⟩ := hl
    exact ⟨o, kS _ _ ho, c⟩
  have hl' : hS.IsList l items := by
    obtain ⟨o, ho, r⟩ := hl
    exact ⟨o, kS _ _ ho, r⟩
  have szS : hS.objs.size = s.heap.objs.size + 1 := by rw [← ehS]; exact Heap.size_push _ _
  have ltl : l < s.heap.objs.size := by
    obtain ⟨o, ho, _⟩ := hl
    exact Heap.lt_size ho
  unfold Builtin.Frozenset.updateFrom
  refine wpAny_bind ?_
  unfold Builtin.Frozenset.isAnySet
  refine wpAny_bind (wpAny_bind (wpAny_isInstance tyl F.sub_list_set (wpAny_isInstance tyl F.sub_list_frozenset ?_)))
  refine wpAny_ite_false (by decide) ?_
  refine wpAny_bind (wpAny_typeOf tyl ?_)
  refine wpAny_ite_false (by decide) ?_
  refine wpAny_bind (wpAny_pyIter_list hl' ?_)
  have hI0 : (hS.push { cls := Value.type "list_iterator", data := Data.fields #[Value.ref l, Value.int 0 0] }).get? hS.objs.size = some { cls := Value.type "list_iterator", data := Data.fields #[Value.ref l, Value.int 0 0] } := Heap.get?_push_size _ rfl
  have kI : ∀ (b : Addr) (o : Obj), hS.get? b = some o → (hS.push { cls := Value.type "list_iterator", data := Data.fields #[Value.ref l, Value.int 0 0] }).get? b = some o := fun b o e => Heap.get?_push_of_some _ e
  generalize hS.push { cls := Value.type "list_iterator", data := Data.fields #[Value.ref l, Value.int 0 0] } = hI at hI0 kI ⊢
  have TS : SetB P w hI s.heap.objs.size [] #[] 0 (SetTable.fresh 0 0 !w.params.followText "set-order") := SetB.of (setTR_fresh (kI _ _ hS0))
  refine wpAny_bind (wpAny_runValue ?_)
  refine upd_loop (s := s) (I := hS.objs.size) (S := s.heap.objs.size) (l := l) (items := items) (ks := ks) ?_ ?_ ?_ hi few ?_ ?_ s.heap hk ?_ ?_ ?_ items.size 0 _ (by omega) (by omega) rfl rfl rfl ?_ ?_ ?_
  · exact hA
  · show A.units + 1 + 1 + 2 < cLine
    omega
  · show l ≠ hS.objs.size
    rw [szS]; exact Nat.ne_of_lt (Nat.lt_succ_of_lt ltl)
  · show s.heap.objs.size ≠ hS.objs.size
    rw [szS]; exact Nat.ne_of_lt (Nat.lt_succ_self _)
  · exact Nat.ne_of_gt ltl
  · exact Option.eq_none_iff_forall_ne_some.mpr fun o e => absurd (Heap.lt_size e) (Nat.lt_irrefl _)
  · refine Option.eq_none_iff_forall_ne_some.mpr fun o e => absurd (Heap.lt_size e) ?_
    rw [szS]; exact Nat.not_lt.mpr (Nat.le_succ _)
  · intro s' L es ep t g d o T G kp
    refine wpAny_pure (wpAny_pure ?_)
    refine wpAny_pure ?_
    refine wpAny_ite_false (by decide) (wpAny_pure ?_)
    exact q s' L es ep t g d o T G kp
  · refine ⟨⟨_, hI0, rfl, ?_⟩, ?_⟩
    · rfl
    · obtain ⟨o, ho, r⟩ := hl'
      exact ⟨o, kI _ _ ho, r⟩
  · exact fun b o e => kI _ _ (kS _ _ e)
  · exact ⟨_, _, _, _, TS, Got.zero _⟩
end
/-- set(x), x a list of up to 76 tuples of ints -/
def rSetB (K : PySem.W.Frag) (P : Program) (w : World) : List V → Hp → VK → Prop := fun xs H Q => ∃ (l : Addr) (ks : List (Addr × List Int)), xs = [V.ref l] ∧ SqL K H l (ks.map fun p => V.ref p.1) ∧ (∀ p ∈ ks, SqT K H p.1 (p.2.map V.int)) ∧ ks.length ≤ 76 ∧
  ∀ (a : Addr) (L : List (Addr × List Int)), H a = none → (∀ p ∈ L, p ∈ ks) → (∀ p ∈ ks, p.2 ∈ L.map (·.2)) → (L.map (·.2)).Nodup → Q (V.ref a) (upd H a (SetBO P w a L))
theorem cr_setB {X : Cx} (hc : X.calm = true) (hu : X.A.units + 64 < cLine) : CallR X (.type "set") (rSetB X.K X.prog X.w) := by
  intro pins s σ H vs us Q I r h
  obtain ⟨l, ks, rfl, hl, hk, few, q⟩ := h
  rw [Vals.ref1 r]
  obtain ⟨its, vl, pl, _⟩ := I.list hl
  refine call_set_B ks (I.ok.hd hc) pl.isList (by simpa using refs_of_vals vl) (fun p hp => I.isT (hk p hp)) few (by omega) fun s' L es ep t g d o T G kp => ?_
  obtain ⟨hp', g', dr', tk', os'⟩ := s'
  have gens : g' = s.gens := g
  have dr : dr' = s.drawn := d
  have os : os' = s.os := o
  subst gens dr os
  have J := I.laid (t' := tk') kp (Nat.le_refl _) (setBO_new (H := upd H s.heap.objs.size (SetBO X.prog X.w s.heap.objs.size L)) T.b0)
  refine ⟨.ref s.heap.objs.size, _, J, rfl, q _ L (I.hok.fresh (Nat.le_refl _)) (fun p hp => List.mem_of_mem_take (G.sub p hp)) (fun p hp => ?_) T.nd⟩
  exact G.all p (by rw [List.take_length]; exact hp)
end SRB

set_option maxHeartbeats 2000000
/-! any(x), x a list or a tuple of ints -/
namespace ANI
open PySem PySem.Spec PyProof.Rows L2
def rAnyI (K : PySem.W.Frag) : List V → Hp → VK → Prop := fun vs H Q => ∃ (a : Addr) (ns : List Int), vs = [V.ref a] ∧ (SqL K H a (ns.map V.int) ∨ SqT K H a (ns.map V.int)) ∧ Q (.bl (ns.any fun n => n != 0)) H
theorem any_of (ns : List Int) : ((List.range ns.length).any fun i => (ns.getD i 0) != 0) = ns.any fun n => n != 0 := by
  rw [Bool.eq_iff_iff, List.any_eq_true, List.any_eq_true]
  constructor
  · rintro ⟨i, hi, h⟩
    rw [List.mem_range] at hi
    refine ⟨ns[i], List.getElem_mem hi, ?_⟩
    rw [List.getD_eq_getElem?_getD, List.getElem?_eq_getElem hi] at h
    exact h
  · rintro ⟨n, hn, h⟩
    obtain ⟨i, hi, rfl⟩ := List.mem_iff_getElem.mp hn
    refine ⟨i, List.mem_range.mpr hi, ?_⟩
    rw [List.getD_eq_getElem?_getD, List.getElem?_eq_getElem hi]
    exact h
theorem vals_i : ∀ {ns : List Int} {its : List Value}, Vals (ns.map V.int) its → its.length = ns.length ∧ ∀ (i : Nat) (v : Value), its[i]? = some v → ∃ t, v = Value.int (ns.getD i 0) t
  | [], _, .nil => ⟨rfl, fun i v h => by simp at h⟩
  | n :: ns, _, .cons r rs => by
    obtain ⟨t, rfl⟩ := r
    obtain ⟨h1, h2⟩ := vals_i rs
    refine ⟨by simp [h1], fun i v h => ?_⟩
    cases i with
    | zero => exact ⟨t, (Option.some.inj h).symm⟩
    | succ i => exact h2 i v h
theorem cr_anyI {X : Cx} (hc : X.calm = true) : CallR X (.builtin "any") (rAnyI X.K) := by
  intro pins s σ H xs us Q I r h
  obtain ⟨a, ns, rfl, hq, q⟩ := h
  rw [Vals.ref1 r]
  have hd : (X.A.in1).handled = none := I.ok.hd hc
  obtain ⟨f0, f1, f2, f3, f4, f5⟩ := I.fpOk (H' := H) (b := s.heap.objs.size) (Nat.le_refl _) (I.hok.fresh (Nat.le_refl _))
  have fin : ∀ (its : List Value) (h' : Heap) (tk : Nat), Vals (ns.map V.int) its → (∀ (b : Addr) (o : Obj), s.heap.get? b = some o → h'.get? b = some o) →
      EP X pins σ Q (Value.bool ((List.range its.length).any fun i => (ns.getD i 0) != 0)) { heap := h', gens := s.gens, drawn := s.drawn, toks := tk, os := s.os } := fun its h' tk rv k => by
    have l : its.length = ns.length := by
      exact (vals_i rv).1
    rw [l, any_of]
    exact ⟨.bl _, H, I.turned (t' := tk) (fun b o _ e => k b o e) f0 f1 f3 f4 f5, rfl, q⟩
  have tru : ∀ (its : List Value), Vals (ns.map V.int) its → TruthOf X.prog X.w X.A.in1 (fun i v => its.toArray[i]? = some v) (fun i => (ns.getD i 0) != 0) := fun its rv i v s' Q' E' hv hQ => by
    obtain ⟨t, rfl⟩ := (vals_i rv).2 i v (by simpa using hv)
    exact PyProof.Rows.truthy_int hQ
  rcases hq with hq | hq
  · obtain ⟨its, rv, pl, hz⟩ := I.list hq
    have isL : s.heap.IsList a its.toArray := by
      obtain ⟨o, n, h1, h2, h3, h4⟩ := pl
      exact ⟨o, h1, h2, n, h4⟩
    refine call_any_walk (wpAny_pyIter_list isL ?_)
    have la : a ≠ s.heap.objs.size := by
      obtain ⟨o, h1, _⟩ := isL
      exact Nat.ne_of_lt (Heap.lt_size h1)
    refine ⟨s.heap.objs.size, _, _, its.toArray.size, _, _, _, rfl, Walks.list hd _ a la its.toArray, ⟨⟨_, Heap.get?_push_size _ rfl, rfl, rfl⟩, ?_⟩, tru its rv, fun h' tk k => ?_⟩
    · obtain ⟨o, h1, h2⟩ := isL
      exact ⟨o, Heap.get?_push_of_some _ h1, h2⟩
    · refine fin its h' tk rv fun b o e => k b o ?_ (Heap.get?_push_of_some _ e)
      intro z
      rw [List.mem_singleton] at z
      exact absurd (Heap.lt_size e) (by rw [z]; exact Nat.lt_irrefl _)
  · obtain ⟨its, rv, pt, hz⟩ := I.tuple hq
    have isT : s.heap.IsTuple a its.toArray := pt
    refine call_any_walk (wpAny_pyIter_tuple isT ?_)
    have la : a ≠ s.heap.objs.size := by
      obtain ⟨o, h1, _⟩ := isT
      exact Nat.ne_of_lt (Heap.lt_size h1)
    refine ⟨s.heap.objs.size, _, _, its.toArray.size, _, _, _, rfl, Walks.tuple hd _ a la its.toArray, ⟨⟨_, Heap.get?_push_size _ rfl, rfl, rfl⟩, ?_⟩, tru its rv, fun h' tk k => ?_⟩
    · obtain ⟨o, h1, h2⟩ := isT
      exact ⟨o, Heap.get?_push_of_some _ h1, h2⟩
    · refine fin its h' tk rv fun b o e => k b o ?_ (Heap.get?_push_of_some _ e)
      intro z
      rw [List.mem_singleton] at z
      exact absurd (Heap.lt_size e) (by rw [z]; exact Nat.lt_irrefl _)
end ANI

set_option maxHeartbeats 2000000
/-! Rising lists of rows, each row once. -/
namespace CAN
open PySem PySem.Spec
abbrev lt (a b : List Int) : Prop := HT.lexLt a b = true
theorem nil_cons (m : Int) (ms : List Int) : HT.lexLt [] (m :: ms) = true := by rfl
theorem tri : ∀ a b : List Int, HT.lexLt a b = false → HT.lexLt b a = false → a = b
  | [], [], _, _ => rfl
  | [], m :: ms, h, _ => by rw [nil_cons] at h; cases h
  | n :: ns, [], _, h => by rw [nil_cons] at h; cases h
  | n :: ns, m :: ms, h1, h2 => by
    rw [HT.lexLt_cons] at h1 h2
    by_cases e : n = m
    · rw [if_pos e] at h1
      rw [if_pos e.symm] at h2
      rw [e, tri ns ms h1 h2]
    · rw [if_neg e] at h1
      rw [if_neg (Ne.symm e)] at h2
      have a := of_decide_eq_false h1
      have b := of_decide_eq_false h2
      omega
theorem trans : ∀ {a b c : List Int}, lt a b → lt b c → lt a c
  | [], b :: bs, c :: cs, _, _ => nil_cons _ _
  | [], b :: bs, [], _, h => absurd h (by rw [lt, HT.lexLt_cons_nil]; decide)
  | [], [], _, h, _ => absurd h (by rw [lt, HT.lexLt_nil_nil]; decide)
  | _ :: _, [], _, h, _ => absurd h (by rw [lt, HT.lexLt_cons_nil]; decide)
  | _ :: _, b :: bs, [], _, h => absurd h (by rw [lt, HT.lexLt_cons_nil]; decide)
  | a :: as, b :: bs, c :: cs, h1, h2 => by
    unfold lt at *
    rw [HT.lexLt_cons] at *
    by_cases e : a = b
    · rw [if_pos e] at h1
      by_cases e2 : b = c
      · rw [if_pos e2] at h2
        rw [if_pos (e.trans e2)]
        exact trans h1 h2
      · rw [if_neg e2] at h2
        rw [if_neg (by rw [e]; exact e2), e]
        exact h2
    · rw [if_neg e] at h1
      have a1 := of_decide_eq_true h1
      by_cases e2 : b = c
      · rw [if_neg (by rw [← e2]; exact e), ← e2]
        exact h1
      · rw [if_neg e2] at h2
        have a2 := of_decide_eq_true h2
        rw [if_neg (by omega)]
        exact decide_eq_true (by omega)
theorem irr (a : List Int) : ¬ lt a a := by
  unfold lt
  rw [SRS.lex_irr]
  decide
/-- a row put in its place, where it isn't there -/
def put (x : List Int) : List (List Int) → List (List Int)
  | [] => [x]
  | y :: ys => if x = y then y :: ys else if HT.lexLt x y = true then x :: y :: ys else y :: put x ys
def canon (l : List (List Int)) : List (List Int) := l.foldr put []
theorem mem_put (x z : List Int) : ∀ ys : List (List Int), z ∈ put x ys ↔ z = x ∨ z ∈ ys
  | [] => by simp [put]
  | y :: ys => by
    unfold put
    by_cases e : x = y
    · rw [if_pos e]
      constructor
      · exact Or.inr
      · rintro (h | h)
        · rw [h, e]; exact List.mem_cons_self
        · exact h
    · rw [if_neg e]
      by_cases c : HT.lexLt x y = true
      · rw [if_pos c, List.mem_cons]
      · rw [if_neg c, List.mem_cons, mem_put x z ys, List.mem_cons]
        constructor
        · rintro (h | h | h)
          · exact .inr (.inl h)
          · exact .inl h
          · exact .inr (.inr h)
        · rintro (h | h | h)
          · exact .inr (.inl h)
          · exact .inl h
          · exact .inr (.inr h)
theorem mem_canon (z : List Int) : ∀ l : List (List Int), z ∈ canon l ↔ z ∈ l
  | [] => by simp [canon]
  | x :: l => by
    show z ∈ put x (canon l) ↔ _
    rw [mem_put, mem_canon z l, List.mem_cons]
theorem put_rise {x : List Int} : ∀ {ys : List (List Int)}, ys.Pairwise lt → (put x ys).Pairwise lt
  | [], _ => by simp [put]
  | y :: ys, h => by
    rw [List.pairwise_cons] at h
    unfold put
    by_cases e : x = y
    · rw [if_pos e, List.pairwise_cons]
      exact h
    · rw [if_neg e]
      by_cases c : HT.lexLt x y = true
      · rw [if_pos c, List.pairwise_cons, List.pairwise_cons]
        refine ⟨fun z hz => ?_, h⟩
        rcases List.mem_cons.mp hz with e2 | e2
        · rw [e2]; exact c
        · exact trans c (h.1 z e2)
      · rw [if_neg c, List.pairwise_cons]
        refine ⟨fun z hz => ?_, put_rise h.2⟩
        rcases (mem_put x z ys).mp hz with e2 | e2
        · rw [e2]
          cases d : HT.lexLt y x with
          | true => exact d
          | false => exact absurd (tri x y (by simpa using c) d) e
        · exact h.1 z e2
theorem canon_rise : ∀ l : List (List Int), (canon l).Pairwise lt
  | [] => .nil
  | _ :: l => put_rise (canon_rise l)
theorem rise_uniq : ∀ {l m : List (List Int)}, l.Pairwise lt → m.Pairwise lt → (∀ z, z ∈ l ↔ z ∈ m) → l = m
  | [], [], _, _, _ => rfl
  | [], y :: m, _, _, h => absurd ((h y).mpr List.mem_cons_self) (by simp)
  | x :: l, [], _, _, h => absurd ((h x).mp List.mem_cons_self) (by simp)
  | x :: l, y :: m, h1, h2, h => by
    rw [List.pairwise_cons] at h1 h2
    have xy : x = y := by
      rcases List.mem_cons.mp ((h x).mp List.mem_cons_self) with e | e
      · exact e
      · rcases List.mem_cons.mp ((h y).mpr List.mem_cons_self) with e2 | e2
        · exact e2.symm
        · exact absurd (trans (h1.1 y e2) (h2.1 x e)) (irr x)
    subst xy
    refine congrArg (x :: ·) (rise_uniq h1.2 h2.2 fun z => ⟨fun hz => ?_, fun hz => ?_⟩)
    · rcases List.mem_cons.mp ((h z).mp (List.mem_cons_of_mem _ hz)) with e | e
      · subst e; exact absurd (h1.1 z hz) (irr z)
      · exact e
    · rcases List.mem_cons.mp ((h z).mpr (List.mem_cons_of_mem _ hz)) with e | e
      · subst e; exact absurd (h2.1 z hz) (irr z)
      · exact e
/-- what sorted(a set) gives is the canonical list -/
theorem sorted_is {l m : List (List Int)} (nd : l.Nodup) (srt : l.Pairwise (fun q r => HT.lexLt r q = false)) (h : ∀ z, z ∈ l ↔ z ∈ m) : l = canon m := by
  refine rise_uniq ?_ (canon_rise m) fun z => by rw [h z, mem_canon]
  refine (srt.and nd).imp fun {q r} k => ?_
  cases d : HT.lexLt q r with
  | true => exact d
  | false => exact absurd (tri q r d k.1) k.2
theorem canon_congr {l m : List (List Int)} (h : ∀ z, z ∈ l ↔ z ∈ m) : canon l = canon m :=
  rise_uniq (canon_rise l) (canon_rise m) fun z => by rw [mem_canon, mem_canon, h z]
theorem canon_nodup (l : List (List Int)) : (canon l).Nodup := (canon_rise l).imp fun {a b} h e => by rw [e] at h; exact irr _ h
theorem put_len (x : List Int) : ∀ ys : List (List Int), (put x ys).length ≤ ys.length + 1
  | [] => Nat.le_refl _
  | y :: ys => by
    unfold put
    split
    · exact Nat.le_succ _
    · split
      · exact Nat.le_refl _
      · have := put_len x ys
        simp only [List.length_cons]
        omega
theorem canon_len : ∀ l : List (List Int), (canon l).length ≤ l.length
  | [] => Nat.le_refl _
  | x :: l => by
    have h1 := canon_len l
    have h2 := put_len x (canon l)
    show (put x (canon l)).length ≤ _
    simp only [List.length_cons]
    omega
end CAN

set_option maxHeartbeats 4000000
/-! Lists of tuples of ints: made by a comprehension, put into a set, sorted. -/
namespace ROW
open PySem PySem.Spec PyProof.Rows L2 ZM SRB
/-- a list of tuples of ints, all in the heap -/
def RowsAt (H : Hp) (D : Addr) (ks : List (Addr × List Int)) : Prop := H D = some (.lst (ks.map fun q => V.ref q.1)) ∧ ∀ q ∈ ks, H q.1 = some (.tup (q.2.map V.int))
theorem RowsAt.same {H H' : Hp} {D : Addr} {ks : List (Addr × List Int)} (h : RowsAt H D ks) (s : Same H H') : RowsAt H' D ks := ⟨s _ _ h.1, fun q hq => s _ _ (h.2 q hq)⟩
theorem RowsAt.seq {K : PySem.W.Frag} {H : Hp} {D : Addr} {ks : List (Addr × List Int)} (h : RowsAt H D ks) : SqL K H D (ks.map fun q => V.ref q.1) := SqL.of h.1
/-- a row with a sign in it -/
def nzR (r : List Int) : Bool := r.any fun n => n != 0
section
variable {P : Program} {w : World} {K : PySem.W.Frag} {te : TE} {tt : TT} {vs : List Nat} {σ : L2.St} {H H1 : Hp} {Q : VK} {xs : List V} {a : Addr} {j : Nat}
/-- a comprehension over a list that makes a row of each thing -/
theorem rows_lst {t0 : TE} (rs : List (List Int)) (h0 : ∀ R : VK, R (.ref a) H1 → t0 σ H R) (hq : H1 a = some (.lst xs)) (ly : rs.length = xs.length) (z : rs.length ≤ 1000000) (hw : ∀ x, wipe ((wipe σ vs).set j (some x)) vs = wipe σ vs)
    (hs : ∀ (i : Nat) (x : V) (r : List Int) (H : Hp) (R : VK), xs[i]? = some x → rs[i]? = some r → Same H1 H → (∀ q H4, Same H H4 → H4 q = some (.tup (r.map V.int)) → R (.ref q) H4) → te ((wipe σ vs).set j (some x)) H R)
    (hd : ∀ D ks H, Same H1 H → H1 D = none → RowsAt H D ks → ks.map (·.2) = rs → Q (.ref D) H) : Bx (tLc (iList K t0) (gName j) tYes te vs) σ H Q := by
  refine own_lst (K := K) (xs := xs) (fun D i H => Same H1 H ∧ ∃ ks, RowsAt H D ks ∧ ks.map (·.2) = rs.take i) h0 (SqL.of hq) (fun D i H nD p => p.1.seq (SqL.of hq)) hw (fun D nD => ⟨sm_new nD, [], ⟨upd_same, fun q h => by simp at h⟩, by simp⟩) ?_ ?_
  · rintro D i x H nD hx ⟨sm, ks, ⟨hD, hk⟩, e⟩
    have li := (List.getElem?_eq_some_iff.mp hx).1
    have hr := List.getElem?_eq_getElem (show i < rs.length by omega)
    refine hs i x _ H _ hx hr sm fun q H4 s4 hq4 => ⟨_, s4 _ _ hD, ?_, sm_at nD (sm.trans s4), ks ++ [(q, rs[i])], ⟨by rw [upd_same, List.map_append]; rfl, ?_⟩, ?_⟩
    · have := congrArg List.length e
      rw [List.length_map, List.length_take] at this
      rw [List.length_map, sizeLine_eq]
      omega
    · intro p hp
      have hp4 : H4 p.1 = some (.tup (p.2.map V.int)) := by
        rcases List.mem_append.mp hp with h | h
        · exact s4 _ _ (hk p h)
        · rw [List.mem_singleton.mp h]
          exact hq4
      rw [upd_ne (fun z => by rw [z, s4 _ _ hD] at hp4; cases hp4)]
      exact hp4
    · rw [List.map_append, e, List.take_add_one, hr]
      rfl
  · rintro D H nD ⟨sm, ks, hR, e⟩
    rw [← ly, List.take_length] at e
    exact hd D ks H sm nD hR e
/-- {row for row in rows if ..} -/
theorem sc_rows {t0 : TE} {ks : List (Addr × List Int)} (p : List Int → Bool) (h0 : ∀ R : VK, R (.ref a) H1 → t0 σ H R) (hA : RowsAt H1 a ks) (few : ks.length ≤ 76) (hw : ∀ x, wipe ((wipe σ vs).set j (some x)) vs = wipe σ vs) (hj : j < (wipe σ vs).length)
    (ht : ∀ (q : Addr × List Int) (H : Hp) (R : Bool → Hp → Prop), q ∈ ks → Same H1 H → (∀ H4, Same H H4 → R (p q.2) H4) → tt ((wipe σ vs).set j (some (.ref q.1))) H R)
    (hd : ∀ D L H, Same H1 H → H1 D = none → H D = some (SetBO P w D L) → (∀ q ∈ L, q ∈ ks ∧ p q.2 = true) → (∀ q ∈ ks, p q.2 = true → q.2 ∈ L.map (·.2)) → Q (.ref D) H) :
    Bx (tScB P w K (iList K t0) (gName j) tt (tVar j) vs) σ H Q := ⟨h0 _ ⟨a, rfl, ⟨_, hA.seq⟩, fun D nD => by
  refine ⟨fun i m H => m = ks.length - i ∧ i ≤ ks.length ∧ Same H1 H ∧ ∃ L, H D = some (SetBO P w D L) ∧ (∀ q ∈ L, q ∈ ks ∧ p q.2 = true) ∧ (∀ q ∈ ks.take i, p q.2 = true → q.2 ∈ L.map (·.2)) ∧ L.length ≤ i, ⟨ks.length, by simp, Nat.zero_le _, sm_new nD, [], upd_same, by simp, by simp, Nat.le_refl _⟩, ?_⟩
  rintro i m H ⟨rfl, hi, sm, L, hD, hL, hC, hn⟩
  have hA2 := hA.same sm
  by_cases hlt : i < ks.length
  · have li : i < (ks.map fun q => V.ref q.1).length := by rw [List.length_map]; exact hlt
    refine .inr ⟨⟨_, _, hA2.seq, List.getElem?_eq_getElem li⟩, fun H' => Same H1 H' ∧ ∃ L, H' D = some (SetBO P w D L) ∧ (∀ q ∈ L, q ∈ ks ∧ p q.2 = true) ∧ (∀ q ∈ ks.take (i + 1), p q.2 = true → q.2 ∈ L.map (·.2)) ∧ L.length ≤ i + 1, fun H' p' => ⟨ks.length - (i + 1), by omega, rfl, hlt, p'⟩, ?_⟩
    rintro v H' ⟨rfl, hx⟩
    have hv := hx _ hA2.seq
    rw [List.getElem?_map] at hv
    obtain ⟨q, hq, rfl⟩ := Option.map_eq_some_iff.mp hv
    have qm := List.mem_of_getElem? hq
    have tk : ks.take (i + 1) = ks.take i ++ [q] := by rw [List.take_add_one, hq]; rfl
    refine ⟨hw _, ?_⟩
    show tt _ _ _
    refine ht q _ _ qm sm fun H4 s4 => ?_
    cases c : p q.2 with
    | false =>
      rw [if_neg (by decide)]
      refine ⟨sm.trans s4, L, s4 _ _ hD, hL, fun x hx px => ?_, by omega⟩
      rw [tk] at hx
      rcases List.mem_append.mp hx with h | h
      · exact hC x h px
      · rw [List.mem_singleton.mp h, c] at px
        cases px
    | true =>
      rw [if_pos rfl]
      have hA4 := hA2.same s4
      refine ⟨.ref q.1, by rw [List.getElem?_set_self hj], q.1, q.2, L, rfl, SqT.of (hA4.2 q qm), s4 _ _ hD, fun x hx => SqT.of (hA4.2 x (hL x hx).1), by omega, fun L' e1 e2 => ⟨sm_at nD (sm.trans s4), L', upd_same, ?_, ?_, ?_⟩⟩
      · intro x hx
        by_cases m : q.2 ∈ L.map (·.2)
        · rw [e1 m] at hx
          exact hL x hx
        · rcases List.mem_cons.mp ((e2 m).mem_iff.mp hx) with h | h
          · rw [h]; exact ⟨qm, c⟩
          · exact hL x h
      · intro x hx px
        rw [tk] at hx
        by_cases m : q.2 ∈ L.map (·.2)
        · rw [e1 m]
          rcases List.mem_append.mp hx with h | h
          · exact hC x h px
          · rw [List.mem_singleton.mp h]; exact m
        · refine ((e2 m).map (·.2)).mem_iff.mpr ?_
          rcases List.mem_append.mp hx with h | h
          · exact List.mem_cons_of_mem _ (hC x h px)
          · rw [List.mem_singleton.mp h]; exact List.mem_cons_self
      · by_cases m : q.2 ∈ L.map (·.2)
        · rw [e1 m]; omega
        · rw [(e2 m).length_eq, List.length_cons]; omega
  · obtain rfl : i = ks.length := by omega
    rw [List.take_length] at hC
    exact .inl ⟨⟨_, hA2.seq, by rw [List.length_map]; exact Nat.le_refl _⟩, hd D L H sm nD hD hL hC⟩⟩⟩
/-- what is walked made first -/
theorem lc_preL {t0 : TE} {g : TG} (G : Addr → Hp → Prop) (h0 : ∀ R : VK, (∀ a H1, G a H1 → R (.ref a) H1) → t0 σ H R)
    (k : ∀ a H1, G a H1 → Bx (tLc (iList K (fun _ _ R => R (.ref a) H1)) g tt te vs) σ H1 Q) : Bx (tLc (iList K t0) g tt te vs) σ H Q := ⟨h0 _ fun a H1 g => (k a H1 g).run⟩
/-- [row for row in rows if ..] -/
theorem rows_fil {t0 : TE} {ks : List (Addr × List Int)} (p : List Int → Bool) (h0 : ∀ R : VK, R (.ref a) H1 → t0 σ H R) (hA : RowsAt H1 a ks) (z : ks.length ≤ 1000000) (hw : ∀ x, wipe ((wipe σ vs).set j (some x)) vs = wipe σ vs) (hj : j < (wipe σ vs).length)
    (ht : ∀ (q : Addr × List Int) (H : Hp) (R : Bool → Hp → Prop), q ∈ ks → Same H1 H → (∀ H4, Same H H4 → R (p q.2) H4) → tt ((wipe σ vs).set j (some (.ref q.1))) H R)
    (hd : ∀ D H, Same H1 H → H1 D = none → RowsAt H D (ks.filter fun q => p q.2) → Q (.ref D) H) : Bx (tLc (iList K t0) (gName j) tt (tVar j) vs) σ H Q := by
  refine ⟨h0 _ ⟨a, rfl, ⟨_, hA.seq⟩, fun D nD => lc_list (K := K) (a := a) (xs := ks.map fun q => V.ref q.1) (fun i H => Same H1 H ∧ H D = some (.lst (((ks.take i).filter fun q => p q.2).map fun q => V.ref q.1))) ⟨sm_new nD, upd_same⟩ (fun i H _ h => (hA.same h.1).seq) ?_ ?_⟩⟩
  · rintro i x H hx ⟨sm, hD⟩
    rw [List.getElem?_map] at hx
    obtain ⟨q, hq, rfl⟩ := Option.map_eq_some_iff.mp hx
    have qm := List.mem_of_getElem? hq
    have il := (List.getElem?_eq_some_iff.mp hq).1
    refine ⟨hw _, ht q _ _ qm sm fun H4 s4 => ?_⟩
    rw [List.take_add_one, hq]
    show if p q.2 = true then _ else _
    have fe : ((ks.take i ++ [q]).filter fun q => p q.2) = (ks.take i).filter (fun q => p q.2) ++ if p q.2 = true then [q] else [] := by
      rw [List.filter_append, List.filter_cons]
      rfl
    cases c : p q.2 with
    | false =>
      rw [if_neg (by decide)]
      rw [c, if_neg (by decide), List.append_nil] at fe
      refine ⟨sm.trans s4, ?_⟩
      show H4 D = some (.lst (((ks.take i ++ [q]).filter fun q => p q.2).map fun q => V.ref q.1))
      rw [fe]
      exact s4 _ _ hD
    | true =>
      rw [if_pos rfl]
      rw [c, if_pos rfl] at fe
      refine ⟨.ref q.1, by rw [List.getElem?_set_self hj], _, s4 _ _ hD, ?_, sm_at nD (sm.trans s4), ?_⟩
      · have h2 := List.length_filter_le (fun q : Addr × List Int => p q.2) (ks.take i)
        rw [List.length_take] at h2
        rw [List.length_map, sizeLine_eq]
        omega
      · show upd H4 D _ D = some (.lst (((ks.take i ++ [q]).filter fun q => p q.2).map fun q => V.ref q.1))
        rw [fe, upd_same, List.map_append]
        rfl
  · rintro H ⟨sm, hD⟩
    rw [List.length_map, List.take_length] at hD
    exact hd D H sm nD ⟨hD, fun q hq => sm _ _ (hA.2 q (List.mem_filter.mp hq).1)⟩
/-- sorted(a set of rows) -/
theorem sort_rows {D : Addr} {L : List (Addr × List Int)} {n : Nat} {rs : List (List Int)} (hD : H D = some (SetBO P w D L)) (hk : ∀ q ∈ L, H q.1 = some (.tup (q.2.map V.int)) ∧ q.2.length = n ∧ q.2 ≠ []) (hm : ∀ z, z ∈ L.map (·.2) ↔ z ∈ rs)
    (h : ∀ D2 ks H', Same H H' → H D2 = none → RowsAt H' D2 ks → ks.map (·.2) = CAN.canon rs → Q (.ref D2) H') : rSortB K P w [.ref D] H Q := by
  refine ⟨D, L, n, rfl, hD, fun q hq => SqT.of (hk q hq).1, fun ne => ?_, fun q hq => (hk q hq).2.1, fun L' p pL nd srt np => ?_⟩
  · obtain ⟨q, hq⟩ := List.exists_mem_of_ne_nil _ ne
    obtain ⟨_, e, n0⟩ := hk q hq
    rw [← e]
    exact List.length_pos_iff.mpr n0
  · have sp := sm_new (o := .lst (L'.map fun q => V.ref q.1)) np
    refine h p L' _ sp np ⟨upd_same, fun q hq => sp _ _ (hk q (pL.mem_iff.mp hq)).1⟩ ?_
    refine CAN.sorted_is nd ?_ fun z => by rw [← hm z]; exact (pL.map (·.2)).mem_iff
    rw [List.pairwise_map]
    exact srt
end
end ROW

set_option maxHeartbeats 8000000
/-! _both_ways, rings, cuts, half_cuts. -/
namespace K14
open PySem PySem.Spec PyProof.Rows L2 ROW SRB
abbrev sRg : Stmt := topS 20
abbrev sCu : Stmt := topS 21
abbrev sHc : Stmt := topS 22
abbrev sBw : Stmt := topS 25
theorem scBw : FnScope ["rows", "both", "row"] ["rows"] (defScope sBw) := ⟨rfl, rfl, rfl, by decide +kernel, rfl, by decide +kernel, by decide +kernel⟩
theorem scRg : FnScope ["house", "many", "size", "lot"] ["house"] (defScope sRg) := ⟨rfl, rfl, rfl, by decide +kernel, rfl, by decide +kernel, by decide +kernel⟩
theorem scCu : FnScope ["house", "lot"] ["house"] (defScope sCu) := ⟨rfl, rfl, rfl, by decide +kernel, rfl, by decide +kernel, by decide +kernel⟩
theorem scHc : FnScope ["house", "cut"] ["house"] (defScope sHc) := ⟨rfl, rfl, rfl, by decide +kernel, rfl, by decide +kernel, by decide +kernel⟩
/-- the rows that aren't all nought and their opposites, rising, each once -/
def bothL (rs : List (List Int)) : List (List Int) := CAN.canon ((rs ++ rs.map opp).filter nzR)
theorem opp_len2 (r : List Int) : (opp r).length = r.length := by simp [opp]
theorem bothL_len (rs : List (List Int)) : (bothL rs).length ≤ 2 * rs.length := by
  refine Nat.le_trans (CAN.canon_len _) (Nat.le_trans (List.length_filter_le _ _) ?_)
  rw [List.length_append, List.length_map]
  omega
theorem bothL_row {rs : List (List Int)} {n : Nat} (h : ∀ r ∈ rs, r.length = n) : ∀ r ∈ bothL rs, r.length = n := by
  intro r hr
  have hr := (List.mem_filter.mp ((CAN.mem_canon r _).mp hr)).1
  rcases List.mem_append.mp hr with h1 | h1
  · exact h r h1
  · obtain ⟨s, hs, rfl⟩ := List.mem_map.mp h1
    rw [opp_len2]
    exact h s hs
def spBw : Sp := fun vs H Q _ => ∃ (D : Addr) (ks : List (Addr × List Int)) (n : Nat), vs = [.ref D] ∧ RowsAt H D ks ∧ ks.length ≤ 38 ∧ n ≤ 63 ∧ (∀ q ∈ ks, q.2.length = n) ∧
  ∀ D2 ks2 H', Same H H' → H D2 = none → RowsAt H' D2 ks2 → ks2.map (·.2) = bothL (ks.map (·.2)) → Q (.ref D2) H'
section
variable {P : Program} {w : World} {K : PySem.W.Frag} {mg : Str → Option Value} {base : Heap} {C : Addr}
theorem ok_bw {f fo : Addr} {fd do_ : FuncData} {k : Nat} (F : Fun K "_both_ways" "_both_ways" sBw f fd) (ma : mg "any" = none) (ms : mg "sorted" = none)
    (O : FnOk P w K mg base CX0 k fo do_ ["row"] (spOpp K)) (gO : mg "opposite" = some (.ref fo)) (kO : PySem.W.keepIn K (.ref fo) = true) (bO : Binds K do_ ["row"] []) : FnOk P w K mg base CX0 (k + 1) f fd ["rows"] spBw := by
  refine F.ok scBw (fun vs H Q E ⟨D, ks, n, e, _⟩ => by rw [e]; rfl) (fun cdv A outer s H vs Q E hr h => ?_)
  have u1 : (A.deeper (envOfC "_both_ways" (defScope sBw) s.heap.objs.size f cdv)).units + 1 < cLine := by
    have := hr.units
    omega
  refine ⟨_, pss_cons (ps_set (i := 1) scBw.nd rfl (Or.inl rfl) (pe_lst (StX.pa_star (pv 0) (StX.pa_star
      (ZM.pe_bx (pe_lc (own := [("row", 2)]) (g := gName 2) (tt := tYes) rfl scBw.nd (pi_list (pv 0)) (blkOk_by (N := ["rows", "both", "row"]) (sc := defScope sBw) (by decide +kernel))
        (fun _ _ _ _ _ => pg_name (i := 2) scBw.nd rfl (Or.inl rfl)) (fun _ _ _ _ _ => pts_nil)
        (fun _ _ _ _ _ => pe_call O hr (by rfl) gO kO bO .nil pass0 (pa_cons (pv 2) pa_nil)))) pa_nil))))
    (pss_one (ps_ret (pe_callB (cr_sortB rfl) (by rfl) ms (by decide +kernel) (pa_cons
      (ZM.pe_bx (pe_scB (own := [("row", 2)]) (g := gName 2) (te := tVar 2) u1 rfl scBw.nd (pi_list (pv 1)) (blkOk_by (N := ["rows", "both", "row"]) (sc := defScope sBw) (by decide +kernel))
        (fun _ _ _ _ _ => pg_name (i := 2) scBw.nd rfl (Or.inl rfl)) (fun _ _ _ _ _ => pts_one (pt_val (pe_callB (r := ANI.rAnyI K) (ANI.cr_anyI rfl) (by rfl) ma (by decide +kernel) (pa_cons (pv 2) pa_nil))))
        (fun _ _ _ _ _ => pv 2))) pa_nil)))), ?_⟩
  obtain ⟨D, ks, n, rfl, hR, few, n63, hn, q⟩ := h
  refine ⟨_, rfl, D, _, rfl, .inr hR.seq, ?_⟩
  refine rows_lst (ks.map fun q => opp q.2) (fun R r => ⟨_, rfl, r⟩) hR.1 (by simp) (by simp; omega) (fun _ => rfl) ?_ ?_
  · intro i x r H2 R hx hr' s2 hq
    rw [List.getElem?_map] at hx hr'
    obtain ⟨p, hp, rfl⟩ := Option.map_eq_some_iff.mp hx
    rw [hp] at hr'
    cases hr'
    have pm := List.mem_of_getElem? hp
    exact ⟨_, rfl, p.1, p.2, rfl, .inr (SqT.of (s2 _ _ (hR.2 p pm))), by rw [hn p pm]; omega, fun t H3 s3 nt ht => hq t H3 s3 ht⟩
  · intro D2 ks2 H2 s2 nD2 hR2 e2
    have l2 : ks2.length = ks.length := by
      have := congrArg List.length e2
      rw [List.length_map, List.length_map] at this
      exact this
    refine ⟨D2, _, rfl, .inr hR2.seq, by rw [List.append_nil, List.length_append, List.length_map, List.length_map, sizeLine_eq]; omega, fun B nB => ?_⟩
    have s3 := same_new (o := .lst (ks.map (fun q => V.ref q.1) ++ (ks2.map (fun q => V.ref q.1) ++ []))) nB
    have hB : RowsAt (upd H2 B (.lst (ks.map (fun q => V.ref q.1) ++ (ks2.map (fun q => V.ref q.1) ++ [])))) B (ks ++ ks2) := by
      refine ⟨by rw [upd_same, List.append_nil, List.map_append], fun q hq => s3 _ _ ?_⟩
      rcases List.mem_append.mp hq with h | h
      · exact s2 _ _ (hR.2 q h)
      · exact hR2.2 q h
    generalize upd H2 B (.lst (ks.map (fun q => V.ref q.1) ++ (ks2.map (fun q => V.ref q.1) ++ []))) = H3 at s3 hB ⊢
    have hmem : ∀ q ∈ ks ++ ks2, q.2.length = n := fun q hq => by
      rcases List.mem_append.mp hq with h | h
      · exact hn q h
      · have := List.mem_map_of_mem (f := (·.2)) h
        rw [e2] at this
        obtain ⟨p, hp, e⟩ := List.mem_map.mp this
        rw [← e, opp_len2]
        exact hn p hp
    refine sc_rows nzR (fun R r => ⟨_, rfl, r⟩) hB (by rw [List.length_append]; omega) (fun _ => rfl) (show 2 < 3 by decide) ?_ ?_
    · intro p H4 R hp s4 hR4
      exact ⟨_, rfl, p.1, p.2, rfl, .inr (SqT.of (s4 _ _ (hB.2 p hp))), _, rfl, hR4 _ (Same.refl _)⟩
    · intro D3 L H4 s4 nD3 hD3 hL hC
      refine sort_rows (n := n) (rs := (ks.map (·.2) ++ (ks.map (·.2)).map opp).filter nzR) hD3 (fun p hp => ?_) (fun z => ?_) fun D4 ks4 H5 s5 nD4 hR4 e4 => ?_
      · obtain ⟨hp1, hp2⟩ := hL p hp
        refine ⟨s4 _ _ (hB.2 p hp1), hmem p hp1, fun e => ?_⟩
        rw [e] at hp2
        cases hp2
      · have e5 : ks.map (·.2) ++ (ks.map (·.2)).map opp = (ks ++ ks2).map (·.2) := by rw [List.map_append, e2, List.map_map]; rfl
        rw [List.mem_filter, e5]
        constructor
        · intro hz
          obtain ⟨p, hp, rfl⟩ := List.mem_map.mp hz
          obtain ⟨hp1, hp2⟩ := hL p hp
          exact ⟨List.mem_map_of_mem hp1, hp2⟩
        · rintro ⟨hz, nz⟩
          obtain ⟨p, hp, rfl⟩ := List.mem_map.mp hz
          exact hC p hp nz
      · refine q D4 ks4 H5 (s2.trans (s3.trans (s4.trans s5))) ?_ hR4 e4
        cases e : H D4 with
        | none => rfl
        | some o => rw [s4 _ _ (s3 _ _ (s2 _ _ e))] at nD4; cases nD4
end
end K14

set_option maxHeartbeats 8000000
/-! rings, cuts, half_cuts. -/
namespace K14
open PySem PySem.Spec PyProof.Rows L2 ROW SRB
theorem combs_over : ((List.range 8).all fun n => decide (CB.combs n (n + 1) = [])) = true := by decide +kernel
theorem combs_nil {n r : Nat} (hn : n ≤ 7) (h : r + 1 > n) (hr : r ≤ n) : CB.combs n (r + 1) = [] := by
  have e : r = n := by omega
  subst e
  exact of_decide_eq_true (List.all_eq_true.mp combs_over r (List.mem_range.mpr (by omega)))
def ringRows (n r : Nat) (ss : List Int) : List (List Int) := (CB.combs n (r + 1)).map (ringR (gT n r ss) n)
def cutRows (n r : Nat) (ss : List Int) : List (List Int) := (CB.combs n (r - 1)).map (cutR (gT n r ss) n)
def ringsF (n r : Nat) (ss : List Int) : List (List Int) := bothL (ringRows n r ss)
def cutsF (n r : Nat) (ss : List Int) : List (List Int) := if r = 0 then [] else bothL (cutRows n r ss)
def halfF (n r : Nat) (ss : List Int) : List (List Int) := (cutsF n r ss).filter fun c => fst c == 1
theorem ringRows_row {n r : Nat} {ss : List Int} : ∀ c ∈ ringRows n r ss, c.length = n := fun c hc => by
  obtain ⟨l, _, rfl⟩ := List.mem_map.mp hc
  exact ringR_len _ _ _
theorem cutRows_row {n r : Nat} {ss : List Int} : ∀ c ∈ cutRows n r ss, c.length = n := fun c hc => by
  obtain ⟨l, _, rfl⟩ := List.mem_map.mp hc
  exact cutR_len _ _ _
theorem ringsF_row {n r : Nat} {ss : List Int} : ∀ c ∈ ringsF n r ss, c.length = n := bothL_row ringRows_row
theorem cutsF_row {n r : Nat} {ss : List Int} : ∀ c ∈ cutsF n r ss, c.length = n := fun c hc => by
  unfold cutsF at hc
  split at hc
  · cases hc
  · exact bothL_row cutRows_row c hc
theorem combs_35' {n r : Nat} (hn : n ≤ 7) (hr : r ≤ n) : (CB.combs n (r + 1)).length ≤ 35 := by
  by_cases c : r + 1 > n
  · rw [combs_nil hn c hr]; exact Nat.zero_le _
  · exact combs_35 hn (by omega)
theorem ringsF_len {n r : Nat} {ss : List Int} (hn : n ≤ 7) (hr : r ≤ n) : (ringsF n r ss).length ≤ 70 := by
  have h1 := bothL_len (ringRows n r ss)
  have h2 := combs_35' hn hr
  have e : (ringRows n r ss).length = (CB.combs n (r + 1)).length := by simp [ringRows]
  unfold ringsF
  omega
theorem cutsF_len {n r : Nat} {ss : List Int} (hn : n ≤ 7) (hr : r ≤ n) : (cutsF n r ss).length ≤ 70 := by
  unfold cutsF
  split
  · exact Nat.zero_le _
  · have h1 := bothL_len (cutRows n r ss)
    have h2 := combs_35 (n := n) (r := r - 1) hn (by omega)
    have e : (cutRows n r ss).length = (CB.combs n (r - 1)).length := by simp [cutRows]
    omega
/-- what is asked of a house -/
structure HouseOk (C : Addr) (H : Hp) (p : Addr) (n r : Nat) (ss : List Int) : Prop where
  at_ : HouseAt C H p n r ss
  n7 : n ≤ 7
  rn : r ≤ n
  isS : ss.all isS = true
def spRg (C : Addr) : Sp := fun vs H Q _ => ∃ (p : Addr) (n r : Nat) (ss : List Int), vs = [.ref p] ∧ HouseOk C H p n r ss ∧
  ∀ D ks H', Same H H' → H D = none → RowsAt H' D ks → ks.map (·.2) = ringsF n r ss → Q (.ref D) H'
def spCu (C : Addr) : Sp := fun vs H Q _ => ∃ (p : Addr) (n r : Nat) (ss : List Int), vs = [.ref p] ∧ HouseOk C H p n r ss ∧
  ∀ D ks H', Same H H' → H D = none → RowsAt H' D ks → ks.map (·.2) = cutsF n r ss → Q (.ref D) H'
def spHc (C : Addr) : Sp := fun vs H Q _ => ∃ (p : Addr) (n r : Nat) (ss : List Int), vs = [.ref p] ∧ HouseOk C H p n r ss ∧
  ∀ D ks H', Same H H' → H D = none → RowsAt H' D ks → ks.map (·.2) = halfF n r ss → Q (.ref D) H'
theorem rows_nil {H : Hp} {D : Addr} (nD : H D = none) : RowsAt (upd H D (.lst [])) D [] := ⟨upd_same, fun q h => by simp at h⟩
section
variable {P : Program} {w : World} {K : PySem.W.Frag} {mg : Str → Option Value} {base : Heap} {C : Addr}
theorem ok_rg {f ft fr fl fw fb : Addr} {fd dt dr dl dw db : FuncData} {k : Nat} (F : Fun K "rings" "rings" sRg f fd) (T : TxH K mg C)
    (Ht : FnOk P w K mg base CX0 k ft dt ["self"] (spHt C)) (mT : Meth K C "things" ft) (bT : Binds K dt ["self"] [])
    (Hr : FnOk P w K mg base CX0 k fr dr ["self"] (spHr C)) (mR : Meth K C "rank" fr) (bR : Binds K dr ["self"] [])
    (L : FnOk P w K mg base CX0 k fl dl ["many", "size"] spLots) (gL : mg "lots" = some (.ref fl)) (kL : PySem.W.keepIn K (.ref fl) = true) (bL : Binds K dl ["many", "size"] [])
    (R : FnOk P w K mg base CX0 k fw dw ["house", "lot"] (spRr C)) (gR : mg "ring_row" = some (.ref fw)) (kR : PySem.W.keepIn K (.ref fw) = true) (bW : Binds K dw ["house", "lot"] [])
    (B : FnOk P w K mg base CX0 k fb db ["rows"] spBw) (gB : mg "_both_ways" = some (.ref fb)) (kB : PySem.W.keepIn K (.ref fb) = true) (bB : Binds K db ["rows"] []) : FnOk P w K mg base CX0 (k + 1) f fd ["house"] (spRg C) := by
  refine F.ok scRg (fun vs H Q E ⟨p, n, r, ss, e, _⟩ => by rw [e]; rfl) (fun cdv A outer s H vs Q E hr h => ?_)
  refine ⟨_, pss_cons (ps_par (i := 1) (j := 2) rfl scRg.nd rfl rfl (by decide) rfl rfl (pa_cons (pe_meth0 (pv 0) T.cl mT Ht hr bT .nil pass0) (pa_cons (pe_op op_add (pe_meth0 (pv 0) T.cl mR Hr hr bR .nil pass0) pe_int) pa_nil)) rfl)
    (pss_cons (ps_if (pt_cmpR op_gt (pv 2) (pv 1) (nomark _)) (pss_one (ps_ret (pe_lst pa_nil))) pss_nil)
    (pss_one (ps_ret (pe_call B hr (by rfl) gB kB bB .nil pass0 (pa_cons
      (ZM.pe_bx (pe_lc (own := [("lot", 3)]) (g := gName 3) (tt := tYes) rfl scRg.nd (pi_list (pe_call L hr (by rfl) gL kL bL .nil pass0 (pa_cons (pv 1) (pa_cons (pv 2) pa_nil)))) (blkOk_by (N := ["house", "many", "size", "lot"]) (sc := defScope sRg) (by decide +kernel))
        (fun _ _ _ _ _ => pg_name (i := 3) scRg.nd rfl (Or.inl rfl)) (fun _ _ _ _ _ => pts_nil)
        (fun _ _ _ _ _ => pe_call R hr (by rfl) gR kR bW .nil pass0 (pa_cons (pv 0) (pa_cons (pv 3) pa_nil))))) pa_nil))))), ?_⟩
  obtain ⟨p, n, r, ss, rfl, ⟨hO, n7, rn, ha⟩, q⟩ := h
  obtain ⟨dx, aS, d, h1, h2, h3⟩ := id hO.ob
  have c35 := combs_35' n7 rn
  refine ⟨_, rfl, p, dx, _, rfl, h1, hf_no n r aS d (by decide +kernel) (by decide +kernel) (by decide +kernel) (by decide +kernel), p, n, r, ss, rfl, hO, _, rfl, p, dx, _, rfl, h1, hf_no n r aS d (by decide +kernel) (by decide +kernel) (by decide +kernel) (by decide +kernel), p, n, r, ss, rfl, hO, _, _, rfl, rfl, _, _, rfl, ?_⟩
  refine ⟨_, rfl, _, rfl, _, _, rfl, rfl, _, rfl, ?_⟩
  by_cases c : r + 1 > n
  · refine if_t (decide_eq_true (by omega)) ⟨Nat.zero_le _, fun D nD => q D [] _ (same_new nD) nD (rows_nil nD) ?_⟩
    unfold ringsF ringRows
    rw [combs_nil n7 c rn]
    rfl
  refine if_f (decide_eq_false (by omega)) ?_
  refine lc_preL (fun l H1 => Same H H1 ∧ ∃ ts : List Addr, H1 l = some (.lst (ts.map V.ref)) ∧ CB.LotsAt H H1 (CB.combs n (r + 1)) ts) (fun R rr => ⟨_, rfl, _, rfl, n, r + 1, by rfl, n7, by omega, fun l ts H1 s1 nl hl1 LA => rr l H1 ⟨s1, ts, hl1, LA⟩⟩) ?_
  rintro l H1 ⟨s1, ts, hl1, LA⟩
  obtain ⟨lt, LG⟩ := lots_get LA
  refine rows_lst (ringRows n r ss) (fun R r => r) hl1 (by rw [ringRows, List.length_map, List.length_map, lt]) (by rw [ringRows, List.length_map]; omega) (fun _ => rfl) ?_ ?_
  · intro i x rw_ H2 R hx hr' s2 hq
    rw [List.getElem?_map] at hx
    obtain ⟨t, ht, rfl⟩ := Option.map_eq_some_iff.mp hx
    obtain ⟨lot, hlot, htl⟩ := LG i t ht
    rw [ringRows, List.getElem?_map, hlot] at hr'
    cases hr'
    refine ⟨_, rfl, _, rfl, p, t, n, r, ss, lot, rfl, hO.same (s1.trans s2), n7, by omega, ha, s2 _ _ htl, List.mem_of_getElem? hlot, fun c H3 s3 nc hc => hq c H3 s3 hc⟩
  · intro D ks H2 s2 nD hR e
    have kl : ks.length = (CB.combs n (r + 1)).length := by
      have := congrArg List.length e
      rw [List.length_map, ringRows, List.length_map] at this
      exact this
    refine ⟨D, ks, n, rfl, hR, by omega, by omega, fun x hx => ?_, fun D2 ks2 H3 s3 nD2 hR2 e2 => q D2 ks2 H3 (s1.trans (s2.trans s3)) ?_ hR2 (by rw [e2, e]; rfl)⟩
    · have := List.mem_map_of_mem (f := (·.2)) hx
      rw [e] at this
      exact ringRows_row _ this
    · cases e : H D2 with
      | none => rfl
      | some o => rw [s2 _ _ (s1 _ _ e)] at nD2; cases nD2
end
end K14

set_option maxHeartbeats 8000000
/-! cuts, half_cuts. -/
namespace K14
open PySem PySem.Spec PyProof.Rows L2 ROW SRB
section
variable {P : Program} {w : World} {K : PySem.W.Frag} {mg : Str → Option Value} {base : Heap} {C : Addr}
theorem ok_cu {f ft fr fl fw fb : Addr} {fd dt dr dl dw db : FuncData} {k : Nat} (F : Fun K "cuts" "cuts" sCu f fd) (T : TxH K mg C)
    (Ht : FnOk P w K mg base CX0 k ft dt ["self"] (spHt C)) (mT : Meth K C "things" ft) (bT : Binds K dt ["self"] [])
    (Hr : FnOk P w K mg base CX0 k fr dr ["self"] (spHr C)) (mR : Meth K C "rank" fr) (bR : Binds K dr ["self"] [])
    (L : FnOk P w K mg base CX0 k fl dl ["many", "size"] spLots) (gL : mg "lots" = some (.ref fl)) (kL : PySem.W.keepIn K (.ref fl) = true) (bL : Binds K dl ["many", "size"] [])
    (R : FnOk P w K mg base CX0 k fw dw ["house", "lot"] (spCr C)) (gR : mg "cut_row" = some (.ref fw)) (kR : PySem.W.keepIn K (.ref fw) = true) (bW : Binds K dw ["house", "lot"] [])
    (B : FnOk P w K mg base CX0 k fb db ["rows"] spBw) (gB : mg "_both_ways" = some (.ref fb)) (kB : PySem.W.keepIn K (.ref fb) = true) (bB : Binds K db ["rows"] []) : FnOk P w K mg base CX0 (k + 1) f fd ["house"] (spCu C) := by
  refine F.ok scCu (fun vs H Q E ⟨p, n, r, ss, e, _⟩ => by rw [e]; rfl) (fun cdv A outer s H vs Q E hr h => ?_)
  refine ⟨_, pss_cons (ps_if (pt_cmpR op_eq (pe_meth0 (pv 0) T.cl mR Hr hr bR .nil pass0) pe_int (nomark _)) (pss_one (ps_ret (pe_lst pa_nil))) pss_nil)
    (pss_one (ps_ret (pe_call B hr (by rfl) gB kB bB .nil pass0 (pa_cons
      (ZM.pe_bx (pe_lc (own := [("lot", 1)]) (g := gName 1) (tt := tYes) rfl scCu.nd (pi_list (pe_call L hr (by rfl) gL kL bL .nil pass0 (pa_cons (pe_meth0 (pv 0) T.cl mT Ht hr bT .nil pass0) (pa_cons (pe_op op_sub (pe_meth0 (pv 0) T.cl mR Hr hr bR .nil pass0) pe_int) pa_nil)))) (blkOk_by (N := ["house", "lot"]) (sc := defScope sCu) (by decide +kernel))
        (fun _ _ _ _ _ => pg_name (i := 1) scCu.nd rfl (Or.inl rfl)) (fun _ _ _ _ _ => pts_nil)
        (fun _ _ _ _ _ => pe_call R hr (by rfl) gR kR bW .nil pass0 (pa_cons (pv 0) (pa_cons (pv 1) pa_nil))))) pa_nil)))), ?_⟩
  obtain ⟨p, n, r, ss, rfl, ⟨hO, n7, rn, ha⟩, q⟩ := h
  obtain ⟨dx, aS, d, h1, h2, h3⟩ := id hO.ob
  have no := fun {m : Str} (h1 : ¬ m = "_things") (h2 : ¬ m = "_rank") (h3 : ¬ m = "_signs") (h4 : ¬ m = "_by_lot") => hf_no n r aS d h1 h2 h3 h4
  refine ⟨_, rfl, p, dx, _, rfl, h1, no (by decide +kernel) (by decide +kernel) (by decide +kernel) (by decide +kernel), p, n, r, ss, rfl, hO, rfl, _, rfl, ?_⟩
  by_cases c : r = 0
  · refine if_t (decide_eq_true (by rw [c]; rfl)) ⟨Nat.zero_le _, fun D nD => q D [] _ (same_new nD) nD (rows_nil nD) ?_⟩
    unfold cutsF
    rw [if_pos c]
    rfl
  refine if_f (decide_eq_false (by intro z; injection z with z; omega)) ?_
  have c35 := combs_35 (n := n) (r := r - 1) n7 (by omega)
  have er : (r : Int) - 1 = ((r - 1 : Nat) : Int) := by omega
  refine lc_preL (fun l H1 => Same H H1 ∧ ∃ ts : List Addr, H1 l = some (.lst (ts.map V.ref)) ∧ CB.LotsAt H H1 (CB.combs n (r - 1)) ts) (fun R rr => ⟨_, rfl, p, dx, _, rfl, h1, no (by decide +kernel) (by decide +kernel) (by decide +kernel) (by decide +kernel), p, n, r, ss, rfl, hO, _, rfl, p, dx, _, rfl, h1, no (by decide +kernel) (by decide +kernel) (by decide +kernel) (by decide +kernel), p, n, r, ss, rfl, hO, _, _, rfl, rfl, n, r - 1, by rw [← er]; rfl, n7, by omega, fun l ts H1 s1 nl hl1 LA => rr l H1 ⟨s1, ts, hl1, LA⟩⟩) ?_
  rintro l H1 ⟨s1, ts, hl1, LA⟩
  obtain ⟨lt, LG⟩ := lots_get LA
  refine rows_lst (cutRows n r ss) (fun R r => r) hl1 (by rw [cutRows, List.length_map, List.length_map, lt]) (by rw [cutRows, List.length_map]; omega) (fun _ => rfl) ?_ ?_
  · intro i x rw_ H2 R hx hr' s2 hq
    rw [List.getElem?_map] at hx
    obtain ⟨t, ht, rfl⟩ := Option.map_eq_some_iff.mp hx
    obtain ⟨lot, hlot, htl⟩ := LG i t ht
    obtain ⟨ll, lb⟩ := combs_ok n7 (by omega) (List.mem_of_getElem? hlot)
    rw [cutRows, List.getElem?_map, hlot] at hr'
    cases hr'
    refine ⟨_, rfl, _, rfl, p, t, n, r, ss, lot, rfl, hO.same (s1.trans s2), n7, rn, ha, s2 _ _ htl, by omega, lb, fun c H3 s3 nc hc => hq c H3 s3 hc⟩
  · intro D ks H2 s2 nD hR e
    have kl : ks.length = (CB.combs n (r - 1)).length := by
      have := congrArg List.length e
      rw [List.length_map, cutRows, List.length_map] at this
      exact this
    refine ⟨D, ks, n, rfl, hR, by omega, by omega, fun x hx => ?_, fun D2 ks2 H3 s3 nD2 hR2 e2 => q D2 ks2 H3 (s1.trans (s2.trans s3)) ?_ hR2 (by rw [e2, e]; unfold cutsF; rw [if_neg c])⟩
    · have := List.mem_map_of_mem (f := (·.2)) hx
      rw [e] at this
      exact cutRows_row _ this
    · cases e : H D2 with
      | none => rfl
      | some o => rw [s2 _ _ (s1 _ _ e)] at nD2; cases nD2
theorem ok_hc {f fc ff : Addr} {fd dc df : FuncData} {k : Nat} (F : Fun K "half_cuts" "half_cuts" sHc f fd)
    (U : FnOk P w K mg base CX0 k fc dc ["house"] (spCu C)) (gU : mg "cuts" = some (.ref fc)) (kU : PySem.W.keepIn K (.ref fc) = true) (bU : Binds K dc ["house"] [])
    (G : FnOk P w K mg base CX0 k ff df ["row"] (spFst K)) (gG : mg "first_sign" = some (.ref ff)) (kG : PySem.W.keepIn K (.ref ff) = true) (bG : Binds K df ["row"] []) : FnOk P w K mg base CX0 (k + 1) f fd ["house"] (spHc C) := by
  refine F.ok scHc (fun vs H Q E ⟨p, n, r, ss, e, _⟩ => by rw [e]; rfl) (fun cdv A outer s H vs Q E hr h => ?_)
  refine ⟨_, pss_one (ps_ret (ZM.pe_bx (pe_lc (own := [("cut", 1)]) (g := gName 1) (te := tVar 1) rfl scHc.nd (pi_list (pe_call U hr (by rfl) gU kU bU .nil pass0 (pa_cons (pv 0) pa_nil))) (blkOk_by (N := ["house", "cut"]) (sc := defScope sHc) (by decide +kernel))
        (fun _ _ _ _ _ => pg_name (i := 1) scHc.nd rfl (Or.inl rfl)) (fun _ _ _ _ _ => pts_one (pt_cmpR op_eq (pe_call G hr (by rfl) gG kG bG .nil pass0 (pa_cons (pv 1) pa_nil)) pe_int (nomark _)))
        (fun _ _ _ _ _ => pv 1)))), ?_⟩
  obtain ⟨p, n, r, ss, rfl, hO, q⟩ := h
  refine lc_preL (fun l H1 => Same H H1 ∧ ∃ ks, RowsAt H1 l ks ∧ ks.map (·.2) = cutsF n r ss) (fun R rr => ⟨_, rfl, p, n, r, ss, rfl, hO, fun D ks H1 s1 nD hR e => rr D H1 ⟨s1, ks, hR, e⟩⟩) ?_
  rintro l H1 ⟨s1, ks, hR, e⟩
  have kl : ks.length ≤ 70 := by
    have := congrArg List.length e
    rw [List.length_map] at this
    have := cutsF_len (ss := ss) hO.n7 hO.rn
    omega
  have hrow : ∀ x ∈ ks, x.2.length = n := fun x hx => by
    have := List.mem_map_of_mem (f := (·.2)) hx
    rw [e] at this
    exact cutsF_row _ this
  refine rows_fil (fun c => fst c == 1) (fun R r => r) hR (by omega) (fun _ => rfl) (show 1 < 2 by decide) ?_ ?_
  · intro x H2 R hx s2 hR2
    refine ⟨_, rfl, x.1, x.2, rfl, .inr (SqT.of (s2 _ _ (hR.2 x hx))), by rw [hrow x hx]; have := hO.n7; omega, rfl, _, rfl, ?_⟩
    have : (decide (V.int (fst x.2) = V.int 1)) = (fst x.2 == 1) := by
      by_cases c : fst x.2 = 1
      · rw [c]; rfl
      · rw [decide_eq_false (by intro z; injection z with z; exact c z)]
        exact (beq_eq_false_iff_ne.mpr c).symm
    first
      | exact this ▸ hR2 _ (Same.refl _)
      | (rw [this]; exact hR2 _ (Same.refl _))
  · intro D H2 s2 nD hD
    refine q D _ H2 (s1.trans s2) ?_ hD ?_
    · cases e : H D with
      | none => rfl
      | some o => rw [s1 _ _ e] at nD; cases nD
    · unfold halfF
      rw [← e, List.filter_map]
      rfl
end
end K14

set_option maxHeartbeats 8000000
/-! _law_both. -/
namespace K14
open PySem PySem.Spec PyProof.Rows L2 ROW SRB
abbrev sLbo : Stmt := topS 55
abbrev nLbo : List Str := ["_law_some", "_law_found", "_law_row_here", "_law_sign"]
theorem scLbo : FnScope nLbo ["_law_some"] (defScope sLbo) := ⟨rfl, rfl, rfl, by decide +kernel, rfl, by decide +kernel, by decide +kernel⟩
/-- a list of rows, each a list or a tuple -/
def ERows (H : Hp) (D : Addr) (ks : List (Addr × List Int)) : Prop := H D = some (.lst (ks.map fun q => V.ref q.1)) ∧ ∀ q ∈ ks, SqE H q.1 q.2
theorem ERows.same {H H' : Hp} {D : Addr} {ks : List (Addr × List Int)} (h : ERows H D ks) (s : Same H H') : ERows H' D ks := ⟨s _ _ h.1, fun q hq => (h.2 q hq).same s⟩
def altL (rs : List (List Int)) : List (List Int) := (rs.filter nzR).flatMap fun r => [r, opp r]
theorem nz_opp (r : List Int) : nzR (opp r) = nzR r := by
  unfold nzR opp
  rw [List.any_map]
  congr 1
  funext n
  show (-n != 0) = (n != 0)
  by_cases h : n = 0
  · rw [h]; rfl
  · rw [bne_iff_ne.mpr h, bne_iff_ne.mpr (by omega)]
theorem mem_alt (z : List Int) (rs : List (List Int)) : z ∈ altL rs ↔ z ∈ (rs ++ rs.map opp).filter nzR := by
  unfold altL
  rw [List.mem_flatMap, List.mem_filter, List.mem_append]
  constructor
  · rintro ⟨r, hr, hz⟩
    obtain ⟨h1, h2⟩ := List.mem_filter.mp hr
    rcases List.mem_cons.mp hz with e | e
    · rw [e]; exact ⟨.inl h1, h2⟩
    · rw [List.mem_singleton.mp e]
      exact ⟨.inr (List.mem_map_of_mem h1), by rw [nz_opp]; exact h2⟩
  · rintro ⟨h | h, nz⟩
    · exact ⟨z, List.mem_filter.mpr ⟨h, nz⟩, List.mem_cons_self⟩
    · obtain ⟨r, hr, rfl⟩ := List.mem_map.mp h
      rw [nz_opp] at nz
      exact ⟨r, List.mem_filter.mpr ⟨hr, nz⟩, by simp⟩
theorem altL_nz (rs : List (List Int)) : ∀ z ∈ altL rs, nzR z = true := fun z hz => (List.mem_filter.mp ((mem_alt z rs).mp hz)).2
theorem altL_len (rs : List (List Int)) : (altL rs).length ≤ 2 * rs.length := by
  have h := List.length_filter_le nzR rs
  have : (altL rs).length = 2 * (rs.filter nzR).length := by
    unfold altL
    induction rs.filter nzR with
    | nil => rfl
    | cons r l ih => rw [List.flatMap_cons, List.length_append, ih, List.length_cons]; simp; omega
  omega
theorem altL_row {rs : List (List Int)} {n : Nat} (h : ∀ r ∈ rs, r.length = n) : ∀ z ∈ altL rs, z.length = n := fun z hz => by
  have hr := (List.mem_filter.mp ((mem_alt z rs).mp hz)).1
  rcases List.mem_append.mp hr with h1 | h1
  · exact h z h1
  · obtain ⟨s, hs, rfl⟩ := List.mem_map.mp h1
    rw [opp_len2]
    exact h s hs
theorem altL_next {rs : List (List Int)} {i : Nat} {r : List Int} (h : rs[i]? = some r) : altL (rs.take (i + 1)) = altL (rs.take i) ++ if nzR r = true then [r, opp r] else [] := by
  unfold altL
  rw [List.take_add_one, h]
  show ((rs.take i ++ [r]).filter nzR).flatMap _ = _
  rw [List.filter_append, List.flatMap_append, List.filter_cons]
  split <;> simp
def spLbo : Sp := fun vs H Q _ => ∃ (D : Addr) (ks : List (Addr × List Int)) (n : Nat), vs = [.ref D] ∧ ERows H D ks ∧ ks.length ≤ 38 ∧ n ≤ 63 ∧ (∀ q ∈ ks, q.2.length = n) ∧
  ∀ D2 ks2 H', Same H H' → H D2 = none → RowsAt H' D2 ks2 → ks2.map (·.2) = bothL (ks.map (·.2)) → Q (.ref D2) H'
theorem ne_dec (n : Int) : (!decide (V.int n = V.int 0)) = (n != 0) := by
  by_cases h : n = 0
  · rw [h]; rfl
  · rw [decide_eq_false (by intro z; injection z with z; exact h z), bne_iff_ne.mpr h]; rfl
/-- tuple(x), x a list or a tuple of ints -/
theorem tup_any {K : PySem.W.Frag} {H : Hp} {a : Addr} {ns : List Int} {Q : VK} (hE : SqE H a ns) (q : ∀ c H', Same H H' → H' c = some (.tup (ns.map V.int)) → Q (.ref c) H') : rTupO K [V.ref a] H Q := by
  refine ⟨a, ns.map V.int, rfl, ?_⟩
  rcases hE with h | h
  · exact .inl ⟨SqL.of h, fun l nl => q l _ (same_new nl) upd_same⟩
  · exact .inr ⟨SqT.of h, q a H (Same.refl _) h⟩
section
variable {P : Program} {w : World} {K : PySem.W.Frag} {mg : Str → Option Value} {base : Heap} {C : Addr}
theorem ok_lbo {f : Addr} {fd : FuncData} {k : Nat} (F : Fun K "_law_both" "_law_both" sLbo f fd) (ma : mg "any" = none) (ms : mg "sorted" = none) (mt : mg "tuple" = none) (me : mg "set" = none) : FnOk P w K mg base CX0 (k + 1) f fd ["_law_some"] spLbo := by
  refine F.ok scLbo (fun vs H Q E ⟨D, ks, n, e, _⟩ => by rw [e]; rfl) (fun cdv A outer s H vs Q E hr h => ?_)
  have u1 : (A.deeper (envOfC "_law_both" (defScope sLbo) s.heap.objs.size f cdv)).units + 64 < cLine := by
    have := hr.units
    omega
  refine ⟨_, pss_cons (ps_set (i := 1) scLbo.nd rfl (Or.inl rfl) (pe_lst pa_nil))
    (pss_cons (ps_for PassesOwn.never rfl (pi_list (pv 0)) (pg_name (i := 2) scLbo.nd rfl (Or.inl rfl))
      (pss_one (ps_if (pt_val (pe_callB (cr_any rfl) (by rfl) ma (by decide +kernel) (pa_cons
          (ZM.pe_bx (pe_lc (own := [("_law_sign", 3)]) (g := gName 3) (tt := tYes) rfl scLbo.nd (ZM.pi_sq (pv 2)) (blkOk_by (N := nLbo) (sc := defScope sLbo) (by decide +kernel))
            (fun _ _ _ _ _ => pg_name (i := 3) scLbo.nd rfl (Or.inl rfl)) (fun _ _ _ _ _ => pts_nil) (fun _ _ _ _ _ => pe_cmpR op_ne (pv 3) pe_int (nomark _)))) pa_nil)))
        (pss_one (ps_set (i := 1) scLbo.nd rfl (Or.inl rfl) (pe_op op_cat (pv 1) (pe_lst (pa_cons (pe_callTy (T := "tuple") (r := rTupO K) call_tuple_of (by rfl) mt (by decide +kernel) (pa_cons (pv 2) pa_nil))
          (pa_cons (pe_callTy call_tuple_of (by rfl) mt (by decide +kernel) (pa_cons
            (ZM.pe_bx (pe_lc (own := [("_law_sign", 3)]) (g := gName 3) (tt := tYes) rfl scLbo.nd (ZM.pi_sq (pv 2)) (blkOk_by (N := nLbo) (sc := defScope sLbo) (by decide +kernel))
              (fun _ _ _ _ _ => pg_name (i := 3) scLbo.nd rfl (Or.inl rfl)) (fun _ _ _ _ _ => pts_nil) (fun _ _ _ _ _ => pe_op op_sub pe_int (pv 3)))) pa_nil)) pa_nil)))))) pss_nil)))
    (pss_one (ps_ret (pe_callB (cr_sortB rfl) (by rfl) ms (by decide +kernel) (pa_cons (pe_callTy (cr_setB rfl u1) (by rfl) me (by decide +kernel) (pa_cons (pv 1) pa_nil)) pa_nil))))), ?_⟩
  obtain ⟨D, ks, n, rfl, hE, few, n63, hn, q⟩ := h
  refine ⟨Nat.zero_le _, fun F0 nF0 => ?_⟩
  have s0 := same_new (o := .lst []) nF0
  have hF0 : RowsAt (upd H F0 (.lst [])) F0 [] := rows_nil nF0
  generalize upd H F0 (.lst []) = H0 at s0 hF0 ⊢
  refine ⟨_, rfl, D, rfl, ⟨_, SqL.of (s0 _ _ hE.1)⟩, for_list (K := K) (a := D) (xs := ks.map fun q => V.ref q.1) (fun i σ H' => ∃ F x2 kf, σ = [some (.ref D), some (.ref F), x2, none] ∧ Same H H' ∧ RowsAt H' F kf ∧ kf.map (·.2) = altL ((ks.map (·.2)).take i))
    ⟨F0, _, [], rfl, s0, hF0, by simp [altL]⟩ (fun i σ H' _ ⟨_, _, _, _, sm, _⟩ => SqL.of (sm _ _ hE.1)) ?_ ?_⟩
  · rintro i x σ H2 hx ⟨F, x2, kf, rfl, sm, hF, ef⟩
    rw [List.getElem?_map] at hx
    obtain ⟨p, hp, rfl⟩ := Option.map_eq_some_iff.mp hx
    have pm := List.mem_of_getElem? hp
    have il := (List.getElem?_eq_some_iff.mp hp).1
    have hp2 : (ks.map (·.2))[i]? = some p.2 := by rw [List.getElem?_map, hp]; rfl
    have en := altL_next hp2
    have lp := hn p pm
    have pE := (hE.2 p pm).same sm
    have kfl : kf.length ≤ 2 * i := by
      have h1 := congrArg List.length ef
      have h2 := altL_len ((ks.map (·.2)).take i)
      rw [List.length_map] at h1
      rw [List.length_take] at h2
      omega
    refine ZM.lcm_sq (ys := p.2.map fun s => V.bl (!decide (V.int s = V.int 0))) (fun R rr => ⟨_, rfl, rr⟩) pE.i (by simp) (by simp; omega) (fun _ => rfl) ?_ ?_
    · intro i2 x y H3 R hx hy s3 hR
      obtain ⟨u, rfl, hu⟩ := get_ints hx
      rw [List.getElem?_map, hu] at hy
      cases hy
      exact ⟨_, rfl, rfl, hR _ (Same.refl _)⟩
    intro D3 H3 s3 nD3 hD3
    have ea : (p.2.map fun s => !decide (V.int s = V.int 0)).any id = nzR p.2 := by
      unfold nzR
      rw [List.any_map]
      congr 1
      funext m
      exact ne_dec m
    refine ⟨D3, p.2.map fun s => !decide (V.int s = V.int 0), rfl, SqL.of (by rw [hD3, List.map_map]; rfl), _, rfl, ?_⟩
    rw [ea]
    have hF3 := hF.same s3
    have sm3 := sm.trans s3
    cases c : nzR p.2 with
    | false =>
      rw [c, if_neg (by decide), List.append_nil] at en
      exact if_f rfl ⟨F, _, kf, rfl, sm3, hF3, by rw [ef, en]⟩
    | true =>
      rw [c, if_pos rfl] at en
      refine if_t rfl ⟨_, rfl, _, rfl, ?_⟩
      unfold tNil
      show rTupO K [V.ref p.1] H3 _
      refine tup_any (pE.same s3) fun c1 H4 s4 hc1 => ?_
      have pE4 := (pE.same s3).same s4
      refine ZM.lcm_sq (ys := (opp p.2).map V.int) (fun R rr => ⟨_, rfl, rr⟩) pE4.i (by simp [opp]) (by simp [opp]; omega) (fun _ => rfl) ?_ ?_
      · intro i2 x y H5 R hx hy s5 hR
        obtain ⟨u, rfl, hu⟩ := get_ints hx
        rw [opp, List.getElem?_map, List.getElem?_map, hu] at hy
        cases hy
        refine ⟨_, rfl, _, _, rfl, rfl, ?_⟩
        show R (V.int (0 - u)) H5
        rw [Int.zero_sub]
        exact hR _ (Same.refl _)
      intro D5 H5 s5 nD5 hD5
      refine ⟨D5, _, rfl, .inl ⟨SqL.of hD5, fun c2 nc2 => ?_⟩⟩
      have s6 := same_new (o := .tup ((opp p.2).map V.int)) nc2
      refine ⟨by simp [sizeLine_eq], fun B nB => ?_⟩
      have s7 := same_new (o := .lst [V.ref c1, V.ref c2]) nB
      have s47 := s4.trans (s5.trans (s6.trans s7))
      refine ⟨F, B, _, _, rfl, rfl, s47 _ _ hF3.1, upd_same, by rw [List.length_map]; simp [sizeLine_eq]; omega, fun F2 nF2 => ?_⟩
      have s8 := same_new (o := .lst (kf.map (fun q => V.ref q.1) ++ [V.ref c1, V.ref c2])) nF2
      have hF8 := hF3.same (s47.trans s8)
      refine ⟨F2, _, kf ++ [(c1, p.2), (c2, opp p.2)], rfl, sm3.trans (s47.trans s8), ⟨by rw [upd_same, List.map_append]; rfl, fun z hz => ?_⟩, by rw [List.map_append, ef, en]; rfl⟩
      rcases List.mem_append.mp hz with h | h
      · exact hF8.2 z h
      · rcases List.mem_cons.mp h with h | h
        · rw [h]; exact s8 _ _ (s7 _ _ (s6 _ _ (s5 _ _ hc1)))
        · rw [List.mem_singleton.mp h]; exact s8 _ _ (s7 _ _ upd_same)
  · rintro σ H2 ⟨F, x2, kf, rfl, sm, hF, ef⟩
    rw [List.length_map, List.take_of_length_le (by simp)] at ef
    have kfl : kf.length ≤ 76 := by
      have h1 := congrArg List.length ef
      have h2 := altL_len (ks.map (·.2))
      rw [List.length_map] at h1 h2
      omega
    have mem : ∀ z ∈ kf, z.2 ∈ altL (ks.map (·.2)) := fun z hz => by rw [← ef]; exact List.mem_map_of_mem hz
    refine ⟨_, rfl, F, kf, rfl, hF.seq, fun z hz => SqT.of (hF.2 z hz), kfl, fun S L nS hL hC nd => ?_⟩
    have s3 := same_new (o := SetBO P w S L) nS
    refine sort_rows (n := n) (rs := altL (ks.map (·.2))) upd_same (fun z hz => ?_) (fun z => ?_) fun D4 ks4 H5 s5 nD4 hR4 e4 => ?_
    · have hz1 := hL z hz
      refine ⟨s3 _ _ (hF.2 z hz1), altL_row (fun r hr => ?_) _ (mem z hz1), fun e => ?_⟩
      · obtain ⟨p, hp, rfl⟩ := List.mem_map.mp hr
        exact hn p hp
      · have := altL_nz _ _ (mem z hz1)
        rw [e] at this
        cases this
    · rw [← ef]
      constructor
      · intro h
        obtain ⟨p, hp, rfl⟩ := List.mem_map.mp h
        exact List.mem_map_of_mem (hL p hp)
      · intro h
        obtain ⟨p, hp, rfl⟩ := List.mem_map.mp h
        exact hC p hp
    · refine q D4 ks4 H5 (sm.trans (s3.trans s5)) ?_ hR4 ?_
      · cases e : H D4 with
        | none => rfl
        | some o => exact absurd ((s3 _ _ (sm _ _ e)).symm.trans nD4) (by simp)
      · rw [e4]
        exact CAN.canon_congr fun z => mem_alt z _
end
end K14

set_option maxHeartbeats 8000000
/-! _law_rings. -/
namespace K14
open PySem PySem.Spec PyProof.Rows L2 ROW SRB
abbrev sLrg : Stmt := topS 56
abbrev nLrg : List Str := ["_law_m", "_law_found", "_law_lot", "_law_row_here", "_law_k"]
theorem scLrg : FnScope nLrg ["_law_m"] (defScope sLrg) := ⟨rfl, rfl, rfl, by decide +kernel, rfl, by decide +kernel, by decide +kernel⟩
/-- what is asked of a model -/
structure ModOk (H : Hp) (m d : Addr) (n r : Nat) (ss : List Int) : Prop where
  at_ : ModAt H m d n r ss
  n7 : n ≤ 7
  rn : r ≤ n
  len : ss.length = (CB.combs n r).length
  isS : ss.all isS = true
theorem ModOk.same {H H' : Hp} {m d : Addr} {n r : Nat} {ss : List Int} (h : ModOk H m d n r ss) (s : Same H H') : ModOk H' m d n r ss := ⟨h.at_.same s, h.n7, h.rn, h.len, h.isS⟩
def spLrg : Sp := fun vs H Q _ => ∃ (m d : Addr) (n r : Nat) (ss : List Int), vs = [.ref m] ∧ ModOk H m d n r ss ∧
  ∀ D ks H', Same H H' → H D = none → RowsAt H' D ks → ks.map (·.2) = ringsF n r ss → Q (.ref D) H'
theorem alt_mul (k : Nat) (v : Int) : (if k % 2 = 1 then (-1 : Int) else 1) * v = alt k v := by
  unfold alt
  split
  · omega
  · rw [Int.one_mul]
theorem row_ne {H : Hp} {S a : Addr} {ks : List (Addr × List Int)} {ns : List Int} (hS : H S = some (.lst (ks.map fun q => V.ref q.1))) (ha : SqE H a ns) (hn : 1 ≤ ns.length) : a ≠ S := fun e => by
  subst e
  rcases ha with h | h
  · rw [hS] at h
    injection h with h
    injection h with h
    match ks, ns, hn with
    | [], n :: ns, _ => cases h
    | k :: ks, n :: ns, _ =>
      rw [List.map_cons, List.map_cons] at h
      injection h with h _
      cases h
  · rw [hS] at h
    cases h
section
variable {P : Program} {w : World} {K : PySem.W.Frag} {mg : Str → Option Value} {base : Heap} {C : Addr}
theorem ok_lrg {f fl fb : Addr} {fd dl db : FuncData} {k : Nat} (F : Fun K "_law_rings" "_law_rings" sLrg f fd) (mr : mg "range" = none) (ml : mg "len" = none)
    (L : FnOk P w K mg base CX0 k fl dl ["_law_many", "_law_size"] LL.spLL) (gL : mg "_law_lots" = some (.ref fl)) (kL : PySem.W.keepIn K (.ref fl) = true) (bL : Binds K dl ["_law_many", "_law_size"] [])
    (B : FnOk P w K mg base CX0 k fb db ["_law_some"] spLbo) (gB : mg "_law_both" = some (.ref fb)) (kB : PySem.W.keepIn K (.ref fb) = true) (bB : Binds K db ["_law_some"] []) : FnOk P w K mg base CX0 (k + 1) f fd ["_law_m"] spLrg := by
  refine F.ok scLrg (fun vs H Q E ⟨m, d, n, r, ss, e, _⟩ => by rw [e]; rfl) (fun cdv A outer s H vs Q E hr h => ?_)
  have u1 : (A.deeper (envOfC "_law_rings" (defScope sLrg) s.heap.objs.size f cdv)).units + 1 < cLine := by
    have := hr.units
    omega
  refine ⟨_, pss_cons (ps_set (i := 1) scLrg.nd rfl (Or.inl rfl) (pe_lst pa_nil))
    (pss_cons (ps_for PassesOwn.never rfl (pi_list (pe_call L hr (by rfl) gL kL bL .nil pass0 (pa_cons (pe_dget u1 (pv 0) pe_str (fun _ _ => rfl)) (pa_cons (pe_op op_add (pe_dget u1 (pv 0) pe_str (fun _ _ => rfl)) pe_int) pa_nil)))) (pg_name (i := 2) scLrg.nd rfl (Or.inl rfl))
      (pss_cons (ps_set (i := 3) scLrg.nd rfl (Or.inl rfl) (pe_op op_rep (pe_lst (pa_cons pe_int pa_nil)) (pe_dget u1 (pv 0) pe_str (fun _ _ => rfl))))
      (pss_cons (ps_for PassesOwn.never rfl (pi_range1 (by rfl) mr (pa_cons (pe_callB call_len_seq (by rfl) ml PySem.boot_len (pa_cons (pv 2) pa_nil)) pa_nil)) (pg_name (i := 4) scLrg.nd rfl (Or.inl rfl))
        (pss_one (ps_asg (pe_op op_mul (pe_ix (r := rIx K) ix_seq (pe_lst (pa_cons pe_int (pa_cons (pe_un un_neg pe_int) pa_nil))) (pe_op op_mod (pv 4) pe_int) (fun _ _ => rfl))
            (pe_dget u1 (pe_dget u1 (pv 0) pe_str (fun _ _ => rfl)) (pe_op (r := rCatA K) op_catA (pe_slice sl_tup (pv 2) po_none (po_some (pv 4))) (pe_slice sl_tup (pv 2) (po_some (pe_op op_add (pv 4) pe_int)) po_none)) (fun _ _ => rfl)))
          (pg_sub (pv 3) (pe_ix (r := rIx K) ix_seq (pv 2) (pv 4) (fun _ _ => rfl)) set_list))))
      (pss_one (ps_expr (pe_bm PySem.F.plainAttrs_list PySem.F.slot_list_append PySem.F.type_list_append mt_append (pv 1) (pa_cons (pv 3) pa_nil)))))))
    (pss_one (ps_ret (pe_call B hr (by rfl) gB kB bB .nil pass0 (pa_cons (pv 1) pa_nil))))), ?_⟩
  obtain ⟨m, d, n, r, ss, rfl, MO, q⟩ := h
  have n7 := MO.n7
  have rn := MO.rn
  refine ⟨Nat.zero_le _, fun S nS => ?_⟩
  have s0 := same_new (o := .lst []) nS
  have hS0 : upd H S (.lst []) S = some (.lst []) := upd_same
  generalize upd H S (.lst []) = H0 at s0 hS0 ⊢
  have M0 := MO.same s0
  have c35 := combs_35' n7 rn
  refine ⟨_, rfl, m, _, rfl, M0.at_.things, _, rfl, m, _, rfl, M0.at_.rank, _, _, rfl, rfl, n, r + 1, rfl, n7, by omega, fun l ts H1 s1 nl hl1 LA => ?_⟩
  obtain ⟨lt, LG⟩ := lots_get LA
  have lS : l ≠ S := fun z => by rw [z, hS0] at nl; cases nl
  have M1 := M0.same s1
  have mS : m ≠ S := fun z => by have := MO.at_.m; rw [z, nS] at this; cases this
  have dS : d ≠ S := fun z => by have := MO.at_.d; rw [z, nS] at this; cases this
  have kM : ∀ H', But S H1 H' → ModAt H' m d n r ss := fun H' bu => ⟨bu _ _ mS M1.at_.m, bu _ _ dS M1.at_.d⟩
  refine ⟨l, rfl, ⟨_, SqL.of hl1⟩, for_list (K := K) (a := l) (fun i σ H' => ∃ x2 x3 x4 ks, σ = [some (.ref m), some (.ref S), x2, x3, x4] ∧ But S H1 H' ∧ ERows H' S ks ∧ ks.map (·.2) = (ringRows n r ss).take i)
    ⟨_, _, _, [], rfl, .refl, ⟨s1 _ _ hS0, fun q h => by simp at h⟩, rfl⟩ (fun i σ H' _ ⟨_, _, _, _, _, bu, _⟩ => SqL.of (bu _ _ lS hl1)) ?_ ?_⟩
  · rintro i x σ H2 hx ⟨x2, x3, x4, ks, rfl, bu, hE, ek⟩
    rw [List.getElem?_map] at hx
    obtain ⟨t, ht, rfl⟩ := Option.map_eq_some_iff.mp hx
    have il : i < ts.length := (List.getElem?_eq_some_iff.mp ht).1
    obtain ⟨lot, hlot, htl⟩ := LG i t ht
    have hlin := List.mem_of_getElem? hlot
    have rn1 : r < n := by
      by_cases c : r + 1 > n
      · rw [combs_nil n7 c rn] at hlin; cases hlin
      · omega
    obtain ⟨ll, lb⟩ := combs_ok n7 (by omega) hlin
    have htl2 : H2 t = some (.tup (CB.lotV lot)) := bu _ _ (fun z => by rw [z, s1 _ _ hS0] at htl; cases htl) htl
    have ksl : ks.length = i := by
      have := congrArg List.length ek
      rw [List.length_map, List.length_take, ringRows, List.length_map] at this
      omega
    refine ⟨by simp [sizeLine_eq], fun p0 np0 => ?_⟩
    have s2 := same_new (o := .lst [V.int 0]) np0
    refine ⟨_, rfl, m, _, rfl, ((kM _ bu).same s2).things, p0, _, _, rfl, rfl, upd_same, by omega, by omega, by simp [sizeLine_eq]; omega, fun R nR => ?_⟩
    rw [Int.toNat_natCast, rep_flat]
    have s3 := s2.trans (same_new (o := .lst ((List.replicate n (0 : Int)).map V.int)) nR)
    have hR0 : upd (upd H2 p0 (.lst [V.int 0])) R (.lst ((List.replicate n (0 : Int)).map V.int)) R = some (.lst ((List.replicate n (0 : Int)).map V.int)) := upd_same
    have nR2 : H2 R = none := by
      cases e : H2 R with
      | none => rfl
      | some o => rw [s2 _ _ e] at nR; cases nR
    generalize upd (upd H2 p0 (.lst [V.int 0])) R (.lst ((List.replicate n (0 : Int)).map V.int)) = H3 at s3 hR0 ⊢
    have kH : ∀ H', But R H3 H' → Same H2 H' := fun H' b c o e => b c o (fun z => by rw [z, nR2] at e; cases e) (s3 _ _ e)
    refine ⟨_, rfl, t, _, rfl, .inr (SqT.of (s3 _ _ htl2)), ((r + 1 : Nat) : Int), by rw [lotV_len, ll], by omega, by omega, for_range (lo := 0) (n := r + 1) (fun i σ H' => ∃ x4, σ = [some (.ref m), some (.ref S), some (.ref t), some (.ref R), x4] ∧ But R H3 H' ∧ H' R = some (.lst ((ringU (gT n r ss) n lot i).map V.int)))
      ⟨_, rfl, .refl, hR0⟩ ?_ ?_⟩
    · rintro j σ H4 hj ⟨x4, rfl, bu4, hR4⟩
      have S4 := kH _ bu4
      have bS4 : But S H1 H4 := Same.butL bu S4
      have hj' : j < lot.length := by omega
      have hmj := List.getElem?_eq_getElem hj'
      have mn := lb lot[j] (List.getElem_mem hj')
      refine ⟨_, rfl, (by show 2 ≤ sizeLine; rw [sizeLine_eq]; omega), fun p2 np2 => ?_⟩
      have s5 := same_new (o := .lst [.int 1, .int (-1)]) np2
      have hp5 : (upd H4 p2 (.lst [.int 1, .int (-1)])) p2 = some (.lst [.int 1, .int (-1)]) := upd_same
      generalize upd H4 p2 (.lst [.int 1, .int (-1)]) = H5 at s5 hp5 ⊢
      obtain ⟨sgi, esg, sgu, at1⟩ : ∃ sgi : Int, sgi = (if j % 2 = 1 then -1 else 1) ∧ (sgi = 1 ∨ sgi = -1) ∧ atI [V.int 1, V.int (-1)] ((0 + (j : Int)) % 2) = some (.int sgi) := by
        by_cases z : j % 2 = 1
        · refine ⟨-1, by rw [if_pos z], .inr rfl, ?_⟩
          rw [show (0 + (j : Int)) % 2 = ((1 : Nat) : Int) by omega]; rfl
        · refine ⟨1, by rw [if_neg z], .inl rfl, ?_⟩
          rw [show (0 + (j : Int)) % 2 = ((0 : Nat) : Int) by omega]; rfl
      refine ⟨_, rfl, _, _, rfl, rfl, (by show (0 : Int) < 2; decide), ix_ls (.inl (SqL.of hp5)) at1 ?_⟩
      have M5 := (kM _ bS4).same s5
      have ht5 := s5 _ _ (S4 _ _ htl2)
      refine ⟨_, rfl, m, _, rfl, M5.signs, _, rfl, _, rfl, _, rfl, t, _, rfl, SqT.of ht5, ?_, fun t1 nt1 => ?_⟩
      · rw [show (0 + (j : Int)) = ((j : Nat) : Int) by omega, HT.sIx_nat, lotV_len]
        omega
      rw [show (0 + (j : Int)) = ((j : Nat) : Int) by omega, cutTo, lotV_take]
      have s6 := same_new (o := .tup (CB.lotV (lot.take j))) nt1
      have ht1 : upd H5 t1 (.tup (CB.lotV (lot.take j))) t1 = some (.tup (CB.lotV (lot.take j))) := upd_same
      generalize upd H5 t1 (.tup (CB.lotV (lot.take j))) = H6 at s6 ht1 ⊢
      refine ⟨_, rfl, _, rfl, _, _, rfl, rfl, _, rfl, t, _, rfl, SqT.of (s6 _ _ ht5), ?_, fun t2 nt2 => ?_⟩
      · rw [show ((j : Int) + 1) = ((j + 1 : Nat) : Int) by omega, HT.sIx_nat, lotV_len]
        omega
      rw [show ((j : Int) + 1) = ((j + 1 : Nat) : Int) by omega, cutFrom, lotV_drop]
      have s7 := same_new (o := .tup (CB.lotV (lot.drop (j + 1)))) nt2
      refine cat_any (s7 _ _ ht1) upd_same (by rw [lotV_len, lotV_len, List.length_take, List.length_drop, sizeLine_eq]; omega) fun c H8 s8 hc => ?_
      rw [lotV_app, ← List.eraseIdx_eq_take_drop_succ] at hc
      have s58 := s6.trans (s7.trans s8)
      have din := del_in n7 rn1 hlin (k := j) (by omega)
      have vv := gT_at n7 rn MO.len din
      have hun := (gT_ok (n := n) (r := r) MO.isS (ci (lot.eraseIdx j))).2
      refine ⟨d, .int (gT n r ss (ci (lot.eraseIdx j))), rfl, by rw [← vv]; exact DGet.t (s58 _ _ M5.d) (by rw [key_kV]; exact hc), ?_⟩
      have hR8 := s58 _ _ (s5 _ _ hR4)
      refine ⟨_, _, rfl, rfl, .inl (by rcases sgu with e | e <;> rw [e] <;> omega), _, rfl, _, rfl, _, rfl, ?_⟩
      refine ix_ls (.inr (SqT.of (s58 _ _ ht5))) (v := .int (lot[j] : Nat)) (by first | exact atI_nat (by rw [CB.lotV, List.getElem?_map, hmj]; rfl) | rw [show (0 + (j : Int)) = ((j : Nat) : Int) by omega]; exact atI_nat (by rw [CB.lotV, List.getElem?_map, hmj]; rfl)) ?_
      refine ⟨R, _, _, lot[j], rfl, rfl, hR8, by rw [List.length_map, ringU_len]; exact ix_nat mn, _, rfl, fun c o ne e => by rw [upd_ne ne]; exact s58 _ _ (s5 _ _ (bu4 _ _ ne e)), ?_⟩
      rw [upd_same, ringU, ← alt_mul, ← esg, List.map_set, List.getD_eq_getElem?_getD, hmj]
      rfl
    · rintro σ H4 ⟨x4, rfl, bu4, hR4⟩
      have S4 := kH _ bu4
      have hE4 := hE.same S4
      refine ⟨_, rfl, tyl hE4.1, _, rfl, S, _, _, rfl, rfl, hE4.1, by rw [List.length_map, ksl, sizeLine_eq]; omega, _, _, _, ks ++ [(R, ringR (gT n r ss) n lot)], rfl, fun c o ne e => by rw [upd_ne ne]; exact S4 _ _ (bu _ _ ne e), ⟨by rw [upd_same, List.map_append]; rfl, fun z hz => ?_⟩, ?_⟩
      · have : SqE H4 z.1 z.2 := by
          rcases List.mem_append.mp hz with h | h
          · exact hE4.2 z h
          · rw [List.mem_singleton.mp h]
            unfold ringR
            rw [ll]
            exact .inl hR4
        have zl : z.2.length = n := by
          rcases List.mem_append.mp hz with h | h
          · have := List.mem_map_of_mem (f := (·.2)) h
            rw [ek] at this
            exact ringRows_row _ (List.mem_of_mem_take this)
          · rw [List.mem_singleton.mp h]
            exact ringR_len _ _ _
        have ne : z.1 ≠ S := row_ne hE4.1 this (by omega)
        exact this.imp (fun h => by rw [upd_ne ne]; exact h) (fun h => by rw [upd_ne ne]; exact h)
      · rw [List.map_append, ek, List.take_add_one, ringRows, List.getElem?_map, hlot]
        rfl
  · rintro σ H2 ⟨x2, x3, x4, ks, rfl, bu, hE, ek⟩
    have s02 : Same H H2 := fun c o e => bu _ _ (fun z => by rw [z, nS] at e; cases e) (s1 _ _ (s0 _ _ e))
    rw [List.length_map, ← lt, show (CB.combs n (r + 1)).length = (ringRows n r ss).length by rw [ringRows, List.length_map], List.take_length] at ek
    have ksl : ks.length = (CB.combs n (r + 1)).length := by
      have := congrArg List.length ek
      rw [List.length_map, ringRows, List.length_map] at this
      exact this
    refine ⟨_, rfl, S, ks, n, rfl, hE, by omega, by omega, fun z hz => ?_, fun D2 ks2 H3 s3 nD2 hR2 e2 => q D2 ks2 H3 (s02.trans s3) ?_ hR2 (by rw [e2, ek]; rfl)⟩
    · have := List.mem_map_of_mem (f := (·.2)) hz
      rw [ek] at this
      exact ringRows_row _ this
    · cases e : H D2 with
      | none => rfl
      | some o => rw [s02 _ _ e] at nD2; cases nD2
end
end K14

set_option maxHeartbeats 8000000
/-! _law_cuts. -/
namespace K14
open PySem PySem.Spec PyProof.Rows L2 ROW SRB
abbrev sLcu : Stmt := topS 57
abbrev nLcu : List Str := ["_law_m", "_law_found", "_law_lot", "_law_thing"]
theorem scLcu : FnScope nLcu ["_law_m"] (defScope sLcu) := ⟨rfl, rfl, rfl, by decide +kernel, rfl, by decide +kernel, by decide +kernel⟩
def spLcu : Sp := fun vs H Q _ => ∃ (m d : Addr) (n r : Nat) (ss : List Int), vs = [.ref m] ∧ ModOk H m d n r ss ∧
  ∀ D ks H', Same H H' → H D = none → RowsAt H' D ks → ks.map (·.2) = cutsF n r ss → Q (.ref D) H'
section
variable {P : Program} {w : World} {K : PySem.W.Frag} {mg : Str → Option Value} {base : Heap} {C : Addr}
theorem ok_lcu {f fl fb fr : Addr} {fd dl db dr : FuncData} {k : Nat} (F : Fun K "_law_cuts" "_law_cuts" sLcu f fd) (mr : mg "range" = none)
    (L : FnOk P w K mg base CX0 k fl dl ["_law_many", "_law_size"] LL.spLL) (gL : mg "_law_lots" = some (.ref fl)) (kL : PySem.W.keepIn K (.ref fl) = true) (bL : Binds K dl ["_law_many", "_law_size"] [])
    (R : FnOk P w K mg base CX0 k fr dr ["_law_m", "_law_row_here"] (spRe K)) (gR : mg "_law_read" = some (.ref fr)) (kR : PySem.W.keepIn K (.ref fr) = true) (bR : Binds K dr ["_law_m", "_law_row_here"] [])
    (B : FnOk P w K mg base CX0 k fb db ["_law_some"] spLbo) (gB : mg "_law_both" = some (.ref fb)) (kB : PySem.W.keepIn K (.ref fb) = true) (bB : Binds K db ["_law_some"] []) : FnOk P w K mg base CX0 (k + 1) f fd ["_law_m"] spLcu := by
  refine F.ok scLcu (fun vs H Q E ⟨m, d, n, r, ss, e, _⟩ => by rw [e]; rfl) (fun cdv A outer s H vs Q E hr h => ?_)
  have u1 : (A.deeper (envOfC "_law_cuts" (defScope sLcu) s.heap.objs.size f cdv)).units + 1 < cLine := by
    have := hr.units
    omega
  refine ⟨_, pss_cons (ps_if (pt_cmpR op_eq (pe_dget u1 (pv 0) pe_str (fun _ _ => rfl)) pe_int (nomark _)) (pss_one (ps_ret (pe_lst pa_nil))) pss_nil)
    (pss_cons (ps_set (i := 1) scLcu.nd rfl (Or.inl rfl) (pe_lst pa_nil))
    (pss_cons (ps_for PassesOwn.never rfl (pi_list (pe_call L hr (by rfl) gL kL bL .nil pass0 (pa_cons (pe_dget u1 (pv 0) pe_str (fun _ _ => rfl)) (pa_cons (pe_op op_sub (pe_dget u1 (pv 0) pe_str (fun _ _ => rfl)) pe_int) pa_nil)))) (pg_name (i := 2) scLcu.nd rfl (Or.inr rfl))
      (pss_one (ps_expr (pe_bm PySem.F.plainAttrs_list PySem.F.slot_list_append PySem.F.type_list_append mt_append (pv 1) (pa_cons
        (ZM.pe_bx (pe_lc (own := [("_law_thing", 3)]) (g := gName 3) (tt := tYes) rfl scLcu.nd (pi_range1 (by rfl) mr (pa_cons (pe_dget u1 (pv 0) pe_str (fun _ _ => rfl)) pa_nil)) (blkOk_by (N := nLcu) (sc := defScope sLcu) (by decide +kernel))
          (fun _ _ _ _ _ => pg_name (i := 3) scLcu.nd rfl (Or.inl rfl)) (fun _ _ _ _ _ => pts_nil)
          (fun _ _ _ _ _ => pe_call R hr (by rfl) gR kR bR .nil pass0 (pa_cons (pv 0) (pa_cons (pe_op (r := rCatA K) op_catA (pv 2) (pe_tup (pa_cons (pv 3) pa_nil))) pa_nil))))) pa_nil)))))
    (pss_one (ps_ret (pe_call B hr (by rfl) gB kB bB .nil pass0 (pa_cons (pv 1) pa_nil)))))), ?_⟩
  obtain ⟨m, d, n, r, ss, rfl, MO, q⟩ := h
  have n7 := MO.n7
  have rn := MO.rn
  refine ⟨_, rfl, m, _, rfl, MO.at_.rank, rfl, _, rfl, ?_⟩
  by_cases c : r = 0
  · refine if_t (decide_eq_true (by rw [c]; rfl)) ⟨Nat.zero_le _, fun D nD => q D [] _ (same_new nD) nD (rows_nil nD) ?_⟩
    unfold cutsF
    rw [if_pos c]
    rfl
  refine if_f (decide_eq_false (by intro z; injection z with z; omega)) ?_
  refine ⟨Nat.zero_le _, fun S nS => ?_⟩
  have s0 := same_new (o := .lst []) nS
  have hS0 : upd H S (.lst []) S = some (.lst []) := upd_same
  generalize upd H S (.lst []) = H0 at s0 hS0 ⊢
  have M0 := MO.same s0
  have c35 := combs_35 (n := n) (r := r - 1) n7 (by omega)
  have er : (r : Int) - 1 = ((r - 1 : Nat) : Int) := by omega
  refine ⟨_, rfl, m, _, rfl, M0.at_.things, _, rfl, m, _, rfl, M0.at_.rank, _, _, rfl, rfl, n, r - 1, by rw [← er]; rfl, n7, by omega, fun l ts H1 s1 nl hl1 LA => ?_⟩
  obtain ⟨lt, LG⟩ := lots_get LA
  have lS : l ≠ S := fun z => by rw [z, hS0] at nl; cases nl
  have M1 := M0.same s1
  have mS : m ≠ S := fun z => by have := MO.at_.m; rw [z, nS] at this; cases this
  have dS : d ≠ S := fun z => by have := MO.at_.d; rw [z, nS] at this; cases this
  have kM : ∀ H', But S H1 H' → ModAt H' m d n r ss := fun H' bu => ⟨bu _ _ mS M1.at_.m, bu _ _ dS M1.at_.d⟩
  refine ⟨l, rfl, ⟨_, SqL.of hl1⟩, for_list (K := K) (a := l) (fun i σ H' => ∃ x2 ks, σ = [some (.ref m), some (.ref S), x2, none] ∧ But S H1 H' ∧ ERows H' S ks ∧ ks.map (·.2) = (cutRows n r ss).take i)
    ⟨_, [], rfl, .refl, ⟨s1 _ _ hS0, fun q h => by simp at h⟩, rfl⟩ (fun i σ H' _ ⟨_, _, _, bu, _⟩ => SqL.of (bu _ _ lS hl1)) ?_ ?_⟩
  · rintro i x σ H2 hx ⟨x2, ks, rfl, bu, hE, ek⟩
    rw [List.getElem?_map] at hx
    obtain ⟨t, ht, rfl⟩ := Option.map_eq_some_iff.mp hx
    have il : i < ts.length := (List.getElem?_eq_some_iff.mp ht).1
    obtain ⟨lot, hlot, htl⟩ := LG i t ht
    have hlin := List.mem_of_getElem? hlot
    obtain ⟨ll, lb⟩ := combs_ok n7 (by omega) hlin
    have htl2 : H2 t = some (.tup (CB.lotV lot)) := bu _ _ (fun z => by rw [z, s1 _ _ hS0] at htl; cases htl) htl
    have ksl : ks.length = i := by
      have := congrArg List.length ek
      rw [List.length_map, List.length_take, cutRows, List.length_map] at this
      omega
    refine ⟨_, rfl, tyl hE.1, ?_⟩
    refine ZM.lcm_rng (n := n) (ys := (cutR (gT n r ss) n lot).map V.int) (fun R rr => ⟨_, rfl, m, _, rfl, (kM _ bu).things, rr⟩) (by omega) (by rw [List.length_map, cutR_len]) (fun _ => rfl) ?_ ?_
    · intro j y H3 R hj hy s3 hR
      rw [cutR, List.map_map, List.getElem?_map, List.getElem?_range hj] at hy
      cases hy
      refine ⟨_, rfl, _, rfl, _, rfl, by simp [sizeLine_eq], fun p np => ?_⟩
      have s4 := same_new (o := .tup [V.int (0 + (j : Int))]) np
      refine cat_any (s4 _ _ (s3 _ _ htl2)) upd_same (by rw [lotV_len, sizeLine_eq]; simp; omega) fun c5 H5 s5 hc5 => ?_
      have e2 : CB.lotV lot ++ [V.int (0 + (j : Int))] = (ci lot ++ [(j : Int)]).map V.int := by rw [lotV_ci, Int.zero_add, List.map_append]; rfl
      rw [e2] at hc5
      have bs : ∀ x ∈ ci lot ++ [(j : Int)], 0 ≤ x ∧ x < (n : Int) := fun x hx => by
        rcases List.mem_append.mp hx with h | h
        · obtain ⟨z, hz, rfl⟩ := List.mem_map.mp h
          have := lb z hz
          omega
        · rw [List.mem_singleton.mp h]; omega
      refine ⟨m, d, c5, n, r, ss, ci lot ++ [(j : Int)], rfl, (((kM _ bu).same s3).same s4).same s5, n7, rn, MO.len, MO.isS, .inr (SqT.of hc5), by rw [List.length_append, ci_len]; simp; omega, fun hs => here_of n7 rn MO.len (by rw [List.length_append, ci_len]; simp; omega) bs hs, fun H6 s6 => hR _ (s4.trans (s5.trans s6))⟩
    · intro R H3 s3 nR hR
      have hE3 := hE.same s3
      refine ⟨S, _, _, rfl, rfl, hE3.1, by rw [List.length_map, ksl, sizeLine_eq]; omega, _, ks ++ [(R, cutR (gT n r ss) n lot)], rfl, fun c o ne e => by rw [upd_ne ne]; exact s3 _ _ (bu _ _ ne e), ⟨by rw [upd_same, List.map_append]; rfl, fun z hz => ?_⟩, ?_⟩
      · have : SqE H3 z.1 z.2 := by
          rcases List.mem_append.mp hz with h | h
          · exact hE3.2 z h
          · rw [List.mem_singleton.mp h]
            exact .inl hR
        have zl : z.2.length = n := by
          rcases List.mem_append.mp hz with h | h
          · have := List.mem_map_of_mem (f := (·.2)) h
            rw [ek] at this
            exact cutRows_row _ (List.mem_of_mem_take this)
          · rw [List.mem_singleton.mp h]
            exact cutR_len _ _ _
        have ne : z.1 ≠ S := row_ne hE3.1 this (by omega)
        exact this.imp (fun h => by rw [upd_ne ne]; exact h) (fun h => by rw [upd_ne ne]; exact h)
      · rw [List.map_append, ek, List.take_add_one, cutRows, List.getElem?_map, hlot]
        rfl
  · rintro σ H2 ⟨x2, ks, rfl, bu, hE, ek⟩
    have s02 : Same H H2 := fun c o e => bu _ _ (fun z => by rw [z, nS] at e; cases e) (s1 _ _ (s0 _ _ e))
    rw [List.length_map, ← lt, show (CB.combs n (r - 1)).length = (cutRows n r ss).length by rw [cutRows, List.length_map], List.take_length] at ek
    have ksl : ks.length = (CB.combs n (r - 1)).length := by
      have := congrArg List.length ek
      rw [List.length_map, cutRows, List.length_map] at this
      exact this
    refine ⟨_, rfl, S, ks, n, rfl, hE, by omega, by omega, fun z hz => ?_, fun D2 ks2 H3 s3 nD2 hR2 e2 => q D2 ks2 H3 (s02.trans s3) ?_ hR2 (by rw [e2, ek]; unfold cutsF; rw [if_neg c])⟩
    · have := List.mem_map_of_mem (f := (·.2)) hz
      rw [ek] at this
      exact cutRows_row _ this
    · cases e : H D2 with
      | none => rfl
      | some o => rw [s02 _ _ e] at nD2; cases nD2
end
end K14

set_option maxHeartbeats 8000000
/-! The law of rings and cuts. -/
namespace K14
open PySem PySem.Spec PyProof.Rows L2 ROW SRB
abbrev sLaw : Stmt := topS 58
abbrev nLaw : List Str := ["_law_script", "_law_bag_here", "_law_turn", "_law_m", "_law_house9", "_law_due", "_law_again", "_law_found", "_law_bare", "_law_row_here"]
theorem scLaw : FnScope nLaw ["_law_script"] (defScope sLaw) := ⟨rfl, rfl, rfl, by decide +kernel, rfl, by decide +kernel, by decide +kernel⟩
def one {α : Type} : List α → List α → List α
  | [], [x] => [x]
  | _, _ => []
theorem kb_cu {K : PySem.W.Frag} {f : Addr} {fd : FuncData} (F : Fun K "cuts" "cuts" sCu f fd) : KBinds K fd ["house"] ["house"] one one := by
  obtain ⟨oc, od, kV, doc, pm, an, cdv, ct, osl, rfl, lk, hcd⟩ := F.ex
  refine ⟨fun s us ws _ hl => ?_, fun r1 r2 => ?_⟩
  · match us, ws, hl with
    | [], [w1], _ => exact .of_eq rfl
  · cases r1 with
    | cons _ _ => cases r2 <;> exact .nil
    | nil => cases r2 with
      | nil => exact .nil
      | cons a b => cases b with
        | nil => exact .cons a .nil
        | cons a2 b2 => exact .nil
def rowsDt (rs : List (List Int)) : Dt := .lst (rs.map fun r => .tup (r.map Dt.int))
theorem Has.rows {H : Hp} {D : Addr} {ks : List (Addr × List Int)} {rs : List (List Int)} {n k : Nat} (h : RowsAt H D ks) (e : ks.map (·.2) = rs) (hn : ∀ r ∈ rs, r.length = n) (n7 : n ≤ 63) (z : rs.length ≤ 1000) : Has H (k + 3) (.ref D) (rowsDt rs) := by
  subst e
  refine .lst h.1 (by simp) (by simp at z ⊢; omega) fun i x d h1 h2 => ?_
  rw [List.getElem?_map] at h1
  rw [List.getElem?_map, List.getElem?_map] at h2
  cases q : ks[i]? with
  | none => rw [q] at h1; cases h1
  | some v =>
    rw [q] at h1 h2
    have e1 : V.ref v.1 = x := Option.some.inj h1
    have e2 : Dt.tup (v.2.map Dt.int) = d := Option.some.inj h2
    rw [← e1, ← e2]
    have vm := List.mem_of_getElem? q
    exact Has.tints (h.2 v vm) (by rw [hn v.2 (List.mem_map_of_mem vm)]; omega)
theorem opp_isS {r : List Int} (h : r.all isS = true) : (opp r).all isS = true := by
  unfold opp
  rw [List.all_map, List.all_eq_true]
  intro x hx
  have := isS_un (List.all_eq_true.mp h x hx)
  refine isS_of ?_
  unfold unit3 at *
  show -x = 0 ∨ -x = 1 ∨ -x = -1
  omega
theorem bothL_S {rs : List (List Int)} (h : ∀ r ∈ rs, r.all isS = true) : ∀ r ∈ bothL rs, r.all isS = true ∧ nzR r = true := by
  intro r hr
  obtain ⟨hr, nz⟩ := List.mem_filter.mp ((CAN.mem_canon r _).mp hr)
  refine ⟨?_, nz⟩
  rcases List.mem_append.mp hr with h1 | h1
  · exact h r h1
  · obtain ⟨s, hs, rfl⟩ := List.mem_map.mp h1
    exact opp_isS (h s hs)
theorem cutRows_S {n r : Nat} {ss : List Int} (ha : ss.all isS = true) : ∀ c ∈ cutRows n r ss, c.all isS = true := fun c hc => by
  obtain ⟨l, _, rfl⟩ := List.mem_map.mp hc
  unfold cutR
  rw [List.all_map, List.all_eq_true]
  intro t _
  exact isS_of (readI_un (fun ms => (gT_ok ha ms).2) _)
theorem cutsF_S {n r : Nat} {ss : List Int} (ha : ss.all isS = true) : ∀ c ∈ cutsF n r ss, c.all isS = true ∧ nzR c = true := fun c hc => by
  unfold cutsF at hc
  split at hc
  · cases hc
  · exact bothL_S (cutRows_S ha) c hc
theorem fst_nz : ∀ {r : List Int}, nzR r = true → fst r ≠ 0
  | [], h => by cases h
  | x :: r, h => by
    unfold fst
    by_cases c : x = 0
    · rw [if_neg (by simp [c])]
      refine fst_nz ?_
      unfold nzR at h ⊢
      rw [List.any_cons, c] at h
      exact h
    · rw [if_pos c]; exact c
theorem norm_iff {c : List Int} (hs : c.all isS = true) (nz : nzR c = true) : decide (norm c = c) = (fst c == 1) := by
  have f0 := fst_nz nz
  have fu := fst_isS hs
  unfold unit3 at fu
  by_cases f1 : fst c = 1
  · have : norm c = c := by
      unfold norm
      rw [if_neg f0, f1]
      simp
    rw [decide_eq_true this, f1]
    rfl
  · have f2 : fst c = -1 := by omega
    have : norm c ≠ c := fun e => by
      have e2 : fst (norm c) = fst c * fst c := by
        unfold norm
        rw [if_neg f0, f2]
        exact (fst_map (c := -1) (by decide) c).trans (by rw [f2])
      rw [e, f2] at e2
      cases e2
    rw [decide_eq_false this, beq_eq_false_iff_ne.mpr f1]
theorem v_r : ringsF 1 0 [1] = [[-1], [1]] := by decide +kernel
theorem v_c : cutsF 1 0 [1] = [] := by decide +kernel
theorem v_h : halfF 1 1 [1] = [[1]] := by decide +kernel
theorem mk0 : houseF 1 0 [1] = true := by decide +kernel
theorem mk1 : houseF 1 1 [1] = true := by decide +kernel
theorem sz {n : Nat} (h : n ≤ 1000) : n ≤ sizeLine := by
  rw [sizeLine_eq]
  omega
section
variable {P : Program} {w : World} {K : PySem.W.Frag} {mg : Str → Option Value} {base : Heap} {CH : Addr}
theorem ok_law {f : Addr} {fd : FuncData} (F : Fun K "law" "law" sLaw f fd) (T : TS1 mg) (TH : TxH K mg CH)
    (Bg : Ent P w K mg base 11 "_law_bag" ["_law_script"] (spBag K)) (Sm : Ent P w K mg base 11 "_law_same" ["_law_found", "_law_due"] (spSame 11)) (No : Ent P w K mg base 11 "_law_normal" ["_law_signs"] (spNo K))
    (Dr : Ent P w K mg base 11 "_law_drawn" ["_law_bag_here", "_law_most"] spDr) (Hs : Ent P w K mg base 11 "_law_house" ["_law_bag_here", "_law_m"] (spLh CH))
    (Lr : Ent P w K mg base 11 "_law_rings" ["_law_m"] spLrg) (Lc : Ent P w K mg base 11 "_law_cuts" ["_law_m"] spLcu)
    (Rg : Ent P w K mg base 11 "rings" ["house"] (spRg CH)) (Cu : Ent P w K mg base 11 "cuts" ["house"] (spCu CH)) (kC : KBinds K Cu.fd ["house"] ["house"] one one) (Hc : Ent P w K mg base 11 "half_cuts" ["house"] (spHc CH))
    {fi : Addr} {di : FuncData} (Mk : Mk K CH fi) (I : FnOk P w K mg base CX0 10 fi di ["self", "things", "rank", "signs"] (spHi CH)) (bI : Binds K di ["self", "things", "rank", "signs"] []) : FnOk P w K mg base CX0 12 f fd ["_law_script"] (spLaw K) := by
  refine F.ok scLaw (fun vs H Q E ⟨a, ns, e, _⟩ => by rw [e]; rfl) (fun cdv A outer s H vs Q E hr h => ?_)
  refine ⟨_, pss_cons (ps_set (i := 1) scLaw.nd rfl (Or.inl rfl) (pe_call Bg.ok hr (by rfl) Bg.g Bg.k Bg.b .nil pass0 (pa_cons (pv 0) pa_nil)))
    (pss_cons (ps_for PassesOwn.never rfl (pi_range1 (by rfl) T.range (pa_cons pe_int pa_nil)) (pg_name (i := 2) scLaw.nd rfl (Or.inl rfl))
      (pss_cons (ps_set (i := 3) scLaw.nd rfl (Or.inl rfl) (pe_call Dr.ok hr (by rfl) Dr.g Dr.k Dr.b .nil pass0 (pa_cons (pv 1) (pa_cons pe_int pa_nil))))
      (pss_cons (ps_set (i := 4) scLaw.nd rfl (Or.inl rfl) (pe_call Hs.ok hr (by rfl) Hs.g Hs.k Hs.b .nil pass0 (pa_cons (pv 1) (pa_cons (pv 3) pa_nil))))
      (pss_cons (ps_set (i := 5) scLaw.nd rfl (Or.inl rfl) (pe_lst (pa_cons (pe_call Lr.ok hr (by rfl) Lr.g Lr.k Lr.b .nil pass0 (pa_cons (pv 3) pa_nil)) (pa_cons (pe_call Lc.ok hr (by rfl) Lc.g Lc.k Lc.b .nil pass0 (pa_cons (pv 3) pa_nil)) (pa_cons
          (ZM.pe_bx (pe_lc (own := [("_law_row_here", 9)]) (g := gName 9) (te := tVar 9) rfl scLaw.nd (pi_list (pe_call Lc.ok hr (by rfl) Lc.g Lc.k Lc.b .nil pass0 (pa_cons (pv 3) pa_nil))) (blkOk_by (N := nLaw) (sc := defScope sLaw) (by decide +kernel))
            (fun _ _ _ _ _ => pg_name (i := 9) scLaw.nd rfl (Or.inl rfl)) (fun _ _ _ _ _ => pts_one (pt_cmpR (r := rEqD K) (op_eqD hr.units) (pe_call No.ok hr (by rfl) No.g No.k No.b .nil pass0 (pa_cons (pv 9) pa_nil)) (pv 9) (nomark _))) (fun _ _ _ _ _ => pv 9))) pa_nil)))))
      (pss_one (ps_for PassesOwn.never rfl (pi_range1 (by rfl) T.range (pa_cons pe_int pa_nil)) (pg_name (i := 6) scLaw.nd rfl (Or.inl rfl))
        (pss_cons (ps_set (i := 7) scLaw.nd rfl (Or.inl rfl) (pe_lst (pa_cons (pe_call Rg.ok hr (by rfl) Rg.g Rg.k Rg.b .nil pass0 (pa_cons (pv 4) pa_nil)) (pa_cons (pe_callKw Cu.ok hr (by rfl) Cu.g Cu.k kC pass0 (pk_cons (pv 4) pk_nil)) (pa_cons (pe_call Hc.ok hr (by rfl) Hc.g Hc.k Hc.b .nil pass0 (pa_cons (pv 4) pa_nil)) pa_nil)))))
        (pss_cons (ps_if (pt_not (pt_val (pe_call Sm.ok hr (by rfl) Sm.g Sm.k Sm.b .nil pass0 (pa_cons (pv 7) (pa_cons (pv 5) pa_nil))))) (pss_one (ps_ret pe_bl)) pss_nil)
        (pss_cons (ps_expr (pe_bm PySem.F.plainAttrs_list PySem.F.slot_list_append PySem.F.type_list_append mt_append (pe_ix ix_list (pv 7) pe_int (fun _ _ => rfl)) (pa_cons (pe_tup pa_nil) pa_nil)))
        (pss_cons (ps_expr (pe_bm0 PySem.F.plainAttrs_list PySem.F.slot_list_clear PySem.F.type_list_clear mt_clear (pe_ix ix_list (pv 7) pe_int (fun _ _ => rfl))))
        (pss_one (ps_expr (pe_bm PySem.F.plainAttrs_list PySem.F.slot_list_append PySem.F.type_list_append mt_append (pe_ix ix_list (pv 7) pe_int (fun _ _ => rfl)) (pa_cons (pe_tup pa_nil) pa_nil))))))))))))))
    (pss_cons (ps_set (i := 8) scLaw.nd rfl (Or.inl rfl) (pe_make Mk I hr (by rfl) TH.gC bI .nil pass0 (pa_cons pe_int (pa_cons pe_int (pa_cons (pe_lst (pa_cons pe_int pa_nil)) pa_nil)))))
    (pss_one (ps_ret (pe_call Sm.ok hr (by rfl) Sm.g Sm.k Sm.b .nil pass0 (pa_cons
      (pe_lst (pa_cons (pe_call Rg.ok hr (by rfl) Rg.g Rg.k Rg.b .nil pass0 (pa_cons (pv 8) pa_nil)) (pa_cons (pe_call Cu.ok hr (by rfl) Cu.g Cu.k Cu.b .nil pass0 (pa_cons (pv 8) pa_nil)) (pa_cons
        (pe_call Hc.ok hr (by rfl) Hc.g Hc.k Hc.b .nil pass0 (pa_cons (pe_make Mk I hr (by rfl) TH.gC bI .nil pass0 (pa_cons pe_int (pa_cons pe_int (pa_cons (pe_lst (pa_cons pe_int pa_nil)) pa_nil)))) pa_nil)) pa_nil))))
      (pa_cons (pe_lst (pa_cons (pe_lst (pa_cons (pe_tup (pa_cons (pe_un un_neg pe_int) pa_nil)) (pa_cons (pe_tup (pa_cons pe_int pa_nil)) pa_nil))) (pa_cons (pe_lst pa_nil) (pa_cons (pe_lst (pa_cons (pe_tup (pa_cons pe_int pa_nil)) pa_nil)) pa_nil)))) pa_nil))))))), ?_⟩
  obtain ⟨a, ns0, rfl, hS, hlen, q⟩ := h
  refine ⟨_, rfl, a, ns0, rfl, hS, fun H1 l b ms s1 nl nb B => ?_⟩
  refine ⟨4, rfl, by decide, by decide, for_range (lo := 0) (n := 4) (fun i σ H' => ∃ x2 x3 x4 x5 x6 x7 x8, σ = [some (.ref a), some (.ref b), x2, x3, x4, x5, x6, x7, x8, none] ∧ BagAt l ms H' b) ⟨none, none, none, none, none, none, none, rfl, B⟩ ?_ ?_⟩
  · clear B s1
    rintro i σ H2 hi ⟨x2, x3, x4, x5, x6, x7, x8, rfl, B⟩
    obtain ⟨bx2, hb2⟩ := B.at
    refine ⟨_, rfl, b, l, ms, 7, rfl, B, by decide, by decide, fun m d H3 n r ss bu3 B3 hM n7 rn hl ha hh hn => ?_⟩
    obtain ⟨bx3, hb3⟩ := B3.at
    refine ⟨_, rfl, _, rfl, b, l, m, d, ms, n, r, ss, rfl, B3, hM, n7, rn, hl, ha, hh, hn, fun p H4 bu4 B4 np hO => ?_⟩
    have M4 : ModOk H4 m d n r ss := ⟨hM.but hb3 bu4, n7, rn, hl, ha⟩
    have O4 : HouseOk CH H4 p n r ss := ⟨hO, n7, rn, ha⟩
    have lr := ringsF_len (ss := ss) n7 rn
    have lc := cutsF_len (ss := ss) n7 rn
    have lh : (halfF n r ss).length ≤ 70 := Nat.le_trans (List.length_filter_le _ _) lc
    have rh : ∀ c ∈ halfF n r ss, c.length = n := fun c hc => cutsF_row c (List.mem_filter.mp hc).1
    clear B B3 hM hO hb2 hb3 bu3 bu4 np
    refine ⟨_, rfl, m, d, n, r, ss, rfl, M4, fun D1 k1 H5 s5 nD1 hR1 e1 => ?_⟩
    refine ⟨_, rfl, m, d, n, r, ss, rfl, M4.same s5, fun D2 k2 H6 s6 nD2 hR2 e2 => ?_⟩
    refine lc_preL (fun D H7 => Same H6 H7 ∧ ∃ k3, RowsAt H7 D k3 ∧ k3.map (·.2) = cutsF n r ss) (fun R rr => ⟨_, rfl, m, d, n, r, ss, rfl, M4.same (s5.trans s6), fun D3 k3 H7 s7 nD3 hR3 e3 => rr D3 H7 ⟨s7, k3, hR3, e3⟩⟩) ?_
    rintro D3 H7 ⟨s7, k3, hR3, e3⟩
    have mem3 : ∀ x ∈ k3, x.2 ∈ cutsF n r ss := fun x hx => by rw [← e3]; exact List.mem_map_of_mem hx
    have k3l : k3.length ≤ 70 := by rw [← e3, List.length_map] at lc; exact lc
    refine rows_fil (fun c => fst c == 1) (fun R r => r) hR3 (by omega) (fun _ => rfl) (show 9 < 10 by decide) ?_ ?_
    · intro x H8 R hx s8 hR
      have hx3 := mem3 x hx
      obtain ⟨xs, xn⟩ := cutsF_S ha x.2 hx3
      refine ⟨_, rfl, x.1, x.2, rfl, .inr (s8 _ _ (hR3.2 x hx)), by rw [cutsF_row _ hx3]; omega, xs, fun t H9 s9 ht => ?_⟩
      refine ⟨_, rfl, DL.ti (norm x.2), DL.ti x.2, dp_ti (SqT.of ht), dp_ti (SqT.of (s9 _ _ (s8 _ _ (hR3.2 x hx)))), DL.sh_ti _, DL.sh_ti _, _, rfl, ?_⟩
      rw [DL.eqv_ti, norm_iff xs xn]
      exact hR _ s9
    intro D4 H8 s8 nD4 hR4
    have e4 : (k3.filter fun q => fst q.2 == 1).map (·.2) = halfF n r ss := by
      unfold halfF
      rw [← e3, List.filter_map]
      rfl
    refine ⟨sz (by show 3 ≤ 1000; decide), fun W nW => ?_⟩
    have sW := same_new (o := .lst [.ref D1, .ref D2, .ref D4]) nW
    have hasL : ∀ {H' : Hp} {w d1 d2 d3 : Addr} {j1 j2 j3 : List (Addr × List Int)}, H' w = some (.lst [.ref d1, .ref d2, .ref d3]) → RowsAt H' d1 j1 → j1.map (·.2) = ringsF n r ss → RowsAt H' d2 j2 → j2.map (·.2) = cutsF n r ss → RowsAt H' d3 j3 → j3.map (·.2) = halfF n r ss → Has H' 11 (.ref w) (.lst [rowsDt (ringsF n r ss), rowsDt (cutsF n r ss), rowsDt (halfF n r ss)]) :=
      fun {H' w d1 d2 d3 j1 j2 j3} h0 h1 g1 h2 g2 h3 g3 => Has.mkL (n := 10) h0 (by simp) (.cons (Has.rows (k := 7) h1 g1 ringsF_row (by omega) (by omega)) (.cons (Has.rows (k := 7) h2 g2 cutsF_row (by omega) (by omega)) (.cons (Has.rows (k := 7) h3 g3 rh (by omega) (by omega)) .nil)))
    have hasW := hasL (H' := upd H8 W (.lst [.ref D1, .ref D2, .ref D4])) upd_same (hR1.same (s6.trans (s7.trans (s8.trans sW)))) e1 (hR2.same (s7.trans (s8.trans sW))) e2 (hR4.same sW) e4
    have s48 := s5.trans (s6.trans (s7.trans (s8.trans sW)))
    have O8 : HouseOk CH (upd H8 W (.lst [.ref D1, .ref D2, .ref D4])) p n r ss := ⟨O4.at_.same s48, n7, rn, ha⟩
    have B8 := B4.same s48
    clear B4 M4 O4 hR1 hR2 hR3 hR4 e1 e2 e3 e4 mem3 s5 s6 s7 s8 sW s48 nW nD1 nD2 nD4
    generalize upd H8 W (.lst [.ref D1, .ref D2, .ref D4]) = H9 at *
    refine ⟨2, rfl, by decide, by decide, for_range (lo := 0) (n := 2) (fun i σ H' => ∃ x2 x6 x7, σ = [some (.ref a), some (.ref b), x2, some (.ref m), some (.ref p), some (.ref W), x6, x7, x8, none] ∧ Same H9 H') ⟨_, _, _, rfl, Same.refl _⟩ ?_ ?_⟩
    · rintro i2 σ H10 hi2 ⟨x2, x6, x7, rfl, s9⟩
      have O10 : HouseOk CH H10 p n r ss := ⟨O8.at_.same s9, n7, rn, ha⟩
      refine ⟨_, rfl, p, n, r, ss, rfl, O10, fun E1 k1 H11 s10 nE1 hR1 e1 => ?_⟩
      refine ⟨_, rfl, p, n, r, ss, rfl, ⟨O10.at_.same s10, n7, rn, ha⟩, fun E2 k2 H12 s11 nE2 hR2 e2 => ?_⟩
      refine ⟨_, rfl, p, n, r, ss, rfl, ⟨O10.at_.same (s10.trans s11), n7, rn, ha⟩, fun E3 k3 H13 s12 nE3 hR3 e3 => ?_⟩
      refine ⟨sz (by show 3 ≤ 1000; decide), fun F0 nF => ?_⟩
      have sF := same_new (o := .lst [.ref E1, .ref E2, .ref E3]) nF
      have hF := upd_same (H := H13) (a := F0) (o := .lst [.ref E1, .ref E2, .ref E3])
      have hR1' := hR1.same (s11.trans (s12.trans sF))
      have hR2' := hR2.same (s12.trans sF)
      have hR3' := hR3.same sF
      have ne12 : E1 ≠ E2 := fun z => by have := hR1.1; rw [z, nE2] at this; cases this
      have ne13 : E1 ≠ E3 := fun z => by have := s11 _ _ hR1.1; rw [z, nE3] at this; cases this
      have ne23 : E2 ≠ E3 := fun z => by have := hR2.1; rw [z, nE3] at this; cases this
      have nF1 : F0 ≠ E1 := fun z => by have := s12 _ _ (s11 _ _ hR1.1); rw [← z, nF] at this; cases this
      have nF2 : F0 ≠ E2 := fun z => by have := s12 _ _ hR2.1; rw [← z, nF] at this; cases this
      have nF3 : F0 ≠ E3 := fun z => by have := hR3.1; rw [← z, nF] at this; cases this
      have sA := s10.trans (s11.trans (s12.trans sF))
      have old : ∀ c, H10 c ≠ none → c ≠ E1 ∧ c ≠ E2 ∧ c ≠ E3 := fun c hc => by
        refine ⟨fun z => hc (z ▸ nE1), fun z => ?_, fun z => ?_⟩
        · cases e : H10 c with
          | none => exact hc e
          | some o => rw [z] at e; rw [s10 _ _ e] at nE2; cases nE2
        · cases e : H10 c with
          | none => exact hc e
          | some o => rw [z] at e; rw [s11 _ _ (s10 _ _ e)] at nE3; cases nE3
      have k1l : k1.length ≤ 70 := by rw [← e1, List.length_map] at lr; exact lr
      have k2l : k2.length ≤ 70 := by rw [← e2, List.length_map] at lc; exact lc
      have k3l : k3.length ≤ 70 := by rw [← e3, List.length_map] at lh; exact lh
      clear O10 s10 s11 s12 sF nE1 nE2 nE3 nF hR1 hR2 hR3
      generalize upd H13 F0 (.lst [.ref E1, .ref E2, .ref E3]) = H14 at *
      refine ⟨_, rfl, _, rfl, .ref F0, .ref W, _, rfl, hasL hF hR1' e1 hR2' e2 hR3' e3, hasW.same (s9.trans sA), fun H15 s15 => ⟨true, rfl, iteF ?_⟩⟩
      have hF := s15 _ _ hF
      have hE1 := s15 _ _ hR1'.1
      have hE2 := s15 _ _ hR2'.1
      have hE3 := s15 _ _ hR3'.1
      have sB := sA.trans s15
      -- found[0].append(())
      refine ⟨_, rfl, F0, _, 0, _, rfl, rfl, SqL.of hF, rfl, tyl hE1, Nat.zero_le _, fun t nt => ?_⟩
      have q1 := same_new (o := .tup []) nt
      refine ⟨E1, _, _, rfl, rfl, q1 _ _ hE1, by rw [List.length_map, sizeLine_eq]; omega, ?_⟩
      have hF2 : upd (upd H15 t (.tup [])) E1 (.lst (k1.map (fun q => V.ref q.1) ++ [V.ref t])) F0 = some (.lst [.ref E1, .ref E2, .ref E3]) := by rw [upd_ne nF1]; exact q1 _ _ hF
      have hE22 : upd (upd H15 t (.tup [])) E1 (.lst (k1.map (fun q => V.ref q.1) ++ [V.ref t])) E2 = some (.lst (k2.map fun q => V.ref q.1)) := by rw [upd_ne ne12.symm]; exact q1 _ _ hE2
      have hE32 : upd (upd H15 t (.tup [])) E1 (.lst (k1.map (fun q => V.ref q.1) ++ [V.ref t])) E3 = some (.lst (k3.map fun q => V.ref q.1)) := by rw [upd_ne ne13.symm]; exact q1 _ _ hE3
      have k16 : ∀ c o, H10 c = some o → upd (upd H15 t (.tup [])) E1 (.lst (k1.map (fun q => V.ref q.1) ++ [V.ref t])) c = some o := fun c o e => by
        rw [upd_ne (old c (by rw [e]; simp)).1]
        exact q1 _ _ (sB _ _ e)
      generalize upd (upd H15 t (.tup [])) E1 (.lst (k1.map (fun q => V.ref q.1) ++ [V.ref t])) = H16 at *
      -- found[1].clear()
      refine ⟨_, rfl, F0, _, 1, _, rfl, rfl, SqL.of hF2, rfl, tyl hE22, E2, _, rfl, rfl, hE22, ?_⟩
      have hF3 : upd H16 E2 (.lst []) F0 = some (.lst [.ref E1, .ref E2, .ref E3]) := by rw [upd_ne nF2]; exact hF2
      have hE33 : upd H16 E2 (.lst []) E3 = some (.lst (k3.map fun q => V.ref q.1)) := by rw [upd_ne ne23.symm]; exact hE32
      have k17 : ∀ c o, H10 c = some o → upd H16 E2 (.lst []) c = some o := fun c o e => by
        rw [upd_ne (old c (by rw [e]; simp)).2.1]
        exact k16 _ _ e
      generalize upd H16 E2 (.lst []) = H17 at *
      -- found[2].append(())
      refine ⟨_, rfl, F0, _, 2, _, rfl, rfl, SqL.of hF3, rfl, tyl hE33, Nat.zero_le _, fun t2 nt2 => ?_⟩
      have q2 := same_new (o := .tup []) nt2
      refine ⟨E3, _, _, rfl, rfl, q2 _ _ hE33, by rw [List.length_map, sizeLine_eq]; omega, ?_⟩
      refine ⟨_, _, _, rfl, s9.trans fun c o e => ?_⟩
      rw [upd_ne (old c (by rw [e]; simp)).2.2]
      exact q2 _ _ (k17 _ _ e)
    · rintro σ H10 ⟨x2, x6, x7, rfl, s9⟩
      exact ⟨_, _, _, _, _, _, _, rfl, B8.same s9⟩
  · rintro σ H2 ⟨x2, x3, x4, x5, x6, x7, x8, rfl, B⟩
    refine ⟨sz (by show 1 ≤ 1000; decide), fun t1 n1 x1 dx1 nx1 ndx1 ne1 => ?_⟩
    have s3 : Same (upd H2 t1 (.lst [V.int 1])) (upd (upd (upd H2 t1 (.lst [V.int 1])) dx1 (.own x1)) x1 (.ins CH dx1 [])) := (same_new ndx1).trans (same_new (by rw [upd_ne ne1.symm]; exact nx1))
    refine ⟨x1, dx1, 1, 0, t1, [1], rfl, upd_same, by decide, by decide, .inl (s3 _ _ upd_same), by decide +kernel, by decide +kernel, mk0, fun H3 _ hO1 => ⟨rfl, ?_⟩⟩
    have O3 : HouseOk CH H3 x1 1 0 [1] := ⟨hO1, by decide, by decide, by decide +kernel⟩
    refine ⟨_, rfl, x1, 1, 0, [1], rfl, O3, fun E1 k1 H4 s4 nE1 hR1 e1 => ?_⟩
    refine ⟨_, rfl, x1, 1, 0, [1], rfl, ⟨O3.at_.same s4, by decide, by decide, by decide +kernel⟩, fun E2 k2 H5 s5 nE2 hR2 e2 => ?_⟩
    refine ⟨sz (by show 1 ≤ 1000; decide), fun t2 n2 y1 dy1 ny1 ndy1 ne2 => ?_⟩
    have s6 : Same (upd H5 t2 (.lst [V.int 1])) (upd (upd (upd H5 t2 (.lst [V.int 1])) dy1 (.own y1)) y1 (.ins CH dy1 [])) := (same_new ndy1).trans (same_new (by rw [upd_ne ne2.symm]; exact ny1))
    refine ⟨y1, dy1, 1, 1, t2, [1], rfl, upd_same, by decide, by decide, .inl (s6 _ _ upd_same), by decide +kernel, by decide +kernel, mk1, fun H7 k7 hO2 => ⟨rfl, ?_⟩⟩
    have s57 : Same H5 H7 := fun c o e => k7 _ _ (s6 _ _ (same_new n2 _ _ e)) (fun z => by rw [z] at e; rw [same_new n2 _ _ e] at ny1; cases ny1)
    refine ⟨y1, 1, 1, [1], rfl, ⟨hO2, by decide, by decide, by decide +kernel⟩, fun E3 k3 H8 s8 nE3 hR3 e3 => ?_⟩
    rw [v_r] at e1
    rw [v_c] at e2
    rw [v_h] at e3
    refine ⟨sz (by show 3 ≤ 1000; decide), fun F0 nF => ?_⟩
    have sF := same_new (o := .lst [.ref E1, .ref E2, .ref E3]) nF
    have hF := upd_same (H := H8) (a := F0) (o := .lst [.ref E1, .ref E2, .ref E3])
    have hR1' := hR1.same (s5.trans (s57.trans (s8.trans sF)))
    have hR2' := hR2.same (s57.trans (s8.trans sF))
    have hR3' := hR3.same sF
    generalize upd H8 F0 (.lst [.ref E1, .ref E2, .ref E3]) = H9 at *
    refine ⟨_, rfl, sz (by show 1 ≤ 1000; decide), fun u1 m1 => ⟨sz (by show 1 ≤ 1000; decide), fun u2 m2 => ⟨sz (by show 2 ≤ 1000; decide), fun u3 m3 => ⟨Nat.zero_le _, fun u4 m4 => ⟨sz (by show 1 ≤ 1000; decide), fun u5 m5 => ⟨sz (by show 1 ≤ 1000; decide), fun u6 m6 => ⟨sz (by show 3 ≤ 1000; decide), fun u7 m7 => ?_⟩⟩⟩⟩⟩⟩⟩
    have z1 := same_new (o := .tup [V.int (-1)]) m1
    have z2 := same_new (o := .tup [V.int 1]) m2
    have z3 := same_new (o := .lst [V.ref u1, V.ref u2]) m3
    have z4 := same_new (o := .lst []) m4
    have z5 := same_new (o := .tup [V.int 1]) m5
    have z6 := same_new (o := .lst [V.ref u5]) m6
    have z7 := same_new (o := .lst [V.ref u3, V.ref u4, V.ref u6]) m7
    have z47 := z4.trans (z5.trans (z6.trans z7))
    have z37 := z3.trans z47
    have zA := z1.trans (z2.trans z37)
    have hasL : ∀ {H' : Hp} {w d1 d2 d3 : Addr} {j1 j2 j3 : List (Addr × List Int)}, H' w = some (.lst [.ref d1, .ref d2, .ref d3]) → RowsAt H' d1 j1 → j1.map (·.2) = [[-1], [1]] → RowsAt H' d2 j2 → j2.map (·.2) = [] → RowsAt H' d3 j3 → j3.map (·.2) = [[1]] → Has H' 11 (.ref w) (.lst [rowsDt [[-1], [1]], rowsDt [], rowsDt [[1]]]) :=
      fun {H' w d1 d2 d3 j1 j2 j3} h0 h1 g1 h2 g2 h3 g3 => Has.mkL (n := 10) h0 (by simp) (.cons (Has.rows (n := 1) (k := 7) h1 g1 (by simp) (by omega) (by simp)) (.cons (Has.rows (n := 1) (k := 7) h2 g2 (by simp) (by omega) (by simp)) (.cons (Has.rows (n := 1) (k := 7) h3 g3 (by simp) (by omega) (by simp)) .nil)))
    refine ⟨.ref F0, .ref u7, _, rfl, hasL (zA _ _ hF) (hR1'.same zA) e1 (hR2'.same zA) e2 (hR3'.same zA) e3, hasL upd_same (j1 := [(u1, [-1]), (u2, [1])]) ⟨z47 _ _ upd_same, ?_⟩ rfl (j2 := []) ⟨z7 _ _ (z6 _ _ (z5 _ _ upd_same)), by simp⟩ rfl (j3 := [(u5, [1])]) ⟨z7 _ _ upd_same, ?_⟩ rfl, fun H10 _ => q H10⟩
    · intro x hx
      rcases List.mem_cons.mp hx with e | e
      · rw [e]; exact z37 _ _ (z2 _ _ upd_same)
      · rw [List.mem_singleton.mp e]; exact z37 _ _ upd_same
    · intro x hx
      rw [List.mem_singleton.mp hx]
      exact z7 _ _ (z6 _ _ upd_same)
end
end K14

set_option maxHeartbeats 8000000
namespace K14
open PySem PySem.Spec PyProof.Rows L2
theorem all_mk {l : PySem.W.OpenLaw} {w : World} {K : PySem.W.Frag} {h : Heap} {mg : Str → Option Value} {fa f1 f2 f3 f4 f5 f6 f7 f8 f9 f10 f11 f12 f13 f14 f15 f16 f17 f18 f19 f20 f21 f22 f23 f24 f25 f26 f27 f28 f29 f30 f31 f32 f33 f34 f35 f36 f37 f38 f39 f40 f41 f42 m1 m2 m3 m4 aS CH : Addr} (X : K.In h) (G : h.Ns mainGlobals mg) (hfa : mg "law" = some (.ref fa))
    {od1 an1 od2 an2 od3 an3 od4 an4 od5 an5 od6 an6 od7 an7 od8 an8 od9 an9 od10 an10 od11 an11 od12 an12 od13 an13 od14 an14 od15 an15 od16 an16 od17 an17 od18 an18 od19 an19 od20 an20 od21 an21 od22 an22 od23 an23 od24 an24 od25 an25 od26 an26 od27 an27 od28 an28 od29 an29 od30 an30 od31 an31 od32 an32 od33 an33 od34 an34 od35 an35 od36 an36 od37 an37 od38 an38 od39 an39 od40 an40 od41 an41 od42 an42 odm1 anm1 odm2 anm2 odm3 anm3 odm4 anm4 odS : Option Addr} {sl1 sl2 sl3 sl4 sl5 sl6 sl7 sl8 sl9 sl10 sl11 sl12 sl13 sl14 sl15 sl16 sl17 sl18 sl19 sl20 sl21 sl22 sl23 sl24 sl25 sl26 sl27 sl28 sl29 sl30 sl31 sl32 sl33 sl34 sl35 sl36 sl37 sl38 sl39 sl40 sl41 sl42 slm1 slm2 slm3 slm4 slS : Array (Option Value)} {oc1 kV1 dc1 pm1 cd1 ct1 oc2 kV2 dc2 pm2 cd2 ct2 oc3 kV3 dc3 pm3 cd3 ct3 oc4 kV4 dc4 pm4 cd4 ct4 oc5 kV5 dc5 pm5 cd5 ct5 oc6 kV6 dc6 pm6 cd6 ct6 oc7 kV7 dc7 pm7 cd7 ct7 oc8 kV8 dc8 pm8 cd8 ct8 oc9 kV9 dc9 pm9 cd9 ct9 oc10 kV10 dc10 pm10 cd10 ct10 oc11 kV11 dc11 pm11 cd11 ct11 oc12 kV12 dc12 pm12 cd12 ct12 oc13 kV13 dc13 pm13 cd13 ct13 oc14 kV14 dc14 pm14 cd14 ct14 oc15 kV15 dc15 pm15 cd15 ct15 oc16 kV16 dc16 pm16 cd16 ct16 oc17 kV17 dc17 pm17 cd17 ct17 oc18 kV18 dc18 pm18 cd18 ct18 oc19 kV19 dc19 pm19 cd19 ct19 oc20 kV20 dc20 pm20 cd20 ct20 oc21 kV21 dc21 pm21 cd21 ct21 oc22 kV22 dc22 pm22 cd22 ct22 oc23 kV23 dc23 pm23 cd23 ct23 oc24 kV24 dc24 pm24 cd24 ct24 oc25 kV25 dc25 pm25 cd25 ct25 oc26 kV26 dc26 pm26 cd26 ct26 oc27 kV27 dc27 pm27 cd27 ct27 oc28 kV28 dc28 pm28 cd28 ct28 oc29 kV29 dc29 pm29 cd29 ct29 oc30 kV30 dc30 pm30 cd30 ct30 oc31 kV31 dc31 pm31 cd31 ct31 oc32 kV32 dc32 pm32 cd32 ct32 oc33 kV33 dc33 pm33 cd33 ct33 oc34 kV34 dc34 pm34 cd34 ct34 oc35 kV35 dc35 pm35 cd35 ct35 oc36 kV36 dc36 pm36 cd36 ct36 oc37 kV37 dc37 pm37 cd37 ct37 oc38 kV38 dc38 pm38 cd38 ct38 oc39 kV39 dc39 pm39 cd39 ct39 oc40 kV40 dc40 pm40 cd40 ct40 oc41 kV41 dc41 pm41 cd41 ct41 oc42 kV42 dc42 pm42 cd42 ct42 ocm1 kVm1 dcm1 pmm1 cdm1 ctm1 ocm2 kVm2 dcm2 pmm2 cdm2 ctm2 ocm3 kVm3 dcm3 pmm3 cdm3 ctm3 ocm4 kVm4 dcm4 pmm4 cdm4 ctm4 : Value} {tM ts1 ts2 ts3 : Tok} {nS : Nat}
    (a1 : PySem.W.nsIn K mainGlobals "lots" = some (some (.ref f1)))
    (l1 : K.lookup f1 = some ⟨oc1, od1, .func (PySem.W.fnOf "lots" "lots" (defArgs (topS 9)) (defBody (topS 9)) (defScope (topS 9)) .none kV1 dc1 pm1 an1 cd1 ct1), sl1⟩)
    (c1 : PySem.W.codeIn K cd1 "lots" = true)
    (k1 : PySem.W.keepIn K (.ref f1) = true)
    (a2 : PySem.W.nsIn K mainGlobals "order_sign" = some (some (.ref f2)))
    (l2 : K.lookup f2 = some ⟨oc2, od2, .func (PySem.W.fnOf "order_sign" "order_sign" (defArgs (topS 10)) (defBody (topS 10)) (defScope (topS 10)) .none kV2 dc2 pm2 an2 cd2 ct2), sl2⟩)
    (c2 : PySem.W.codeIn K cd2 "order_sign" = true)
    (k2 : PySem.W.keepIn K (.ref f2) = true)
    (a3 : PySem.W.nsIn K mainGlobals "_check_many" = some (some (.ref f3)))
    (l3 : K.lookup f3 = some ⟨oc3, od3, .func (PySem.W.fnOf "_check_many" "_check_many" (defArgs (topS 11)) (defBody (topS 11)) (defScope (topS 11)) .none kV3 dc3 pm3 an3 cd3 ct3), sl3⟩)
    (c3 : PySem.W.codeIn K cd3 "_check_many" = true)
    (k3 : PySem.W.keepIn K (.ref f3) = true)
    (a4 : PySem.W.nsIn K mainGlobals "are_signs" = some (some (.ref f4)))
    (l4 : K.lookup f4 = some ⟨oc4, od4, .func (PySem.W.fnOf "are_signs" "are_signs" (defArgs (topS 15)) (defBody (topS 15)) (defScope (topS 15)) .none kV4 dc4 pm4 an4 cd4 ct4), sl4⟩)
    (c4 : PySem.W.codeIn K cd4 "are_signs" = true)
    (k4 : PySem.W.keepIn K (.ref f4) = true)
    (a5 : PySem.W.nsIn K mainGlobals "first_sign" = some (some (.ref f5)))
    (l5 : K.lookup f5 = some ⟨oc5, od5, .func (PySem.W.fnOf "first_sign" "first_sign" (defArgs (topS 16)) (defBody (topS 16)) (defScope (topS 16)) .none kV5 dc5 pm5 an5 cd5 ct5), sl5⟩)
    (c5 : PySem.W.codeIn K cd5 "first_sign" = true)
    (k5 : PySem.W.keepIn K (.ref f5) = true)
    (a6 : PySem.W.nsIn K mainGlobals "opposite" = some (some (.ref f6)))
    (l6 : K.lookup f6 = some ⟨oc6, od6, .func (PySem.W.fnOf "opposite" "opposite" (defArgs (topS 17)) (defBody (topS 17)) (defScope (topS 17)) .none kV6 dc6 pm6 an6 cd6 ct6), sl6⟩)
    (c6 : PySem.W.codeIn K cd6 "opposite" = true)
    (k6 : PySem.W.keepIn K (.ref f6) = true)
    (a7 : PySem.W.nsIn K mainGlobals "signs_text" = some (some (.ref f7)))
    (l7 : K.lookup f7 = some ⟨oc7, od7, .func (PySem.W.fnOf "signs_text" "signs_text" (defArgs (topS 18)) (defBody (topS 18)) (defScope (topS 18)) .none kV7 dc7 pm7 an7 cd7 ct7), sl7⟩)
    (c7 : PySem.W.codeIn K cd7 "signs_text" = true)
    (k7 : PySem.W.keepIn K (.ref f7) = true)
    (a8 : PySem.W.nsIn K mainGlobals "rings" = some (some (.ref f8)))
    (l8 : K.lookup f8 = some ⟨oc8, od8, .func (PySem.W.fnOf "rings" "rings" (defArgs (topS 20)) (defBody (topS 20)) (defScope (topS 20)) .none kV8 dc8 pm8 an8 cd8 ct8), sl8⟩)
    (c8 : PySem.W.codeIn K cd8 "rings" = true)
    (k8 : PySem.W.keepIn K (.ref f8) = true)
    (a9 : PySem.W.nsIn K mainGlobals "cuts" = some (some (.ref f9)))
    (l9 : K.lookup f9 = some ⟨oc9, od9, .func (PySem.W.fnOf "cuts" "cuts" (defArgs (topS 21)) (defBody (topS 21)) (defScope (topS 21)) .none kV9 dc9 pm9 an9 cd9 ct9), sl9⟩)
    (c9 : PySem.W.codeIn K cd9 "cuts" = true)
    (k9 : PySem.W.keepIn K (.ref f9) = true)
    (a10 : PySem.W.nsIn K mainGlobals "half_cuts" = some (some (.ref f10)))
    (l10 : K.lookup f10 = some ⟨oc10, od10, .func (PySem.W.fnOf "half_cuts" "half_cuts" (defArgs (topS 22)) (defBody (topS 22)) (defScope (topS 22)) .none kV10 dc10 pm10 an10 cd10 ct10), sl10⟩)
    (c10 : PySem.W.codeIn K cd10 "half_cuts" = true)
    (k10 : PySem.W.keepIn K (.ref f10) = true)
    (a11 : PySem.W.nsIn K mainGlobals "ring_row" = some (some (.ref f11)))
    (l11 : K.lookup f11 = some ⟨oc11, od11, .func (PySem.W.fnOf "ring_row" "ring_row" (defArgs (topS 23)) (defBody (topS 23)) (defScope (topS 23)) .none kV11 dc11 pm11 an11 cd11 ct11), sl11⟩)
    (c11 : PySem.W.codeIn K cd11 "ring_row" = true)
    (k11 : PySem.W.keepIn K (.ref f11) = true)
    (a12 : PySem.W.nsIn K mainGlobals "cut_row" = some (some (.ref f12)))
    (l12 : K.lookup f12 = some ⟨oc12, od12, .func (PySem.W.fnOf "cut_row" "cut_row" (defArgs (topS 24)) (defBody (topS 24)) (defScope (topS 24)) .none kV12 dc12 pm12 an12 cd12 ct12), sl12⟩)
    (c12 : PySem.W.codeIn K cd12 "cut_row" = true)
    (k12 : PySem.W.keepIn K (.ref f12) = true)
    (a13 : PySem.W.nsIn K mainGlobals "_both_ways" = some (some (.ref f13)))
    (l13 : K.lookup f13 = some ⟨oc13, od13, .func (PySem.W.fnOf "_both_ways" "_both_ways" (defArgs (topS 25)) (defBody (topS 25)) (defScope (topS 25)) .none kV13 dc13 pm13 an13 cd13 ct13), sl13⟩)
    (c13 : PySem.W.codeIn K cd13 "_both_ways" = true)
    (k13 : PySem.W.keepIn K (.ref f13) = true)
    (a14 : PySem.W.nsIn K mainGlobals "judged" = some (some (.ref f14)))
    (l14 : K.lookup f14 = some ⟨oc14, od14, .func (PySem.W.fnOf "judged" "judged" (defArgs (topS 27)) (defBody (topS 27)) (defScope (topS 27)) .none kV14 dc14 pm14 an14 cd14 ct14), sl14⟩)
    (c14 : PySem.W.codeIn K cd14 "judged" = true)
    (k14 : PySem.W.keepIn K (.ref f14) = true)
    (a15 : PySem.W.nsIn K mainGlobals "signs_by_lot" = some (some (.ref f15)))
    (l15 : K.lookup f15 = some ⟨oc15, od15, .func (PySem.W.fnOf "signs_by_lot" "signs_by_lot" (defArgs (topS 28)) (defBody (topS 28)) (defScope (topS 28)) .none kV15 dc15 pm15 an15 cd15 ct15), sl15⟩)
    (c15 : PySem.W.codeIn K cd15 "signs_by_lot" = true)
    (k15 : PySem.W.keepIn K (.ref f15) = true)
    (a16 : PySem.W.nsIn K mainGlobals "sign_in" = some (some (.ref f16)))
    (l16 : K.lookup f16 = some ⟨oc16, od16, .func (PySem.W.fnOf "sign_in" "sign_in" (defArgs (topS 29)) (defBody (topS 29)) (defScope (topS 29)) .none kV16 dc16 pm16 an16 cd16 ct16), sl16⟩)
    (c16 : PySem.W.codeIn K cd16 "sign_in" = true)
    (k16 : PySem.W.keepIn K (.ref f16) = true)
    (a17 : PySem.W.nsIn K mainGlobals "_told" = some (some (.ref f17)))
    (l17 : K.lookup f17 = some ⟨oc17, od17, .func (PySem.W.fnOf "_told" "_told" (defArgs (topS 30)) (defBody (topS 30)) (defScope (topS 30)) .none kV17 dc17 pm17 an17 cd17 ct17), sl17⟩)
    (c17 : PySem.W.codeIn K cd17 "_told" = true)
    (k17 : PySem.W.keepIn K (.ref f17) = true)
    (a18 : PySem.W.nsIn K mainGlobals "_exchange_fault" = some (some (.ref f18)))
    (l18 : K.lookup f18 = some ⟨oc18, od18, .func (PySem.W.fnOf "_exchange_fault" "_exchange_fault" (defArgs (topS 31)) (defBody (topS 31)) (defScope (topS 31)) .none kV18 dc18 pm18 an18 cd18 ct18), sl18⟩)
    (c18 : PySem.W.codeIn K cd18 "_exchange_fault" = true)
    (k18 : PySem.W.keepIn K (.ref f18) = true)
    (a19 : PySem.W.nsIn K mainGlobals "_three_fault" = some (some (.ref f19)))
    (l19 : K.lookup f19 = some ⟨oc19, od19, .func (PySem.W.fnOf "_three_fault" "_three_fault" (defArgs (topS 32)) (defBody (topS 32)) (defScope (topS 32)) .none kV19 dc19 pm19 an19 cd19 ct19), sl19⟩)
    (c19 : PySem.W.codeIn K cd19 "_three_fault" = true)
    (k19 : PySem.W.keepIn K (.ref f19) = true)
    (a20 : PySem.W.nsIn K mainGlobals "_three_hold" = some (some (.ref f20)))
    (l20 : K.lookup f20 = some ⟨oc20, od20, .func (PySem.W.fnOf "_three_hold" "_three_hold" (defArgs (topS 33)) (defBody (topS 33)) (defScope (topS 33)) .none kV20 dc20 pm20 an20 cd20 ct20), sl20⟩)
    (c20 : PySem.W.codeIn K cd20 "_three_hold" = true)
    (k20 : PySem.W.keepIn K (.ref f20) = true)
    (a21 : PySem.W.nsIn K mainGlobals "_law_bag" = some (some (.ref f21)))
    (l21 : K.lookup f21 = some ⟨oc21, od21, .func (PySem.W.fnOf "_law_bag" "_law_bag" (defArgs (topS 37)) (defBody (topS 37)) (defScope (topS 37)) .none kV21 dc21 pm21 an21 cd21 ct21), sl21⟩)
    (c21 : PySem.W.codeIn K cd21 "_law_bag" = true)
    (k21 : PySem.W.keepIn K (.ref f21) = true)
    (a22 : PySem.W.nsIn K mainGlobals "_law_pull" = some (some (.ref f22)))
    (l22 : K.lookup f22 = some ⟨oc22, od22, .func (PySem.W.fnOf "_law_pull" "_law_pull" (defArgs (topS 38)) (defBody (topS 38)) (defScope (topS 38)) .none kV22 dc22 pm22 an22 cd22 ct22), sl22⟩)
    (c22 : PySem.W.codeIn K cd22 "_law_pull" = true)
    (k22 : PySem.W.keepIn K (.ref f22) = true)
    (a23 : PySem.W.nsIn K mainGlobals "_law_of" = some (some (.ref f23)))
    (l23 : K.lookup f23 = some ⟨oc23, od23, .func (PySem.W.fnOf "_law_of" "_law_of" (defArgs (topS 39)) (defBody (topS 39)) (defScope (topS 39)) .none kV23 dc23 pm23 an23 cd23 ct23), sl23⟩)
    (c23 : PySem.W.codeIn K cd23 "_law_of" = true)
    (k23 : PySem.W.keepIn K (.ref f23) = true)
    (a24 : PySem.W.nsIn K mainGlobals "_law_same" = some (some (.ref f24)))
    (l24 : K.lookup f24 = some ⟨oc24, od24, .func (PySem.W.fnOf "_law_same" "_law_same" (defArgs (topS 40)) (defBody (topS 40)) (defScope (topS 40)) .none kV24 dc24 pm24 an24 cd24 ct24), sl24⟩)
    (c24 : PySem.W.codeIn K cd24 "_law_same" = true)
    (k24 : PySem.W.keepIn K (.ref f24) = true)
    (a25 : PySem.W.nsIn K mainGlobals "_law_lots" = some (some (.ref f25)))
    (l25 : K.lookup f25 = some ⟨oc25, od25, .func (PySem.W.fnOf "_law_lots" "_law_lots" (defArgs (topS 41)) (defBody (topS 41)) (defScope (topS 41)) .none kV25 dc25 pm25 an25 cd25 ct25), sl25⟩)
    (c25 : PySem.W.codeIn K cd25 "_law_lots" = true)
    (k25 : PySem.W.keepIn K (.ref f25) = true)
    (a26 : PySem.W.nsIn K mainGlobals "_law_order" = some (some (.ref f26)))
    (l26 : K.lookup f26 = some ⟨oc26, od26, .func (PySem.W.fnOf "_law_order" "_law_order" (defArgs (topS 42)) (defBody (topS 42)) (defScope (topS 42)) .none kV26 dc26 pm26 an26 cd26 ct26), sl26⟩)
    (c26 : PySem.W.codeIn K cd26 "_law_order" = true)
    (k26 : PySem.W.keepIn K (.ref f26) = true)
    (a27 : PySem.W.nsIn K mainGlobals "_law_sign_of" = some (some (.ref f27)))
    (l27 : K.lookup f27 = some ⟨oc27, od27, .func (PySem.W.fnOf "_law_sign_of" "_law_sign_of" (defArgs (topS 43)) (defBody (topS 43)) (defScope (topS 43)) .none kV27 dc27 pm27 an27 cd27 ct27), sl27⟩)
    (c27 : PySem.W.codeIn K cd27 "_law_sign_of" = true)
    (k27 : PySem.W.keepIn K (.ref f27) = true)
    (a28 : PySem.W.nsIn K mainGlobals "_law_worth" = some (some (.ref f28)))
    (l28 : K.lookup f28 = some ⟨oc28, od28, .func (PySem.W.fnOf "_law_worth" "_law_worth" (defArgs (topS 44)) (defBody (topS 44)) (defScope (topS 44)) .none kV28 dc28 pm28 an28 cd28 ct28), sl28⟩)
    (c28 : PySem.W.codeIn K cd28 "_law_worth" = true)
    (k28 : PySem.W.keepIn K (.ref f28) = true)
    (a29 : PySem.W.nsIn K mainGlobals "_law_normal" = some (some (.ref f29)))
    (l29 : K.lookup f29 = some ⟨oc29, od29, .func (PySem.W.fnOf "_law_normal" "_law_normal" (defArgs (topS 45)) (defBody (topS 45)) (defScope (topS 45)) .none kV29 dc29 pm29 an29 cd29 ct29), sl29⟩)
    (c29 : PySem.W.codeIn K cd29 "_law_normal" = true)
    (k29 : PySem.W.keepIn K (.ref f29) = true)
    (a30 : PySem.W.nsIn K mainGlobals "_law_model" = some (some (.ref f30)))
    (l30 : K.lookup f30 = some ⟨oc30, od30, .func (PySem.W.fnOf "_law_model" "_law_model" (defArgs (topS 46)) (defBody (topS 46)) (defScope (topS 46)) .none kV30 dc30 pm30 an30 cd30 ct30), sl30⟩)
    (c30 : PySem.W.codeIn K cd30 "_law_model" = true)
    (k30 : PySem.W.keepIn K (.ref f30) = true)
    (a31 : PySem.W.nsIn K mainGlobals "_law_row" = some (some (.ref f31)))
    (l31 : K.lookup f31 = some ⟨oc31, od31, .func (PySem.W.fnOf "_law_row" "_law_row" (defArgs (topS 47)) (defBody (topS 47)) (defScope (topS 47)) .none kV31 dc31 pm31 an31 cd31 ct31), sl31⟩)
    (c31 : PySem.W.codeIn K cd31 "_law_row" = true)
    (k31 : PySem.W.keepIn K (.ref f31) = true)
    (a32 : PySem.W.nsIn K mainGlobals "_law_read" = some (some (.ref f32)))
    (l32 : K.lookup f32 = some ⟨oc32, od32, .func (PySem.W.fnOf "_law_read" "_law_read" (defArgs (topS 48)) (defBody (topS 48)) (defScope (topS 48)) .none kV32 dc32 pm32 an32 cd32 ct32), sl32⟩)
    (c32 : PySem.W.codeIn K cd32 "_law_read" = true)
    (k32 : PySem.W.keepIn K (.ref f32) = true)
    (a33 : PySem.W.nsIn K mainGlobals "_law_columns" = some (some (.ref f33)))
    (l33 : K.lookup f33 = some ⟨oc33, od33, .func (PySem.W.fnOf "_law_columns" "_law_columns" (defArgs (topS 49)) (defBody (topS 49)) (defScope (topS 49)) .none kV33 dc33 pm33 an33 cd33 ct33), sl33⟩)
    (c33 : PySem.W.codeIn K cd33 "_law_columns" = true)
    (k33 : PySem.W.keepIn K (.ref f33) = true)
    (a34 : PySem.W.nsIn K mainGlobals "_law_box_signs" = some (some (.ref f34)))
    (l34 : K.lookup f34 = some ⟨oc34, od34, .func (PySem.W.fnOf "_law_box_signs" "_law_box_signs" (defArgs (topS 50)) (defBody (topS 50)) (defScope (topS 50)) .none kV34 dc34 pm34 an34 cd34 ct34), sl34⟩)
    (c34 : PySem.W.codeIn K cd34 "_law_box_signs" = true)
    (k34 : PySem.W.keepIn K (.ref f34) = true)
    (a35 : PySem.W.nsIn K mainGlobals "_law_full_columns" = some (some (.ref f35)))
    (l35 : K.lookup f35 = some ⟨oc35, od35, .func (PySem.W.fnOf "_law_full_columns" "_law_full_columns" (defArgs (topS 51)) (defBody (topS 51)) (defScope (topS 51)) .none kV35 dc35 pm35 an35 cd35 ct35), sl35⟩)
    (c35 : PySem.W.codeIn K cd35 "_law_full_columns" = true)
    (k35 : PySem.W.keepIn K (.ref f35) = true)
    (a36 : PySem.W.nsIn K mainGlobals "_law_dual" = some (some (.ref f36)))
    (l36 : K.lookup f36 = some ⟨oc36, od36, .func (PySem.W.fnOf "_law_dual" "_law_dual" (defArgs (topS 52)) (defBody (topS 52)) (defScope (topS 52)) .none kV36 dc36 pm36 an36 cd36 ct36), sl36⟩)
    (c36 : PySem.W.codeIn K cd36 "_law_dual" = true)
    (k36 : PySem.W.keepIn K (.ref f36) = true)
    (a37 : PySem.W.nsIn K mainGlobals "_law_drawn" = some (some (.ref f37)))
    (l37 : K.lookup f37 = some ⟨oc37, od37, .func (PySem.W.fnOf "_law_drawn" "_law_drawn" (defArgs (topS 53)) (defBody (topS 53)) (defScope (topS 53)) .none kV37 dc37 pm37 an37 cd37 ct37), sl37⟩)
    (c37 : PySem.W.codeIn K cd37 "_law_drawn" = true)
    (k37 : PySem.W.keepIn K (.ref f37) = true)
    (a38 : PySem.W.nsIn K mainGlobals "_law_house" = some (some (.ref f38)))
    (l38 : K.lookup f38 = some ⟨oc38, od38, .func (PySem.W.fnOf "_law_house" "_law_house" (defArgs (topS 54)) (defBody (topS 54)) (defScope (topS 54)) .none kV38 dc38 pm38 an38 cd38 ct38), sl38⟩)
    (c38 : PySem.W.codeIn K cd38 "_law_house" = true)
    (k38 : PySem.W.keepIn K (.ref f38) = true)
    (a39 : PySem.W.nsIn K mainGlobals "_law_both" = some (some (.ref f39)))
    (l39 : K.lookup f39 = some ⟨oc39, od39, .func (PySem.W.fnOf "_law_both" "_law_both" (defArgs (topS 55)) (defBody (topS 55)) (defScope (topS 55)) .none kV39 dc39 pm39 an39 cd39 ct39), sl39⟩)
    (c39 : PySem.W.codeIn K cd39 "_law_both" = true)
    (k39 : PySem.W.keepIn K (.ref f39) = true)
    (a40 : PySem.W.nsIn K mainGlobals "_law_rings" = some (some (.ref f40)))
    (l40 : K.lookup f40 = some ⟨oc40, od40, .func (PySem.W.fnOf "_law_rings" "_law_rings" (defArgs (topS 56)) (defBody (topS 56)) (defScope (topS 56)) .none kV40 dc40 pm40 an40 cd40 ct40), sl40⟩)
    (c40 : PySem.W.codeIn K cd40 "_law_rings" = true)
    (k40 : PySem.W.keepIn K (.ref f40) = true)
    (a41 : PySem.W.nsIn K mainGlobals "_law_cuts" = some (some (.ref f41)))
    (l41 : K.lookup f41 = some ⟨oc41, od41, .func (PySem.W.fnOf "_law_cuts" "_law_cuts" (defArgs (topS 57)) (defBody (topS 57)) (defScope (topS 57)) .none kV41 dc41 pm41 an41 cd41 ct41), sl41⟩)
    (c41 : PySem.W.codeIn K cd41 "_law_cuts" = true)
    (k41 : PySem.W.keepIn K (.ref f41) = true)
    (a42 : PySem.W.nsIn K mainGlobals "law" = some (some (.ref f42)))
    (l42 : K.lookup f42 = some ⟨oc42, od42, .func (PySem.W.fnOf "law" "law" (defArgs (topS 58)) (defBody (topS 58)) (defScope (topS 58)) .none kV42 dc42 pm42 an42 cd42 ct42), sl42⟩)
    (c42 : PySem.W.codeIn K cd42 "law" = true)
    (k42 : PySem.W.keepIn K (.ref f42) = true)
    (z1 : PySem.W.nsIn K mainGlobals "isinstance" = some none)
    (z2 : PySem.W.nsIn K mainGlobals "bool" = some none)
    (z3 : PySem.W.nsIn K mainGlobals "int" = some none)
    (z4 : PySem.W.nsIn K mainGlobals "str" = some none)
    (z5 : PySem.W.nsIn K mainGlobals "list" = some none)
    (z6 : PySem.W.nsIn K mainGlobals "tuple" = some none)
    (z7 : PySem.W.nsIn K mainGlobals "len" = some none)
    (z8 : PySem.W.nsIn K mainGlobals "all" = some none)
    (z9 : PySem.W.nsIn K mainGlobals "range" = some none)
    (z10 : PySem.W.nsIn K mainGlobals "enumerate" = some none)
    (z11 : PySem.W.nsIn K mainGlobals "any" = some none)
    (z12 : PySem.W.nsIn K mainGlobals "sum" = some none)
    (z13 : PySem.W.nsIn K mainGlobals "zip" = some none)
    (z14 : PySem.W.nsIn K mainGlobals "dict" = some none)
    (z15 : PySem.W.nsIn K mainGlobals "sorted" = some none)
    (z16 : PySem.W.nsIn K mainGlobals "set" = some none)
    (z17 : PySem.W.nsIn K mainGlobals "max" = some none)
    (z18 : PySem.W.nsIn K mainGlobals "min" = some none)
    (z19 : PySem.W.nsIn K mainGlobals "super" = some none)
    (zM : PySem.W.nsIn K mainGlobals "MOST" = some (some (.int 7 tM)))
    (zK : PySem.W.nsIn K mainGlobals "combinations" = some (some (.type "itertools.combinations")))
    (gS : PySem.W.nsIn K mainGlobals "SIGNS" = some (some (.ref aS)))
    (lS : K.lookup aS = some ⟨.type "tuple", odS, .seq #[.int (-1) ts1, .int 0 ts2, .int 1 ts3] nS, slS⟩)
    (aH : PySem.W.nsIn K mainGlobals "House" = some (some (.ref CH)))
    (am1 : PySem.W.findIn K (.ref CH) "__init__" = some (some (.ref m1)))
    (im1 : PySem.W.isFn K (.ref m1) = true)
    (lm1 : K.lookup m1 = some ⟨ocm1, odm1, .func (PySem.W.fnOf "__init__" "House.__init__" (defArgs (inClass (topS 35) 0)) (defBody (inClass (topS 35) 0)) (defScope (inClass (topS 35) 0)) .none kVm1 dcm1 pmm1 anm1 cdm1 ctm1), slm1⟩)
    (cm1 : PySem.W.codeIn K cdm1 "House.__init__" = true)
    (km1 : PySem.W.keepIn K (.ref m1) = true)
    (am2 : PySem.W.findIn K (.ref CH) "things" = some (some (.ref m2)))
    (im2 : PySem.W.isFn K (.ref m2) = true)
    (lm2 : K.lookup m2 = some ⟨ocm2, odm2, .func (PySem.W.fnOf "things" "House.things" (defArgs (inClass (topS 35) 1)) (defBody (inClass (topS 35) 1)) (defScope (inClass (topS 35) 1)) .none kVm2 dcm2 pmm2 anm2 cdm2 ctm2), slm2⟩)
    (cm2 : PySem.W.codeIn K cdm2 "House.things" = true)
    (km2 : PySem.W.keepIn K (.ref m2) = true)
    (am3 : PySem.W.findIn K (.ref CH) "rank" = some (some (.ref m3)))
    (im3 : PySem.W.isFn K (.ref m3) = true)
    (lm3 : K.lookup m3 = some ⟨ocm3, odm3, .func (PySem.W.fnOf "rank" "House.rank" (defArgs (inClass (topS 35) 2)) (defBody (inClass (topS 35) 2)) (defScope (inClass (topS 35) 2)) .none kVm3 dcm3 pmm3 anm3 cdm3 ctm3), slm3⟩)
    (cm3 : PySem.W.codeIn K cdm3 "House.rank" = true)
    (km3 : PySem.W.keepIn K (.ref m3) = true)
    (am4 : PySem.W.findIn K (.ref CH) "sign" = some (some (.ref m4)))
    (im4 : PySem.W.isFn K (.ref m4) = true)
    (lm4 : K.lookup m4 = some ⟨ocm4, odm4, .func (PySem.W.fnOf "sign" "House.sign" (defArgs (inClass (topS 35) 4)) (defBody (inClass (topS 35) 4)) (defScope (inClass (topS 35) 4)) .none kVm4 dcm4 pmm4 anm4 cdm4 ctm4), slm4⟩)
    (cm4 : PySem.W.codeIn K cdm4 "House.sign" = true)
    (km4 : PySem.W.keepIn K (.ref m4) = true)
    (pgH : PySem.W.plainGet K CH Str.empty = true)
    (hdH : PySem.W.hasDictIn K CH = true)
    (poH : PySem.W.plainOver K CH = true)
    (saH : PySem.W.findIn K (.ref CH) "__setattr__" = some (some (.builtin "object.__setattr__")))
    (mkH : PySem.W.makesIn K CH = true)
    (kcH : PySem.W.keepIn K (.ref CH) = true)
    (nH1 : PySem.W.findIn K (.ref CH) "_things" = some none)
    (nH2 : PySem.W.findIn K (.ref CH) "_rank" = some none)
    (nH3 : PySem.W.findIn K (.ref CH) "_signs" = some none)
    (nH4 : PySem.W.findIn K (.ref CH) "_by_lot" = some none) :
    ∃ fd : FuncData, (∀ (s : Shared) (v : Value), BindsTo s fd ⟨[v], []⟩ [("_law_script", v)]) ∧ ∀ base : Heap, K.In base → base.Ns mainGlobals mg → FnOk l.prog w K mg base CX0 12 fa fd ["_law_script"] (spLaw K) := by
  have e := hfa.symm.trans (PySem.W.mg_of X G a42)
  cases e
  have F1 := fun_mk (st := topS 9) l1 c1 k1
  have b1 := F1.binds (ps := ["many", "size"]) fun _ _ _ _ _ _ us hl => match us, hl with | [_, _], _ => rfl
  have g1 := PySem.W.mg_of X G a1
  have F2 := fun_mk (st := topS 10) l2 c2 k2
  have b2 := F2.binds (ps := ["row"]) fun _ _ _ _ _ _ us hl => match us, hl with | [_], _ => rfl
  have g2 := PySem.W.mg_of X G a2
  have F3 := fun_mk (st := topS 11) l3 c3 k3
  have b3 := F3.binds (ps := ["many"]) fun _ _ _ _ _ _ us hl => match us, hl with | [_], _ => rfl
  have g3 := PySem.W.mg_of X G a3
  have F4 := fun_mk (st := topS 15) l4 c4 k4
  have b4 := F4.binds (ps := ["row"]) fun _ _ _ _ _ _ us hl => match us, hl with | [_], _ => rfl
  have g4 := PySem.W.mg_of X G a4
  have F5 := fun_mk (st := topS 16) l5 c5 k5
  have b5 := F5.binds (ps := ["row"]) fun _ _ _ _ _ _ us hl => match us, hl with | [_], _ => rfl
  have g5 := PySem.W.mg_of X G a5
  have F6 := fun_mk (st := topS 17) l6 c6 k6
  have b6 := F6.binds (ps := ["row"]) fun _ _ _ _ _ _ us hl => match us, hl with | [_], _ => rfl
  have g6 := PySem.W.mg_of X G a6
  have F7 := fun_mk (st := topS 18) l7 c7 k7
  have b7 := F7.binds (ps := ["row"]) fun _ _ _ _ _ _ us hl => match us, hl with | [_], _ => rfl
  have g7 := PySem.W.mg_of X G a7
  have F8 := fun_mk (st := topS 20) l8 c8 k8
  have b8 := F8.binds (ps := ["house"]) fun _ _ _ _ _ _ us hl => match us, hl with | [_], _ => rfl
  have g8 := PySem.W.mg_of X G a8
  have F9 := fun_mk (st := topS 21) l9 c9 k9
  have b9 := F9.binds (ps := ["house"]) fun _ _ _ _ _ _ us hl => match us, hl with | [_], _ => rfl
  have g9 := PySem.W.mg_of X G a9
  have F10 := fun_mk (st := topS 22) l10 c10 k10
  have b10 := F10.binds (ps := ["house"]) fun _ _ _ _ _ _ us hl => match us, hl with | [_], _ => rfl
  have g10 := PySem.W.mg_of X G a10
  have F11 := fun_mk (st := topS 23) l11 c11 k11
  have b11 := F11.binds (ps := ["house", "lot"]) fun _ _ _ _ _ _ us hl => match us, hl with | [_, _], _ => rfl
  have g11 := PySem.W.mg_of X G a11
  have F12 := fun_mk (st := topS 24) l12 c12 k12
  have b12 := F12.binds (ps := ["house", "lot"]) fun _ _ _ _ _ _ us hl => match us, hl with | [_, _], _ => rfl
  have g12 := PySem.W.mg_of X G a12
  have F13 := fun_mk (st := topS 25) l13 c13 k13
  have b13 := F13.binds (ps := ["rows"]) fun _ _ _ _ _ _ us hl => match us, hl with | [_], _ => rfl
  have g13 := PySem.W.mg_of X G a13
  have F14 := fun_mk (st := topS 27) l14 c14 k14
  have b14 := F14.binds (ps := ["things", "rank", "signs"]) fun _ _ _ _ _ _ us hl => match us, hl with | [_, _, _], _ => rfl
  have g14 := PySem.W.mg_of X G a14
  have F15 := fun_mk (st := topS 28) l15 c15 k15
  have b15 := F15.binds (ps := ["things", "rank", "signs"]) fun _ _ _ _ _ _ us hl => match us, hl with | [_, _, _], _ => rfl
  have g15 := PySem.W.mg_of X G a15
  have F16 := fun_mk (st := topS 29) l16 c16 k16
  have b16 := F16.binds (ps := ["by_lot", "row"]) fun _ _ _ _ _ _ us hl => match us, hl with | [_, _], _ => rfl
  have g16 := PySem.W.mg_of X G a16
  have F17 := fun_mk (st := topS 30) l17 c17 k17
  have b17 := F17.binds (ps := ["signs"]) fun _ _ _ _ _ _ us hl => match us, hl with | [_], _ => rfl
  have g17 := PySem.W.mg_of X G a17
  have F18 := fun_mk (st := topS 31) l18 c18 k18
  have b18 := F18.binds (ps := ["things", "bases"]) fun _ _ _ _ _ _ us hl => match us, hl with | [_, _], _ => rfl
  have g18 := PySem.W.mg_of X G a18
  have F19 := fun_mk (st := topS 32) l19 c19 k19
  have b19 := F19.binds (ps := ["things", "rank", "by_lot"]) fun _ _ _ _ _ _ us hl => match us, hl with | [_, _, _], _ => rfl
  have g19 := PySem.W.mg_of X G a19
  have F20 := fun_mk (st := topS 33) l20 c20 k20
  have b20 := F20.binds (ps := ["by_lot", "lot", "four"]) fun _ _ _ _ _ _ us hl => match us, hl with | [_, _, _], _ => rfl
  have g20 := PySem.W.mg_of X G a20
  have F21 := fun_mk (st := topS 37) l21 c21 k21
  have b21 := F21.binds (ps := ["_law_script"]) fun _ _ _ _ _ _ us hl => match us, hl with | [_], _ => rfl
  have g21 := PySem.W.mg_of X G a21
  have F22 := fun_mk (st := topS 38) l22 c22 k22
  have b22 := F22.binds (ps := ["_law_bag_here", "_law_many"]) fun _ _ _ _ _ _ us hl => match us, hl with | [_, _], _ => rfl
  have g22 := PySem.W.mg_of X G a22
  have F23 := fun_mk (st := topS 39) l23 c23 k23
  have b23 := F23.binds (ps := ["_law_bag_here", "_law_some"]) fun _ _ _ _ _ _ us hl => match us, hl with | [_, _], _ => rfl
  have g23 := PySem.W.mg_of X G a23
  have F24 := fun_mk (st := topS 40) l24 c24 k24
  have b24 := F24.binds (ps := ["_law_found", "_law_due"]) fun _ _ _ _ _ _ us hl => match us, hl with | [_, _], _ => rfl
  have g24 := PySem.W.mg_of X G a24
  have F25 := fun_mk (st := topS 41) l25 c25 k25
  have b25 := F25.binds (ps := ["_law_many", "_law_size"]) fun _ _ _ _ _ _ us hl => match us, hl with | [_, _], _ => rfl
  have g25 := PySem.W.mg_of X G a25
  have F26 := fun_mk (st := topS 42) l26 c26 k26
  have b26 := F26.binds (ps := ["_law_row_here"]) fun _ _ _ _ _ _ us hl => match us, hl with | [_], _ => rfl
  have g26 := PySem.W.mg_of X G a26
  have F27 := fun_mk (st := topS 43) l27 c27 k27
  have b27 := F27.binds (ps := ["_law_number"]) fun _ _ _ _ _ _ us hl => match us, hl with | [_], _ => rfl
  have g27 := PySem.W.mg_of X G a27
  have F28 := fun_mk (st := topS 44) l28 c28 k28
  have b28 := F28.binds (ps := ["_law_rows"]) fun _ _ _ _ _ _ us hl => match us, hl with | [_], _ => rfl
  have g28 := PySem.W.mg_of X G a28
  have F29 := fun_mk (st := topS 45) l29 c29 k29
  have b29 := F29.binds (ps := ["_law_signs"]) fun _ _ _ _ _ _ us hl => match us, hl with | [_], _ => rfl
  have g29 := PySem.W.mg_of X G a29
  have F30 := fun_mk (st := topS 46) l30 c30 k30
  have b30 := F30.binds (ps := ["_law_many", "_law_rank", "_law_signs"]) fun _ _ _ _ _ _ us hl => match us, hl with | [_, _, _], _ => rfl
  have g30 := PySem.W.mg_of X G a30
  have F31 := fun_mk (st := topS 47) l31 c31 k31
  have b31 := F31.binds (ps := ["_law_m"]) fun _ _ _ _ _ _ us hl => match us, hl with | [_], _ => rfl
  have g31 := PySem.W.mg_of X G a31
  have F32 := fun_mk (st := topS 48) l32 c32 k32
  have b32 := F32.binds (ps := ["_law_m", "_law_row_here"]) fun _ _ _ _ _ _ us hl => match us, hl with | [_, _], _ => rfl
  have g32 := PySem.W.mg_of X G a32
  have F33 := fun_mk (st := topS 49) l33 c33 k33
  have b33 := F33.binds (ps := ["_law_bag_here", "_law_many", "_law_size"]) fun _ _ _ _ _ _ us hl => match us, hl with | [_, _, _], _ => rfl
  have g33 := PySem.W.mg_of X G a33
  have F34 := fun_mk (st := topS 50) l34 c34 k34
  have b34 := F34.binds (ps := ["_law_columns_here", "_law_size"]) fun _ _ _ _ _ _ us hl => match us, hl with | [_, _], _ => rfl
  have g34 := PySem.W.mg_of X G a34
  have F35 := fun_mk (st := topS 51) l35 c35 k35
  have b35 := F35.binds (ps := ["_law_bag_here", "_law_many", "_law_size"]) fun _ _ _ _ _ _ us hl => match us, hl with | [_, _, _], _ => rfl
  have g35 := PySem.W.mg_of X G a35
  have F36 := fun_mk (st := topS 52) l36 c36 k36
  have b36 := F36.binds (ps := ["_law_m"]) fun _ _ _ _ _ _ us hl => match us, hl with | [_], _ => rfl
  have g36 := PySem.W.mg_of X G a36
  have F37 := fun_mk (st := topS 53) l37 c37 k37
  have b37 := F37.binds (ps := ["_law_bag_here", "_law_most"]) fun _ _ _ _ _ _ us hl => match us, hl with | [_, _], _ => rfl
  have g37 := PySem.W.mg_of X G a37
  have F38 := fun_mk (st := topS 54) l38 c38 k38
  have b38 := F38.binds (ps := ["_law_bag_here", "_law_m"]) fun _ _ _ _ _ _ us hl => match us, hl with | [_, _], _ => rfl
  have g38 := PySem.W.mg_of X G a38
  have F39 := fun_mk (st := topS 55) l39 c39 k39
  have b39 := F39.binds (ps := ["_law_some"]) fun _ _ _ _ _ _ us hl => match us, hl with | [_], _ => rfl
  have g39 := PySem.W.mg_of X G a39
  have F40 := fun_mk (st := topS 56) l40 c40 k40
  have b40 := F40.binds (ps := ["_law_m"]) fun _ _ _ _ _ _ us hl => match us, hl with | [_], _ => rfl
  have g40 := PySem.W.mg_of X G a40
  have F41 := fun_mk (st := topS 57) l41 c41 k41
  have b41 := F41.binds (ps := ["_law_m"]) fun _ _ _ _ _ _ us hl => match us, hl with | [_], _ => rfl
  have g41 := PySem.W.mg_of X G a41
  have F42 := fun_mk (st := topS 58) l42 c42 k42
  have g42 := PySem.W.mg_of X G a42
  have n1 := PySem.W.mg_none_of X G z1
  have n2 := PySem.W.mg_none_of X G z2
  have n3 := PySem.W.mg_none_of X G z3
  have n4 := PySem.W.mg_none_of X G z4
  have n5 := PySem.W.mg_none_of X G z5
  have n6 := PySem.W.mg_none_of X G z6
  have n7 := PySem.W.mg_none_of X G z7
  have n8 := PySem.W.mg_none_of X G z8
  have n9 := PySem.W.mg_none_of X G z9
  have n10 := PySem.W.mg_none_of X G z10
  have n11 := PySem.W.mg_none_of X G z11
  have n12 := PySem.W.mg_none_of X G z12
  have n13 := PySem.W.mg_none_of X G z13
  have n14 := PySem.W.mg_none_of X G z14
  have n15 := PySem.W.mg_none_of X G z15
  have n16 := PySem.W.mg_none_of X G z16
  have n17 := PySem.W.mg_none_of X G z17
  have n18 := PySem.W.mg_none_of X G z18
  have n19 := PySem.W.mg_none_of X G z19
  have TH : TxH K mg CH := ⟨⟨pgH, hdH, poH, saH⟩, nH1, nH2, nH3, nH4, PySem.W.mg_of X G aH⟩
  have FM1 := fun_mk (st := inClass (topS 35) 0) lm1 cm1 km1
  have bm1 := FM1.binds (ps := ["self", "things", "rank", "signs"]) fun _ _ _ _ _ _ us hl => match us, hl with | [_, _, _, _], _ => rfl
  have FM2 := fun_mk (st := inClass (topS 35) 1) lm2 cm2 km2
  have bm2 := FM2.binds (ps := ["self"]) fun _ _ _ _ _ _ us hl => match us, hl with | [_], _ => rfl
  have FM3 := fun_mk (st := inClass (topS 35) 2) lm3 cm3 km3
  have bm3 := FM3.binds (ps := ["self"]) fun _ _ _ _ _ _ us hl => match us, hl with | [_], _ => rfl
  have FM4 := fun_mk (st := inClass (topS 35) 4) lm4 cm4 km4
  have bm4 := FM4.binds (ps := ["self", "row"]) fun _ _ _ _ _ _ us hl => match us, hl with | [_, _], _ => rfl
  have MK : Mk K CH m1 := ⟨mkH, am1, im1, kcH⟩
  refine ⟨PySem.W.fnOf "law" "law" (defArgs (topS 58)) (defBody (topS 58)) (defScope (topS 58)) .none kV42 dc42 pm42 an42 cd42 ct42, fun s v => .of_eq rfl, fun base _ _ => ?_⟩
  have gM : ∃ u, mg "MOST" = some u ∧ RelV (.int 7) u := ⟨_, PySem.W.mg_of X G zM, ⟨_, rfl⟩⟩
  have gK := PySem.W.mg_of X G zK
  have TS : TxS K mg aS := ⟨PySem.W.mg_of X G gS, fun H => .inr ⟨_, _, _, lS, rfl, rfl, (show 3 ≤ sizeLine by decide), .cons ⟨_, rfl⟩ (.cons ⟨_, rfl⟩ (.cons ⟨_, rfl⟩ .nil))⟩, n8⟩
  have T1 : TS1 mg := ⟨n1, n2, n3, n4, n5, n6, n7, n8, n9⟩
  have G21_11 : FnOk l.prog w K mg base CX0 11 f21 _ ["_law_script"] (spBag K) := ok_bag F21 n5
  have G24_11 : FnOk l.prog w K mg base CX0 11 f24 _ ["_law_found", "_law_due"] (spSame 11) := ok_same F24 T1 b24 g24 11
  have G29_11 : FnOk l.prog w K mg base CX0 11 f29 _ ["_law_signs"] (spNo K) := ok_no F29 n6
  have G22_9 : FnOk l.prog w K mg base CX0 9 f22 _ ["_law_bag_here", "_law_many"] spPull := ok_pull F22 n7
  have G23_10 : FnOk l.prog w K mg base CX0 10 f23 _ ["_law_bag_here", "_law_some"] (spOf K) := ok_of F23 G22_9 F22.kp b22 g22 n7
  have G22_10 : FnOk l.prog w K mg base CX0 10 f22 _ ["_law_bag_here", "_law_many"] spPull := ok_pull F22 n7
  have G25_9 : FnOk l.prog w K mg base CX0 9 f25 _ ["_law_many", "_law_size"] LL.spLL := LL.ok_ll F25 n9
  have G29_9 : FnOk l.prog w K mg base CX0 9 f29 _ ["_law_signs"] (spNo K) := ok_no F29 n6
  have G30_10 : FnOk l.prog w K mg base CX0 10 f30 _ ["_law_many", "_law_rank", "_law_signs"] (spMo K) := ok_mo F30 n14 n13 G25_9 g25 F25.kp b25 G29_9 g29 F29.kp b29
  have G25_1 : FnOk l.prog w K mg base CX0 1 f25 _ ["_law_many", "_law_size"] LL.spLL := LL.ok_ll F25 n9
  have G27_1 : FnOk l.prog w K mg base CX0 1 f27 _ ["_law_number"] spSo := ok_so F27 n3
  have G28_8 : FnOk l.prog w K mg base CX0 8 f28 _ ["_law_rows"] (spW K 8) := ok_worth F28 n7 n9 g28 b28 8
  have G34_9 : FnOk l.prog w K mg base CX0 9 f34 _ ["_law_columns_here", "_law_size"] (spBx K) := ok_bx F34 n7 G25_1 g25 F25.kp b25 G27_1 g27 F27.kp b27 G28_8 g28 F28.kp b28
  have G22_7 : FnOk l.prog w K mg base CX0 7 f22 _ ["_law_bag_here", "_law_many"] spPull := ok_pull F22 n7
  have G23_8 : FnOk l.prog w K mg base CX0 8 f23 _ ["_law_bag_here", "_law_some"] (spOf K) := ok_of F23 G22_7 F22.kp b22 g22 n7
  have G22_8 : FnOk l.prog w K mg base CX0 8 f22 _ ["_law_bag_here", "_law_many"] spPull := ok_pull F22 n7
  have G33_9 : FnOk l.prog w K mg base CX0 9 f33 _ ["_law_bag_here", "_law_many", "_law_size"] (spCo K) := ok_co F33 n9 n6 G23_8 g23 F23.kp b23 G22_8 g22 F22.kp b22
  have G35_10 : FnOk l.prog w K mg base CX0 10 f35 _ ["_law_bag_here", "_law_many", "_law_size"] (spFc K) := ok_fc F35 n9 n11 n6 n3 G33_9 g33 F33.kp b33 G34_9 g34 F34.kp b34
  have G26_9 : FnOk l.prog w K mg base CX0 9 f26 _ ["_law_row_here"] (spLOrd K) := ok_lord F26 n9 n7
  have G25_8 : FnOk l.prog w K mg base CX0 8 f25 _ ["_law_many", "_law_size"] LL.spLL := LL.ok_ll F25 n9
  have G29_8 : FnOk l.prog w K mg base CX0 8 f29 _ ["_law_signs"] (spNo K) := ok_no F29 n6
  have G30_9 : FnOk l.prog w K mg base CX0 9 f30 _ ["_law_many", "_law_rank", "_law_signs"] (spMo K) := ok_mo F30 n14 n13 G25_8 g25 F25.kp b25 G29_8 g29 F29.kp b29
  have G36_10 : FnOk l.prog w K mg base CX0 10 f36 _ ["_law_m"] spDu := ok_du F36 n9 n6 G25_9 g25 F25.kp b25 G26_9 g26 F26.kp b26 G30_9 g30 F30.kp b30
  have G37_11 : FnOk l.prog w K mg base CX0 11 f37 _ ["_law_bag_here", "_law_most"] spDr := ok_dr F37 n17 n18 G23_10 g23 F23.kp b23 G22_10 g22 F22.kp b22 G30_10 g30 F30.kp b30 G34_9 g34 F34.kp b34 G35_10 g35 F35.kp b35 G36_10 g36 F36.kp b36
  have G31_10 : FnOk l.prog w K mg base CX0 10 f31 _ ["_law_m"] (spRo K) := ok_ro F31 n6 G25_9 g25 F25.kp b25
  have G3_5 : FnOk l.prog w K mg base CX0 5 f3 _ ["many"] spChk := ok_chk F3 gM
  have G1_6 : FnOk l.prog w K mg base CX0 6 f1 _ ["many", "size"] spLots := ok_lots (k := 4) F1 ⟨n5, n9, n3, gK⟩ G3_5 g3 F3.kp b3
  have G4_6 : FnOk l.prog w K mg base CX0 6 f4 _ ["row"] (spAre K) := ok_are F4 TS
  have G15_7 : FnOk l.prog w K mg base CX0 7 f15 _ ["things", "rank", "signs"] (spSbl K) := ok_sbl F15 n7 n13 G1_6 g1 F1.kp b1 G4_6 g4 F4.kp b4
  have G18_7 : FnOk l.prog w K mg base CX0 7 f18 _ ["things", "bases"] spEx := ok_ex F18 n9 n11 n6 n15
  have G2_4 : FnOk l.prog w K mg base CX0 4 f2 _ ["row"] (spSign K) := ok_sign F2 n10
  have G16_5 : FnOk l.prog w K mg base CX0 5 f16 _ ["by_lot", "row"] (spSin K) := ok_sin F16 n6 n15 G2_4 g2 F2.kp b2
  have G20_6 : FnOk l.prog w K mg base CX0 6 f20 _ ["by_lot", "lot", "four"] spTh := ok_th F20 G16_5 g16 F16.kp b16
  have G19_7 : FnOk l.prog w K mg base CX0 7 f19 _ ["things", "rank", "by_lot"] spTf := ok_tf F19 n9 gK G1_6 g1 F1.kp b1 G20_6 g20 F20.kp b20
  have G5_6 : FnOk l.prog w K mg base CX0 6 f5 _ ["row"] (spFst K) := ok_fst F5
  have G6_6 : FnOk l.prog w K mg base CX0 6 f6 _ ["row"] (spOpp K) := ok_opp F6 n6
  have G17_7 : FnOk l.prog w K mg base CX0 7 f17 _ ["signs"] (spTold K) := ok_told F17 n6 G5_6 g5 F5.kp b5 G6_6 g6 F6.kp b6
  have G14_8 : FnOk l.prog w K mg base CX0 8 f14 _ ["things", "rank", "signs"] spJ := j_of (ok_jd F14 G15_7 g15 F15.kp b15 G18_7 g18 F18.kp b18 G19_7 g19 F19.kp b19 G17_7 g17 F17.kp b17)
  have G3_6 : FnOk l.prog w K mg base CX0 6 f3 _ ["many"] spChk := ok_chk F3 gM
  have G1_7 : FnOk l.prog w K mg base CX0 7 f1 _ ["many", "size"] spLots := ok_lots (k := 5) F1 ⟨n5, n9, n3, gK⟩ G3_6 g3 F3.kp b3
  have G4_7 : FnOk l.prog w K mg base CX0 7 f4 _ ["row"] (spAre K) := ok_are F4 TS
  have G15_8 : FnOk l.prog w K mg base CX0 8 f15 _ ["things", "rank", "signs"] (spSbl K) := ok_sbl F15 n7 n13 G1_7 g1 F1.kp b1 G4_7 g4 F4.kp b4
  have GM1_9 : FnOk l.prog w K mg base CX0 9 m1 _ ["self", "things", "rank", "signs"] (spHi CH) := ok_hi FM1 TH G14_8 g14 F14.kp b14 G15_8 g15 F15.kp b15
  have G38_11 : FnOk l.prog w K mg base CX0 11 f38 _ ["_law_bag_here", "_law_m"] (spLh CH) := ok_lh F38 TH G23_10 g23 F23.kp b23 G31_10 g31 F31.kp b31 MK GM1_9 bm1
  have G25_10 : FnOk l.prog w K mg base CX0 10 f25 _ ["_law_many", "_law_size"] LL.spLL := LL.ok_ll F25 n9
  have G39_10 : FnOk l.prog w K mg base CX0 10 f39 _ ["_law_some"] spLbo := ok_lbo F39 n11 n15 n6 n16
  have G40_11 : FnOk l.prog w K mg base CX0 11 f40 _ ["_law_m"] spLrg := ok_lrg F40 n9 n7 G25_10 g25 F25.kp b25 G39_10 g39 F39.kp b39
  have G32_10 : FnOk l.prog w K mg base CX0 10 f32 _ ["_law_m", "_law_row_here"] (spRe K) := ok_re F32 n6 n15 G26_9 g26 F26.kp b26
  have G41_11 : FnOk l.prog w K mg base CX0 11 f41 _ ["_law_m"] spLcu := ok_lcu F41 n9 G25_10 g25 F25.kp b25 G32_10 g32 F32.kp b32 G39_10 g39 F39.kp b39
  have GM2_10 : FnOk l.prog w K mg base CX0 10 m2 _ ["self"] (spHt CH) := ok_ht FM2 TH
  have GM3_10 : FnOk l.prog w K mg base CX0 10 m3 _ ["self"] (spHr CH) := ok_hr FM3 TH
  have G3_9 : FnOk l.prog w K mg base CX0 9 f3 _ ["many"] spChk := ok_chk F3 gM
  have G1_10 : FnOk l.prog w K mg base CX0 10 f1 _ ["many", "size"] spLots := ok_lots (k := 8) F1 ⟨n5, n9, n3, gK⟩ G3_9 g3 F3.kp b3
  have GM2_9 : FnOk l.prog w K mg base CX0 9 m2 _ ["self"] (spHt CH) := ok_ht FM2 TH
  have G2_7 : FnOk l.prog w K mg base CX0 7 f2 _ ["row"] (spSign K) := ok_sign F2 n10
  have G16_8 : FnOk l.prog w K mg base CX0 8 f16 _ ["by_lot", "row"] (spSin K) := ok_sin F16 n6 n15 G2_7 g2 F2.kp b2
  have GM4_9 : FnOk l.prog w K mg base CX0 9 m4 _ ["self", "row"] (spSg K CH) := ok_sgn FM4 TH n11 n7 G16_8 g16 F16.kp b16
  have G11_10 : FnOk l.prog w K mg base CX0 10 f11 _ ["house", "lot"] (spRr CH) := ok_rr F11 TH n10 n6 GM2_9 ⟨am2, im2, km2⟩ bm2 GM4_9 ⟨am4, im4, km4⟩ bm4
  have G6_9 : FnOk l.prog w K mg base CX0 9 f6 _ ["row"] (spOpp K) := ok_opp F6 n6
  have G13_10 : FnOk l.prog w K mg base CX0 10 f13 _ ["rows"] spBw := ok_bw F13 n11 n15 G6_9 g6 F6.kp b6
  have G8_11 : FnOk l.prog w K mg base CX0 11 f8 _ ["house"] (spRg CH) := ok_rg F8 TH GM2_10 ⟨am2, im2, km2⟩ bm2 GM3_10 ⟨am3, im3, km3⟩ bm3 G1_10 g1 F1.kp b1 G11_10 g11 F11.kp b11 G13_10 g13 F13.kp b13
  have G12_10 : FnOk l.prog w K mg base CX0 10 f12 _ ["house", "lot"] (spCr CH) := ok_cr F12 TH n9 n6 GM2_9 ⟨am2, im2, km2⟩ bm2 GM4_9 ⟨am4, im4, km4⟩ bm4
  have G9_11 : FnOk l.prog w K mg base CX0 11 f9 _ ["house"] (spCu CH) := ok_cu F9 TH GM2_10 ⟨am2, im2, km2⟩ bm2 GM3_10 ⟨am3, im3, km3⟩ bm3 G1_10 g1 F1.kp b1 G12_10 g12 F12.kp b12 G13_10 g13 F13.kp b13
  have GM3_9 : FnOk l.prog w K mg base CX0 9 m3 _ ["self"] (spHr CH) := ok_hr FM3 TH
  have G3_8 : FnOk l.prog w K mg base CX0 8 f3 _ ["many"] spChk := ok_chk F3 gM
  have G1_9 : FnOk l.prog w K mg base CX0 9 f1 _ ["many", "size"] spLots := ok_lots (k := 7) F1 ⟨n5, n9, n3, gK⟩ G3_8 g3 F3.kp b3
  have GM2_8 : FnOk l.prog w K mg base CX0 8 m2 _ ["self"] (spHt CH) := ok_ht FM2 TH
  have G2_6 : FnOk l.prog w K mg base CX0 6 f2 _ ["row"] (spSign K) := ok_sign F2 n10
  have G16_7 : FnOk l.prog w K mg base CX0 7 f16 _ ["by_lot", "row"] (spSin K) := ok_sin F16 n6 n15 G2_6 g2 F2.kp b2
  have GM4_8 : FnOk l.prog w K mg base CX0 8 m4 _ ["self", "row"] (spSg K CH) := ok_sgn FM4 TH n11 n7 G16_7 g16 F16.kp b16
  have G12_9 : FnOk l.prog w K mg base CX0 9 f12 _ ["house", "lot"] (spCr CH) := ok_cr F12 TH n9 n6 GM2_8 ⟨am2, im2, km2⟩ bm2 GM4_8 ⟨am4, im4, km4⟩ bm4
  have G6_8 : FnOk l.prog w K mg base CX0 8 f6 _ ["row"] (spOpp K) := ok_opp F6 n6
  have G13_9 : FnOk l.prog w K mg base CX0 9 f13 _ ["rows"] spBw := ok_bw F13 n11 n15 G6_8 g6 F6.kp b6
  have G9_10 : FnOk l.prog w K mg base CX0 10 f9 _ ["house"] (spCu CH) := ok_cu F9 TH GM2_9 ⟨am2, im2, km2⟩ bm2 GM3_9 ⟨am3, im3, km3⟩ bm3 G1_9 g1 F1.kp b1 G12_9 g12 F12.kp b12 G13_9 g13 F13.kp b13
  have G5_10 : FnOk l.prog w K mg base CX0 10 f5 _ ["row"] (spFst K) := ok_fst F5
  have G10_11 : FnOk l.prog w K mg base CX0 11 f10 _ ["house"] (spHc CH) := ok_hc F10 G9_10 g9 F9.kp b9 G5_10 g5 F5.kp b5
  have G18_8 : FnOk l.prog w K mg base CX0 8 f18 _ ["things", "bases"] spEx := ok_ex F18 n9 n11 n6 n15
  have G2_5 : FnOk l.prog w K mg base CX0 5 f2 _ ["row"] (spSign K) := ok_sign F2 n10
  have G16_6 : FnOk l.prog w K mg base CX0 6 f16 _ ["by_lot", "row"] (spSin K) := ok_sin F16 n6 n15 G2_5 g2 F2.kp b2
  have G20_7 : FnOk l.prog w K mg base CX0 7 f20 _ ["by_lot", "lot", "four"] spTh := ok_th F20 G16_6 g16 F16.kp b16
  have G19_8 : FnOk l.prog w K mg base CX0 8 f19 _ ["things", "rank", "by_lot"] spTf := ok_tf F19 n9 gK G1_7 g1 F1.kp b1 G20_7 g20 F20.kp b20
  have G5_7 : FnOk l.prog w K mg base CX0 7 f5 _ ["row"] (spFst K) := ok_fst F5
  have G6_7 : FnOk l.prog w K mg base CX0 7 f6 _ ["row"] (spOpp K) := ok_opp F6 n6
  have G17_8 : FnOk l.prog w K mg base CX0 8 f17 _ ["signs"] (spTold K) := ok_told F17 n6 G5_7 g5 F5.kp b5 G6_7 g6 F6.kp b6
  have G14_9 : FnOk l.prog w K mg base CX0 9 f14 _ ["things", "rank", "signs"] spJ := j_of (ok_jd F14 G15_8 g15 F15.kp b15 G18_8 g18 F18.kp b18 G19_8 g19 F19.kp b19 G17_8 g17 F17.kp b17)
  have G3_7 : FnOk l.prog w K mg base CX0 7 f3 _ ["many"] spChk := ok_chk F3 gM
  have G1_8 : FnOk l.prog w K mg base CX0 8 f1 _ ["many", "size"] spLots := ok_lots (k := 6) F1 ⟨n5, n9, n3, gK⟩ G3_7 g3 F3.kp b3
  have G4_8 : FnOk l.prog w K mg base CX0 8 f4 _ ["row"] (spAre K) := ok_are F4 TS
  have G15_9 : FnOk l.prog w K mg base CX0 9 f15 _ ["things", "rank", "signs"] (spSbl K) := ok_sbl F15 n7 n13 G1_8 g1 F1.kp b1 G4_8 g4 F4.kp b4
  have GM1_10 : FnOk l.prog w K mg base CX0 10 m1 _ ["self", "things", "rank", "signs"] (spHi CH) := ok_hi FM1 TH G14_9 g14 F14.kp b14 G15_9 g15 F15.kp b15
  exact ok_law F42 T1 TH ⟨f21, _, G21_11, g21, F21.kp, b21⟩ ⟨f24, _, G24_11, g24, F24.kp, b24⟩ ⟨f29, _, G29_11, g29, F29.kp, b29⟩ ⟨f37, _, G37_11, g37, F37.kp, b37⟩ ⟨f38, _, G38_11, g38, F38.kp, b38⟩ ⟨f40, _, G40_11, g40, F40.kp, b40⟩ ⟨f41, _, G41_11, g41, F41.kp, b41⟩ ⟨f8, _, G8_11, g8, F8.kp, b8⟩ ⟨f9, _, G9_11, g9, F9.kp, b9⟩ (kb_cu F9) ⟨f10, _, G10_11, g10, F10.kp, b10⟩ MK GM1_10 bm1
end K14
open PySem PySem.W PyProof.Rows
set_option maxRecDepth 100000 in
set_option maxHeartbeats 0 in
theorem PySem.Challenge.cw_signcleave_k14_rings_and_cuts_told_holds : PySem.Challenge.rw_signcleave_k14_rings_and_cuts_told.Holds := by
  w_on; o_law; k_head; (case hw => w_witness2)
  k_fill
  refine L2.walk_of (l := PySem.Challenge.rw_signcleave_k14_rings_and_cuts_told) (n := 63) (k := 12) (x := "_law_script") (CX := fun _ => L2.CX0) (sp := fun w => K14.spLaw _) rfl (by decide) rfl ⟨rfl, by decide, by decide⟩ (fun w h Y => PySem.W.kIn_of Y) ?F (fun _ _ a ns hl _ hS => ⟨a, ns, rfl, hS, hl, fun _ => rfl⟩) (fun _ _ _ _ _ h => h)
  case F =>
    intro w mg fa h KX G hmg
    refine' K14.all_mk KX G hmg ?a1 ?l1 ?c1 ?k1 ?a2 ?l2 ?c2 ?k2 ?a3 ?l3 ?c3 ?k3 ?a4 ?l4 ?c4 ?k4 ?a5 ?l5 ?c5 ?k5 ?a6 ?l6 ?c6 ?k6 ?a7 ?l7 ?c7 ?k7 ?a8 ?l8 ?c8 ?k8 ?a9 ?l9 ?c9 ?k9 ?a10 ?l10 ?c10 ?k10 ?a11 ?l11 ?c11 ?k11 ?a12 ?l12 ?c12 ?k12 ?a13 ?l13 ?c13 ?k13 ?a14 ?l14 ?c14 ?k14 ?a15 ?l15 ?c15 ?k15 ?a16 ?l16 ?c16 ?k16 ?a17 ?l17 ?c17 ?k17 ?a18 ?l18 ?c18 ?k18 ?a19 ?l19 ?c19 ?k19 ?a20 ?l20 ?c20 ?k20 ?a21 ?l21 ?c21 ?k21 ?a22 ?l22 ?c22 ?k22 ?a23 ?l23 ?c23 ?k23 ?a24 ?l24 ?c24 ?k24 ?a25 ?l25 ?c25 ?k25 ?a26 ?l26 ?c26 ?k26 ?a27 ?l27 ?c27 ?k27 ?a28 ?l28 ?c28 ?k28 ?a29 ?l29 ?c29 ?k29 ?a30 ?l30 ?c30 ?k30 ?a31 ?l31 ?c31 ?k31 ?a32 ?l32 ?c32 ?k32 ?a33 ?l33 ?c33 ?k33 ?a34 ?l34 ?c34 ?k34 ?a35 ?l35 ?c35 ?k35 ?a36 ?l36 ?c36 ?k36 ?a37 ?l37 ?c37 ?k37 ?a38 ?l38 ?c38 ?k38 ?a39 ?l39 ?c39 ?k39 ?a40 ?l40 ?c40 ?k40 ?a41 ?l41 ?c41 ?k41 ?a42 ?l42 ?c42 ?k42 ?z1 ?z2 ?z3 ?z4 ?z5 ?z6 ?z7 ?z8 ?z9 ?z10 ?z11 ?z12 ?z13 ?z14 ?z15 ?z16 ?z17 ?z18 ?z19 ?zM ?zK ?gS ?lS ?aH ?am1 ?im1 ?lm1 ?cm1 ?km1 ?am2 ?im2 ?lm2 ?cm2 ?km2 ?am3 ?im3 ?lm3 ?cm3 ?km3 ?am4 ?im4 ?lm4 ?cm4 ?km4 ?pgH ?hdH ?poH ?saH ?mkH ?kcH ?nH1 ?nH2 ?nH3 ?nH4
    (case a1 => first | k_is | ks_is | kernel_rfl | decide +kernel)
    (case l1 => first | k_is | ks_is | kernel_rfl | decide +kernel)
    (case c1 => first | k_is | ks_is | kernel_rfl | decide +kernel)
    (case k1 => first | k_is | ks_is | kernel_rfl | decide +kernel)
    (case a2 => first | k_is | ks_is | kernel_rfl | decide +kernel)
    (case l2 => first | k_is | ks_is | kernel_rfl | decide +kernel)
    (case c2 => first | k_is | ks_is | kernel_rfl | decide +kernel)
    (case k2 => first | k_is | ks_is | kernel_rfl | decide +kernel)
    (case a3 => first | k_is | ks_is | kernel_rfl | decide +kernel)
    (case l3 => first | k_is | ks_is | kernel_rfl | decide +kernel)
    (case c3 => first | k_is | ks_is | kernel_rfl | decide +kernel)
    (case k3 => first | k_is | ks_is | kernel_rfl | decide +kernel)
    (case a4 => first | k_is | ks_is | kernel_rfl | decide +kernel)
    (case l4 => first | k_is | ks_is | kernel_rfl | decide +kernel)
    (case c4 => first | k_is | ks_is | kernel_rfl | decide +kernel)
    (case k4 => first | k_is | ks_is | kernel_rfl | decide +kernel)
    (case a5 => first | k_is | ks_is | kernel_rfl | decide +kernel)
    (case l5 => first | k_is | ks_is | kernel_rfl | decide +kernel)
    (case c5 => first | k_is | ks_is | kernel_rfl | decide +kernel)
    (case k5 => first | k_is | ks_is | kernel_rfl | decide +kernel)
    (case a6 => first | k_is | ks_is | kernel_rfl | decide +kernel)
    (case l6 => first | k_is | ks_is | kernel_rfl | decide +kernel)
    (case c6 => first | k_is | ks_is | kernel_rfl | decide +kernel)
    (case k6 => first | k_is | ks_is | kernel_rfl | decide +kernel)
    (case a7 => first | k_is | ks_is | kernel_rfl | decide +kernel)
    (case l7 => first | k_is | ks_is | kernel_rfl | decide +kernel)
    (case c7 => first | k_is | ks_is | kernel_rfl | decide +kernel)
    (case k7 => first | k_is | ks_is | kernel_rfl | decide +kernel)
    (case a8 => first | k_is | ks_is | kernel_rfl | decide +kernel)
    (case l8 => first | k_is | ks_is | kernel_rfl | decide +kernel)
    (case c8 => first | k_is | ks_is | kernel_rfl | decide +kernel)
    (case k8 => first | k_is | ks_is | kernel_rfl | decide +kernel)
    (case a9 => first | k_is | ks_is | kernel_rfl | decide +kernel)
    (case l9 => first | k_is | ks_is | kernel_rfl | decide +kernel)
    (case c9 => first | k_is | ks_is | kernel_rfl | decide +kernel)
    (case k9 => first | k_is | ks_is | kernel_rfl | decide +kernel)
    (case a10 => first | k_is | ks_is | kernel_rfl | decide +kernel)
    (case l10 => first | k_is | ks_is | kernel_rfl | decide +kernel)
    (case c10 => first | k_is | ks_is | kernel_rfl | decide +kernel)
    (case k10 => first | k_is | ks_is | kernel_rfl | decide +kernel)
    (case a11 => first | k_is | ks_is | kernel_rfl | decide +kernel)
    (case l11 => first | k_is | ks_is | kernel_rfl | decide +kernel)
    (case c11 => first | k_is | ks_is | kernel_rfl | decide +kernel)
    (case k11 => first | k_is | ks_is | kernel_rfl | decide +kernel)
    (case a12 => first | k_is | ks_is | kernel_rfl | decide +kernel)
    (case l12 => first | k_is | ks_is | kernel_rfl | decide +kernel)
    (case c12 => first | k_is | ks_is | kernel_rfl | decide +kernel)
    (case k12 => first | k_is | ks_is | kernel_rfl | decide +kernel)
    (case a13 => first | k_is | ks_is | kernel_rfl | decide +kernel)
    (case l13 => first | k_is | ks_is | kernel_rfl | decide +kernel)
    (case c13 => first | k_is | ks_is | kernel_rfl | decide +kernel)
    (case k13 => first | k_is | ks_is | kernel_rfl | decide +kernel)
    (case a14 => first | k_is | ks_is | kernel_rfl | decide +kernel)
    (case l14 => first | k_is | ks_is | kernel_rfl | decide +kernel)
    (case c14 => first | k_is | ks_is | kernel_rfl | decide +kernel)
    (case k14 => first | k_is | ks_is | kernel_rfl | decide +kernel)
    (case a15 => first | k_is | ks_is | kernel_rfl | decide +kernel)
    (case l15 => first | k_is | ks_is | kernel_rfl | decide +kernel)
    (case c15 => first | k_is | ks_is | kernel_rfl | decide +kernel)
    (case k15 => first | k_is | ks_is | kernel_rfl | decide +kernel)
    (case a16 => first | k_is | ks_is | kernel_rfl | decide +kernel)
    (case l16 => first | k_is | ks_is | kernel_rfl | decide +kernel)
    (case c16 => first | k_is | ks_is | kernel_rfl | decide +kernel)
    (case k16 => first | k_is | ks_is | kernel_rfl | decide +kernel)
    (case a17 => first | k_is | ks_is | kernel_rfl | decide +kernel)
    (case l17 => first | k_is | ks_is | kernel_rfl | decide +kernel)
    (case c17 => first | k_is | ks_is | kernel_rfl | decide +kernel)
    (case k17 => first | k_is | ks_is | kernel_rfl | decide +kernel)
    (case a18 => first | k_is | ks_is | kernel_rfl | decide +kernel)
    (case l18 => first | k_is | ks_is | kernel_rfl | decide +kernel)
    (case c18 => first | k_is | ks_is | kernel_rfl | decide +kernel)
    (case k18 => first | k_is | ks_is | kernel_rfl | decide +kernel)
    (case a19 => first | k_is | ks_is | kernel_rfl | decide +kernel)
    (case l19 => first | k_is | ks_is | kernel_rfl | decide +kernel)
    (case c19 => first | k_is | ks_is | kernel_rfl | decide +kernel)
    (case k19 => first | k_is | ks_is | kernel_rfl | decide +kernel)
    (case a20 => first | k_is | ks_is | kernel_rfl | decide +kernel)
    (case l20 => first | k_is | ks_is | kernel_rfl | decide +kernel)
    (case c20 => first | k_is | ks_is | kernel_rfl | decide +kernel)
    (case k20 => first | k_is | ks_is | kernel_rfl | decide +kernel)
    (case a21 => first | k_is | ks_is | kernel_rfl | decide +kernel)
    (case l21 => first | k_is | ks_is | kernel_rfl | decide +kernel)
    (case c21 => first | k_is | ks_is | kernel_rfl | decide +kernel)
    (case k21 => first | k_is | ks_is | kernel_rfl | decide +kernel)
    (case a22 => first | k_is | ks_is | kernel_rfl | decide +kernel)
    (case l22 => first | k_is | ks_is | kernel_rfl | decide +kernel)
    (case c22 => first | k_is | ks_is | kernel_rfl | decide +kernel)
    (case k22 => first | k_is | ks_is | kernel_rfl | decide +kernel)
    (case a23 => first | k_is | ks_is | kernel_rfl | decide +kernel)
    (case l23 => first | k_is | ks_is | kernel_rfl | decide +kernel)
    (case c23 => first | k_is | ks_is | kernel_rfl | decide +kernel)
    (case k23 => first | k_is | ks_is | kernel_rfl | decide +kernel)
    (case a24 => first | k_is | ks_is | kernel_rfl | decide +kernel)
    (case l24 => first | k_is | ks_is | kernel_rfl | decide +kernel)
    (case c24 => first | k_is | ks_is | kernel_rfl | decide +kernel)
    (case k24 => first | k_is | ks_is | kernel_rfl | decide +kernel)
    (case a25 => first | k_is | ks_is | kernel_rfl | decide +kernel)
    (case l25 => first | k_is | ks_is | kernel_rfl | decide +kernel)
    (case c25 => first | k_is | ks_is | kernel_rfl | decide +kernel)
    (case k25 => first | k_is | ks_is | kernel_rfl | decide +kernel)
    (case a26 => first | k_is | ks_is | kernel_rfl | decide +kernel)
    (case l26 => first | k_is | ks_is | kernel_rfl | decide +kernel)
    (case c26 => first | k_is | ks_is | kernel_rfl | decide +kernel)
    (case k26 => first | k_is | ks_is | kernel_rfl | decide +kernel)
    (case a27 => first | k_is | ks_is | kernel_rfl | decide +kernel)
    (case l27 => first | k_is | ks_is | kernel_rfl | decide +kernel)
    (case c27 => first | k_is | ks_is | kernel_rfl | decide +kernel)
    (case k27 => first | k_is | ks_is | kernel_rfl | decide +kernel)
    (case a28 => first | k_is | ks_is | kernel_rfl | decide +kernel)
    (case l28 => first | k_is | ks_is | kernel_rfl | decide +kernel)
    (case c28 => first | k_is | ks_is | kernel_rfl | decide +kernel)
    (case k28 => first | k_is | ks_is | kernel_rfl | decide +kernel)
    (case a29 => first | k_is | ks_is | kernel_rfl | decide +kernel)
    (case l29 => first | k_is | ks_is | kernel_rfl | decide +kernel)
    (case c29 => first | k_is | ks_is | kernel_rfl | decide +kernel)
    (case k29 => first | k_is | ks_is | kernel_rfl | decide +kernel)
    (case a30 => first | k_is | ks_is | kernel_rfl | decide +kernel)
    (case l30 => first | k_is | ks_is | kernel_rfl | decide +kernel)
    (case c30 => first | k_is | ks_is | kernel_rfl | decide +kernel)
    (case k30 => first | k_is | ks_is | kernel_rfl | decide +kernel)
    (case a31 => first | k_is | ks_is | kernel_rfl | decide +kernel)
    (case l31 => first | k_is | ks_is | kernel_rfl | decide +kernel)
    (case c31 => first | k_is | ks_is | kernel_rfl | decide +kernel)
    (case k31 => first | k_is | ks_is | kernel_rfl | decide +kernel)
    (case a32 => first | k_is | ks_is | kernel_rfl | decide +kernel)
    (case l32 => first | k_is | ks_is | kernel_rfl | decide +kernel)
    (case c32 => first | k_is | ks_is | kernel_rfl | decide +kernel)
    (case k32 => first | k_is | ks_is | kernel_rfl | decide +kernel)
    (case a33 => first | k_is | ks_is | kernel_rfl | decide +kernel)
    (case l33 => first | k_is | ks_is | kernel_rfl | decide +kernel)
    (case c33 => first | k_is | ks_is | kernel_rfl | decide +kernel)
    (case k33 => first | k_is | ks_is | kernel_rfl | decide +kernel)
    (case a34 => first | k_is | ks_is | kernel_rfl | decide +kernel)
    (case l34 => first | k_is | ks_is | kernel_rfl | decide +kernel)
    (case c34 => first | k_is | ks_is | kernel_rfl | decide +kernel)
    (case k34 => first | k_is | ks_is | kernel_rfl | decide +kernel)
    (case a35 => first | k_is | ks_is | kernel_rfl | decide +kernel)
    (case l35 => first | k_is | ks_is | kernel_rfl | decide +kernel)
    (case c35 => first | k_is | ks_is | kernel_rfl | decide +kernel)
    (case k35 => first | k_is | ks_is | kernel_rfl | decide +kernel)
    (case a36 => first | k_is | ks_is | kernel_rfl | decide +kernel)
    (case l36 => first | k_is | ks_is | kernel_rfl | decide +kernel)
    (case c36 => first | k_is | ks_is | kernel_rfl | decide +kernel)
    (case k36 => first | k_is | ks_is | kernel_rfl | decide +kernel)
    (case a37 => first | k_is | ks_is | kernel_rfl | decide +kernel)
    (case l37 => first | k_is | ks_is | kernel_rfl | decide +kernel)
    (case c37 => first | k_is | ks_is | kernel_rfl | decide +kernel)
    (case k37 => first | k_is | ks_is | kernel_rfl | decide +kernel)
    (case a38 => first | k_is | ks_is | kernel_rfl | decide +kernel)
    (case l38 => first | k_is | ks_is | kernel_rfl | decide +kernel)
    (case c38 => first | k_is | ks_is | kernel_rfl | decide +kernel)
    (case k38 => first | k_is | ks_is | kernel_rfl | decide +kernel)
    (case a39 => first | k_is | ks_is | kernel_rfl | decide +kernel)
    (case l39 => first | k_is | ks_is | kernel_rfl | decide +kernel)
    (case c39 => first | k_is | ks_is | kernel_rfl | decide +kernel)
    (case k39 => first | k_is | ks_is | kernel_rfl | decide +kernel)
    (case a40 => first | k_is | ks_is | kernel_rfl | decide +kernel)
    (case l40 => first | k_is | ks_is | kernel_rfl | decide +kernel)
    (case c40 => first | k_is | ks_is | kernel_rfl | decide +kernel)
    (case k40 => first | k_is | ks_is | kernel_rfl | decide +kernel)
    (case a41 => first | k_is | ks_is | kernel_rfl | decide +kernel)
    (case l41 => first | k_is | ks_is | kernel_rfl | decide +kernel)
    (case c41 => first | k_is | ks_is | kernel_rfl | decide +kernel)
    (case k41 => first | k_is | ks_is | kernel_rfl | decide +kernel)
    (case a42 => first | k_is | ks_is | kernel_rfl | decide +kernel)
    (case l42 => first | k_is | ks_is | kernel_rfl | decide +kernel)
    (case c42 => first | k_is | ks_is | kernel_rfl | decide +kernel)
    (case k42 => first | k_is | ks_is | kernel_rfl | decide +kernel)
    (case z1 => first | k_is | ks_is | kernel_rfl | decide +kernel)
    (case z2 => first | k_is | ks_is | kernel_rfl | decide +kernel)
    (case z3 => first | k_is | ks_is | kernel_rfl | decide +kernel)
    (case z4 => first | k_is | ks_is | kernel_rfl | decide +kernel)
    (case z5 => first | k_is | ks_is | kernel_rfl | decide +kernel)
    (case z6 => first | k_is | ks_is | kernel_rfl | decide +kernel)
    (case z7 => first | k_is | ks_is | kernel_rfl | decide +kernel)
    (case z8 => first | k_is | ks_is | kernel_rfl | decide +kernel)
    (case z9 => first | k_is | ks_is | kernel_rfl | decide +kernel)
    (case z10 => first | k_is | ks_is | kernel_rfl | decide +kernel)
    (case z11 => first | k_is | ks_is | kernel_rfl | decide +kernel)
    (case z12 => first | k_is | ks_is | kernel_rfl | decide +kernel)
    (case z13 => first | k_is | ks_is | kernel_rfl | decide +kernel)
    (case z14 => first | k_is | ks_is | kernel_rfl | decide +kernel)
    (case z15 => first | k_is | ks_is | kernel_rfl | decide +kernel)
    (case z16 => first | k_is | ks_is | kernel_rfl | decide +kernel)
    (case z17 => first | k_is | ks_is | kernel_rfl | decide +kernel)
    (case z18 => first | k_is | ks_is | kernel_rfl | decide +kernel)
    (case z19 => first | k_is | ks_is | kernel_rfl | decide +kernel)
    (case zM => first | k_is | ks_is | kernel_rfl | decide +kernel)
    (case zK => first | k_is | ks_is | kernel_rfl | decide +kernel)
    (case gS => first | k_is | ks_is | kernel_rfl | decide +kernel)
    (case lS => first | k_is | ks_is | kernel_rfl | decide +kernel)
    (case aH => first | k_is | ks_is | kernel_rfl | decide +kernel)
    (case am1 => first | k_is | ks_is | kernel_rfl | decide +kernel)
    (case im1 => first | k_is | ks_is | kernel_rfl | decide +kernel)
    (case lm1 => first | k_is | ks_is | kernel_rfl | decide +kernel)
    (case cm1 => first | k_is | ks_is | kernel_rfl | decide +kernel)
    (case km1 => first | k_is | ks_is | kernel_rfl | decide +kernel)
    (case am2 => first | k_is | ks_is | kernel_rfl | decide +kernel)
    (case im2 => first | k_is | ks_is | kernel_rfl | decide +kernel)
    (case lm2 => first | k_is | ks_is | kernel_rfl | decide +kernel)
    (case cm2 => first | k_is | ks_is | kernel_rfl | decide +kernel)
    (case km2 => first | k_is | ks_is | kernel_rfl | decide +kernel)
    (case am3 => first | k_is | ks_is | kernel_rfl | decide +kernel)
    (case im3 => first | k_is | ks_is | kernel_rfl | decide +kernel)
    (case lm3 => first | k_is | ks_is | kernel_rfl | decide +kernel)
    (case cm3 => first | k_is | ks_is | kernel_rfl | decide +kernel)
    (case km3 => first | k_is | ks_is | kernel_rfl | decide +kernel)
    (case am4 => first | k_is | ks_is | kernel_rfl | decide +kernel)
    (case im4 => first | k_is | ks_is | kernel_rfl | decide +kernel)
    (case lm4 => first | k_is | ks_is | kernel_rfl | decide +kernel)
    (case cm4 => first | k_is | ks_is | kernel_rfl | decide +kernel)
    (case km4 => first | k_is | ks_is | kernel_rfl | decide +kernel)
    (case pgH => first | k_is | ks_is | kernel_rfl | decide +kernel)
    (case hdH => first | k_is | ks_is | kernel_rfl | decide +kernel)
    (case poH => first | k_is | ks_is | kernel_rfl | decide +kernel)
    (case saH => first | k_is | ks_is | kernel_rfl | decide +kernel)
    (case mkH => first | k_is | ks_is | kernel_rfl | decide +kernel)
    (case kcH => first | k_is | ks_is | kernel_rfl | decide +kernel)
    (case nH1 => first | k_is | ks_is | kernel_rfl | decide +kernel)
    (case nH2 => first | k_is | ks_is | kernel_rfl | decide +kernel)
    (case nH3 => first | k_is | ks_is | kernel_rfl | decide +kernel)
    (case nH4 => first | k_is | ks_is | kernel_rfl | decide +kernel)
