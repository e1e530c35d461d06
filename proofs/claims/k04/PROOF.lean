import PyProof.Rows.All
import Wide.All
import OpenK.AllK
import Wide.FinOn
import HandS.ForMost
import HandS.IsInst
import HandS.Codes
import HandS.Conv
import HandS.Style
import KE.GoesEnum
import HandS.Wide
import KE.KFromBytes
import KE.KExcIs
import KE.KExcSuper
import HandS.Base
import HandS.Call
import HandS.Exc
import HandS.ForSpec
import HandS.TryMany
import HandS.Lambda
import KE.KDflt
import KE.GoesZip
import KE.GoesMore
import HandS.DictComp
import HandS.DictTup
import HandS.MakeKw
import HandS.SortKw
import KE.GoesEnumKw
import HandS.TupMul
import HandS.More
import HandS.MapObj
import HandS.FStr
import HandS.Deep
import HandS.EndTab
import PySem.Challenge.RW_signcleave_k04_boxes_reckoned
set_option Elab.async false
set_option linter.all false
set_option maxRecDepth 100000
namespace ET
open PySem PySem.Spec PyProof.Rows L2
/-! enumerate(t), t a tuple -/
theorem new_enumT {t : Addr} {items : Array Value} :
    Meets (Builtin.«enumerate.__new__» ⟨[.type "enumerate", .ref t], []⟩)
      (fun _ R s => s.heap.IsTuple t items ∧ R (.ok (.ret (.ref (s.heap.objs.size + 1))))
        { s with heap := (s.heap.push { cls := .type "tuple_iterator", data := .fields #[.ref t, .int 0 0] }).push { cls := .type "enumerate", data := .fields #[.none, .bool false, .ref s.heap.objs.size, rawInt 0, .none, .none] } }) :=
  .of_wp fun prog w A R s hyp => by
    obtain ⟨hp, g, d, tk, os⟩ := s
    obtain ⟨isT, rr⟩ := hyp
    have isSub := sub_enumerate
    have it1 : ∀ {A' : Around} {E Q : Value → Shared → Prop}, Q (.ref hp.objs.size) ⟨hp.push { cls := .type "tuple_iterator", data := .fields #[.ref t, .int 0 0] }, g, d, tk, os⟩ → wpAny (model prog w) A' (pyIter (.ref t)) Q E ⟨hp, g, d, tk, os⟩ :=
      fun q => wpAny_pyIter_tuple isT q
    have hz : (hp.push { cls := .type "tuple_iterator", data := .fields #[.ref t, .int 0 0] }).objs.size = hp.objs.size + 1 := Heap.size_push ..
    wp_walk using it1
    refine wpAny_stack_any fun st => wpAny_pure ?_
    split
    · rename_i c _ _ _ _ _
      cases (c == Value.type "enumerate") <;> (wp_walk using it1; rw [hz]; exact ⟨_, rfl, rr⟩)
    · wp_walk using it1
      rw [hz]
      exact ⟨_, rfl, rr⟩
theorem call_enumT {prog : Program} {w : World} {A : Around} {E : Value → Shared → Prop} {s : Shared} {t : Addr} {items : Array Value} {Q : Value → Shared → Prop} (isT : s.heap.IsTuple t items)
    (h : ∀ h', IsEnum h' (s.heap.objs.size + 1) s.heap.objs.size 0 .none → h'.IsTupleIter s.heap.objs.size t 0 →
      (∀ b o, s.heap.get? b = some o → h'.get? b = some o) → Q (.ref (s.heap.objs.size + 1)) { s with heap := h' }) :
    wpAny (model prog w) A (call (.type "enumerate") [.ref t]) Q E s := by
  refine callType_new F.called_enumerate (by decide) (F.typeCall_enumerate_1 _) (F.newCall_enumerate_1 _) (fun obj => F.args_object_init_2 obj _) F.entry_enumerate_new (new_enumT (items := items)) ⟨isT, ?_⟩
  have hz : (s.heap.push { cls := .type "tuple_iterator", data := .fields #[.ref t, .int 0 0] }).objs.size = s.heap.objs.size + 1 := Heap.size_push ..
  have he : ∀ o, o.isFreed = false → ((s.heap.push { cls := .type "tuple_iterator", data := .fields #[.ref t, .int 0 0] }).push o).get? (s.heap.objs.size + 1) = some o := fun o hf => by
    have q := Heap.get?_push_size (s.heap.push { cls := .type "tuple_iterator", data := .fields #[.ref t, .int 0 0] }) (o := o) hf
    rw [hz] at q
    exact q
  exact ⟨⟨_, he _ rfl, rfl⟩, h _ (he _ rfl) ⟨_, Heap.get?_push_of_some _ (Heap.get?_push_size _ rfl), rfl, rfl⟩ fun b o x => Heap.get?_push_of_some _ (Heap.get?_push_of_some _ x)⟩
/-- the tuple at a, item by item, each in a new pair -/
def IteT (K : PySem.W.Frag) (a : Addr) : It where
  go := fun i H => ∃ (xs : List V) (x : V), SqT K H a xs ∧ xs[i]? = some x
  yld := fun i H v H' => ∃ T x, v = .ref T ∧ H T = none ∧ H' = upd H T (.tup [.int (i : Nat), x]) ∧ ∀ xs, SqT K H a xs → xs[i]? = some x
  stop := fun i H => ∃ xs : List V, SqT K H a xs ∧ xs.length ≤ i
theorem turn_enumT {P : Program} {w : World} {K : PySem.W.Frag} {elts : List Expr} {kk : Nat} {tpos : Pos} (a e it : Addr) (hai : a ≠ it) (hae : a ≠ e) (hei : e ≠ it) :
    Turn P w K (.Tuple elts kk tpos) (IteT K a) [e, it] e (fun i h => (∃ old, IsEnum h e it ((i : Nat) : Int) old) ∧ h.IsTupleIter it a i) where
  mem := List.mem_cons_self
  obj := fun i h st b hb => by
    obtain ⟨⟨old, he⟩, o, ho, hc, hd⟩ := st
    rcases List.mem_cons.mp hb with z | z
    · subst z
      exact ⟨_, he, fun v q => nomatch q⟩
    · rw [List.mem_singleton.mp z]
      exact ⟨o, ho, fun v q => by rw [hd] at q; cases q⟩
  keep := fun i h h' st k => by
    obtain ⟨⟨old, he⟩, hi⟩ := st
    exact ⟨⟨old, k e (by simp) _ he⟩, hi.at fun o q => k it (by simp) o q⟩
  item := by
    rintro X rfl rfl rfl hc i pins s σ H E I hf ⟨⟨old, he⟩, hit⟩ ⟨xs, x, hq, hx⟩
    obtain ⟨its, rv, p, hz⟩ := I.tuple hq
    obtain ⟨u, hu, ru⟩ := rv.get hx
    have hp : s.heap.IsTuple a its.toArray := p
    have hel : e < s.heap.objs.size := Heap.lt_size he
    have hil : it < s.heap.objs.size := by
      obtain ⟨_, q, _⟩ := hit
      exact Heap.lt_size q
    have hlt : i < its.toArray.size := by
      have q := (List.getElem?_eq_some_iff.mp hu).1
      simpa using q
    refine wpAny_pyNext_enum_itemD (Draws.tuple (A := X.A.in1) (I.ok.hd hc) it a hai its.toArray) he ⟨hit, hp⟩ hlt hei (by simp [hei, Ne.symm hae]) fun y h' tk hy ho hit' hT hsz hk => ?_
    have ey : y = u := by
      have q : its[i]? = some y := by simpa using hy
      rw [hu] at q
      exact (Option.some.inj q).symm
    subst ey
    refine ⟨_, rfl, wpAny_letOwnedTupleGo_enum (s := { s with heap := h', toks := tk + 1 }) ho fun h'' he' sb => ?_⟩
    have hT2 : h''.get? s.heap.objs.size = some { cls := .type "tuple", data := .seq #[.int i tk, y] } := (sb.2 _ (Nat.ne_of_gt hel)).trans hT
    have pairOk : ObjOk X.prog X.w (upd H s.heap.objs.size (.tup [.int (i : Nat), x])) h'' s.heap.objs.size
        (.tup [.int (i : Nat), x]) := ⟨by show 2 ≤ sizeLine; decide, [.int i tk, y], .cons ⟨_, rfl⟩ (.cons ru .nil), _, hT2, rfl, _, rfl⟩
    have stays : ∀ c oc, c ∉ [e, it] → s.heap.get? c = some oc → h''.get? c = some oc := fun c oc hc' z => by
      have n1 : c ≠ e := fun z1 => hc' (by simp [z1])
      have n2 : c ≠ it := fun z1 => hc' (by simp [z1])
      exact (sb.2 c n1).trans (hk c oc n1 n2 z)
    have I1 : Inv X pins σ (upd H s.heap.objs.size (.tup [.int (i : Nat), x])) { s with heap := h'', toks := tk + 1 } :=
      I.turnedNew (ch := [e, it]) stays hf (Nat.le_refl _) pairOk
    have e1 : ((i + 1 : Nat) : Int) = (i : Int) + 1 := by omega
    refine ⟨.ref s.heap.objs.size, _, I1, rfl, ⟨_, x, rfl, I.hok.fresh (Nat.le_refl _), rfl, fun ys hy => by rw [I.tuple_inj hy hq]; exact hx⟩, ⟨⟨y, by rw [e1]; exact he'⟩, hit'.1.at fun o q => (sb.2 it (Ne.symm hei)).trans q⟩, fun b hb => ?_⟩
    have hb' : b < s.heap.objs.size := by
      rcases List.mem_cons.mp hb with z | z
      · rw [z]; exact hel
      · rw [List.mem_singleton.mp z]; exact hil
    rw [upd_ne (Nat.ne_of_lt hb')]
    exact (hf b hb).1
  done := by
    rintro X rfl rfl rfl hc i pins s σ H E I hf ⟨⟨old, he⟩, hit⟩ ⟨xs, hq, hx⟩
    obtain ⟨its, rv, p, hz⟩ := I.tuple hq
    have hp : s.heap.IsTuple a its.toArray := p
    obtain ⟨f0, f1, f2, f3, f4, f5⟩ := hf it (by simp)
    have hl := rv.length
    unfold pyNext
    refine wpAny_bind (wpAny_attempt (wpAny_callSpecial?_slot (name := Str.ofString "__next__") ⟨_, he, rfl⟩ F.slot_enumerate_next (wpAny_call_entry F.slot_enumerate_next ⟨_, he, rfl⟩ F.entry_enumerate_next ?_ (F.args_enumerate_next_1 _))))
    show wpAny _ _ (field (.ref e) 2 >>= _) _ _ _
    refine wpAny_bind (wpAny_field he rfl (x := .ref it) rfl (wpAny_bind (wpAny_nextOf_tuple_end (A := X.A.in1) (I.ok.hd hc) hit hp (by simp; omega) fun h' x eb hx' => ?_)))
    obtain ⟨o, ho, hcl⟩ := hx'
    exact wpAny_bind (wpAny_isInstance (T := "StopIteration") (b := true) ⟨o, ho, hcl⟩ isSubtype_stop (wpAny_pure ⟨rfl, I.turned (t' := s.toks) (fun b o hb q => eb b o hb q) f0 f1 f3 f4 f5⟩))
  self := fun A i s Q E st h => by
    obtain ⟨⟨_, he⟩, _⟩ := st
    exact wpAny_pyIter_enum he h
def iEnumT (K : PySem.W.Frag) (ta : TA) : TI := fun σ H R => ta σ H fun vs H1 => ∃ a xs, vs = [.ref a] ∧ SqT K H1 a xs ∧ R (IteT K a) H1
theorem pi_enumT {X : Cx} {e : Expr} {ta : TA} {p pos tpos : Pos} {elts : List Expr} {kk : Nat} (hg : Gl X "enumerate") (hm : X.mg "enumerate" = none) (ha : PA X [e] ta)
    (hs : starEach [e] X.env = [(false, eval e X.env)] := by rfl) : PI X (.Tuple elts kk tpos) (.Call (.Name "enumerate" p) [e] [] pos) (iEnumT X.K ta) := by
  refine ⟨fun pins s σ H R I h => Call_ (ld_blt I hg hm boot_enumerate (PyProof.Rows.callWith_type1 (thn (ha.run pos pins s σ H _ I h) fun us s1 h1 => ?_) hs rfl))⟩
  obtain ⟨vs, H1, I1, r1, a, xs, rfl, hq, q⟩ := h1
  cases r1 with
  | cons r rr =>
    cases rr
    cases r
    obtain ⟨its, rv, p', hz⟩ := I1.tuple hq
    have hp : s1.heap.IsTuple a its.toArray := p'
    have hlt : a < s1.heap.objs.size := IsTup.lt p'
    refine call_enumT hp fun h' he hit hk => wpAny_pyIter_enum he ?_
    have I2 : Inv X pins σ H1 { s1 with heap := h' } := I1.kept (t' := s1.toks) hk
    refine ⟨s1.heap.objs.size + 1, [s1.heap.objs.size + 1, s1.heap.objs.size], _, _, H1, rfl, I2, turn_enumT a (s1.heap.objs.size + 1) s1.heap.objs.size (Nat.ne_of_lt hlt) (Nat.ne_of_lt (Nat.lt_succ_of_lt hlt)) (Nat.succ_ne_self _), ⟨⟨.none, he⟩, hit⟩, fun b hb => ?_, q⟩
    have hb' : s1.heap.objs.size ≤ b := by
      rcases List.mem_cons.mp hb with z | z
      · rw [z]; exact Nat.le_succ _
      · rw [List.mem_singleton.mp z]; exact Nat.le_refl _
    exact I1.fpOk hb' (I1.hok.fresh hb')
end ET

namespace K4
open PySem PySem.Spec PyProof.Rows L2
def topS (i : Nat) : Stmt := PySem.Challenge.pw_signcleave_k04_boxes_reckoned.main.body.getD i (.Pass ⟨0, 0, 0, 0⟩)
abbrev sBag : Stmt := topS 16
abbrev sPull : Stmt := topS 17
abbrev sOf : Stmt := topS 18
theorem scPull : FnScope ["_law_bag_here", "_law_many", "_law_cell", "_law_got", "_law_base", "_law_twice"] ["_law_bag_here", "_law_many"] (defScope sPull) := ⟨rfl, rfl, rfl, by decide +kernel, rfl, by decide +kernel, by decide +kernel⟩
theorem scBag : FnScope ["_law_script", "_law_salt", "_law_cell"] ["_law_script"] (defScope sBag) := ⟨rfl, rfl, rfl, by decide +kernel, rfl, by decide +kernel, by decide +kernel⟩
theorem scOf : FnScope ["_law_bag_here", "_law_some"] ["_law_bag_here", "_law_some"] (defScope sOf) := ⟨rfl, rfl, rfl, by decide +kernel, rfl, by decide +kernel, by decide +kernel⟩

/-! ### the bag -/
def bagv (l : Addr) (i bank salt c : Int) : List V := [.ref l, .int i, .int bank, .int salt, .int c]
structure BagAt (l : Addr) (ns : List Int) (H : Hp) (b : Addr) : Prop where
  ne : l ≠ b
  ls : H l = some (.lst (ns.map V.int))
  ex : ∃ i bank salt c, H b = some (.lst (bagv l i bank salt c)) ∧ 0 ≤ i ∧ 0 ≤ bank ∧ 0 ≤ salt ∧ salt < 2147483629
def spPull : Sp := fun vs H Q _ => ∃ (b l : Addr) (m : Int) (ns : List Int), vs = [.ref b, .int m] ∧ 0 < m ∧ m < 4294967296 ∧ BagAt l ns H b ∧
  ∀ r xs, 0 ≤ r → r < m → BagAt l ns (upd H b (.lst xs)) b → Q (.int r) (upd H b (.lst xs))
theorem BagAt.put {l b : Addr} {ns : List Int} {H : Hp} (B : BagAt l ns H b) {i bank salt c : Int} (h1 : 0 ≤ i) (h2 : 0 ≤ bank) (h3 : 0 ≤ salt) (h4 : salt < 2147483629) : BagAt l ns (upd H b (.lst (bagv l i bank salt c))) b :=
  ⟨B.ne, by rw [upd_ne B.ne]; exact B.ls, i, bank, salt, c, upd_same, h1, h2, h3, h4⟩
theorem upd_self {H : Hp} {a : Addr} {o : HO} (h : H a = some o) : upd H a o = H := by
  funext b
  unfold upd
  split
  · rename_i e
    rw [e, h]
  · rfl
theorem mul_const {j : Int} (h : -(2 ^ 64) < j ∧ j < 2 ^ 64) (i : Int) : CMul i j := .inr h
section
variable {P : Program} {w : World} {K : PySem.W.Frag} {mg : Str → Option Value} {base : Heap}
theorem ok_pull {f : Addr} {fd : FuncData} {k : Nat} (F : Fun K "_law_pull" "_law_pull" sPull f fd) (ml : mg "len" = none) : FnOk P w K mg base CX0 (k + 1) f fd ["_law_bag_here", "_law_many"] spPull := by
  refine F.ok scPull (fun vs H Q E h => ?_) (fun cdv A outer s H vs Q E hr h => ?_)
  · obtain ⟨b, l, m, ns, rfl, _⟩ := h
    rfl
  · obtain ⟨b, l, m, ns, rfl, m0, m1, B, q⟩ := h
    refine ⟨_, C8.pss_cut (ps_if (PW.pt (pw_and (pt_cmpR op_lt (pe_ix ix_list (pv 0) pe_int (fun _ _ => rfl)) pe_int (nomark _))
          (pw_and1 (pt_cmpR op_lt (pe_ix ix_list (pv 0) pe_int (fun _ _ => rfl)) (pe_callB call_len_seq (by rfl) ml PySem.boot_len (pa_cons (pe_ix ix_list (pv 0) pe_int (fun _ _ => rfl)) pa_nil)) (nomark _)))))
        (pss_cons (ps_set (i := 2) scPull.nd rfl (Or.inl rfl) (pe_ix ix_list (pe_ix ix_list (pv 0) pe_int (fun _ _ => rfl)) (pe_ix ix_list (pv 0) pe_int (fun _ _ => rfl)) (fun _ _ => rfl)))
        (pss_cons (ps_asg (pe_op op_add (pe_ix ix_list (pv 0) pe_int (fun _ _ => rfl)) pe_int) (pg_sub (pv 0) pe_int set_list))
        (pss_one (ps_if (pt_cmpR op_ge (pv 2) (pe_op op_pow pe_int pe_int) (nomark _))
          (pss_one (ps_asg (pv 2) (pg_sub (pv 0) pe_int set_list)))
          (pss_one (ps_asg (pe_op op_mod (pe_op op_add (pe_op op_add (pe_op op_mul (pe_ix ix_list (pv 0) pe_int (fun _ _ => rfl)) pe_int) (pe_op op_mod (pv 2) pe_int)) pe_int) pe_int) (pg_sub (pv 0) pe_int set_list)))))))
        pss_nil)
      (pss_cons (ps_if (pt_cmpR op_gt (pe_ix ix_list (pv 0) pe_int (fun _ _ => rfl)) pe_int (nomark _))
        (pss_cons (ps_set (i := 3) scPull.nd rfl (Or.inl rfl) (pe_op op_mod (pe_ix ix_list (pv 0) pe_int (fun _ _ => rfl)) (pv 1)))
        (pss_cons (ps_asg (pe_op op_fdivW (pe_ix ix_list (pv 0) pe_int (fun _ _ => rfl)) (pv 1)) (pg_sub (pv 0) pe_int set_list))
        (pss_one (ps_ret (pv 3)))))
        pss_nil)
      (pss_cons (ps_asg (pe_op op_add (pe_ix ix_list (pv 0) pe_int (fun _ _ => rfl)) pe_int) (pg_sub (pv 0) pe_int set_list))
      (pss_cons (ps_set (i := 4) scPull.nd rfl (Or.inl rfl) (pe_op op_mod (pe_op op_add (pe_ix ix_list (pv 0) pe_int (fun _ _ => rfl)) (pe_op op_mul (pe_ix ix_list (pv 0) pe_int (fun _ _ => rfl)) pe_int)) pe_int))
      (pss_cons (ps_set (i := 5) scPull.nd rfl (Or.inl rfl) (pe_op op_mul (pe_op op_mod (pe_op op_mul (pv 4) (pv 4)) pe_int) (pe_op op_add (pe_op op_mod (pv 4) pe_int) pe_int)))
      (pss_cons (ps_asg (pe_op op_mod (pe_op op_add (pe_op op_add (pv 5) (pe_op op_mul pe_int (pv 4))) pe_int) pe_int) (pg_sub (pv 0) pe_int set_list))
      (pss_one (ps_ret (pe_op op_mod (pe_op op_add (pe_op op_fdiv (pe_ix ix_list (pv 0) pe_int (fun _ _ => rfl)) pe_int) (pe_op op_mul (pe_op op_mod (pe_ix ix_list (pv 0) pe_int (fun _ _ => rfl)) pe_int) pe_int)) (pv 1))))))))), ?_⟩
    obtain ⟨bl, ls, i, bank, salt, c, hB, i0, b0, s0, s1⟩ := id B
    have len5 : ∀ {i bank salt c : Int}, SqL K (upd H b (.lst (bagv l i bank salt c))) b (bagv l i bank salt c) := SqL.of upd_same
    have lsU : ∀ {xs : List V}, SqL K (upd H b (.lst xs)) l (ns.map V.int) := SqL.of (by rw [upd_ne bl]; exact ls)
    refine ⟨fun σ' H' => ∃ x2 i bank salt c, σ' = [some (.ref b), some (.int m), x2, none, none, none] ∧ H' = upd H b (.lst (bagv l i bank salt c)) ∧ 0 ≤ i ∧ 0 ≤ bank ∧ 0 ≤ salt ∧ salt < 2147483629, ?_, ?_⟩
    · have hself : upd H b (.lst (bagv l i bank salt c)) = H := upd_self hB
      refine ⟨_, rfl, b, _, 2, _, rfl, rfl, SqL.of hB, rfl, _, _, rfl, rfl, _, rfl, ite2 (fun h1 => ?_) (fun h1 => ?_)⟩
      · refine ⟨_, rfl, b, _, 1, _, rfl, rfl, SqL.of hB, rfl, _, rfl, b, _, 0, _, rfl, rfl, SqL.of hB, rfl, l, _, rfl, .inl (SqL.of ls), _, _, rfl, rfl, _, rfl, ite2 (fun h2 => ?_) (fun h2 => ?_)⟩
        · have hi : i < (ns.length : Int) := by
            have q := of_decide_eq_true h2
            rw [List.length_map] at q
            exact q
          obtain ⟨j, rfl⟩ : ∃ j : Nat, i = (j : Int) := ⟨i.toNat, by omega⟩
          have hj : j < ns.length := by omega
          refine ⟨_, rfl, b, _, 0, _, rfl, rfl, SqL.of hB, rfl, _, rfl, b, _, 1, _, rfl, rfl, SqL.of hB, rfl, l, _, _, .int ns[j], rfl, rfl, SqL.of ls, atI_nat (by rw [List.getElem?_map, List.getElem?_eq_getElem hj]; rfl), ?_⟩
          refine ⟨_, rfl, b, _, 1, _, rfl, rfl, SqL.of hB, rfl, _, _, rfl, rfl, _, rfl, b, _, 1, 1, rfl, rfl, hB, rfl, ?_⟩
          refine ⟨_, rfl, _, _, rfl, rfl, (by show (0:Int) ≤ 18 ∧ (18:Int) ≤ 1000000 ∧ (10 : Int).natAbs < 2 ^ 64; decide), _, _, rfl, rfl, _, rfl, ite2 (fun h3 => ?_) (fun h3 => ?_)⟩
          · have h3' : (10 : Int) ^ 18 ≤ ns[j] := of_decide_eq_true h3
            refine ⟨_, rfl, _, rfl, b, _, 2, 2, rfl, rfl, upd_same, rfl, ?_⟩
            refine ⟨_, (j : Int) + 1, ns[j], salt, c, rfl, upd_upd, by omega, by omega, s0, s1⟩
          · refine ⟨_, rfl, b, _, 3, _, rfl, rfl, SqL.of upd_same, rfl, _, _, rfl, rfl, mul_const (by decide) _, _, rfl, _, _, rfl, rfl, (by show (0 : Int) < 2147483587; decide), _, _, rfl, rfl, _, _, rfl, rfl, _, _, rfl, rfl, (by show (0 : Int) < 2147483629; decide), _, rfl, b, _, 3, 3, rfl, rfl, upd_same, rfl, ?_⟩
            refine ⟨_, (j : Int) + 1, bank, _, c, rfl, upd_upd, by omega, b0, Int.emod_nonneg _ (by decide), Int.emod_lt_of_pos _ (by decide)⟩
        · exact ⟨none, i, bank, salt, c, rfl, hself.symm, i0, b0, s0, s1⟩
      · exact iteF ⟨none, i, bank, salt, c, rfl, hself.symm, i0, b0, s0, s1⟩
    · clear hB i0 b0 s0 s1 i bank salt c
      rintro σ' H' ⟨x2, i, bank, salt, c, rfl, rfl, i0, b0, s0, s1⟩
      refine ⟨_, rfl, b, _, 2, _, rfl, rfl, len5, rfl, _, _, rfl, rfl, _, rfl, ite2 (fun h1 => ?_) (fun h1 => ?_)⟩
      · refine ⟨_, rfl, b, _, 2, _, rfl, rfl, len5, rfl, _, rfl, _, _, rfl, rfl, m0, ?_⟩
        refine ⟨_, rfl, b, _, 2, _, rfl, rfl, len5, rfl, _, rfl, _, _, rfl, rfl, wide_div (b := 32) m0 (by omega) (by decide) (by decide), _, rfl, b, _, 2, 2, rfl, rfl, upd_same, rfl, ?_⟩
        refine ⟨_, rfl, ?_⟩
        rw [upd_upd]
        exact q _ _ (Int.emod_nonneg _ (by omega)) (Int.emod_lt_of_pos _ m0) (B.put i0 (Int.ediv_nonneg b0 (by omega)) s0 s1)
      · refine ⟨_, rfl, b, _, 4, _, rfl, rfl, len5, rfl, _, _, rfl, rfl, _, rfl, b, _, 4, 4, rfl, rfl, upd_same, rfl, ?_⟩
        rw [upd_upd]
        refine ⟨_, rfl, b, _, 3, _, rfl, rfl, len5, rfl, _, rfl, b, _, 4, _, rfl, rfl, len5, rfl, _, _, rfl, rfl, mul_const (by decide) _, _, _, rfl, rfl, _, _, rfl, rfl, (by show (0 : Int) < 2147483629; decide), ?_⟩
        have e0 := Int.emod_nonneg (salt + (c + 1) * 6151) (show (2147483629 : Int) ≠ 0 by decide)
        have e1 := Int.emod_lt_of_pos (salt + (c + 1) * 6151) (show (0 : Int) < 2147483629 by decide)
        generalize (salt + (c + 1) * 6151) % 2147483629 = ba at e0 e1 ⊢
        refine ⟨_, rfl, _, rfl, _, _, rfl, rfl, .inl (by omega), _, _, rfl, rfl, (by show (0 : Int) < 2147483587; decide), _, rfl, _, _, rfl, rfl, (by show (0 : Int) < 40009; decide), _, _, rfl, rfl, _, _, rfl, rfl, .inl ?_, ?_⟩
        · have a0 := Int.emod_nonneg (ba * ba) (show (2147483587 : Int) ≠ 0 by decide)
          have a1 := Int.emod_lt_of_pos (ba * ba) (show (0 : Int) < 2147483587 by decide)
          omega
        refine ⟨_, rfl, _, rfl, _, _, rfl, rfl, .inl (by decide), _, _, rfl, rfl, _, _, rfl, rfl, _, _, rfl, rfl, (by show (0 : Int) < 2147483629; decide), _, rfl, b, _, 3, 3, rfl, rfl, upd_same, rfl, ?_⟩
        rw [upd_upd]
        refine ⟨_, rfl, b, _, 3, _, rfl, rfl, len5, rfl, _, _, rfl, rfl, (by show (0:Int) < 67 ∧ (67:Int) < 1073741824; decide), _, rfl, b, _, 3, _, rfl, rfl, len5, rfl, _, _, rfl, rfl, (by show (0 : Int) < 8209; decide), _, _, rfl, rfl, mul_const (by decide) _, _, _, rfl, rfl, _, rfl, _, _, rfl, rfl, m0, ?_⟩
        exact q _ _ (Int.emod_nonneg _ (by omega)) (Int.emod_lt_of_pos _ m0) (B.put i0 b0 (Int.emod_nonneg _ (by decide)) (Int.emod_lt_of_pos _ (by decide)))
end
end K4

namespace K4
open PySem PySem.Spec PyProof.Rows L2
/-! ### f(k = e, ..) without written places -/
theorem pe_callKw {X : Cx} {CX : CXT} {k : Nat} {f : Addr} {fd : FuncData} {ps ks : List Str} {sp : Sp} {g : List Value → List Value → List Value} {gV : List V → List V → List V} {E : XK} {tk : TA} {x : Str} {kws : List Keyword} {p pos : Pos}
    (F : FnOk X.prog X.w X.K X.mg X.base CX k f fd ps sp) (hr : Room k X.A) (hg : Gl X x) (hm : X.mg x = some (.ref f)) (hk : PySem.W.keepIn X.K (.ref f) = true) (hb : KBinds X.K fd ps ks g gV) (hx : Passes CX X E)
    (hkw : PK X kws tk) (hall : (backToKw pos (keywordEach kws X.env)).all (·.1.isSome) = true := by rfl) (hks : (backToKw pos (keywordEach kws X.env)).filterMap (·.1) = ks := by rfl)
    (hdb : (x == ("__debug__" : Str)) = false := by decide) (hpl : ((backTo pos (starEach [] X.env)).any (·.1) || (backToKw pos (keywordEach kws X.env)).any (·.1.isNone)) = false := by rfl) :
    PE X (.Call (.Name x p) [] kws pos) (tCallK sp gV E tNil tk) := by
  refine ⟨fun pins s σ H Q I h => wpAny_Call_Name_kw (ld_glob I hg hm ?_ hdb)⟩
  refine PySem.W.callWith_KW0 (h₀ := X.base) I.ok.mod.kin hk hall (thn (hkw.run pos pins s σ H _ I h) fun ws s2 hh => ?_) hpl
  obtain ⟨zs, H2, I2, rz, q2⟩ := hh
  refine ⟨I2.kIn, ?_⟩
  rw [hks]
  exact run_fnk F hr hb hx I2 .nil rz q2
/-! ### lists cut -/
theorem cutTo (xs : List V) (k : Nat) : cutV xs none (some (k : Int)) = xs.take k := by
  unfold cutV
  rw [HT.sIx_none, HT.sIx_nat, List.drop_zero, Nat.sub_zero]
  by_cases h : k ≤ xs.length
  · rw [Nat.min_eq_left h]
  · rw [Nat.min_eq_right (by omega), List.take_of_length_le (Nat.le_refl _), List.take_of_length_le (by omega)]
theorem cutFrom (xs : List V) (k : Nat) : cutV xs (some (k : Int)) none = xs.drop k := by
  unfold cutV
  rw [HT.sIx_none, HT.sIx_nat]
  by_cases h : k ≤ xs.length
  · rw [Nat.min_eq_left h]
    exact List.take_of_length_le (by rw [List.length_drop]; exact Nat.le_refl _)
  · rw [Nat.min_eq_right (by omega), List.drop_of_length_le (Nat.le_refl _), List.drop_of_length_le (by omega), List.take_nil]
theorem same_new {H : Hp} {p : Addr} {o : HO} (h : H p = none) : Same H (upd H p o) := fun b x e => by
  rw [upd_ne (ne_of_none e h)]
  exact e
theorem get_ints {ns : List Int} {i : Nat} {x : V} (h : (ns.map V.int)[i]? = some x) : ∃ v, x = .int v ∧ ns[i]? = some v := by
  rw [List.getElem?_map] at h
  cases e : ns[i]? with
  | none => rw [e] at h; cases h
  | some v => rw [e] at h; exact ⟨v, (Option.some.inj h).symm, rfl⟩
theorem ne_new {H : Hp} {p : Addr} {o : HO} {b : Addr} (h : (upd H p o) b = none) : b ≠ p := fun e => by
  rw [e, upd_same] at h
  cases h
theorem old_new {H : Hp} {p : Addr} {o : HO} {b : Addr} (h : (upd H p o) b = none) : H b = none := by
  rw [upd_ne (ne_new h)] at h
  exact h
/-! ### the bag made -/
def spBag (K : PySem.W.Frag) : Sp := fun vs H Q _ => ∃ (a : Addr) (ns : List Int), vs = [.ref a] ∧ SqL K H a (ns.map V.int) ∧
  ∀ H' l b ms, Same H H' → H l = none → H b = none → BagAt l ms H' b → Q (.ref b) H'
section
variable {P : Program} {w : World} {K : PySem.W.Frag} {mg : Str → Option Value} {base : Heap}
theorem ok_bag {f : Addr} {fd : FuncData} {k : Nat} (F : Fun K "_law_bag" "_law_bag" sBag f fd) (ml : mg "list" = none) : FnOk P w K mg base CX0 (k + 1) f fd ["_law_script"] (spBag K) := by
  refine F.ok scBag (fun vs H Q E h => ?_) (fun cdv A outer s H vs Q E hr h => ?_)
  · obtain ⟨a, ns, rfl, _⟩ := h
    rfl
  · obtain ⟨a, ns, rfl, hS, q⟩ := h
    refine ⟨_, pss_cons (ps_set (i := 1) scBag.nd rfl (Or.inl rfl) pe_int)
      (pss_cons (ps_for PassesOwn.never rfl (pi_list (pe_slice sl_list (pv 0) po_none (po_some pe_int))) (pg_name (i := 2) scBag.nd rfl (Or.inl rfl))
        (pss_one (ps_set (i := 1) scBag.nd rfl (Or.inl rfl) (pe_op op_mod (pe_op op_add (pe_op op_add (pe_op op_mul (pv 1) pe_int) (pv 2)) pe_int) pe_int))))
      (pss_one (ps_ret (pe_lst (pa_cons (pe_callTy call_list_of (by rfl) ml (by decide +kernel) (pa_cons (pe_slice sl_list (pv 0) po_none (po_some pe_int)) pa_nil))
        (pa_cons pe_int (pa_cons pe_int (pa_cons (pv 1) (pa_cons pe_int pa_nil))))))))), ?_⟩
    have cutN : cutV (ns.map V.int) none (some 63) = (ns.take 63).map V.int := by
      rw [show (63 : Int) = ((63 : Nat) : Int) from rfl, cutTo, List.map_take]
    refine ⟨_, rfl, 63, rfl, a, ns.map V.int, rfl, hS, fun t nt => ?_⟩
    rw [cutN]
    refine ⟨t, rfl, ⟨_, SqL.of upd_same⟩, for_list (K := K) (a := t) (xs := (ns.take 63).map V.int) (fun i σ H' => ∃ salt y, σ = [some (.ref a), some (.int salt), y] ∧ H' = upd H t (.lst ((ns.take 63).map V.int)) ∧ 0 ≤ salt ∧ salt < 2147483629)
      ⟨977, none, rfl, rfl, by decide, by decide⟩ (fun i σ H' _ ⟨_, _, _, e, _⟩ => by subst e; exact SqL.of upd_same) ?_ ?_⟩
    · rintro i x σ H' hi ⟨salt, y, rfl, rfl, h0, h1⟩
      obtain ⟨v, rfl, _⟩ := get_ints hi
      refine ⟨_, rfl, _, _, rfl, rfl, mul_const (by decide) _, _, rfl, _, _, rfl, rfl, _, _, rfl, rfl, _, _, rfl, rfl, (by show (0 : Int) < 2147483629; decide), ?_⟩
      exact ⟨_, _, rfl, rfl, Int.emod_nonneg _ (by decide), Int.emod_lt_of_pos _ (by decide)⟩
    · rintro σ H' ⟨salt, y, rfl, rfl, h0, h1⟩
      refine ⟨_, rfl, 63, rfl, a, ns.map V.int, rfl, (same_new nt).seq hS, fun u nu => ?_⟩
      rw [cutN]
      refine ⟨u, _, rfl, .inl (SqL.of upd_same), fun l nl => ⟨_, rfl, (by show 5 ≤ sizeLine; decide), fun b nb => ?_⟩⟩
      have s1 := same_new (o := .lst ((ns.take 63).map V.int)) nt
      have s2 := same_new (o := .lst ((ns.take 63).map V.int)) nu
      have s3 := same_new (o := .lst ((ns.take 63).map V.int)) nl
      have s4 := same_new (o := .lst (bagv l 0 0 salt 0)) nb
      have lb : l ≠ b := (ne_new nb).symm
      refine q _ l b (ns.take 63) (s1.trans (s2.trans (s3.trans s4))) (s1.free (s2.free nl)) (s1.free (s2.free (s3.free nb))) ⟨lb, by rw [upd_ne lb]; exact upd_same, 0, 0, salt, 0, upd_same, by decide, by decide, h0, h1⟩
/-! ### one of some -/
def spOf (K : PySem.W.Frag) : Sp := fun vs H Q _ => ∃ (b l c : Addr) (ns : List Int) (xs : List V), vs = [.ref b, .ref c] ∧ BagAt l ns H b ∧ H c = some (.lst xs) ∧ c ≠ b ∧ 0 < xs.length ∧ xs.length < 1073741824 ∧
  ∀ v ys, v ∈ xs → BagAt l ns (upd H b (.lst ys)) b → Q v (upd H b (.lst ys))
theorem ok_of {f g : Addr} {fd gd : FuncData} {k : Nat} (F : Fun K "_law_of" "_law_of" sOf f fd) (G : FnOk P w K mg base CX0 k g gd ["_law_bag_here", "_law_many"] spPull) (kg : PySem.W.keepIn K (.ref g) = true) (bg : Binds K gd ["_law_bag_here", "_law_many"] [])
    (mgG : mg "_law_pull" = some (.ref g)) (ml : mg "len" = none) : FnOk P w K mg base CX0 (k + 1) f fd ["_law_bag_here", "_law_some"] (spOf K) := by
  refine F.ok scOf (fun vs H Q E h => ?_) (fun cdv A outer s H vs Q E hr h => ?_)
  · obtain ⟨b, l, c, ns, xs, rfl, _⟩ := h
    rfl
  · obtain ⟨b, l, c, ns, xs, rfl, B, hc, cb, x0, x1, q⟩ := h
    refine ⟨_, pss_one (ps_ret (pe_ix ix_list (pv 1) (pe_call G hr (by rfl) mgG kg bg .nil pass0 (pa_cons (pv 0) (pa_cons (pe_callB call_len_seq (by rfl) ml PySem.boot_len (pa_cons (pv 1) pa_nil)) pa_nil))) (fun _ _ => rfl))), ?_⟩
    refine ⟨_, rfl, _, rfl, _, rfl, c, xs, rfl, .inl (SqL.of hc), b, l, _, ns, rfl, by omega, by omega, B, fun r ys r0 r1 B' => ?_⟩
    obtain ⟨j, rfl⟩ : ∃ j : Nat, r = (j : Int) := ⟨r.toNat, by omega⟩
    have hj : j < xs.length := by omega
    refine ⟨c, xs, _, xs[j], rfl, rfl, SqL.of (by rw [upd_ne cb]; exact hc), atI_nat (List.getElem?_eq_getElem hj), ?_⟩
    exact q _ _ (List.getElem_mem hj) B'
end
end K4

namespace K4
open PySem PySem.Spec PyProof.Rows L2
/-! ### data -/
inductive Dt where
  | non
  | bl (b : Bool)
  | int (i : Int)
  | str (s : Str)
  | lst (ds : List Dt)
  | tup (ds : List Dt)
inductive Has (H : Hp) : Nat → V → Dt → Prop where
  | non {n : Nat} : Has H (n + 1) .non .non
  | bl {n : Nat} (b : Bool) : Has H (n + 1) (.bl b) (.bl b)
  | int {n : Nat} (i : Int) : Has H (n + 1) (.int i) (.int i)
  | str {n : Nat} (s : Str) : Has H (n + 1) (.str s) (.str s)
  | lst {n : Nat} {a : Addr} {xs : List V} {ds : List Dt} (e : H a = some (.lst xs)) (l : xs.length = ds.length) (z : ds.length ≤ 1000000) (m : ∀ (i : Nat) (x : V) (d : Dt), xs[i]? = some x → ds[i]? = some d → Has H n x d) : Has H (n + 1) (.ref a) (.lst ds)
  | tup {n : Nat} {a : Addr} {xs : List V} {ds : List Dt} (e : H a = some (.tup xs)) (l : xs.length = ds.length) (z : ds.length ≤ 1000000) (m : ∀ (i : Nat) (x : V) (d : Dt), xs[i]? = some x → ds[i]? = some d → Has H n x d) : Has H (n + 1) (.ref a) (.tup ds)
theorem Has.same {H H' : Hp} (s : Same H H') : ∀ {n : Nat} {x : V} {d : Dt}, Has H n x d → Has H' n x d := by
  intro n x d h
  induction h with
  | non => exact .non
  | bl b => exact .bl b
  | int i => exact .int i
  | str z => exact .str z
  | lst e l z m ih => exact .lst (s _ _ e) l z fun i x d h1 h2 => ih i x d h1 h2
  | tup e l z m ih => exact .tup (s _ _ e) l z fun i x d h1 h2 => ih i x d h1 h2
theorem Has.up {H : Hp} : ∀ {n m : Nat} {x : V} {d : Dt}, Has H n x d → n ≤ m → Has H m x d := by
  intro n m x d h
  induction h generalizing m with
  | non => intro q; cases m with | zero => omega | succ m => exact .non
  | bl b => intro q; cases m with | zero => omega | succ m => exact .bl b
  | int i => intro q; cases m with | zero => omega | succ m => exact .int i
  | str z => intro q; cases m with | zero => omega | succ m => exact .str z
  | lst e l z _ ih => intro q; cases m with | zero => omega | succ m => exact .lst e l z fun i x d h1 h2 => ih i x d h1 h2 (by omega)
  | tup e l z _ ih => intro q; cases m with | zero => omega | succ m => exact .tup e l z fun i x d h1 h2 => ih i x d h1 h2 (by omega)
theorem Has.ints {H : Hp} {a : Addr} {ns : List Int} {n : Nat} (e : H a = some (.lst (ns.map V.int))) (z : ns.length ≤ 1000000) : Has H (n + 2) (.ref a) (.lst (ns.map Dt.int)) := by
  refine .lst e (by rw [List.length_map, List.length_map]) (by rw [List.length_map]; exact z) fun i x d h1 h2 => ?_
  rw [List.getElem?_map] at h1 h2
  cases q : ns[i]? with
  | none => rw [q] at h1; cases h1
  | some v =>
    rw [q] at h1 h2
    have e1 : V.int v = x := Option.some.inj h1
    have e2 : Dt.int v = d := Option.some.inj h2
    rw [← e1, ← e2]
    exact .int v
def spSame (n : Nat) : Sp := fun vs H Q _ => ∃ (x y : V) (d : Dt), vs = [x, y] ∧ Has H n x d ∧ Has H n y d ∧ ∀ H', Same H H' → Q (.bl true) H'
abbrev sSame : Stmt := topS 19
theorem scSame : FnScope ["_law_found", "_law_due", "_law_k"] ["_law_found", "_law_due"] (defScope sSame) := ⟨rfl, rfl, rfl, by decide +kernel, rfl, by decide +kernel, by decide +kernel⟩
structure TS1 (mg : Str → Option Value) : Prop where
  isi : mg "isinstance" = none
  bool : mg "bool" = none
  int : mg "int" = none
  str : mg "str" = none
  list : mg "list" = none
  tuple : mg "tuple" = none
  len : mg "len" = none
  all : mg "all" = none
  range : mg "range" = none
section
variable {P : Program} {w : World} {K : PySem.W.Frag} {mg : Str → Option Value} {base : Heap}
theorem all_rep (n : Nat) : (List.replicate n true).all id = true := by
  induction n with
  | zero => rfl
  | succ n ih => rw [List.replicate_succ, List.all_cons, ih]; rfl
theorem same_at {H H' : Hp} {D : Addr} {o : HO} (hD : H D = none) (s : Same H H') : Same H (upd H' D o) := fun b x e => by
  rw [upd_ne (ne_of_none e hD)]
  exact s _ _ e
theorem kit2 {t : String} {r b1 b2 : Bool} (h1 : kitB t "int" = some b1) (h2 : kitB t "str" = some b2) (hr : (b1 || b2) = r) : PySem.W.kitAny K (.type t) [.type "int", .type "str"] = some r := by
  refine kitAny_cons (kit_ty h1) (fun e => kitAny_cons (kit_ty h2) (fun e2 => ?_) fun e2 => ?_) fun e => ?_
  · rw [e, e2] at hr
    rw [← hr]
    exact kitAny_nil
  · rw [e, e2] at hr
    exact hr.symm
  · rw [e] at hr
    exact hr.symm
theorem ok_same {f : Addr} {fd : FuncData} (F : Fun K "_law_same" "_law_same" sSame f fd) (T : TS1 mg) (bS : Binds K fd ["_law_found", "_law_due"] []) (mgS : mg "_law_same" = some (.ref f)) : ∀ n : Nat, FnOk P w K mg base CX0 n f fd ["_law_found", "_law_due"] (spSame n) := by
  intro n
  induction n with
  | zero => exact ⟨fun vs H Q E h => (by obtain ⟨x, y, d, _, h1, _⟩ := h; cases h1), fun A outer s H args us vs Q E hr he hb hv h => (by obtain ⟨x, y, d, _, h1, _⟩ := h; cases h1)⟩
  | succ n G =>
    refine F.ok scSame (fun vs H Q E h => ?_) (fun cdv A outer s H vs Q E hr h => ?_)
    · obtain ⟨x, y, d, rfl, _⟩ := h
      rfl
    · obtain ⟨x, y, d, rfl, hx, hy, q⟩ := h
      refine ⟨_, pss_cons (ps_if (PW.pt (pw_or (pt_cmpR op_isN (pv 1) pe_non (nomark _)) (pw_or1 (pt_cmpR op_isN (pv 0) pe_non (nomark _)))))
          (pss_one (ps_ret (pe_and (pe_cmpR op_isN (pv 0) pe_non (nomark _)) (pe_one (pe_cmpR op_isN (pv 1) pe_non (nomark _)))))) pss_nil)
        (pss_cons (ps_if (PW.pt (pw_or (pt_val (pe_callB call_isi (by rfl) T.isi (by decide +kernel) (pa_cons (pv 1) (pa_cons (pe_bltn (v := .ty "bool") (by rfl) T.bool (by decide +kernel) rfl) pa_nil))))
            (pw_or1 (pt_val (pe_callB call_isi (by rfl) T.isi (by decide +kernel) (pa_cons (pv 0) (pa_cons (pe_bltn (v := .ty "bool") (by rfl) T.bool (by decide +kernel) rfl) pa_nil)))))))
          (pss_one (ps_ret (pe_and (pe_callB call_isi (by rfl) T.isi (by decide +kernel) (pa_cons (pv 1) (pa_cons (pe_bltn (v := .ty "bool") (by rfl) T.bool (by decide +kernel) rfl) pa_nil)))
            (pe_and (pe_callB call_isi (by rfl) T.isi (by decide +kernel) (pa_cons (pv 0) (pa_cons (pe_bltn (v := .ty "bool") (by rfl) T.bool (by decide +kernel) rfl) pa_nil)))
              (pe_one (pe_cmpR op_eq (pv 0) (pv 1) (nomark _))))))) pss_nil)
        (pss_cons (ps_if (pt_val (pe_callB call_isiT (by rfl) T.isi (by decide +kernel) (pa_cons (pv 1) (pa_cons (pe_tup (pa_cons (pe_bltn (v := .ty "int") (by rfl) T.int (by decide +kernel) rfl) (pa_cons (pe_bltn (v := .ty "str") (by rfl) T.str (by decide +kernel) rfl) pa_nil))) pa_nil))))
          (pss_one (ps_ret (pe_and (pe_callB call_isiT (by rfl) T.isi (by decide +kernel) (pa_cons (pv 0) (pa_cons (pe_tup (pa_cons (pe_bltn (v := .ty "int") (by rfl) T.int (by decide +kernel) rfl) (pa_cons (pe_bltn (v := .ty "str") (by rfl) T.str (by decide +kernel) rfl) pa_nil))) pa_nil)))
            (pe_and (pe_cmpR op_eq (pe_callB call_isi (by rfl) T.isi (by decide +kernel) (pa_cons (pv 0) (pa_cons (pe_bltn (v := .ty "int") (by rfl) T.int (by decide +kernel) rfl) pa_nil)))
                (pe_callB call_isi (by rfl) T.isi (by decide +kernel) (pa_cons (pv 1) (pa_cons (pe_bltn (v := .ty "int") (by rfl) T.int (by decide +kernel) rfl) pa_nil))) (nomark _))
              (pe_one (pe_cmpR op_eq (pv 0) (pv 1) (nomark _))))))) pss_nil)
        (pss_cons (ps_if (PW.pt (pw_or (pt_cmpR op_ne (pe_callB call_isi (by rfl) T.isi (by decide +kernel) (pa_cons (pv 0) (pa_cons (pe_bltn (v := .ty "list") (by rfl) T.list (by decide +kernel) rfl) pa_nil)))
                (pe_callB call_isi (by rfl) T.isi (by decide +kernel) (pa_cons (pv 1) (pa_cons (pe_bltn (v := .ty "list") (by rfl) T.list (by decide +kernel) rfl) pa_nil))) (nomark _))
            (pw_or1 (pt_cmpR op_ne (pe_callB call_isi (by rfl) T.isi (by decide +kernel) (pa_cons (pv 0) (pa_cons (pe_bltn (v := .ty "tuple") (by rfl) T.tuple (by decide +kernel) rfl) pa_nil)))
                (pe_callB call_isi (by rfl) T.isi (by decide +kernel) (pa_cons (pv 1) (pa_cons (pe_bltn (v := .ty "tuple") (by rfl) T.tuple (by decide +kernel) rfl) pa_nil))) (nomark _)))))
          (pss_one (ps_ret pe_bl)) pss_nil)
        (pss_one (ps_ret (pe_and (pe_cmpR op_eq (pe_callB call_len_seq (by rfl) T.len PySem.boot_len (pa_cons (pv 0) pa_nil)) (pe_callB call_len_seq (by rfl) T.len PySem.boot_len (pa_cons (pv 1) pa_nil)) (nomark _))
          (pe_one (pe_callB (cr_all rfl) (by rfl) T.all (by decide +kernel) (pa_cons
            (pe_lc (own := [("_law_k", 2)]) (g := gName 2) (tt := tYes) rfl scSame.nd (pi_range1 (by rfl) T.range (pa_cons (pe_callB call_len_seq (by rfl) T.len PySem.boot_len (pa_cons (pv 1) pa_nil)) pa_nil))
              (blkOk_by (N := ["_law_found", "_law_due", "_law_k"]) (sc := defScope sSame) (by decide +kernel))
              (fun _ _ _ _ _ => pg_name (i := 2) scSame.nd rfl (Or.inl rfl)) (fun _ _ _ _ _ => pts_nil)
              (fun _ _ _ _ _ => pe_call G hr (by rfl) mgS F.kp bS .nil pass0 (pa_cons (pe_ix (r := rIx K) ix_seq (pv 0) (pv 2) (fun _ _ => rfl)) (pa_cons (pe_ix (r := rIx K) ix_seq (pv 1) (pv 2) (fun _ _ => rfl)) pa_nil)))) pa_nil))))))))), ?_⟩
      cases d with
      | non =>
        cases hx
        cases hy
        refine ⟨_, rfl, rfl, _, rfl, iteT ?_⟩
        exact ⟨_, rfl, rfl, _, rfl, iteT ⟨_, rfl, rfl, q _ (Same.refl _)⟩⟩
      | bl b =>
        cases hx
        cases hy
        refine ⟨_, rfl, rfl, _, rfl, iteF ⟨_, rfl, rfl, _, rfl, iteF ?_⟩⟩
        refine ⟨_, rfl, _, _, _, _, true, rfl, ClsV.ty _, (.base (.bl b)), kit_ty (by decide +kernel), _, rfl, iteT ?_⟩
        refine ⟨_, rfl, _, _, _, _, true, rfl, ClsV.ty _, (.base (.bl b)), kit_ty (by decide +kernel), _, rfl, iteT ?_⟩
        refine ⟨_, rfl, _, _, _, _, true, rfl, ClsV.ty _, (.base (.bl b)), kit_ty (by decide +kernel), _, rfl, iteT ?_⟩
        refine ⟨_, rfl, _, rfl, rfl, ?_⟩
        rw [decide_eq_true rfl]
        exact q _ (Same.refl _)
      | int i =>
        cases hx
        cases hy
        refine ⟨_, rfl, rfl, _, rfl, iteF ⟨_, rfl, rfl, _, rfl, iteF ?_⟩⟩
        refine ⟨_, rfl, _, _, _, _, false, rfl, ClsV.ty _, (.base (.int i)), kit_ty (by decide +kernel), _, rfl, iteF ?_⟩
        refine ⟨_, rfl, _, _, _, _, false, rfl, ClsV.ty _, (.base (.int i)), kit_ty (by decide +kernel), _, rfl, iteF ?_⟩
        refine ⟨_, rfl, (by show 2 ≤ sizeLine; decide), fun p np => ⟨_, _, _, _, _, true, rfl, upd_same, .cons (ClsV.ty _) (.cons (ClsV.ty _) .nil), (.base (.int i)), kit2 (b1 := true) (b2 := false) (by decide +kernel) (by decide +kernel) rfl, _, rfl, iteT ?_⟩⟩
        refine ⟨_, rfl, (by show 2 ≤ sizeLine; decide), fun p2 np2 => ⟨_, _, _, _, _, true, rfl, upd_same, .cons (ClsV.ty _) (.cons (ClsV.ty _) .nil), (.base (.int i)), kit2 (b1 := true) (b2 := false) (by decide +kernel) (by decide +kernel) rfl, _, rfl, iteT ?_⟩⟩
        refine ⟨_, rfl, _, _, _, _, true, rfl, ClsV.ty _, (.base (.int i)), kit_ty (by decide +kernel), _, rfl, _, _, _, _, true, rfl, ClsV.ty _, (.base (.int i)), kit_ty (by decide +kernel), rfl, _, rfl, iteT ?_⟩
        refine ⟨_, rfl, _, rfl, rfl, ?_⟩
        rw [decide_eq_true rfl]
        exact q _ ((same_new np).trans (same_new np2))
      | str i =>
        cases hx
        cases hy
        refine ⟨_, rfl, rfl, _, rfl, iteF ⟨_, rfl, rfl, _, rfl, iteF ?_⟩⟩
        refine ⟨_, rfl, _, _, _, _, false, rfl, ClsV.ty _, (.base (.str i)), kit_ty (by decide +kernel), _, rfl, iteF ?_⟩
        refine ⟨_, rfl, _, _, _, _, false, rfl, ClsV.ty _, (.base (.str i)), kit_ty (by decide +kernel), _, rfl, iteF ?_⟩
        refine ⟨_, rfl, (by show 2 ≤ sizeLine; decide), fun p np => ⟨_, _, _, _, _, true, rfl, upd_same, .cons (ClsV.ty _) (.cons (ClsV.ty _) .nil), (.base (.str i)), kit2 (b1 := false) (b2 := true) (by decide +kernel) (by decide +kernel) rfl, _, rfl, iteT ?_⟩⟩
        refine ⟨_, rfl, (by show 2 ≤ sizeLine; decide), fun p2 np2 => ⟨_, _, _, _, _, true, rfl, upd_same, .cons (ClsV.ty _) (.cons (ClsV.ty _) .nil), (.base (.str i)), kit2 (b1 := false) (b2 := true) (by decide +kernel) (by decide +kernel) rfl, _, rfl, iteT ?_⟩⟩
        refine ⟨_, rfl, _, _, _, _, false, rfl, ClsV.ty _, (.base (.str i)), kit_ty (by decide +kernel), _, rfl, _, _, _, _, false, rfl, ClsV.ty _, (.base (.str i)), kit_ty (by decide +kernel), rfl, _, rfl, iteT ?_⟩
        refine ⟨_, rfl, _, rfl, rfl, ?_⟩
        rw [decide_eq_true rfl]
        exact q _ ((same_new np).trans (same_new np2))
      | lst ds =>
        cases hx with
        | @lst _ a xs _ ea la za ma =>
        cases hy with
        | @lst _ b ys _ eb lb zb mb =>
        refine ⟨_, rfl, rfl, _, rfl, iteF ⟨_, rfl, rfl, _, rfl, iteF ?_⟩⟩
        refine ⟨_, rfl, _, _, _, _, false, rfl, ClsV.ty _, (.base (.lst eb)), kit_ty (by decide +kernel), _, rfl, iteF ?_⟩
        refine ⟨_, rfl, _, _, _, _, false, rfl, ClsV.ty _, (.base (.lst ea)), kit_ty (by decide +kernel), _, rfl, iteF ?_⟩
        refine ⟨_, rfl, (by show 2 ≤ sizeLine; decide), fun p np => ⟨_, _, _, _, _, false, rfl, upd_same, .cons (ClsV.ty _) (.cons (ClsV.ty _) .nil), (.base (.lst ((same_new np) _ _ eb))), kit2 (b1 := false) (b2 := false) (by decide +kernel) (by decide +kernel) rfl, _, rfl, iteF ?_⟩⟩
        have ea' := (same_new (o := .tup [.ty "int", .ty "str"]) np) _ _ ea
        have eb' := (same_new (o := .tup [.ty "int", .ty "str"]) np) _ _ eb
        refine ⟨_, rfl, _, _, _, _, true, rfl, ClsV.ty _, (.base (.lst ea')), kit_ty (by decide +kernel), _, rfl, _, _, _, _, true, rfl, ClsV.ty _, (.base (.lst eb')), kit_ty (by decide +kernel), rfl, _, rfl, iteF ?_⟩
        refine ⟨_, rfl, _, _, _, _, false, rfl, ClsV.ty _, (.base (.lst ea')), kit_ty (by decide +kernel), _, rfl, _, _, _, _, false, rfl, ClsV.ty _, (.base (.lst eb')), kit_ty (by decide +kernel), rfl, _, rfl, iteF ?_⟩
        refine ⟨_, rfl, a, xs, rfl, .inl (SqL.of ea'), _, rfl, b, ys, rfl, .inl (SqL.of eb'), rfl, _, rfl, ?_⟩
        rw [if_pos (by rw [la, lb]; exact decide_eq_true rfl)]
        have lxy : ys.length ≤ 1000000 := by rw [lb]; exact zb
        refine ⟨_, rfl, b, ys, rfl, .inl (SqL.of eb'), (ys.length : Int), rfl, by omega, by omega, fun D nD => ?_⟩
        have sD := same_new (o := .lst []) nD
        refine lc_range (lo := 0) (n := ys.length) (fun i H' => Same (upd H p (.tup [.ty "int", .ty "str"])) H' ∧ H' D = some (.lst ((List.replicate i true).map V.bl))) ⟨sD, upd_same⟩ ?_ ?_
        · rintro i H' hi ⟨sm, hD⟩
          have hix : i < xs.length := by omega
          have hid : i < ds.length := by omega
          refine ⟨rfl, ?_⟩
          refine ⟨_, rfl, _, rfl, .inl ⟨a, xs, _, xs[i], rfl, rfl, SqL.of (sm _ _ ea'), at_of (Int.zero_add _) (List.getElem?_eq_getElem hix), ?_⟩⟩
          refine ⟨_, rfl, _, rfl, .inl ⟨b, ys, _, ys[i], rfl, rfl, SqL.of (sm _ _ eb'), at_of (Int.zero_add _) (List.getElem?_eq_getElem hi), ?_⟩⟩
          have sH := (same_new (o := .tup [.ty "int", .ty "str"]) np).trans sm
          refine ⟨xs[i], ys[i], ds[i], rfl, (ma i _ _ (List.getElem?_eq_getElem hix) (List.getElem?_eq_getElem hid)).same sH, (mb i _ _ (List.getElem?_eq_getElem hi) (List.getElem?_eq_getElem hid)).same sH, fun H4 s4 => ?_⟩
          refine ⟨_, s4 _ _ hD, ?_, same_at nD (sm.trans s4), ?_⟩
          · rw [List.length_map, List.length_replicate]
            exact Nat.lt_of_lt_of_le (show i < 1000001 by omega) (by rw [sizeLine_eq]; decide)
          · rw [upd_same, List.replicate_succ', List.map_append]
            rfl
        · rintro H' ⟨sm, hD⟩
          refine ⟨D, List.replicate ys.length true, rfl, SqL.of hD, ?_⟩
          rw [all_rep]
          exact q _ ((same_new np).trans sm)
      | tup ds =>
        cases hx with
        | @tup _ a xs _ ea la za ma =>
        cases hy with
        | @tup _ b ys _ eb lb zb mb =>
        refine ⟨_, rfl, rfl, _, rfl, iteF ⟨_, rfl, rfl, _, rfl, iteF ?_⟩⟩
        refine ⟨_, rfl, _, _, _, _, false, rfl, ClsV.ty _, (.base (.tup eb)), kit_ty (by decide +kernel), _, rfl, iteF ?_⟩
        refine ⟨_, rfl, _, _, _, _, false, rfl, ClsV.ty _, (.base (.tup ea)), kit_ty (by decide +kernel), _, rfl, iteF ?_⟩
        refine ⟨_, rfl, (by show 2 ≤ sizeLine; decide), fun p np => ⟨_, _, _, _, _, false, rfl, upd_same, .cons (ClsV.ty _) (.cons (ClsV.ty _) .nil), (.base (.tup ((same_new np) _ _ eb))), kit2 (b1 := false) (b2 := false) (by decide +kernel) (by decide +kernel) rfl, _, rfl, iteF ?_⟩⟩
        have ea' := (same_new (o := .tup [.ty "int", .ty "str"]) np) _ _ ea
        have eb' := (same_new (o := .tup [.ty "int", .ty "str"]) np) _ _ eb
        refine ⟨_, rfl, _, _, _, _, false, rfl, ClsV.ty _, (.base (.tup ea')), kit_ty (by decide +kernel), _, rfl, _, _, _, _, false, rfl, ClsV.ty _, (.base (.tup eb')), kit_ty (by decide +kernel), rfl, _, rfl, iteF ?_⟩
        refine ⟨_, rfl, _, _, _, _, true, rfl, ClsV.ty _, (.base (.tup ea')), kit_ty (by decide +kernel), _, rfl, _, _, _, _, true, rfl, ClsV.ty _, (.base (.tup eb')), kit_ty (by decide +kernel), rfl, _, rfl, iteF ?_⟩
        refine ⟨_, rfl, a, xs, rfl, .inr (SqT.of ea'), _, rfl, b, ys, rfl, .inr (SqT.of eb'), rfl, _, rfl, ?_⟩
        rw [if_pos (by rw [la, lb]; exact decide_eq_true rfl)]
        have lxy : ys.length ≤ 1000000 := by rw [lb]; exact zb
        refine ⟨_, rfl, b, ys, rfl, .inr (SqT.of eb'), (ys.length : Int), rfl, by omega, by omega, fun D nD => ?_⟩
        have sD := same_new (o := .lst []) nD
        refine lc_range (lo := 0) (n := ys.length) (fun i H' => Same (upd H p (.tup [.ty "int", .ty "str"])) H' ∧ H' D = some (.lst ((List.replicate i true).map V.bl))) ⟨sD, upd_same⟩ ?_ ?_
        · rintro i H' hi ⟨sm, hD⟩
          have hix : i < xs.length := by omega
          have hid : i < ds.length := by omega
          refine ⟨rfl, ?_⟩
          refine ⟨_, rfl, _, rfl, .inr (.inl ⟨a, xs, _, xs[i], rfl, rfl, SqT.of (sm _ _ ea'), at_of (Int.zero_add _) (List.getElem?_eq_getElem hix), ?_⟩)⟩
          refine ⟨_, rfl, _, rfl, .inr (.inl ⟨b, ys, _, ys[i], rfl, rfl, SqT.of (sm _ _ eb'), at_of (Int.zero_add _) (List.getElem?_eq_getElem hi), ?_⟩)⟩
          have sH := (same_new (o := .tup [.ty "int", .ty "str"]) np).trans sm
          refine ⟨xs[i], ys[i], ds[i], rfl, (ma i _ _ (List.getElem?_eq_getElem hix) (List.getElem?_eq_getElem hid)).same sH, (mb i _ _ (List.getElem?_eq_getElem hi) (List.getElem?_eq_getElem hid)).same sH, fun H4 s4 => ?_⟩
          refine ⟨_, s4 _ _ hD, ?_, same_at nD (sm.trans s4), ?_⟩
          · rw [List.length_map, List.length_replicate]
            exact Nat.lt_of_lt_of_le (show i < 1000001 by omega) (by rw [sizeLine_eq]; decide)
          · rw [upd_same, List.replicate_succ', List.map_append]
            rfl
        · rintro H' ⟨sm, hD⟩
          refine ⟨D, List.replicate ys.length true, rfl, SqL.of hD, ?_⟩
          rw [all_rep]
          exact q _ ((same_new np).trans sm)
end
end K4

namespace K4
open PySem PySem.Spec PyProof.Rows L2
theorem BagAt.same {l b : Addr} {ns : List Int} {H H' : Hp} (B : BagAt l ns H b) (s : Same H H') : BagAt l ns H' b := by
  obtain ⟨i, bank, salt, c, hB, r⟩ := B.ex
  exact ⟨B.ne, s _ _ B.ls, i, bank, salt, c, s _ _ hB, r⟩
theorem BagAt.at {l b : Addr} {ns : List Int} {H : Hp} (B : BagAt l ns H b) : ∃ xs, H b = some (.lst xs) := by
  obtain ⟨i, bank, salt, c, hB, r⟩ := B.ex
  exact ⟨_, hB⟩
theorem BagAt.new {l b p : Addr} {ns : List Int} {H : Hp} {o : HO} (B : BagAt l ns H b) (n : H p = none) : BagAt l ns (upd H p o) b := B.same (same_new n)
/-- a store elsewhere -/
theorem BagAt.off {l b p : Addr} {ns : List Int} {H : Hp} {o : HO} (B : BagAt l ns H b) (h1 : p ≠ b) (h2 : p ≠ l) : BagAt l ns (upd H p o) b := by
  obtain ⟨i, bank, salt, c, hB, r⟩ := B.ex
  exact ⟨B.ne, by rw [upd_ne h2.symm]; exact B.ls, i, bank, salt, c, by rw [upd_ne h1.symm]; exact hB, r⟩
def spLaw (K : PySem.W.Frag) : Sp := fun vs H Q _ => ∃ (a : Addr) (ns : List Int), vs = [.ref a] ∧ SqL K H a (ns.map V.int) ∧ ns.length ≤ 63 ∧ ∀ H', Q (.bl true) H'
end K4

set_option maxHeartbeats 2000000
/-! An own error whose class, or one above it, makes it by super().__init__(text) and then keeps its class's name under word. -/
namespace PySem
namespace CleX
open PySem.W PySem.Calls PyProof.Rows PySem.HandSPX
/-- the name of an own class whose name is kept in its slot -/
theorem ent_name : entryFor table "type.__name__" = some Builtin.«type.__name__» := entryFor_of_tree (by kernel_rfl)
theorem typ_name : typeOf (.builtin "type.__name__") = pure (.type "getset_descriptor") := by show builtinType _ = _; rw [builtinType_eq_fast]; kernel_rfl
section
open Builtin Builtin.ObjectAttr Builtin.Getset_descriptor
theorem own_name : descrOwnerAndName "type.__name__" = ("type", "__name__") := by decide +kernel
variable {prog : Program} {w : World} {A : Around} {E : Value → Shared → Prop} {R : Result → Shared → Prop} {s : Shared} {K : Frag} {x C : Addr}
theorem name_get {v : Value} {oC : Obj} (X : K.In s.heap) (hC : s.heap.get? C = some oC) (h2 : (oC.slots[2]?).join = some v) (ht : Looks (model prog w) s.heap (typeOf (.ref C)) (.type "type")) (hs : Looks (model prog w) s.heap (isSubtype (.type "type") (.type "type")) true)
    (h : R (.ok (.ret v)) s) : codeAny (model prog w) A (.call (.builtin "getset_descriptor.__get__") ⟨[.builtin "type.__name__", .ref C, .type "type"], []⟩) R s := by
  obtain ⟨hh, g, dr, t, os⟩ := s
  refine codeAny_call_builtin KF.slot_gs.plain KF.entry_gs (KF.slot_gs.check _ _ _ _ _ _ _ _ typ_name (KF.args_gs _ _ _) ?_)
  unfold Builtin.«getset_descriptor.__get__» descrGet
  rw [dga_obj]
  refine wpAny_bind (wpAny_pure ?_)
  unfold descrGetter descrCheckInstance descrNameAndClass isInstance
  simp only [own_name]
  repeat lk
  refine ⟨Code.quiet_builtin _ (by decide +kernel), codeAny_builtin ent_name ?_⟩
  unfold Builtin.«type.__name__» keptObject slotAt
  repeat (first | lk | (refine wpAny_loadPart_at hC ?_) | wp_step)
  rw [h2]
  exact wpAny_pure h
/-- C.__name__ -/
theorem name_of {v : Value} {oC : Obj} {expr : Bool} {Q : Value → Shared → Prop} (X : K.In s.heap) (hC : K.lookup C = some oC) (h2 : (oC.slots[2]?).join = some v) (hh : handedIn v = true) (hr : readsIn K C (.type "type") = true)
    (e : findCls K (.ref C) (.type "type") "__name__" = some (.get (.builtin "getset_descriptor.__get__") (.builtin "type.__name__") (.ref C) (.type "type")))
    (h : Q v { s with toks := s.toks + 1 }) : wpAny (model prog w) A (getAttr (.ref C) "__name__" expr) Q E s := by
  have ht : Looks (model prog w) s.heap (typeOf (.ref C)) (.type "type") := by
    simp only [readsIn, Bool.and_eq_true, beq_iff_eq] at hr
    exact looks_typeIn X hr.1.1.1.2
  exact cls_bind X hr e (wpAny_call (name_get (s := { s with toks := s.toks + 1 }) X (X _ _ hC) h2 ht (Looks.of_pure (by rw [isSubtype_type]; kernel_rfl)) (handed_on hh h)))
/-- x.__class__, x an error of an own class -/
theorem class_of {ox : Obj} {od : Option Obj} {gt : Option Value} {Q : Value → Shared → Prop} (X : K.In s.heap) (I : InstAt s.heap x ox C od) (hga : findIn K (.ref C) "__getattribute__" = some (some (.builtin "BaseException.__getattribute__"))) (hgt : findIn K (.ref C) "__getattr__" = some gt)
    (hsub : subIn K (.ref C) (.type "BaseException") = some true) (hf : findObj K C od "__class__" = some (.bind (.builtin "getset_descriptor.__get__") (.builtin "object.__class__"))) (hm : mroIn K C (.type "object") = some true)
    (h : Q (.ref C) { s with toks := s.toks + 1 }) : wpAny (model prog w) A (getAttr (.ref x) "__class__" true) Q E s := by
  obtain ⟨hp, g, d, t, os⟩ := s
  have L0 := I.type (M := model prog w)
  have L1 := looks_findIn (M := model prog w) X hga
  have L2 := looks_findIn (M := model prog w) X hgt
  have L3 := looks_find (M := model prog w) X I hf
  have sub : Looks (model prog w) hp (isInstance (.ref x) (.type "BaseException")) true := L0.andThen (looks_subIn X hsub)
  have n0 : (true && onTheHeap (Value.builtin "BaseException.__getattribute__")) = false := rfl
  have n2 : (Value.builtin "BaseException.__getattribute__" == Value.builtin "object.__getattribute__") = false := by decide +kernel
  have n1 : (onTheHeap (Value.ref C) && Value.builtin "BaseException.__getattribute__" == Value.builtin "object.__getattribute__") = false := by rw [n2]; rfl
  unfold getAttr getAttrBy
  refine wpAny_bind (wpAny_mkText (wpAny_holding (wpAny_bind (L0.at (wpAny_bind (L1.at ?_))))))
  show wpAny _ _ (if (onTheHeap (Value.ref C) && Value.builtin "BaseException.__getattribute__" == Value.builtin "object.__getattribute__") = true then _ else _) _ _ _
  rw [n1, if_neg Bool.false_ne_true]
  unfold getAttrByItsOwn hookBefore
  refine wpAny_bind ?_
  rw [if_pos (show onTheHeap (Value.ref C) = true from rfl)]
  refine L2.at ?_
  refine wpAny_bind (wpAny_attempt (wpAny_holding ?_))
  unfold callGetattribute
  rw [n0, if_neg Bool.false_ne_true]
  unfold boundAndCalled
  rw [PySem.F.excAttr_ValueError.ga.bind (.ref x)]
  refine wpAny_bind (wpAny_pure ?_)
  show wpAny _ _ (call (.builtin "BaseException.__getattribute__") [.ref x, .str "__class__" t]) _ _ _
  refine wpAny_call (codeAny_call_builtin PySem.F.excAttr_ValueError.ga.plain PySem.F.entry_bexc_ga ?_)
  refine @PySem.W.check_slot (model prog w) _ _ ⟨hp, g, d, t + 1, os⟩ "BaseException.__getattribute__" "BaseException" "__getattribute__" (.ref x) [.str "__class__" t] [] _ (by decide +kernel) (by decide +kernel) sub (PySem.F.args_bexc_ga (.ref x) (.str "__class__" t)) ?_
  unfold Builtin.«object.__getattribute__»
  refine wpAny_bind (wpAny_of_eq (a := ((Value.ref x : Value), [Value.str "__class__" t])) (by first | rfl | (simp only [slotArgs]; rfl)) ?_)
  refine wpAny_bind (wpAny_pure (wpAny_bind (L0.at (wpAny_bind (L3.at ?_)))))
  refine wpAny_bind (wpAny_holding (wpAny_call (class_get (s := ⟨hp, g, d, t + 1, os⟩) (ox := ox) (od := od) X I hm ?_)))
  refine wpAny_pure ?_
  show wpAny _ _ (handedOut (.ref C)) _ _ _
  rw [handedOut_of (show handedIn (.ref C) = true from rfl)]
  first | exact wpAny_pure h | exact wpAny_pure (wpAny_pure h)
end
end CleX
end PySem

set_option maxHeartbeats 2000000
namespace PySem
namespace CleX
open PySem.W PySem.Calls PyProof.Rows PySem.HandSPX
/-! ### the text of __init__ -/
def iA (p1 p2 p3 : Pos) : Arguments := { posonlyargs := [], args := [{ arg := "self", annotation := none, pos := p1 }, { arg := "text", annotation := none, pos := p2 }], vararg := none, kwonlyargs := [], kw_defaults := [], kwarg := none, defaults := [.Constant (.str "") 0 p3] }
def iB (q1 q2 q3 q4 q5 q6 q7 q8 q9 qa qb qc : Pos) : List Stmt :=
  [.Expr (.Call (.Attribute (.Call (.Name "super" q1) [] [] q2) "__init__" q3) [.Name "text" q4] [] q5) q6,
   .Assign [.Attribute (.Name "self" q7) "word" q8] (.Attribute (.Attribute (.Name "self" q9) "__class__" qa) "__name__" qb) qc]
def iS : Scope := { kind := .function, names := [(PySem.Str.ofString "self", .local), (PySem.Str.ofString "text", .local), (PySem.Str.ofString "__class__", .free), (PySem.Str.ofString "super", .globalImplicit)], isGenerator := false, isCoroutine := false, more := [] }
/-- what the written part says of __init__ at fI, of the class D -/
structure InitTxt (prog : Program) (K : Frag) (mg : Str → Option Value) (D fI : Addr) : Prop where
  nG : mg "super" = none
  nT : (prog.main.scope.names.lookup ("super" : Str)).isSome = false
  noT : nsIn K cStatics "thirdparty.any" = some none
  dD : ∃ cdD, clsIn K D = some cdD
  tC : typeIn K (.ref fI) = some (.type "function")
  fn : ∃ (qn : Str) (oc : Value) (od : Option Addr) (T : Addr) (kV doc pm : Value) (an : Option Addr) (cda : Addr) (ct : Value) (cc : Addr) (osl : Array (Option Value)) (p1 p2 p3 q1 q2 q3 q4 q5 q6 q7 q8 q9 qa qb qc : Pos),
    (q3.endLine == q5.line) = true ∧ K.lookup fI = some ⟨oc, od, .func (ksFn "__init__" qn (iA p1 p2 p3) (iB q1 q2 q3 q4 q5 q6 q7 q8 q9 qa qb qc) iS (.ref T) kV doc pm an (.ref cda) ct cc), osl⟩ ∧ codeIn K (.ref cda) qn = true ∧
    (∃ (oT : Obj) (e : Value) (n : Nat), K.lookup T = some oT ∧ oT.data = .seq #[e] n) ∧
    (∃ (ccl : Value) (cdd : Option Addr) (vs : Array Value) (ccs : Array (Option Value)) (file : Str) (tf : Tok), K.lookup cda = some ⟨ccl, cdd, .fields vs, ccs⟩ ∧ vs[2]? = some (.str file tf) ∧ ((prog.main.file : Str) == file) = true) ∧
    (∃ (cl : Value) (cld : Option Addr) (csl : Array (Option Value)), K.lookup cc = some ⟨cl, cld, .cell (some (.ref D)), csl⟩)
/-- what the written part says of an error's class at C, whose name is nv -/
structure ClsTxt (K : Frag) (C D fI : Addr) (nv : Value) : Prop where
  cls : ∃ nm q N bs bm sn sub ab col dd k0 k1 k3 k5, K.lookup C = some (excClassObj nm q C N bs bm true sn sub ab col dd k0 k1 (some nv) k3 k5 "ValueError.__new__") ∧ refsVE bm = true
  nvh : handedIn nv = true
  mD : mroIn K C (.ref D) = some true
  mO : mroIn K C (.type "object") = some true
  sup : ks_superIn K C D "__init__" = some (some (.builtin "ValueError.__init__"))
  sVE : subIn K (.ref C) (.type "ValueError") = some true
  sa : findIn K (.ref C) "__setattr__" = some (some (.builtin "object.__setattr__"))
  ga : findIn K (.ref C) "__getattribute__" = some (some (.builtin "BaseException.__getattribute__"))
  gg : findIn K (.ref C) "__getattr__" = some none
  noN : findIn K (.ref C) "word" = some none
  cl : findObj K C none "__class__" = some (.bind (.builtin "getset_descriptor.__get__") (.builtin "object.__class__"))
  rd : readsIn K C (.type "type") = true
  nm : findCls K (.ref C) (.type "type") "__name__" = some (.get (.builtin "getset_descriptor.__get__") (.builtin "type.__name__") (.ref C) (.type "type"))
  iC : findIn K (.ref C) "__init__" = some (some (.ref fI))
  kC : keepIn K (.ref C) = true
  exC : subIn K (.ref C) (.type "BaseException") = some true
  tyC : typeIn K (.ref C) = some (.type "type")
  hdC : hasDictIn K C = true
theorem kept_but {K : Frag} {h h' : Heap} {x : Addr} (X : K.In h) (hx : K.lookup x = none) (k : ∀ b o, b ≠ x → h.get? b = some o → h'.get? b = some o) : K.In h' := fun a o e =>
  k a o (fun z => by rw [z, hx] at e; cases e) (X a o e)
/-- the built-in __init__, bound to a fresh error at e, called -/
theorem call_mw {prog : Program} {w : World} {A : Around} {E : Value → Shared → Prop} {h : Heap} {g : Array GenState} {d : Drawn} {t : Nat} {os : OsState} {nm q : Str} {C N : Addr} {bs bm bmB : List Value} {hdct : Bool} {sn : List Str} {sub : List Value} {ab : Bool} {col : Option Bool} {dd : Option Addr} {k0 k1 k2 k3 k5 : Option Value} {B newId i : String}
    (FB : ExcBaseFacts B newId i bmB) {u e t0 : Addr} {rest : List Value} {Q : Value → Shared → Prop}
    (hC : h.get? C = some (excClassObj nm q C N bs bm hdct sn sub ab col dd k0 k1 k2 k3 k5 newId)) (he : h.get? e = some (excO C t0)) (hu : h.get? u = some (kxs_mw i e)) (hrest : rest.length ≤ sizeLine)
    (hq : ∀ h' t1, (∀ b o, b ≠ e → h.get? b = some o → h'.get? b = some o) → h'.get? e = some (excO C t1) → Q .none ⟨h', g, d, t, os⟩) :
    wpAny (model prog w) A (call (.ref u) rest) Q E ⟨h, g, d, t, os⟩ := by
  refine wpAny_call (codeAny_of_tree ?_)
  show wpAny _ A.in1 (callAny (.ref u) ⟨rest, []⟩) _ _ _
  simp only [callAny]
  refine wpAny_bind (wpAny_load hu ?_)
  simp only [kxs_mw, show (Value.type "method-wrapper" == Value.type "method" || Value.type "method-wrapper" == Value.type "builtin_function_or_method" || Value.type "method-wrapper" == Value.type "method-wrapper") = true by decide, if_true]
  refine KFB.if_so (by decide) ?_
  refine wpAny_bind (check_bound_init FB.toExcCallFacts hC he rfl ?_)
  refine wpAny_bind (wpAny_pure (wpAny_pure ?_))
  refine ⟨plainId_quiet FB.init.plain _, codeAny_builtin FB.initEntry ?_⟩
  exact exc_init_tree (cls := .ref C) (t0 := t0) (dv := none) (c2 := .none) (c3 := .none) (b4 := .bool false) he hrest fun h' k e' _ => hq h' _ k e'
/-- what __init__ leaves of a fresh error at x -/
structure InitEnd (h h' : Heap) (x C dx : Addr) (nv : Value) : Prop where
  keep : ∀ b o, b ≠ x → h.get? b = some o → h'.get? b = some o
  obj : ∃ t1 : Addr, h'.get? x = some { cls := .ref C, dict := some dx, data := .fields #[.ref t1, .none, .none, .none, .bool false, .none] }
  dbig : h.objs.size ≤ dx
  dne : dx ≠ x
  ns : h'.Ns1 dx (fun y => if y = "word" then some nv else none)
theorem ldC {M : Model} {s : Shared} {env : Env} {m : Str → Option Value} {x : Str} {pos : Pos} {v : Value} {Q : Value → Shared → Prop} {A : Around} {E : Value → Shared → Prop} (hn : s.heap.Ns env.locals m) (hv : m x = some v) (h : Q v s)
    (hk : env.scope.kind = .function := by rfl) (hl : env.kindOf x = some .local := by rfl) (hd : (x == ("__debug__" : Str)) = false := by decide) :
    wpAny M A (eval (.Name x pos) env) Q E s := wpAny_Name (wpAny_loadName_local hk hl hn hv h) hd
theorem method_he {o : Expr} {name : Str} {apos pos : Pos} {args : List Expr} {env : Env} (hline : (apos.endLine == pos.line) = true) (hform : methodCallForm (args.length + ([] : List Keyword).length) (backTo pos (starEach args env)) (backToKw pos (keywordEach [] env)) = true) :
    eval (.Call (.Attribute o name apos) args [] pos) env = (do
      let ov ← attributeBase o name env (eval o env)
      standAt apos.atName
      let (f, first) ← holding [ov] (getMethod ov name (do return (← importBound o env).getD true))
      callWith pos f first (backTo pos (starEach args env)) []) := by
  rw [arm_eval_Call]
  have hp : methodCallPos true o env apos pos = pure pos := by unfold methodCallPos; simp [hline]
  unfold methodCall
  rw [hform]
  simp only [hp, pure_bind]
  rfl
end CleX
end PySem

set_option maxHeartbeats 2000000
namespace PySem
namespace CleX
open PySem.W PySem.Calls PyProof.Rows PySem.HandSPX
section
variable {prog : Program} {w : World} {A : Around} {E : Value → Shared → Prop} {R : Result → Shared → Prop} {s : Shared} {K : Frag} {mg : Str → Option Value} {C D fI : Addr} {nv : Value}
theorem cle_init (T : InitTxt prog K mg D fI) (T2 : ClsTxt K C D fI nv) {x t0 : Addr} {v : Value} (X : K.In s.heap) (G : s.heap.Ns mainGlobals mg) (Bn : ∃ mb, s.heap.Ns builtinsNs mb ∧ ∀ x : Str, x ≠ "__name__" → mb x = bootBuiltins x) (hlim : s.heap.NoLimit)
    (hx : s.heap.get? x = some (excO C t0)) (hnx : K.lookup x = none) (hroom : A.depth < recursionLimit)
    (hq : ∀ h' tk dx, InitEnd s.heap h' x C dx nv → R (.ok (.ret .none)) { s with heap := h', toks := tk }) :
    codeAny (model prog w) A (.call (.ref fI) ⟨[.ref x, v], []⟩) R s := by
  obtain ⟨qn, oc, od, Td, kV, doc, pm, an, cda, ct, cc, osl, p1, p2, p3, q1, q2, q3, q4, q5, q6, q7, q8, q9, qa, qb, qc, hline, ho, hcd, ⟨oT, dv, n, hT, hTd⟩, ⟨ccl, cdd, vs, ccs, file, tf, hcode, hvs, hfile⟩, ⟨cl, cld, csl, hcell⟩⟩ := T.fn
  obtain ⟨nm, q, N, bs, bm, sn, sub, ab, col, dd, k0, k1, k3, k5, hC, hbm⟩ := T2.cls
  obtain ⟨cdD, hD⟩ := T.dD
  obtain ⟨mb, hb1, hb2⟩ := Bn
  have hcl : clsIn K C = some { name := nm, bases := bs, mro := .ref C :: bm, ns := N, qualname := q, hasDict := true, slotNames := sn, subclasses := sub, abstract := ab, collection := col, hasDel := false } := by unfold clsIn; rw [hC] <;> rfl
  refine ks_codeAny_call_defAt (fd := ksFn "__init__" qn (iA p1 p2 p3) (iB q1 q2 q3 q4 q5 q6 q7 q8 q9 qa qb qc) iS (.ref Td) kV doc pm an (.ref cda) ct cc) (body := iB q1 q2 q3 q4 q5 q6 q7 q8 q9 qa qb qc) (binds := [("self", .ref x), ("text", v)]) hroom (X _ _ ho) rfl hlim (codeRec_of X hcd) rfl
    (binds_K X rfl hT hTd (by first | rfl | with_unfolding_all rfl) (by first | rfl | with_unfolding_all rfl)) (by show ∀ y ∈ iS.names, y.2 ≠ .cell; decide) (locs rfl) (fun h₁ hn k => ?_) rfl rfl rfl
  have X₁ : K.In h₁ := X.keeps k
  have hx₁ := k _ _ hx
  have hxL : s.heap.objs.size ≠ x := Nat.ne_of_gt (Heap.lt_size hx)
  have zn : s.heap.objs.size < h₁.objs.size := hn.lt
  obtain ⟨hp, g, dr, tk, os⟩ := s
  dsimp only at hn X G hlim hx k zn hxL hq hb1 ⊢
  -- super().__init__(text)
  refine ks_wpAt_execs_cons (ks_wpAt_Expr_any (ks_wpAt_MethodCall (he := method_he hline (by rfl)) ?_))
  obtain ⟨oD, hD1, hD2⟩ : ∃ oD, h₁.get? D = some oD ∧ oD.data = .cls cdD := by
    unfold clsIn at hD
    split at hD
    · rename_i c d cd' sl ho
      cases hD
      exact ⟨_, X₁ _ _ ho, rfl⟩
    · cases hD
  have hio : ∀ c, (excO C t0).data ≠ .cls c := fun c e => by cases e
  refine ks_wpAt_super_base rfl rfl (by decide) rfl (X₁ _ _ ho) rfl rfl rfl (X₁ _ _ hcode) rfl hvs hfile T.nT ?_
  refine ks_loadName_global rfl rfl (loadGlobal_builtin (G.keeps k) T.nG (hb1.keeps k) ((hb2 _ (by decide)).trans (by first | boot_by_name | rfl | kernel_rfl)) ⟨rfl, ?_⟩)
  refine wpAny_loadName_free rfl rfl rfl ⟨_, X₁ _ _ hcell, rfl⟩ ?_
  refine wpAny_loadName_local rfl rfl hn (by first | rfl | with_unfolding_all rfl | kernel_rfl) ?_
  refine ks_wpAny_isType_cls hD1 hD2 ⟨rfl, ?_⟩
  refine ks_wpAny_call_super hD1 hD2 hx₁ rfl hio (looks_mroIn X₁ T2.mD) (fun h₂ e k₂ => ?_)
  have X₂ : K.In h₂ := X₁.keeps k₂
  have hx₂ := k₂ _ _ hx₁
  have I₂ : InstAt h₂ x (excO C t0) C none := ⟨hx₂, rfl, rfl, trivial⟩
  have hsup := T2.sup
  unfold ks_superIn at hsup
  rw [hcl] at hsup
  refine kxs_getMethod kxs_ValueError (l₀ := .ref C :: bm) e (looks_opaque X₂ T.noT) ((looks_clsIn X₂ hcl).andThen .now) rfl X₂ hsup (I₂.type.andThen (looks_subIn X₂ T2.sVE)) (ks_ne X₂ I₂ hcl) (by decide) ?_
  have hus : (h₂.push (kxs_mw "ValueError.__init__" x)).get? h₂.objs.size = some (kxs_mw "ValueError.__init__" x) := Heap.get?_push_at rfl rfl
  have k₃ : ∀ b o, h₂.get? b = some o → (h₂.push (kxs_mw "ValueError.__init__" x)).get? b = some o := fun b o q => Heap.get?_push_of_some _ q
  have hn₃ := (hn.keeps k₂).keeps k₃
  refine kxs_callWith (i := "ValueError.__init__") (x := x) (by rfl) (evalArgs_plain (spliced_more (ldC (v := v) hn₃ (by first | rfl | with_unfolding_all rfl | kernel_rfl) (spliced_none ⟨hus, ?_⟩)) rfl))
  refine call_mw F.excBase_ValueError (k₃ _ _ (X₂ _ _ hC)) (k₃ _ _ hx₂) hus (by show 1 ≤ sizeLine; rw [sizeLine_eq]; exact (by decide : 1 ≤ 16777216)) (fun h₄ t1 k₄ hx₄ => ?_)
  have X₄ : K.In h₄ := kept_but (X₂.keeps k₃) hnx k₄
  have hn₄ : h₄.Ns hp.objs.size (fun y => ([(("self" : Str), Value.ref x), (("text" : Str), v)] : List (Str × Value)).reverse.lookup y) := by
    obtain ⟨oL, es, ep, hL, r⟩ := hn₃
    exact ⟨oL, es, ep, k₄ _ _ hxL hL, r⟩
  have I₄ : InstAt h₄ x (excO C t1) C none := ⟨hx₄, rfl, rfl, trivial⟩
  -- self.word = self.__class__.__name__
  show _root_.PySem.wpAt _ _ _ (execs _ _) _ _ _
  refine ks_wpAt_execs_cons (wpAt_of_wpAny (plainObj_wpAny_Assign_Attribute ?_))
  refine L2.attr_of rfl (L2.attr_of rfl (ldC (v := .ref x) hn₄ (by first | rfl | with_unfolding_all rfl | kernel_rfl) ?_))
  refine class_of X₄ I₄ T2.ga T2.gg T2.exC T2.cl T2.mO ?_
  refine name_of X₄ hC rfl T2.nvh T2.rd T2.nm ?_
  refine ldC (v := .ref x) hn₄ (by first | rfl | with_unfolding_all rfl | kernel_rfl) ?_
  refine set_plain X₄ (ox := excO C t1) (od := none) ⟨hx₄, rfl, rfl, trivial⟩ T2.sa ?_
  refine exc_osa X₄ hx₄ hcl (show refsVE (.ref C :: bm) = true from hbm) rfl T2.noN (fun h₅ tk₅ dx k₅ dn dne hx₅ hn₅ => ?_)
  have big : hp.objs.size ≤ dx := by
    have z : hp.objs.size < h₄.objs.size := hn₄.lt
    exact Nat.le_of_lt (Nat.lt_of_lt_of_le z dn)
  exact wpAt_of_wpAny (wpAny_execs_nil (hq h₅ tk₅ dx ⟨fun b o hb q => k₅ b o hb (k₄ b o hb (k₃ b o (k₂ b o (k b o q)))), ⟨t1, hx₅⟩, big, dne, hn₅⟩))
/-- a made error -/
structure Made (h h' : Heap) (e C d : Addr) (nv : Value) : Prop where
  keep : ∀ b o, h.get? b = some o → h'.get? b = some o
  new : h.objs.size ≤ e
  obj : ∃ oe vs, h'.get? e = some oe ∧ oe.cls = .ref C ∧ oe.dict = some d ∧ oe.data = .fields vs ∧ vs[1]? = some .none
  dbig : h.objs.size ≤ d
  dne : d ≠ e
  ns : h'.Ns1 d (fun y => if y = "word" then some nv else none)
theorem one_size (v : Value) : [v].length ≤ sizeLine := by
  rw [sizeLine_eq]
  exact (by decide : 1 ≤ 16777216)
/-- C(text) -/
theorem cle_made (T : InitTxt prog K mg D fI) (T2 : ClsTxt K C D fI nv) {v : Value} (X : K.In s.heap) (G : s.heap.Ns mainGlobals mg) (Bn : ∃ mb, s.heap.Ns builtinsNs mb ∧ ∀ x : Str, x ≠ "__name__" → mb x = bootBuiltins x) (hlim : s.heap.NoLimit) (hroom : A.depth + 1 < recursionLimit)
    (hq : ∀ h' tk e d, Made s.heap h' e C d nv → R (.ok (.ret (.ref e))) { s with heap := h', toks := tk }) :
    codeAny (model prog w) A (.call (.ref C) ⟨[v], []⟩) R s := by
  obtain ⟨nm, q, N, bs, bm, sn, sub, ab, col, dd, k0, k1, k3, k5, hC, hbm⟩ := T2.cls
  obtain ⟨mb, hb1, hb2⟩ := Bn
  obtain ⟨hp, g, dr, tk, os⟩ := s
  have k : ∀ b o, hp.get? b = some o → ((hp.push (kdv_tup [v])).push (excO C hp.objs.size)).get? b = some o := fun b o e => Heap.get?_push_of_some _ (Heap.get?_push_of_some _ e)
  have hget : ((hp.push (kdv_tup [v])).push (excO C hp.objs.size)).get? (hp.objs.size + 1) = some (excO C hp.objs.size) := by heap_get
  have hnx : K.lookup (hp.objs.size + 1) = none := by
    cases e : K.lookup (hp.objs.size + 1) with
    | none => rfl
    | some o =>
      have z : hp.get? (hp.objs.size + 1) = some o := X _ _ e
      exact absurd (Nat.lt_of_succ_lt (Heap.lt_size z)) (Nat.lt_irrefl _)
  refine call_own F.excBase_ValueError (fun X => refsVE_contains X bm hbm) (X _ _ hC) (looks_findIn X T2.iC) (fun self => bind_fn X self T.tC) (one_size v) ?_
  refine cle_init (s := ⟨(hp.push (kdv_tup [v])).push (excO C hp.objs.size), g, dr, tk, os⟩) T T2 (X.keeps k) (G.keeps k) ⟨mb, hb1.keeps k, hb2⟩ (hlim.keeps k) hget hnx ?_ fun h' tk' dx ⟨k', ⟨t1, hx⟩, dn, dne, hns⟩ => ?_
  · show A.depth + 1 < recursionLimit
    exact hroom
  · have old : ∀ b o, hp.get? b = some o → h'.get? b = some o := fun b o e => k' b o (Nat.ne_of_lt (Nat.lt_succ_of_lt (Heap.lt_size e))) (k b o e)
    have z : hp.objs.size + 1 + 1 ≤ dx := by
      first
        | (simpa only [Heap.size_push] using dn)
        | exact dn
        | (have q := dn; rw [Heap.size_push, Heap.size_push] at q; exact q)
    exact ⟨rfl, hq h' tk' (hp.objs.size + 1) dx ⟨old, Nat.le_succ _, ⟨_, _, hx, rfl, rfl, rfl, rfl⟩, Nat.le_trans (Nat.le_trans (Nat.le_succ _) (Nat.le_succ _)) z, dne, hns⟩⟩
end
end CleX
end PySem

set_option maxHeartbeats 2000000
namespace CX4
open PySem PySem.Spec PyProof.Rows L2
/-- the word of an error: its class's name -/
def wd (c : Str) : List (Str × V) := [(("word" : Str), .str c)]
theorem relO_word {c : Str} {v' : Value} (r : RelV (.str c) v') (f : Str) : RelO (List.lookup f (wd c)) (if f = "word" then some v' else none) := by
  by_cases hw : f = "word"
  · subst hw
    rw [if_pos rfl]
    have q : List.lookup ("word" : Str) (wd c) = some (.str c) := by simp [wd, List.lookup]
    rw [q]
    exact r
  · rw [if_neg hw]
    have qw : (f == ("word" : Str)) = false := by simpa using hw
    have q2 : List.lookup f (wd c) = none := by simp [wd, List.lookup, qw]
    rw [q2]
    trivial
section
variable {X : Cx} {C D fI : Addr} {nv : Value} {c : Str}
/-- C(text) -/
def tMk (C : Addr) (c : Str) (ta : TA) : L2.St → Hp → XK → Prop := fun σ H Q => ta σ H fun vs H1 => ∃ v, vs = [v] ∧ ∀ d, H1 d = none → Q (.ref C) (some d) (upd H1 d (.xd (wd c)))
theorem pmk_cle {x : Str} {a : Expr} {ta : TA} {p pos : Pos} {k : Nat} (T : PySem.CleX.InitTxt X.prog X.K X.mg D fI) (T2 : PySem.CleX.ClsTxt X.K C D fI nv) (rw : RelV (.str c) nv) (gC : X.mg x = some (.ref C)) (hr : Room k X.A) (ha : PA X [a] ta) (hg : Gl X x := by rfl)
    (he : starEach (a :: []) X.env = (false, eval a X.env) :: starEach [] X.env := by rfl) (hpl : (backTo pos (starEach [] X.env)).any (·.1) = false := by rfl) (hdb : (x == ("__debug__" : Str)) = false := by decide) :
    PMk X (.Call (.Name x p) [a] [] pos) (tMk C c ta) := by
  intro pins s σ H Q I h
  refine wpAny_Call_Name_kw (ld_glob I hg gC ?_ hdb)
  refine PySem.W.callWith_K (h₀ := X.base) I.ok.mod.kin T2.kC (thn (ha.run pos pins s σ H _ I h) fun us s1 hh => ?_) he hpl
  obtain ⟨vs, H1, I1, r1, v, ev, q1⟩ := hh
  subst ev
  refine ⟨I1.kIn, ?_⟩
  cases r1 with
  | cons rv rn =>
    rename_i v' us'
    cases rn
    show wpAny _ _ (call (.ref C) [v']) _ _ _
    have hlim := I1.nolimit
    have hmod := I1.mod
    obtain ⟨mb, hb1, hb2⟩ := hmod.blt
    have hG := hmod.glob.keeps I1.bk
    have hB := hb1.keeps I1.bk
    obtain ⟨hp, g, dr, tk, os⟩ := s1
    refine wpAny_call (PySem.CleX.cle_made T T2 I1.kIn hG ⟨mb, hB, hb2⟩ hlim (by have := hr.dp; omega) fun h' tk' e d M => ?_)
    show MkP X pins σ Q (.ref e) ⟨h', g, dr, tk', os⟩
    obtain ⟨oe, fv, hoe, hc, hd, hdat, h1⟩ := M.obj
    have hns := M.ns
    obtain ⟨G', g1, g2⟩ := restrict h' fun b => decide (b ≠ e)
    have gk : ∀ b, b ≠ e → G'.get? b = h'.get? b := fun b hb => g1 b (decide_eq_true hb)
    have ge : G'.get? e = none := g2 e (by simp)
    have old : ∀ b o, hp.get? b = some o → G'.get? b = some o := fun b o q => (gk b (Nat.ne_of_lt (Nat.lt_of_lt_of_le (Heap.lt_size q) M.new))).trans (M.keep b o q)
    have ob : ObjOk X.prog X.w (upd H1 d (.xd (wd c))) G' d (.xd (wd c)) :=
      ⟨_, hns.at (fun o q => (gk d M.dne).trans q), fun f => relO_word rw f⟩
    have J : Inv X pins σ (upd H1 d (.xd (wd c))) ⟨G', g, dr, tk', os⟩ := I1.laid (t' := tk') old M.dbig ob
    refine ⟨e, oe, fv, ⟨G', g, dr, tk', os⟩, _, .ref C, some d, rfl, J, fun b o q => ?_, ge, hoe, ⟨hc, hd⟩, hdat, h1, ?_, rfl, I1.bare, raises_own T2.exC T2.tyC, q1 d (I1.hok.fresh M.dbig)⟩
    · by_cases hb : b = e
      · have q' : G'.get? b = some o := q
        rw [hb, ge] at q'; cases q'
      · exact (gk b hb).symm.trans q
    · rw [upd_ne (Ne.symm M.dne)]
      exact I1.hok.fresh M.new
/-- raise C(text) -/
def tRs (C : Addr) (c : Str) (W : WX) (ta : TA) : TS := fun _ σ H => tMk C c ta σ H fun cls d H' => W cls d σ H'
theorem ps_cle {x : Str} {a : Expr} {ta : TA} {W : WX} {p pos pos2 : Pos} {k : Nat} (hc : X.calm = true) (T : PySem.CleX.InitTxt X.prog X.K X.mg D fI) (T2 : PySem.CleX.ClsTxt X.K C D fI nv) (rw : RelV (.str c) nv) (gC : X.mg x = some (.ref C)) (hr : Room k X.A) (tk : Takes X W) (ha : PA X [a] ta) (hg : Gl X x := by rfl)
    (he : starEach (a :: []) X.env = (false, eval a X.env) :: starEach [] X.env := by rfl) (hpl : (backTo pos (starEach [] X.env)).any (·.1) = false := by rfl) (hdb : (x == ("__debug__" : Str)) = false := by decide) :
    PS X (.Raise (some (.Call (.Name x p) [a] [] pos)) none pos2) (tRs C c W ta) := ps_raise hc tk (pmk_cle T T2 rw gC hr ha hg he hpl hdb)
/-- e.word, e the error that the suite holds (at a; its class cls, its dict d) -/
def tWord (K : PySem.W.Frag) (a : Addr) (cls : Value) (d : Option Addr) (te : TE) : TE := fun σ H Q => te σ H fun x H1 => x = .ref a ∧ ∃ (C D fI : Addr) (nv : Value) (c : Str) (dd : Addr), cls = .ref C ∧ PySem.CleX.ClsTxt K C D fI nv ∧ d = some dd ∧ H1 dd = some (.xd (wd c)) ∧ Q (.str c) H1
theorem pe_word {a : Addr} {oe : Obj} {cls : Value} {d : Option Addr} {pn : List (Addr × Obj)} {e : Expr} {te : TE} {pos : Pos} (hz : Zc cls d oe) (hf : ∃ vs, oe.data = .fields vs) (he : PE (X.suite a ((a, oe) :: pn)) e te)
    (hb : attributeBase e "word" X.env (eval e X.env) = eval e X.env := by rfl) :
    PE (X.suite a ((a, oe) :: pn)) (.Attribute e "word" pos) (tWord X.K a cls d te) := by
  refine ⟨fun pins s σ H Q I h => ?_⟩
  refine attr_of hb (thn (he.run pins s σ H _ I h) fun u s1 hh => ?_)
  obtain ⟨x, H1, I1, rx, ex, C, D, fI, nv, c, dd, ec, T2, ed, ea, q⟩ := hh
  subst ex
  obtain rfl : u = Value.ref a := rx
  subst ec
  subst ed
  obtain ⟨ha, _⟩ := I1.pin (a, oe) (List.mem_append_left _ List.mem_cons_self)
  obtain ⟨vs, hd⟩ := hf
  have hx : ObjOk X.prog X.w H1 s1.heap dd (.xd (wd c)) := I1.hok dd _ ea
  obtain ⟨mA, hns, hr⟩ := hx
  obtain ⟨od, ho, hl⟩ := lookIn_ns hns
  have l : List.lookup ("word" : Str) (wd c) = some (.str c) := by simp [wd, List.lookup]
  obtain ⟨u, hu, ru⟩ := RelO.some_of (v := .str c) (o := mA "word") (by rw [← l]; exact hr "word")
  have J : PySem.W.InstAt s1.heap a oe C (some od) := ⟨ha, hz.1, by unfold PySem.W.notCls; rw [hd] <;> rfl, by rw [hz.2]; exact ho⟩
  exact HandSPX.exc_get I1.kIn J T2.ga T2.gg T2.exC (PySem.W.findObj_own T2.hdC T2.noN rfl (by rw [hl, hu])) (handed_of ru) ⟨.str c, H1, I1.tok _, ru, q⟩
end
end CX4

set_option maxHeartbeats 2000000
/-! Several except clauses, each of which gives its error a name. -/
namespace TA
open PySem PySem.Spec PyProof.Rows L2
/-- D behind a suite: the name's slot i is empty -/
def gone (i : Nat) (D : Ends) : Ends := { nx := fun σ H => D.nx (σ.set i none) H, rt := D.rt, bk := fun σ H => D.bk (σ.set i none) H, ct := fun σ H => D.ct (σ.set i none) H }
/-- a clause: its class, its name's slot, its suite's reading -/
abbrev Cl := Value × Nat × (Addr → Value → Option Addr → TS)
def wAll (K : PySem.W.Frag) (n : Nat) (Wout : WX) (D : Ends) : List Cl → WX
  | [] => Wout
  | (c, i, ts) :: r => fun cls d σ H => ∃ b, PySem.W.exmOne K cls c = some b ∧ (b = true → ∀ a, H a = none → σ.length = n → ts a cls d (gone i D) (σ.set i (some (.ref a))) H) ∧ (b = false → wAll K n Wout D r cls d σ H)
inductive Cls (X : Cx) : List ExceptHandler → List Cl → Prop
  | nil : Cls X [] []
  | cons {x n : Str} {i : Nat} {c : Value} {ts : Addr → Value → Option Addr → TS} {b₀ : Stmt} {su : List Stmt} {p1 p2 : Pos} {hds : List ExceptHandler} {l : List Cl} (hc : Names X x c) (hi : X.N[i]? = some n) (hln : X.env.kindOf n = some .local)
      (hsu : ∀ (a : Addr) (oe : Obj) (cls : Value) (d : Option Addr) (pn : List (Addr × Obj)), Zc cls d oe → (∃ vs, oe.data = .fields vs) → PSs (X.suite a ((a, oe) :: pn)) (b₀ :: su) (ts a cls d)) (r : Cls X hds l) :
      Cls X (.ExceptHandler (some (.Name x p1)) (some n) (b₀ :: su) p2 :: hds) ((c, i, ts) :: l)
section
variable {X : Cx} {body : List Stmt} {h₀ : ExceptHandler} {hds : List ExceptHandler} {l : List Cl} {pos : Pos} {tb : WX → TS} {Wout : WX}
theorem ps_try_all (hs : X.stack = X.env :: X.outer) (hf : X.env.frame = some X.env.locals) (hN : X.N.Nodup) (tk : Takes X Wout)
    (hb : ∀ (W : WX) (pn : List (Addr × Obj)) (xe : Value → Shared → Prop), Takes (X.tr pn xe) W → PassesOwn (model X.prog X.w) X.A X.env xe → PSs (X.tr pn xe) body (tb W))
    (hh : Cls X (h₀ :: hds) l) : PS X (.Try body (h₀ :: hds) [] [] pos) (fun D σ H => tb (wAll X.K X.N.length Wout D l) D σ H) := by
  constructor
  intro pins s σ H D I h
  have ok := I.ok
  have frs' : X.A.frames = some (X.env :: X.outer) := hs ▸ ok.frames
  refine wpAny_Try_except (wpAny_mono ((hb (wAll X.K X.N.length Wout D l) (X.pn ++ pins) (fun e s₁ => wpAny (model X.prog X.w) X.A (noteFrame e X.env) (fun _ s₂ => wpAny (model X.prog X.w) X.A (setFlight e none) (fun _ s₃ => wpAny (model X.prog X.w) X.A (handleBy e X.env (h₀ :: hds)) (SP X pins D) X.xe s₃) X.xe s₂) X.xe s₁) ?C PassesOwn.looking).run [] s σ H D (I.toTry _) h) ?N fun _ _ q => q)
  case C =>
    rintro u s' ⟨a, B, sI, pins', σ', H', cls, d, rfl, J', nb, up, sky, na, os, ag, w⟩
    have J : Inv X pins σ' H' sI := J'.ofTry ok
    show wpAny _ X.A (noteFrame (.ref a) X.env) _ _ _
    refine Sky.land Zc.steady frs' hf (hs ▸ sky) fun h3 fl3 up3 => ?_
    have J3 : Inv X pins σ' H' { s' with heap := h3 } := J.landed nb fl3.1 (up.trans up3) os ag
    obtain ⟨o3, v3, e3, z3, d3⟩ := fl3.there
    have nfr : a ∉ frs (X.env :: X.outer) := fun hm => by
      obtain ⟨_, o', e', q⟩ := fl3.2.2.1.mem hm
      exact q _ (Option.some.inj (e'.symm.trans e3) ▸ d3)
    have nL : a ≠ X.env.locals := fun z => nfr (List.mem_filterMap.mpr ⟨X.env, List.mem_cons_self, z ▸ hf⟩)
    have nF : a ∉ X.fs := fun hm => (List.mem_filterMap.mp hm).elim fun e q => nfr (List.mem_filterMap.mpr ⟨e, List.mem_cons_of_mem _ q.1, q.2⟩)
    have S3 := J3.suite e3 d3 na nL nF
    suffices go : ∀ {hk : List ExceptHandler} {lk : List Cl}, Cls X hk lk → wAll X.K X.N.length Wout D lk cls d σ' H' → wpAny (model X.prog X.w) X.A (handleBy (.ref a) X.env hk) (SP X pins D) X.xe { s' with heap := h3 } from go hh w
    intro hk lk C
    induction C with
    | nil =>
      intro w
      obtain ⟨_, _, _, oe, vs, T, oT, _, he, _, hd, h1, _⟩ := id fl3
      refine wpAny_handleBy_nil ?_
      unfold PySem.passOn
      refine wpAny_bind (wpAny_field he hd h1 ?_)
      rw [if_neg (by simp)]
      have fin : wpAny (model X.prog X.w) X.A (setFlight (.ref a) X.env.frame) (fun _ s4 => wpAny (model X.prog X.w) X.A (throw (.ref a) : Sem Flow) (SP X pins D) X.xe s4) X.xe { s' with heap := h3 } :=
        hf ▸ HandSPX.setFlight_upZ fl3 fun h4 hh4 up4 => wpAny_throw (tk _ _ ⟨a, B, sI, pins, σ', H', cls, d, rfl, J, nb, (up.trans up3).trans up4, .inr (.inr (hs ▸ hh4)), na, os, ag, w⟩)
      first | exact wpAny_bind (wpAny_pure (wpAny_bind fin)) | exact wpAny_bind fin
    | @cons x n i c ts b₀ su p1 p2 hds2 l2 hc hi hln hsu r ih =>
      rintro ⟨b, hb1, hyes, hno⟩
      refine wpAny_handleBy_cons (codeAny_handlers_test ?_) (fun q => nomatch q)
      have LM := PySem.W.exm_one (M := model X.prog X.w) J3.kIn (fun A Q E s k q => wpAny_typeOf_ref (k _ _ e3) (z3.1.symm ▸ q)) hb1
      have named : ∀ {Q : Value → Shared → Prop} {E : Value → Shared → Prop}, Q c { s' with heap := h3 } → wpAny (model X.prog X.w) (X.A.mark (some (.ref a))) (eval (.Name x p1) X.env) Q E { s' with heap := h3 } := fun {Q E} q =>
        hc.2.2.elim (fun hm => ld_glob (X := X.suite a ((a, o3) :: (X.pn ++ pins))) S3 hc.1 hm q hc.2.1) fun hm => ld_blt (X := X.suite a ((a, o3) :: (X.pn ++ pins))) S3 hc.1 hm.1 hm.2.1 q hm.2.2 hc.2.1
      refine named (LM.here ?_)
      cases b with
      | true =>
        refine codeAny_handlers_suite_as (HandSPX.lands_againZ fl3 fun h4 fl4 up4 => ?_)
        have J4 : Inv X pins σ' H' { s' with heap := h4 } := J.landed nb fl4.1 ((up.trans up3).trans up4) os ag
        obtain ⟨o4, v4, e4, z4, d4⟩ := fl4.there
        refine store_ok (X := X.suite a ((a, o4) :: (X.pn ++ pins))) (v := .ref a) (J4.suite e4 d4 na nL nF) hN hi (.inl hln) rfl (fun s5 S5 => wpAny_mono ((hsu a o4 cls d (X.pn ++ pins) z4 ⟨_, d4⟩).run [] s5 _ H' _ S5 (hyes rfl a na J.len)) (fun f s6 hsp => ?_) (fun _ _ z => z.elim)) (.inr hln)
        have last : ∀ {σ6 : L2.St} {H6 : Hp} {Q : Shared → Prop}, Inv (X.suite a ((a, o4) :: (X.pn ++ pins))) [] σ6 H6 s6 → (∀ s7, Inv X pins (σ6.set i none) H6 s7 → Q s7) → wpAny (model X.prog X.w) X.A (do bindName X.env n .none; unbindBehindTheSuite X.env n p2) (fun _ s7 => Q s7) X.xe s6 :=
          fun {σ6 H6 Q} S6 hq => gone_ok (S6.unsuite ok) hN hi hln hq
        cases f with
        | ret u => exact hsp.elim fun v6 q => q.elim fun σ6 q => q.elim fun H6 q => last q.1 fun s7 J7 => ⟨_, _, _, J7, q.2.1, q.2.2⟩
        | next => exact hsp.elim fun σ6 q => q.elim fun H6 q => last q.1 fun s7 J7 => ⟨_, _, J7, q.2⟩
        | brk => exact hsp.elim fun σ6 q => q.elim fun H6 q => last q.1 fun s7 J7 => ⟨_, _, J7, q.2⟩
        | cont => exact hsp.elim fun σ6 q => q.elim fun H6 q => last q.1 fun s7 J7 => ⟨_, _, J7, q.2⟩
      | false => exact ih (hno rfl)
  case N =>
    intro f s1 hsp
    cases f with
    | ret u => exact hsp.elim fun v q => q.elim fun σ' q => q.elim fun H' q => ⟨v, σ', H', q.1.ofTry ok, q.2⟩
    | next => exact hsp.elim fun σ' q => q.elim fun H' q => wpAny_execs_nil ⟨σ', H', q.1.ofTry ok, q.2⟩
    | brk => exact hsp.elim fun σ' q => q.elim fun H' q => ⟨σ', H', q.1.ofTry ok, q.2⟩
    | cont => exact hsp.elim fun σ' q => q.elim fun H' q => ⟨σ', H', q.1.ofTry ok, q.2⟩
end
end TA

set_option maxHeartbeats 2000000
/-! The asking that a law tries: told or refused. -/
namespace TD
open PySem PySem.Spec PyProof.Rows L2 LamX TA CX4
/-- what is made of the asking's reading: ("told", v), or ("no", the word of the error's class) -/
def TT2 (K : PySem.W.Frag) (D1 : Addr) : (XK → Hp → VK → Prop) → Hp → VK → Prop := fun tl H Q =>
  tl (fun cls d H' => PySem.W.exmOne K cls (.ref D1) = some true ∧ (∃ (C D fI : Addr) (nv : Value) (c : Str) (dd : Addr), cls = .ref C ∧ PySem.CleX.ClsTxt K C D fI nv ∧ d = some dd ∧ H' dd = some (.xd (wd c)) ∧ ∀ p, H' p = none → Q (.ref p) (upd H' p (.tup [.str "no", .str c]))))
    H (fun v H1 => ([.str "told", v] : List V).length ≤ sizeLine ∧ ∀ p, H1 p = none → Q (.ref p) (upd H1 p (.tup [.str "told", v])))
abbrev suit (j k : Nat) (p1 p2 p3 p4 p5 : Pos) : List Stmt := [.Return (some (.Tuple [.Constant (.str "no") j p1, .Attribute (.Name "e" p2) "word" p3] k p4)) p5]
section
variable {X : Cx} {sg : Scope} {g D1 D2 : Addr} {cdg : Value} {a q x : Str} {j1 k1 j2 k2 j3 k3 : Nat} {p1 p2 p3 p4 p5 p6 p7 p8 p9 q1 q2 q3 q4 q5 r1 r2 r3 r4 r5 r6 : Pos}
/-- ("no", e.word) -/
def tNo (K : PySem.W.Frag) : Addr → Value → Option Addr → TS := fun ad cls d => tRet (tTup (tCons (tC (.str "no")) (tCons (tWord K ad cls d (tVar 1)) tNil)))
theorem pss_no {Y : Cx} (hY : Y.N[1]? = some ("e" : Str)) (hv : Vis Y.env.scope "e") {ad : Addr} {oe : Obj} {cls : Value} {d : Option Addr} {pn : List (Addr × Obj)} (hz : Zc cls d oe) (hf : ∃ vs, oe.data = .fields vs) :
    PSs (Y.suite ad ((ad, oe) :: pn)) (suit j2 k2 q1 q2 q3 q4 q5) (tNo Y.K ad cls d) :=
  pss_one (ps_ret (pe_tup (pa_cons pe_str (pa_cons (pe_word hz hf (pe_var (i := 1) hY hv)) pa_nil))))
theorem told2 (hD1 : sg.names.lookup ("CleaveError" : Str) = some .globalImplicit) (hD2 : sg.names.lookup ("HouseError" : Str) = some .globalImplicit) (he : sg.names.lookup ("e" : Str) = some .local) (ha : a ≠ "e")
    (m1 : X.mg "CleaveError" = some (.ref D1)) (m2 : X.mg "HouseError" = some (.ref D2)) :
    GivesTo X [a, "e"] x sg g cdg [.Try [.Return (some (.Tuple [.Constant (.str "told") j1 p1, .Call (.Name a p2) [] [] p3] k1 p4)) p5]
      [.ExceptHandler (some (.Name "CleaveError" p6)) (some "e") (suit j2 k2 q1 q2 q3 q4 q5) p7, .ExceptHandler (some (.Name "HouseError" p8)) (some "e") (suit j3 k3 r1 r2 r3 r4 r5) p9] [] [] r6] a q (TT2 X.K D1) := by
  intro f c' s H Q tl act hc h
  let Y := (cxOf C8.CX0 X.prog X.w X.K X.mg X.base [a, "e"] x sg g cdg X.A X.stack s H C8.E0).nox
  have hnd : ([a, "e"] : List Str).Nodup := by simp [ha]
  have ve : Vis Y.env.scope ("e" : Str) := .inl he
  refine ⟨_, pss_one (ps_try_all (X := Y) (Wout := fun _ _ _ _ => False)
      (tb := fun W D σ H => ∃ Ech : XK, (∀ cls d σ' H', Ech cls d H' → W cls d σ' H') ∧ σ[0]? = some (some (.ref f)) ∧ H c' = some (CodeO c' q) ∧ tl Ech H fun v H1 => ([.str "told", v] : List V).length ≤ sizeLine ∧ ∀ p, H1 p = none → D.rt (.ref p) (upd H1 p (.tup [.str "told", v])))
      rfl rfl hnd L2.takes0 (fun W pn xe tk _ => ?_) (.cons (i := 1) ⟨hD1, by decide, .inl m1⟩ rfl he (fun ad oe cls d pn hz hf => pss_no rfl ve hz hf) (.cons (i := 1) ⟨hD2, by decide, .inl m2⟩ rfl he (fun ad oe cls d pn hz hf => pss_no rfl ve hz hf) .nil))), ?_⟩
  · refine ⟨fun pins s' σ H' D I h' => ?_⟩
    obtain ⟨Ech, hW, h1, h2, h3⟩ := h'
    have hp := act W pn xe Ech p2 p3 tk hW
    have hq := pss_one (ps_ret (pos := p5) (pe_tup (pos := p4) (x1 := k1) (pa_cons (pe_str (pos := p1) (j := j1) (x := "told")) (pa_cons hp pa_nil))))
    exact hq.run pins s' σ H' D I ⟨h1, h2, h3⟩
  · refine ⟨_, fun cls d σ' H' hE => ?_, rfl, hc, h⟩
    obtain ⟨h1, C, D, fI, nv, c, dd, e1, T2, e2, e3, k⟩ := hE
    exact ⟨true, h1, fun _ ad _ hl => ⟨_, by
      rw [List.getElem?_set_self (by rw [hl]; exact (by decide : 1 < 2))], rfl, C, D, fI, nv, c, dd, e1, T2, e2, e3, (by show 2 ≤ sizeLine; rw [sizeLine_eq]; omega), k⟩, fun z => nomatch z⟩
end
end TD

set_option maxHeartbeats 2000000
/-! A lambda with one parameter that has a default and is never handed in. -/
namespace LD
open PySem PySem.Spec PyProof.Rows L2 LamX
section
variable {X : Cx} {pins : List (Addr × Obj)} {σ : L2.St} {H : Hp} {s : Shared}
/-- the end of a lambda's making, whatever its defaults -/
theorem lam_tail {T : List (Addr × Str)} {c P : Addr} {params : Arguments} {body : Expr} {scope : Scope} {pos : Pos} {dV : Value} {E : Value → Shared → Prop} {Q : Value → Shared → Prop} (I : Inv X pins σ H s) (TB : TabB X.base X.mg c P) (hcode : X.env.code = .ref c)
    (hm : (P, X.env.qual ++ "<lambda>") ∈ T) (hu : ∀ p ∈ T, p.1 = P → p.2 = X.env.qual ++ "<lambda>") (hT : Tabs T H) (hfree : ∀ y ∈ scope.names, y.2 = .free → ∃ c, X.env.cells.lookup y.1 = some c)
    (h : ∀ (f c' : Addr) (doc pm ctv : Value) (H1 : Hp) (s' : Shared), Inv X pins σ H1 s' → ExtN H H1 → Tabs T H1 →
      s'.heap.get? f = some (PySem.W.kdv_obj "<lambda>" (X.env.qual ++ "<lambda>") params (.expr body) scope (cloFrom X.env.cells scope.names []) dV doc pm c' ctv) → H1 f = none → f ∉ frs X.stack → H1 c' = some (CodeO c' (X.env.qual ++ "<lambda>")) →
      (∀ b o, H b = none → s.heap.get? b = some o → s'.heap.get? b = some o ∧ H1 b = none) → Q (.ref f) s') :
    wpAny (model X.prog X.w) X.A (makeTail "<lambda>" (X.env.qual ++ "<lambda>") params (.expr body) scope X.env dV .none none pos pos.line) Q E s := by
  obtain ⟨ps, hP, ht, ha⟩ := hT _ hm
  dsimp only at hP ha
  have bP : s.heap.BuiltinsAt X.mg P := TB.bm.keeps I.bk
  have hP' : s.heap.get? P = some { cls := .none, data := .fields ps } := I.hok P _ hP
  have nofr : ∀ f, s.heap.objs.size ≤ f → f ∉ frs X.stack := fun f hf z => (List.mem_cons.mp (I.stkSub _ z)).elim (fun e => by
    have h1 := I.lt
    exact Nat.lt_irrefl _ (Nat.lt_of_lt_of_le h1 (e ▸ hf))) (I.nofs hf)
  cases hc : codeAmong pos ps.toList with
  | none =>
    refine PySem.W.kdv_makeTail (mg := X.mg) (c := c) (P := P) (ps := ps) (closure_ok hfree) I.ok.glob (I.mod.glob.keeps I.bk) hcode (TB.code.keeps I.bk) hP' ht hc TB.gP bP (fun c' ctv doc h' tk hx hge hlt hrec htb => ?_)
    obtain ⟨c2, oc, vs, t, e2, hoc, hd, hv⟩ := hrec
    cases e2
    have hsz : s.heap.objs.size ≤ h'.objs.size := Nat.le_trans hge (Nat.le_of_lt hlt)
    have nC : H c' = none := I.hok.fresh hge
    let fo : Obj := PySem.W.kdv_obj "<lambda>" (X.env.qual ++ "<lambda>") params (.expr body) scope (cloFrom X.env.cells scope.names []) dV doc ((X.mg "__name__").getD .none) c' ctv
    have I1 := inv_table (t' := tk) (more := #[rawInt pos.line, rawInt pos.col, .ref c']) (h' := h'.push fo) I hP (fun b o hb e => Heap.get?_push_of_some _ (hx b o hb e)) (Heap.get?_push_of_some _ htb) hge ⟨oc, vs, t, Heap.get?_push_of_some _ hoc, hd, hv⟩
    have hE : ExtN H (upd (upd H P (.tbl (ps ++ #[rawInt pos.line, rawInt pos.col, .ref c']))) c' (CodeO c' (X.env.qual ++ "<lambda>"))) := fun b o e n => by
      rw [upd_ne (ne_of_none e nC), upd_ne (fun z : b = P => n ps (Option.some.inj (e.symm.trans (by rw [z]; exact hP))))]
      exact e
    have eL : (ps ++ #[rawInt pos.line, rawInt pos.col, .ref c']).toList = ps.toList ++ [rawInt pos.line, rawInt pos.col, .ref c'] := by simp
    refine h h'.objs.size c' doc ((X.mg "__name__").getD .none) ctv _ _ I1 hE (fun p hp => ?_) (Heap.get?_push_size _ rfl) ?_ (nofr _ hsz) upd_same (fun b o hb e => ?_)
    · by_cases hb : p.1 = P
      · rw [hu p hp hb, hb]
        refine ⟨_, by rw [upd_ne (ne_of_none hP nC), upd_same], by rw [eL]; exact PySem.TriplesOk_snoc _ _ _ _ ht, fun p' cv hcv => ?_⟩
        exact (among_app _ ht (eL ▸ hcv)).elim (fun z => (ha p' cv z).elim fun c0 q => ⟨c0, q.1, hE _ _ q.2 codeO_ne⟩) fun z => ⟨c', z, upd_same⟩
      · obtain ⟨ps', a1, a2, a3⟩ := hT p hp
        exact ⟨ps', by rw [upd_ne (ne_of_none a1 nC), upd_ne hb]; exact a1, a2, fun p' cv hcv => (a3 p' cv hcv).elim fun c0 q => ⟨c0, q.1, hE _ _ q.2 codeO_ne⟩⟩
    · have n1 : h'.objs.size ≠ c' := Nat.ne_of_gt hlt
      have n2 : h'.objs.size ≠ P := Nat.ne_of_gt (Nat.lt_of_lt_of_le (Heap.lt_size hP') hsz)
      rw [upd_ne n1, upd_ne n2]
      exact I.hok.fresh hsz
    · have n1 : b ≠ P := fun z => by rw [z, hP] at hb; cases hb
      have n2 : b ≠ c' := Nat.ne_of_lt (Nat.lt_of_lt_of_le (Heap.lt_size e) hge)
      exact ⟨Heap.get?_push_of_some _ (hx b o n1 e), by rw [upd_ne n2, upd_ne n1]; exact hb⟩
  | some cv =>
    obtain ⟨c', e, hco⟩ := ha pos cv hc
    subst e
    refine PySem.W.kdv_makeTailHit (mg := X.mg) (c := c) (P := P) (ps := ps) (closure_ok hfree) I.ok.glob (I.mod.glob.keeps I.bk) hcode (TB.code.keeps I.bk) hP' ht hc bP (fun ctv doc h' tk hx hsz => ?_)
    have up : ∀ b o, s.heap.get? b = some o → (h'.push (PySem.W.kdv_obj "<lambda>" (X.env.qual ++ "<lambda>") params (.expr body) scope (cloFrom X.env.cells scope.names []) dV doc ((X.mg "__name__").getD .none) c' ctv)).get? b = some o := fun b o e => Heap.get?_push_of_some _ (hx b o e)
    exact h h'.objs.size c' doc ((X.mg "__name__").getD .none) ctv H _ (I.kept (t' := tk) up) (ExtN.refl H) hT (Heap.get?_push_size _ rfl) (I.hok.fresh hsz) (nofr _ hsz) hco fun b o hb e => ⟨up b o e, hb⟩
/-- lambda pn=n: body, made -/
theorem lam_makeD {T : List (Addr × Str)} {c P : Addr} {params : Arguments} {body : Expr} {scope : Scope} {pos : Pos} {n : Int} {j : Nat} {pd : Pos} {E : Value → Shared → Prop} {Q : Value → Shared → Prop} (I : Inv X pins σ H s) (TB : TabB X.base X.mg c P) (hcode : X.env.code = .ref c)
    (hm : (P, X.env.qual ++ "<lambda>") ∈ T) (hu : ∀ p ∈ T, p.1 = P → p.2 = X.env.qual ++ "<lambda>") (hT : Tabs T H) (hd : params.defaults = [.Constant (.int n) j pd]) (hk0 : params.kw_defaults = []) (hfree : ∀ y ∈ scope.names, y.2 = .free → ∃ c, X.env.cells.lookup y.1 = some c)
    (h : ∀ (f c' dt : Addr) (v doc pm ctv : Value) (H1 : Hp) (s' : Shared), Inv X pins σ H1 s' → ExtN H H1 → Tabs T H1 →
      s'.heap.get? f = some (PySem.W.kdv_obj "<lambda>" (X.env.qual ++ "<lambda>") params (.expr body) scope (cloFrom X.env.cells scope.names []) (.ref dt) doc pm c' ctv) → H1 f = none → f ∉ frs X.stack → H1 c' = some (CodeO c' (X.env.qual ++ "<lambda>")) →
      s'.heap.get? dt = some (PySem.W.kdv_tup [v]) → H1 dt = none → dt ∉ frs X.stack → Q (.ref f) s') :
    wpAny (model X.prog X.w) X.A (eval (.Lambda params body scope pos) X.env) Q E s := by
  refine PySem.W.kdv_lam (by rw [hd]; rfl) hk0 ?_
  rw [hd]
  refine PySem.W.kdv_all1 (thn ((pe_int (X := X) (pos := pd) (j := j)).run pins s σ H (fun x H1 => x = .int n ∧ H1 = H) I ⟨rfl, rfl⟩) fun v s1 hh => ?_)
  obtain ⟨x, H1, I1, rv, ex, eH⟩ := hh
  subst ex eH
  refine PySem.W.kdv_all0 ?_
  rw [makeFunction_eq]
  simp only [List.zip_nil_right, List.filterMap_nil, List.isEmpty_nil, if_true, pure_bind, List.isEmpty_cons, Bool.false_eq_true, if_false]
  refine wpAny_bind (wpAny_newTextTuple ?_)
  have up : ∀ b o, s1.heap.get? b = some o → (s1.heap.push (PySem.W.kdv_tup [v])).get? b = some o := fun b o e => Heap.get?_push_of_some _ e
  have nt : H1 s1.heap.objs.size = none := I1.hok.fresh (Nat.le_refl _)
  have nf : s1.heap.objs.size ∉ frs X.stack := fun z => (List.mem_cons.mp (I1.stkSub _ z)).elim (fun e => by
    have h1 := I1.lt
    exact Nat.lt_irrefl _ (e ▸ h1)) (I1.nofs (Nat.le_refl _))
  have I2 : Inv X pins σ H1 { s1 with heap := s1.heap.push (PySem.W.kdv_tup [v]) } := I1.kept (t' := s1.toks) up
  refine lam_tail I2 TB hcode hm hu hT hfree (fun f c' doc pm ctv H2 s' I3 eN T2 hf hfn hfr hco k => ?_)
  obtain ⟨k1, k2⟩ := k _ _ nt (Heap.get?_push_size _ rfl)
  exact h f c' _ v doc pm ctv H2 s' I3 eN T2 hf hfn hfr hco k1 k2 nf
end
end LD

set_option maxHeartbeats 2000000
namespace LD
open PySem PySem.Spec PyProof.Rows L2 LamX
/-- the lambda's names: its parameter pn, captured ones, globals -/
structure LamD (sc scope : Scope) (pn : Str) : Prop where
  kind : scope.kind = .function
  co : scope.isCoroutine = false
  gen : scope.isGenerator = false
  own : ∀ y ∈ scope.names, y.2 ≠ .cell ∧ (y.2 = .local → y.1 = pn) ∧ y.1 ≠ ""
  par : scope.names.lookup pn = some .local
  free : ∀ y ∈ scope.names, y.2 = .free → y.1 ≠ pn ∧ (sc.names.lookup y.1 = some .cell ∨ sc.names.lookup y.1 = some .free)
def lamDB (sc scope : Scope) (pn : Str) : Bool :=
  decide (scope.kind = .function) && !scope.isCoroutine && !scope.isGenerator && (scope.names.all fun y => !decide (y.2 = .cell) && (!decide (y.2 = .local) || decide (y.1 = pn)) && !decide (y.1 = "")) && decide (scope.names.lookup pn = some .local) &&
    (scope.names.all fun y => !decide (y.2 = .free) || (!decide (y.1 = pn) && (decide (sc.names.lookup y.1 = some .cell) || decide (sc.names.lookup y.1 = some .free))))
theorem lamD_by {sc scope : Scope} {pn : Str} (h : lamDB sc scope pn = true) : LamD sc scope pn := by
  unfold lamDB at h
  simp only [Bool.and_eq_true, Bool.or_eq_true, Bool.not_eq_true', decide_eq_true_eq, decide_eq_false_iff_not, List.all_eq_true] at h
  obtain ⟨⟨⟨⟨⟨h1, h2⟩, h3⟩, h4⟩, h5⟩, h6⟩ := h
  refine ⟨h1, h2, h3, fun y hy => ?_, h5, fun y hy e => ?_⟩
  · obtain ⟨⟨a, b⟩, c⟩ := h4 y hy
    exact ⟨a, fun e => b.elim (fun z => absurd e z) id, c⟩
  · exact (h6 y hy).elim (fun z => absurd e z) id
theorem LamD.has {X : Cx} {scope : Scope} {pn : Str} (L : LamD X.env.scope scope pn) (ok : X.Ok) : ∀ y ∈ scope.names, y.2 = .free → ∃ c, X.env.cells.lookup y.1 = some c := fun y hy e =>
  (L.free y hy e).2.elim (fun k => ok.has _ (.inl k)) fun k => ok.has _ (.inr k)
/-- the maker's slot of the parameter's name is not the lambda's -/
def hid (pn y : Str) : Str := if y = pn then "" else y
def lamCxD (X : Cx) (A : Around) (outer : List Env) (s : Shared) (H : Hp) (E : XK) (scope : Scope) (f c' : Addr) (pn : Str) : Cx := { lamCx X A outer s H E scope f c' with N := X.N.map (hid pn) }
section
variable {X : Cx} {pins : List (Addr × Obj)} {σ : L2.St} {H HZ : Hp} {s s1 : Shared}
theorem lam_startD {A : Around} {outer : List Env} {E : XK} {scope : Scope} {f c' : Addr} {pn : Str} {v : Value} {h₁ : Heap} {tk : Nat} (I : Inv X pins σ H s) (L : LamD X.env.scope scope pn) (e0 : Env0 X.prog X.w X.K X.mg X.base A outer s1 HZ) (hd : A.handled = none)
    (un : Un (frs X.stack) [] H HZ s.heap s1.heap) (hns : h₁.Ns s1.heap.objs.size fun y => ([(pn, v)] : List (Str × Value)).reverse.lookup y) (kp : ∀ b o, s1.heap.get? b = some o → h₁.get? b = some o) :
    Inv (lamCxD X A outer s1 HZ E scope f c' pn) [] σ HZ { s1 with heap := h₁, toks := tk } := by
  have hfree := L.has I.ok
  have cm : ∀ {y c}, (cloFrom X.env.cells scope.names []).lookup y = some c → X.env.cells.lookup y = some c := fun {y c} e => by
    rcases cloFrom_mem (PySem.mem_of_lookup e) with hm | ⟨h1, h2⟩
    · cases hm
    · obtain ⟨c1, hc⟩ := hfree _ h1 rfl
      have hc : X.env.cells.lookup y = some c1 := hc
      have e2 : c = c1 := by
        rw [h2, hc] <;> rfl
      exact e2 ▸ hc
  have look : ∀ {y}, scope.names.lookup y = some .free → ∃ c, (cloFrom X.env.cells scope.names []).lookup y = some c := fun {y} hl =>
    mem_lookup (cloFrom_has (cells := X.env.cells) (acc := []) (show (y, NameKind.free) ∈ scope.names from PySem.mem_of_lookup hl))
  have cellK : ∀ {c : Addr} {v : Option Value}, H c = none → s.heap.IsCell c v → h₁.IsCell c v := fun {c v} n ⟨o, ho, hd⟩ =>
    (un.any ho n (by simp)).elim fun sl q => ⟨_, kp _ _ q, hd⟩
  have noA : ∀ b : Addr, b ∉ (lamCxD X A outer s1 HZ E scope f c' pn).ex := fun b z => absurd (show b ∈ ([] : List Addr) from z) (by simp)
  refine ⟨⟨e0.mod, L.kind, rfl, rfl, Nat.le_refl _, fun y z c e1 e2 => I.ok.inj y z c (cm e1) (cm e2), fun y hy => ?_, fun y c z _ => ?_, fun _ => hd, Around.frames_deeper e0.frames, .inr ⟨rfl, rfl⟩, fun b z => absurd z (noA b), e0.bs, e0.bsz, fun b _ _ => noA b,
      fun b z => absurd z (noA b), e0.funs, e0.frf⟩,
    rfl, e0.bare, Un.kept kp, ⟨_, hns, fun i y v e1 e2 e3 => ?_⟩, fun y c e => ?_, e0.hok.fresh (Nat.le_refl _), fun y c e => ?_, fun q hq => absurd (show q ∈ ([] : List (Addr × Obj)) ++ [] from hq) (by simp), e0.hok.kept kp, ?_⟩
  · have hy : scope.names.lookup y = some .cell ∨ scope.names.lookup y = some .free := hy
    exact hy.elim (fun hy => absurd rfl (L.own _ (PySem.mem_of_lookup hy)).1) look
  · have z : false = true := z
    cases z
  · have e3 : Vis scope y := e3
    have e1 : (X.N.map (hid pn))[i]? = some y := e1
    have nz : y ≠ "" := fun z => e3.elim (fun k => (L.own _ (PySem.mem_of_lookup k)).2.2 z) fun k => k.elim (fun k => (L.own _ (PySem.mem_of_lookup k)).2.2 z) fun k => (L.own _ (PySem.mem_of_lookup k)).2.2 z
    rw [List.getElem?_map] at e1
    cases q : X.N[i]? with
    | none => rw [q] at e1; cases e1
    | some y0 =>
      rw [q] at e1
      have e1 : hid pn y0 = y := Option.some.inj e1
      have np : y0 ≠ pn := fun z => nz (by rw [← e1]; exact if_pos z)
      obtain rfl : y0 = y := (if_neg np).symm.trans e1
      rcases e3 with k | k | k
      · exact absurd ((L.own _ (PySem.mem_of_lookup k)).2.1 rfl) np
      · exact absurd rfl (L.own _ (PySem.mem_of_lookup k)).1
      · obtain ⟨m, hn, hl⟩ := I.loc
        have kf := (L.free _ (PySem.mem_of_lookup k) rfl).2
        obtain ⟨w', r, q'⟩ := hl i y0 v q e2 (kf.elim (fun k => .inr (.inl k)) (fun k => .inr (.inr k)))
        obtain ⟨c2, h2⟩ := look k
        refine ⟨w', r, .inr ⟨.inr k, c2, h2, ?_⟩⟩
        have c1 := cm h2
        rcases q' with ⟨k', _⟩ | ⟨_, c3, e', z⟩
        · have k' : X.env.scope.names.lookup y0 = some .local := k'
          rcases kf with k2 | k2 <;> rw [show X.env.scope.names.lookup y0 = _ from k2] at k' <;> cases k'
        · rw [c1] at e'
          cases e'
          exact cellK (I.freeC y0 _ c1) z
  · obtain ⟨w', z⟩ := I.cell y c (cm e)
    exact ⟨w', cellK (I.freeC y c (cm e)) z⟩
  · obtain ⟨v, o, ho, hd⟩ := I.cell y c (cm e)
    exact un.free c o ho (I.freeC y c (cm e)) (by simp)
  · show σ.length = (X.N.map (hid pn)).length
    rw [List.length_map]
    exact I.len
end
end LD

set_option maxHeartbeats 2000000
namespace LD
open PySem PySem.Spec PyProof.Rows L2 LamX
section
variable {X : Cx} {pins : List (Addr × Obj)} {σ : L2.St} {H HZ : Hp} {s s1 : Shared}
/-- x(), in the def that got the lambda -/
theorem pe_actD {CXg : CXT} {Eg : XK} {Ng : List Str} {qg : Str} {sg : Scope} {g f c' dt : Addr} {cdg doc pm ctv v0 : Value} {params : Arguments} {body : Expr} {scope : Scope} {pn : Str} {k i : Nat} {a : Str} {pn' : List (Addr × Obj)} {xe : Value → Shared → Prop} {W : WX} {E : XK} {tb : TE} {p1 p2 : Pos}
    (I : Inv X pins σ H s) (L : LamD X.env.scope scope pn) (hf : s.heap.get? f = some (PySem.W.kdv_obj "<lambda>" (X.env.qual ++ "<lambda>") params (.expr body) scope (cloFrom X.env.cells scope.names []) (.ref dt) doc pm c' ctv)) (hfn : H f = none) (hfr : f ∉ frs X.stack)
    (ht : s.heap.get? dt = some (PySem.W.kdv_tup [v0])) (htn : H dt = none) (htr : dt ∉ frs X.stack)
    (hbind : ∃ kk : Option (Array Value) → Sem (List (Str × Value)), bindArgs (PySem.W.kdv_fn "<lambda>" (X.env.qual ++ "<lambda>") params (.expr body) scope (cloFrom X.env.cells scope.names []) (.ref dt) doc pm (.ref c') ctv) ⟨[], []⟩ = seqItems? (.ref dt) >>= kk ∧ kk (some [v0].toArray) = pure [(pn, v0)])
    (tk : Takes ((cxOf CXg X.prog X.w X.K X.mg X.base Ng qg sg g cdg X.A X.stack s H Eg).tr pn' xe) W) (hW : ∀ cls d σ' H', E cls d H' → W cls d σ' H') (hr : Room (k + 1) (X.A.deeper (envOfC qg sg s.heap.objs.size g cdg)))
    (hbody : ∀ (A : Around) (outer : List Env) (s : Shared) (H : Hp), Room k (A.deeper (lamEnv X scope s.heap.objs.size f c')) → PE (lamCxD X A outer s H E scope f c' pn) body tb)
    (hN : Ng[i]? = some a) (hv : Vis sg a) (hd : (a == ("__debug__" : Str)) = false := by decide) (hcd : (a == ("__classdict__" : Str)) = false := by decide) :
    PE ((cxOf CXg X.prog X.w X.K X.mg X.base Ng qg sg g cdg X.A X.stack s H Eg).tr pn' xe) (.Call (.Name a p1) [] [] p2)
      (fun σZ HZ Q => σZ[i]? = some (some (.ref f)) ∧ HZ c' = some (CodeO c' (X.env.qual ++ "<lambda>")) ∧ tb σ HZ Q) := by
  refine ⟨fun pinsZ sZ σZ HZ Q IZ h => ?_⟩
  obtain ⟨hs, hc, hq⟩ := h
  refine wpAny_Call_Name_kw (thn ((pe_var (pos := p1) (i := i) hN hv hd hcd).run pinsZ sZ σZ HZ (fun v H1 => v = .ref f ∧ H1 = HZ) IZ ⟨.ref f, hs, rfl, rfl⟩) fun u s1 ⟨v, H1, I1, r1, ev, eH⟩ => ?_)
  subst ev
  rw [eH] at I1
  obtain rfl : u = Value.ref f := r1
  have of1 := I1.base.keep f _ hf hfn hfr (fun z => nomatch (show f ∈ ([] : List Addr) from z))
  have ot1 := I1.base.keep dt _ ht htn htr (fun z => nomatch (show dt ∈ ([] : List Addr) from z))
  refine PySem.W.callWith_F0 ⟨_, _, _, _, of1⟩ ?_
  have un : Un (frs X.stack) [] H HZ s.heap s1.heap := I1.base
  obtain ⟨⟨oc, vs, t, hoc, hdc, hvc⟩, _, _⟩ := I1.hok c' _ hc
  obtain ⟨kk, hb1, hb2⟩ := hbind
  have rc : codeAny (model X.prog X.w) (X.A.deeper (envOfC qg sg s.heap.objs.size g cdg)) (.call (.ref f) ⟨[], []⟩) (CR (L2.CX X.prog X.w) (envOfC qg sg s.heap.objs.size g cdg :: X.stack) X.prog X.w HZ s1 Q E) s1 := by
    refine PySem.W.kla_callFunE hr.depth of1 rfl L.co L.gen rfl ⟨c', oc, vs, t, rfl, hoc, hdc, hvc⟩ ?_
    refine (BindsTo.of_defaults (s := s1) (binds := [(pn, v0)]) rfl ot1 rfl hb1 hb2) _ _ _ _ ?_
    refine wpAny_newFunctionEnv (fun y hy => (L.own y hy).1) (fun y hy => by rw [List.mem_singleton.mp hy]; exact L.par) (fun h₁ hns hsb => ⟨I1.nolimit.fresh _ hsb, ?_⟩) L.kind
    show codeAny _ _ (.expr body (lamEnv X scope s1.heap.objs.size f c')) _ _
    have kp : ∀ b o, s1.heap.get? b = some o → h₁.get? b = some o := fun b o e => hsb.extBut b o (Nat.ne_of_lt (Heap.lt_size e)) (Heap.get?_push_of_some _ e)
    have J := lam_startD (E := E) (f := f) (c' := c') (tk := s1.toks + ([(pn, v0)] : List (Str × Value)).length) I L I1.env0 hr.hd un hns kp
    refine PySem.W.kla_codeExpr (wpAny_mono ((hbody _ _ s1 HZ (hr.deeper _)).run [] _ _ HZ Q J hq) (fun v s' hh => ?_) fun e s' hh => hh)
    obtain ⟨w', H', J', rv, z⟩ := hh
    exact ⟨w', H', J'.os, J'.bare, J'.base, J'.hok, rv, z⟩
  have hx : Passes (L2.CX X.prog X.w) ((cxOf CXg X.prog X.w X.K X.mg X.base Ng qg sg g cdg X.A X.stack s H Eg).tr pn' xe) E := passes_call tk hW
  refine wpAny_call (codeAny_mono rc fun r s' hh => ?_)
  cases r with
  | error e => exact hx pinsZ σZ HZ s1 e s' I1 hh
  | ok fl =>
    cases fl with
    | ret u => exact I1.after hh
    | next => exact False.elim hh
    | brk => exact False.elim hh
    | cont => exact False.elim hh
/-- x(lambda pn=n: body) -/
theorem pe_lamcallD {T : List (Addr × Str)} {TT : (XK → Hp → VK → Prop) → Hp → VK → Prop} {x a : Str} {g c P : Addr} {k : Nat} {pg : Arguments} {bg : List Stmt} {sg : Scope} {dV kV doc pm cdv ct oc : Value} {an od : Option Addr} {osl : Array (Option Value)} {Ng : List Str}
    {params : Arguments} {body : Expr} {scope : Scope} {pn : Str} {n : Int} {j : Nat} {pd : Pos} {t : XK → TE} {p lpos pos : Pos} (hg : Gl X x) (hm : X.mg x = some (.ref g)) (hk : PySem.W.keepIn X.K (.ref g) = true)
    (lk : X.K.lookup g = some ⟨oc, od, .func (PySem.W.fnOf x x pg bg sg dV kV doc pm an cdv ct), osl⟩) (hcg : PySem.W.codeIn X.K cdv x = true) (hb : L2.Binds X.K (PySem.W.fnOf x x pg bg sg dV kV doc pm an cdv ct) [a] []) (Sg : FnScope Ng [a] sg) (hNg : Ng[0]? = some a) (hva : Vis sg a)
    (hG : GivesTo X Ng x sg g cdv bg a (X.env.qual ++ "<lambda>") TT)
    (TB : TabB X.base X.mg c P) (hcode : X.env.code = .ref c) (hmT : (P, X.env.qual ++ "<lambda>") ∈ T) (hu : ∀ p ∈ T, p.1 = P → p.2 = X.env.qual ++ "<lambda>") (hr : Room (k + 2) X.A) (L : LamD X.env.scope scope pn) (hd0 : params.defaults = [.Constant (.int n) j pd]) (hk0 : params.kw_defaults = [])
    (hbind : ∀ (q : Str) (cl : List (Str × Addr)) (dt : Addr) (doc pm cv ctv : Value), ∃ kk : Option (Array Value) → Sem (List (Str × Value)), bindArgs (PySem.W.kdv_fn "<lambda>" q params (.expr body) scope cl (.ref dt) doc pm cv ctv) ⟨[], []⟩ = seqItems? (.ref dt) >>= kk ∧ ∀ v0, kk (some [v0].toArray) = pure [(pn, v0)])
    (hbody : ∀ (A : Around) (outer : List Env) (s : Shared) (H : Hp) (E : XK) (f c' : Addr), Room k (A.deeper (lamEnv X scope s.heap.objs.size f c')) → PE (lamCxD X A outer s H E scope f c' pn) body (t E))
    (hdb : (x == ("__debug__" : Str)) = false := by decide) (hd : (a == ("__debug__" : Str)) = false := by decide) (hcd : (a == ("__classdict__" : Str)) = false := by decide) :
    PE X (.Call (.Name x p) [.Lambda params body scope lpos] [] pos) (tLam T TT t) := by
  refine ⟨fun pins s σ H Q I h => ?_⟩
  obtain ⟨hT, h⟩ := h
  refine wpAny_Call_Name_kw (ld_glob I hg hm (PySem.W.callWith_K (h₀ := X.base) I.ok.mod.kin hk ?_ (by rfl) (by rfl)) hdb)
  show wpAny _ _ (spliced ((false, eval (.Lambda params body scope lpos) X.env) :: backTo pos (starEach [] X.env))) _ _ s
  refine Calls.spliced_cons (lam_makeD I TB hcode hmT hu hT hd0 hk0 (L.has I.ok) fun f c' dt v0 doc pm' ctv H1 s' I1 eN T1 hf hfn hfr hco ht htn htr => Calls.spliced_nil ⟨I1.kIn, ?_⟩)
  have rc : codeAny (model X.prog X.w) X.A (.call (.ref g) ⟨[.ref f], []⟩) (CR C8.CX0 X.stack X.prog X.w H1 s' Q C8.E0) s' := by
    refine run_ofS (N := Ng) (ps := [a]) (us := [.ref f]) (vs := [.ref f]) lk hcg Sg hr I1.env0 (hb s' [.ref f] I1.kIn rfl) (.cons rfl .nil) rfl fun hr' => ?_
    obtain ⟨t', ht', hq'⟩ := hG f c' s' H1 Q (fun E H' Q' => t E σ H' Q') (fun W pn' xe E p1 p2 tk hW => pe_actD (i := 0) I1 L hf hfn hfr ht htn htr ((hbind _ _ _ _ _ _ _).elim fun kk q => ⟨kk, q.1, q.2 v0⟩) tk hW hr' (fun A outer s H hr2 => hbody A outer s H E f c' hr2) hNg hva hd hcd) hco (h H1 eN T1)
    exact ⟨t', ht'.nox, hq'⟩
  refine wpAny_call (codeAny_mono rc fun r s2 hq => ?_)
  cases r with
  | error e => exact (show False from hq).elim
  | ok fl =>
    cases fl with
    | ret u => exact I1.after hq
    | next => exact False.elim hq
    | brk => exact False.elim hq
    | cont => exact False.elim hq
end
end LD

set_option maxHeartbeats 2000000
/-! Lambdas as values: made, kept in lists and names, called later by a def that gets them. -/
namespace LV
open PySem PySem.Spec PyProof.Rows L2 LamX LD
/-- an object that stays as it is -/
abbrev FzO (o : Obj) : HO := .frz o (.ext fun _ => True)
theorem fz_ok {P : Program} {w : World} {H : Hp} {h : Heap} {a : Addr} {o : Obj} (e : h.get? a = some o) : ObjOk P w H h a (FzO o) := ⟨e, trivial, ⟨_, e⟩, fun _ _ _ _ => trivial⟩
theorem fz_ne {o : Obj} (ps : Array Value) : FzO o ≠ .tbl ps := fun z => by cases z
/-- the lambda's object -/
abbrev lamO (X : Cx) (params : Arguments) (body : Expr) (scope : Scope) (dV doc pm : Value) (c' : Addr) (ctv : Value) : Obj :=
  PySem.W.kdv_obj "<lambda>" (X.env.qual ++ "<lambda>") params (.expr body) scope (cloFrom X.env.cells scope.names []) dV doc pm c' ctv
abbrev lamF (X : Cx) (params : Arguments) (body : Expr) (scope : Scope) (dV doc pm : Value) (c' : Addr) (ctv : Value) : FuncData :=
  PySem.W.kdv_fn "<lambda>" (X.env.qual ++ "<lambda>") params (.expr body) scope (cloFrom X.env.cells scope.names []) dV doc pm (.ref c') ctv
/-- a lambda of X's at f that, called, does what tl reads -/
inductive LamAt (X : Cx) (k : Nat) (H : Hp) (f : Addr) (tl : XK → TE) : Prop where
  | bare {c' : Addr} {params : Arguments} {body : Expr} {scope : Scope} {doc pm ctv : Value} (hf : H f = some (FzO (lamO X params body scope .none doc pm c' ctv))) (hc : H c' = some (CodeO c' (X.env.qual ++ "<lambda>"))) (L : LamS X.env.scope scope)
      (hb : bindArgs (lamF X params body scope .none doc pm c' ctv) ⟨[], []⟩ = pure [])
      (run : ∀ (A : Around) (outer : List Env) (s : Shared) (H : Hp) (E : XK), Room k (A.deeper (lamEnv X scope s.heap.objs.size f c')) → PE (lamCx X A outer s H E scope f c') body (tl E)) : LamAt X k H f tl
  | dflt {c' dt : Addr} {v0 : Value} {pn : Str} {params : Arguments} {body : Expr} {scope : Scope} {doc pm ctv : Value} (hf : H f = some (FzO (lamO X params body scope (.ref dt) doc pm c' ctv))) (hc : H c' = some (CodeO c' (X.env.qual ++ "<lambda>"))) (L : LamD X.env.scope scope pn)
      (ht : H dt = some (FzO (PySem.W.kdv_tup [v0])))
      (hb : ∃ kk : Option (Array Value) → Sem (List (Str × Value)), bindArgs (lamF X params body scope (.ref dt) doc pm c' ctv) ⟨[], []⟩ = seqItems? (.ref dt) >>= kk ∧ kk (some [v0].toArray) = pure [(pn, v0)])
      (run : ∀ (A : Around) (outer : List Env) (s : Shared) (H : Hp) (E : XK), Room k (A.deeper (lamEnv X scope s.heap.objs.size f c')) → PE (lamCxD X A outer s H E scope f c' pn) body (tl E)) : LamAt X k H f tl
theorem LamAt.ext {X : Cx} {k : Nat} {H H' : Hp} {f : Addr} {tl : XK → TE} (h : LamAt X k H f tl) (e : ExtN H H') : LamAt X k H' f tl := by
  cases h with
  | bare hf hc L hb run => exact .bare (e _ _ hf fz_ne) (e _ _ hc codeO_ne) L hb run
  | dflt hf hc L ht hb run => exact .dflt (e _ _ hf fz_ne) (e _ _ hc codeO_ne) L (e _ _ ht fz_ne) hb run
theorem LamAt.same {X : Cx} {k : Nat} {H H' : Hp} {f : Addr} {tl : XK → TE} (h : LamAt X k H f tl) (e : Same H H') : LamAt X k H' f tl := h.ext (.of e)
section
variable {X : Cx} {pins : List (Addr × Obj)} {σ : L2.St} {H : Hp} {s : Shared}
/-- the end of a lambda's making: its object is known from now on -/
theorem lam_put {T : List (Addr × Str)} {c P : Addr} {params : Arguments} {body : Expr} {scope : Scope} {pos : Pos} {dV : Value} {E : Value → Shared → Prop} {Q : Value → Shared → Prop} (I : Inv X pins σ H s) (TB : TabB X.base X.mg c P) (hcode : X.env.code = .ref c)
    (hm : (P, X.env.qual ++ "<lambda>") ∈ T) (hu : ∀ p ∈ T, p.1 = P → p.2 = X.env.qual ++ "<lambda>") (hT : Tabs T H) (hfree : ∀ y ∈ scope.names, y.2 = .free → ∃ c, X.env.cells.lookup y.1 = some c)
    (h : ∀ (f c' : Addr) (doc pm ctv : Value) (H1 : Hp) (s' : Shared), Inv X pins σ H1 s' → ExtN H H1 → Tabs T H1 → H1 f = some (FzO (lamO X params body scope dV doc pm c' ctv)) → H f = none → H1 c' = some (CodeO c' (X.env.qual ++ "<lambda>")) → Q (.ref f) s') :
    wpAny (model X.prog X.w) X.A (makeTail "<lambda>" (X.env.qual ++ "<lambda>") params (.expr body) scope X.env dV .none none pos pos.line) Q E s := by
  obtain ⟨ps, hP, ht, ha⟩ := hT _ hm
  dsimp only at hP ha
  have bP : s.heap.BuiltinsAt X.mg P := TB.bm.keeps I.bk
  have hP' : s.heap.get? P = some { cls := .none, data := .fields ps } := I.hok P _ hP
  -- the object, put behind all that is there
  have put : ∀ {H1 : Hp} {h' : Heap} {tk tk2 : Nat} {c' : Addr} {doc ctv : Value}, Inv X pins σ H1 { s with heap := h', toks := tk } → ExtN H H1 → Tabs T H1 → H1 c' = some (CodeO c' (X.env.qual ++ "<lambda>")) → s.heap.objs.size ≤ h'.objs.size →
      Q (.ref h'.objs.size) { s with heap := h'.push (lamO X params body scope dV doc ((X.mg "__name__").getD .none) c' ctv), toks := tk2 } := fun {H1 h' tk tk2 c' doc ctv} I1 e1 T1 hc hz => by
    have nf : H1 h'.objs.size = none := I1.hok.fresh (Nat.le_refl _)
    have gf := Heap.get?_push_size h' (o := lamO X params body scope dV doc ((X.mg "__name__").getD .none) c' ctv) rfl
    have I2 := I1.laid (t' := tk2) (a := h'.objs.size) (o := FzO (lamO X params body scope dV doc ((X.mg "__name__").getD .none) c' ctv)) (fun b u e => Heap.get?_push_of_some _ e) (Nat.le_refl _) (fz_ok gf)
    have up : ∀ b o, H1 b = some o → (upd H1 h'.objs.size (FzO (lamO X params body scope dV doc ((X.mg "__name__").getD .none) c' ctv))) b = some o := fun b o e => by
      rw [upd_ne (ne_of_none e nf)]
      exact e
    exact h _ c' doc _ ctv _ _ I2 (e1.trans (.of up)) (T1.ext up) upd_same (I.hok.fresh hz) (up _ _ hc)
  cases hc : codeAmong pos ps.toList with
  | none =>
    refine PySem.W.kdv_makeTail (mg := X.mg) (c := c) (P := P) (ps := ps) (closure_ok hfree) I.ok.glob (I.mod.glob.keeps I.bk) hcode (TB.code.keeps I.bk) hP' ht hc TB.gP bP (fun c' ctv doc h' tk hx hge hlt hrec htb => ?_)
    obtain ⟨c2, oc, vs, t, e2, hoc, hd, hv⟩ := hrec
    cases e2
    have nC : H c' = none := I.hok.fresh hge
    have I1 := inv_table (t' := s.toks) (more := #[rawInt pos.line, rawInt pos.col, .ref c']) (h' := h') I hP (fun b o hb e => hx b o hb e) htb hge ⟨oc, vs, t, hoc, hd, hv⟩
    have hE : ExtN H (upd (upd H P (.tbl (ps ++ #[rawInt pos.line, rawInt pos.col, .ref c']))) c' (CodeO c' (X.env.qual ++ "<lambda>"))) := fun b o e n => by
      rw [upd_ne (ne_of_none e nC), upd_ne (fun z : b = P => n ps (Option.some.inj (e.symm.trans (by rw [z]; exact hP))))]
      exact e
    refine put I1 hE (fun p hp => ?_) upd_same (Nat.le_trans hge (Nat.le_of_lt hlt))
    by_cases hb : p.1 = P
    · have eL : (ps ++ #[rawInt pos.line, rawInt pos.col, .ref c']).toList = ps.toList ++ [rawInt pos.line, rawInt pos.col, .ref c'] := by simp
      rw [hu p hp hb, hb]
      refine ⟨_, (upd_ne (ne_of_none hP nC)).trans upd_same, eL ▸ PySem.TriplesOk_snoc _ _ _ _ ht, fun p' cv hcv => ?_⟩
      exact (among_app _ ht (eL ▸ hcv)).elim (fun z => (ha p' cv z).imp fun c0 q => ⟨q.1, hE _ _ q.2 codeO_ne⟩) fun z => ⟨c', z, upd_same⟩
    · obtain ⟨ps', a1, a2, a3⟩ := hT p hp
      exact ⟨ps', ((upd_ne (ne_of_none a1 nC)).trans (upd_ne hb)).trans a1, a2, fun p' cv hcv => (a3 p' cv hcv).imp fun c0 q => ⟨q.1, hE _ _ q.2 codeO_ne⟩⟩
  | some cv =>
    obtain ⟨c', e, hco⟩ := ha pos cv hc
    subst e
    refine PySem.W.kdv_makeTailHit (mg := X.mg) (c := c) (P := P) (ps := ps) (closure_ok hfree) I.ok.glob (I.mod.glob.keeps I.bk) hcode (TB.code.keeps I.bk) hP' ht hc bP (fun ctv doc h' tk hx hsz => ?_)
    exact put (I.kept (h' := h') (t' := s.toks) hx) (ExtN.refl H) hT hco hsz
/-- what a lambda's making asks, and tells -/
def tLamV (X : Cx) (T : List (Addr × Str)) (k : Nat) (tl : XK → TE) : TE := fun _ H Q => Tabs T H ∧ ∀ (f : Addr) (H1 : Hp), ExtN H H1 → Tabs T H1 → H f = none → LamAt X k H1 f tl → Q (.ref f) H1
/-- lambda: body -/
theorem pe_lamV {T : List (Addr × Str)} {c P : Addr} {k : Nat} {tl : XK → TE} {params : Arguments} {body : Expr} {scope : Scope} {pos : Pos} (TB : TabB X.base X.mg c P) (hcode : X.env.code = .ref c)
    (hm : (P, X.env.qual ++ "<lambda>") ∈ T) (hu : ∀ p ∈ T, p.1 = P → p.2 = X.env.qual ++ "<lambda>") (L : LamS X.env.scope scope) (hd : defaultsOf params X.env = ([], []))
    (hb : ∀ (doc pm : Value) (c' : Addr) (ctv : Value), bindArgs (lamF X params body scope .none doc pm c' ctv) ⟨[], []⟩ = pure [])
    (run : ∀ (A : Around) (outer : List Env) (s : Shared) (H : Hp) (E : XK) (f c' : Addr), Room k (A.deeper (lamEnv X scope s.heap.objs.size f c')) → PE (lamCx X A outer s H E scope f c') body (tl E)) :
    PE X (.Lambda params body scope pos) (tLamV X T k tl) := by
  refine ⟨fun pins s σ H Q I h => ?_⟩
  obtain ⟨hT, h⟩ := h
  refine PySem.W.kla_eval hd ?_
  rw [makeFunction_eq]
  simp only [List.zip_nil_right, List.filterMap_nil, List.isEmpty_nil, if_true, pure_bind]
  exact lam_put I TB hcode hm hu hT (L.has I.ok) fun f c' doc pm ctv H1 s' I1 eN T1 hf nf hc => ⟨.ref f, H1, I1, rfl, h f H1 eN T1 nf (.bare hf hc L (hb _ _ _ _) fun A outer s H E hr => run A outer s H E f c' hr)⟩
/-- lambda pn=n: body -/
theorem pe_lamDV {T : List (Addr × Str)} {c P : Addr} {k : Nat} {tl : XK → TE} {params : Arguments} {body : Expr} {scope : Scope} {pos pd : Pos} {pn : Str} {n : Int} {j : Nat} (TB : TabB X.base X.mg c P) (hcode : X.env.code = .ref c)
    (hm : (P, X.env.qual ++ "<lambda>") ∈ T) (hu : ∀ p ∈ T, p.1 = P → p.2 = X.env.qual ++ "<lambda>") (L : LamD X.env.scope scope pn) (hd : params.defaults = [.Constant (.int n) j pd]) (hk0 : params.kw_defaults = [])
    (hb : ∀ (dt : Addr) (doc pm : Value) (c' : Addr) (ctv : Value), ∃ kk : Option (Array Value) → Sem (List (Str × Value)), bindArgs (lamF X params body scope (.ref dt) doc pm c' ctv) ⟨[], []⟩ = seqItems? (.ref dt) >>= kk ∧ ∀ v0, kk (some [v0].toArray) = pure [(pn, v0)])
    (run : ∀ (A : Around) (outer : List Env) (s : Shared) (H : Hp) (E : XK) (f c' : Addr), Room k (A.deeper (lamEnv X scope s.heap.objs.size f c')) → PE (lamCxD X A outer s H E scope f c' pn) body (tl E)) :
    PE X (.Lambda params body scope pos) (tLamV X T k tl) := by
  refine ⟨fun pins s σ H Q I h => ?_⟩
  obtain ⟨hT, h⟩ := h
  refine PySem.W.kdv_lam (by rw [hd]; rfl) hk0 ?_
  rw [hd]
  refine PySem.W.kdv_all1 (thn ((pe_int (X := X) (pos := pd) (j := j)).run pins s σ H (fun x H1 => x = .int n ∧ H1 = H) I ⟨rfl, rfl⟩) fun v s1 hh => ?_)
  obtain ⟨x, H1, I1, rv, ex, eH⟩ := hh
  subst ex eH
  refine PySem.W.kdv_all0 ?_
  rw [makeFunction_eq]
  simp only [List.zip_nil_right, List.filterMap_nil, List.isEmpty_nil, if_true, pure_bind, List.isEmpty_cons, Bool.false_eq_true, if_false]
  refine wpAny_bind (wpAny_newTextTuple ?_)
  have gt := Heap.get?_push_size s1.heap (o := PySem.W.kdv_tup [v]) rfl
  have nt : H1 s1.heap.objs.size = none := I1.hok.fresh (Nat.le_refl _)
  have I2 := I1.laid (t' := s1.toks) (a := s1.heap.objs.size) (o := FzO (PySem.W.kdv_tup [v])) (fun b u e => Heap.get?_push_of_some _ e) (Nat.le_refl _) (fz_ok gt)
  have up : ∀ b o, H1 b = some o → (upd H1 s1.heap.objs.size (FzO (PySem.W.kdv_tup [v]))) b = some o := fun b o e => by
    rw [upd_ne (ne_of_none e nt)]
    exact e
  refine lam_put I2 TB hcode hm hu (hT.ext up) (L.has I.ok) fun f c' doc pm ctv H2 s' I3 eN T2 hf nf hc => ⟨.ref f, H2, I3, rfl, h f H2 ((ExtN.of up).trans eN) T2 ?_ (.dflt hf hc L (eN _ _ upd_same fz_ne) ((hb _ _ _ _ _).imp fun kk q => ⟨q.1, q.2 v⟩) fun A outer s H E hr => run A outer s H E f c' hr)⟩
  by_cases e : f = s1.heap.objs.size
  · rw [e]; exact nt
  · rw [upd_ne e] at nf; exact nf
end
end LV

set_option maxHeartbeats 2000000
namespace LV
open PySem PySem.Spec PyProof.Rows L2 LamX LD
section
variable {X : Cx} {pins : List (Addr × Obj)} {σ : L2.St} {H : Hp} {s : Shared}
/-- the context of a def at g that is called at s -/
abbrev gCx (X : Cx) (CXg : CXT) (Eg : XK) (Ng : List Str) (qg : Str) (sg : Scope) (g : Addr) (cdg : Value) (s : Shared) (H : Hp) (pn : List (Addr × Obj)) (xe : Value → Shared → Prop) : Cx :=
  (cxOf CXg X.prog X.w X.K X.mg X.base Ng qg sg g cdg X.A X.stack s H Eg).tr pn xe
/-- a(), in a def that got the lambda as a -/
theorem act_of {CXg : CXT} {Eg : XK} {Ng : List Str} {qg : Str} {sg : Scope} {g f : Addr} {cdg : Value} {k i : Nat} {a : Str} {tl : XK → TE} (I : Inv X pins σ H s) (La : LamAt X k H f tl) (hr : Room (k + 1) (X.A.deeper (envOfC qg sg s.heap.objs.size g cdg)))
    (hN : Ng[i]? = some a) (hv : Vis sg a) (hd : (a == ("__debug__" : Str)) = false := by decide) (hcd : (a == ("__classdict__" : Str)) = false := by decide) :
    ∃ c' : Addr, H c' = some (CodeO c' (X.env.qual ++ "<lambda>")) ∧ ∀ (W : WX) (pn : List (Addr × Obj)) (xe : Value → Shared → Prop) (E : XK) (p1 p2 : Pos), Takes (gCx X CXg Eg Ng qg sg g cdg s H pn xe) W → (∀ cls d σ' H', E cls d H' → W cls d σ' H') →
      PE (gCx X CXg Eg Ng qg sg g cdg s H pn xe) (.Call (.Name a p1) [] [] p2) (fun σZ HZ Q => σZ[i]? = some (some (.ref f)) ∧ HZ c' = some (CodeO c' (X.env.qual ++ "<lambda>")) ∧ tl E σ HZ Q) := by
  -- what a call of it comes to, told of the state at the call
  have told : ∀ (c' : Addr) (fo : Obj), H f = some (FzO fo) → (∃ fd, fo.data = .func fd) → (∀ (HZ : Hp) (s1 : Shared) (E : XK) (Q : VK), Un (frs X.stack) [] H HZ s.heap s1.heap → Env0 X.prog X.w X.K X.mg X.base (X.A.deeper (envOfC qg sg s.heap.objs.size g cdg)) (envOfC qg sg s.heap.objs.size g cdg :: X.stack) s1 HZ →
        s1.heap.get? f = some fo → HOk X.prog X.w HZ s1.heap → s1.heap.NoLimit → HZ c' = some (CodeO c' (X.env.qual ++ "<lambda>")) → tl E σ HZ Q → codeAny (model X.prog X.w) (X.A.deeper (envOfC qg sg s.heap.objs.size g cdg)) (.call (.ref f) ⟨[], []⟩) (CR (L2.CX X.prog X.w) (envOfC qg sg s.heap.objs.size g cdg :: X.stack) X.prog X.w HZ s1 Q E) s1) →
      ∀ (W : WX) (pn : List (Addr × Obj)) (xe : Value → Shared → Prop) (E : XK) (p1 p2 : Pos), Takes (gCx X CXg Eg Ng qg sg g cdg s H pn xe) W → (∀ cls d σ' H', E cls d H' → W cls d σ' H') →
      PE (gCx X CXg Eg Ng qg sg g cdg s H pn xe) (.Call (.Name a p1) [] [] p2) (fun σZ HZ Q => σZ[i]? = some (some (.ref f)) ∧ HZ c' = some (CodeO c' (X.env.qual ++ "<lambda>")) ∧ tl E σ HZ Q) := fun c' fo hf hfd runs W pn xe E p1 p2 tk hW => by
    refine ⟨fun pinsZ sZ σZ HZ Q IZ ⟨hs, hc, hq⟩ => wpAny_Call_Name_kw (thn ((pe_var (pos := p1) (i := i) hN hv hd hcd).run pinsZ sZ σZ HZ (fun v H1 => v = .ref f ∧ H1 = HZ) IZ ⟨.ref f, hs, rfl, rfl⟩) fun u s1 ⟨v, H1, I1, r1, ev, eH⟩ => ?_)⟩
    subst ev
    rw [eH] at I1
    obtain rfl : u = Value.ref f := r1
    have of1 : s1.heap.get? f = some fo := (I1.hok f _ (I1.base.frzs f _ _ hf)).1
    obtain ⟨fd, hfd⟩ := hfd
    obtain ⟨oc, od, odata, osl⟩ := fo
    have hfd : odata = .func fd := hfd
    subst hfd
    refine PySem.W.callWith_F0 ⟨_, _, _, _, of1⟩ ?_
    have rc := runs HZ s1 E Q I1.base I1.env0 of1 I1.hok I1.nolimit hc hq
    have hx : Passes (L2.CX X.prog X.w) (gCx X CXg Eg Ng qg sg g cdg s H pn xe) E := passes_call tk hW
    refine wpAny_call (codeAny_mono rc fun r s' hh => ?_)
    cases r with
    | error e => exact hx pinsZ σZ HZ s1 e s' I1 hh
    | ok fl =>
      cases fl with
      | ret u => exact I1.after hh
      | next => exact False.elim hh
      | brk => exact False.elim hh
      | cont => exact False.elim hh
  cases La with
  | @bare c' params body scope doc pm ctv hf hc L hb run =>
    refine ⟨c', hc, told c' _ hf ⟨_, rfl⟩ fun HZ s1 E Q un e0 of1 hok lim hcZ hq => ?_⟩
    obtain ⟨⟨oc, vs, t, hoc, hdc, hvc⟩, _, _⟩ := hok c' _ hcZ
    refine PySem.W.kla_callFunE hr.depth of1 rfl L.co L.gen rfl ⟨c', oc, vs, t, rfl, hoc, hdc, hvc⟩ ?_
    rw [hb]
    refine wpAny_pure (wpAny_newFunctionEnv (fun y hy => (L.own y hy).2) (fun y hy => absurd hy (by simp)) (fun h₁ hns hsb => ⟨lim.fresh _ hsb, ?_⟩) L.kind)
    show codeAny _ _ (.expr body (lamEnv X scope s1.heap.objs.size f c')) _ _
    have kp : ∀ b o, s1.heap.get? b = some o → h₁.get? b = some o := fun b o e => hsb.extBut b o (Nat.ne_of_lt (Heap.lt_size e)) (Heap.get?_push_of_some _ e)
    have J := lam_start2 (E := E) (f := f) (c' := c') (tk := s1.toks + ([] : List (Str × Value)).length) I L e0 hr.hd un hns kp
    exact PySem.W.kla_codeExpr (wpAny_mono ((run _ _ s1 HZ E (hr.deeper _)).run [] _ _ HZ Q J hq) (fun v s' ⟨w', H', J', rv, z⟩ => ⟨w', H', J'.os, J'.bare, J'.base, J'.hok, rv, z⟩) fun e s' hh => hh)
  | @dflt c' dt v0 pn params body scope doc pm ctv hf hc L ht hb run =>
    refine ⟨c', hc, told c' _ hf ⟨_, rfl⟩ fun HZ s1 E Q un e0 of1 hok lim hcZ hq => ?_⟩
    obtain ⟨⟨oc, vs, t, hoc, hdc, hvc⟩, _, _⟩ := hok c' _ hcZ
    have ot1 : s1.heap.get? dt = some (PySem.W.kdv_tup [v0]) := (hok dt _ (un.frzs dt _ _ ht)).1
    obtain ⟨kk, hb1, hb2⟩ := hb
    refine PySem.W.kla_callFunE hr.depth of1 rfl L.co L.gen rfl ⟨c', oc, vs, t, rfl, hoc, hdc, hvc⟩ ?_
    refine (BindsTo.of_defaults (s := s1) (binds := [(pn, v0)]) rfl ot1 rfl hb1 hb2) _ _ _ _ ?_
    refine wpAny_newFunctionEnv (fun y hy => (L.own y hy).1) (fun y hy => by rw [List.mem_singleton.mp hy]; exact L.par) (fun h₁ hns hsb => ⟨lim.fresh _ hsb, ?_⟩) L.kind
    show codeAny _ _ (.expr body (lamEnv X scope s1.heap.objs.size f c')) _ _
    have kp : ∀ b o, s1.heap.get? b = some o → h₁.get? b = some o := fun b o e => hsb.extBut b o (Nat.ne_of_lt (Heap.lt_size e)) (Heap.get?_push_of_some _ e)
    have J := lam_startD (E := E) (f := f) (c' := c') (tk := s1.toks + ([(pn, v0)] : List (Str × Value)).length) I L e0 hr.hd un hns kp
    exact PySem.W.kla_codeExpr (wpAny_mono ((run _ _ s1 HZ E (hr.deeper _)).run [] _ _ HZ Q J hq) (fun v s' ⟨w', H', J', rv, z⟩ => ⟨w', H', J'.os, J'.bare, J'.base, J'.hok, rv, z⟩) fun e s' hh => hh)
/-- what a call of a def with a lambda at hand asks (σ: the slots of the lambda's maker) -/
def tVcall (X : Cx) (k : Nat) (TT : (XK → Hp → VK → Prop) → Hp → VK → Prop) (i : Nat) (σ : L2.St) : TE := fun σY HY Q => ∃ (f : Addr) (tl : XK → TE), σY[i]? = some (some (.ref f)) ∧ LamAt X k HY f tl ∧ TT (fun E H' Q' => tl E σ H' Q') HY Q
/-- where a block's iterator stands, seen from the block's def -/
def BlkFp (X : Cx) (pins : List (Addr × Obj)) (fp : List Addr) : Prop := ∀ b ∈ fp, (b ∈ X.ex ∨ X.s_0.heap.objs.size ≤ b) ∧ b ≠ X.env.locals ∧ (∀ x c, X.env.cells.lookup x = some c → c ≠ b) ∧ ∀ p ∈ X.pn ++ pins, p.1 ≠ b
/-- x(y), within a comprehension of the lambda's maker -/
theorem pe_vcall {TT : (XK → Hp → VK → Prop) → Hp → VK → Prop} {x y a : Str} {g : Addr} {k i : Nat} {pg : Arguments} {bg : List Stmt} {sg scope : Scope} {ce : Env} {fp : List Addr} {dV kV doc pm cdv ct oc : Value} {an od : Option Addr} {osl : Array (Option Value)} {Ng : List Str} {p py pos : Pos}
    (I3 : Inv X pins σ H s) (hch : BlkFp X pins fp) (hg : Gl (X.blk s H scope ce fp) x) (hm : X.mg x = some (.ref g)) (hk : PySem.W.keepIn X.K (.ref g) = true)
    (lk : X.K.lookup g = some ⟨oc, od, .func (PySem.W.fnOf x x pg bg sg dV kV doc pm an cdv ct), osl⟩) (hcg : PySem.W.codeIn X.K cdv x = true) (hb : L2.Binds X.K (PySem.W.fnOf x x pg bg sg dV kV doc pm an cdv ct) [a] []) (Sg : FnScope Ng [a] sg) (hNg : Ng[0]? = some a) (hva : Vis sg a)
    (hG : GivesTo X Ng x sg g cdv bg a (X.env.qual ++ "<lambda>") TT) (hr : Room (k + 2) X.A) (hN : X.N[i]? = some y) (hv : Vis ce.scope y)
    (hs : starEach [.Name y py] (X.blk s H scope ce fp).env = (false, eval (.Name y py) (X.blk s H scope ce fp).env) :: starEach [] (X.blk s H scope ce fp).env := by rfl) (hpl : (backTo pos (starEach [] (X.blk s H scope ce fp).env)).any (·.1) = false := by rfl)
    (hdb : (x == ("__debug__" : Str)) = false := by decide) (hd : (a == ("__debug__" : Str)) = false := by decide) (hcd : (a == ("__classdict__" : Str)) = false := by decide) (hd2 : (y == ("__debug__" : Str)) = false := by decide) (hcd2 : (y == ("__classdict__" : Str)) = false := by decide) :
    PE (X.blk s H scope ce fp) (.Call (.Name x p) [.Name y py] [] pos) (tVcall X k TT i σ) := by
  refine ⟨fun pinsY sY σY HY Q IY ⟨f, tl, hf, La, h⟩ => ?_⟩
  refine wpAny_Call_Name_kw (ld_glob IY hg hm ?_ hdb)
  have hp : PA (X.blk s H scope ce fp) [.Name y py] (tCons (tVar i) tNil) := pa_cons (pe_var (X := X.blk s H scope ce fp) hN hv hd2 hcd2) pa_nil
  refine PySem.W.callWith_K (h₀ := X.base) IY.ok.mod.kin hk (thn (hp.run pos pinsY sY σY HY (fun vs H1 => vs = [.ref f] ∧ H1 = HY) IY ⟨_, hf, rfl, rfl⟩) fun us s1 hh => ?_) hs hpl
  obtain ⟨vs, H1, I1, r1, ev, eH⟩ := hh
  subst ev
  rw [eH] at I1
  refine ⟨I1.kIn, ?_⟩
  cases r1 with
  | cons ru rr =>
    cases rr
    cases ru
    have IX : Inv X pins σ HY s1 := I3.call' (ch := fp) I1.os I1.base I1.hok I1.bare hch
    have rc : codeAny (model X.prog X.w) X.A (.call (.ref g) ⟨[.ref f], []⟩) (CR C8.CX0 X.stack X.prog X.w HY s1 Q C8.E0) s1 := by
      refine run_ofS (N := Ng) (ps := [a]) (us := [.ref f]) (vs := [.ref f]) lk hcg Sg hr I1.env0 (hb s1 [.ref f] I1.kIn rfl) (.cons rfl .nil) rfl fun hr' => ?_
      obtain ⟨c', hc, act⟩ := act_of (CXg := C8.CX0) (Eg := C8.E0) (Ng := Ng) (qg := x) (sg := sg) (g := g) (cdg := cdv) (i := 0) IX La hr' hNg hva hd hcd
      obtain ⟨t', ht', hq'⟩ := hG f c' s1 HY Q (fun E H' Q' => tl E σ H' Q') (fun W pn xe E p1 p2 tk hW => act W pn xe E p1 p2 tk hW) hc h
      exact ⟨t', ht'.nox, hq'⟩
    refine wpAny_call (codeAny_mono rc fun r s2 hq => ?_)
    cases r with
    | error e => exact (show False from hq).elim
    | ok fl =>
      cases fl with
      | ret u => exact I1.after hq
      | next => exact False.elim hq
      | brk => exact False.elim hq
      | cont => exact False.elim hq
end
end LV

set_option maxHeartbeats 1000000
/-! zip(a, b), each of them a list, a tuple or a text -/
namespace ZM
open PySem PySem.Spec PyProof.Rows L2
/-- what is walked -/
inductive Sk where
  | lst (a : Addr)
  | tup (a : Addr)
  | txt (x : Str)
def Sk.v : Sk → V
  | .lst a => .ref a
  | .tup a => .ref a
  | .txt x => .str x
def Sk.at : Sk → List Addr
  | .lst a => [a]
  | .tup a => [a]
  | .txt _ => []
def signs (x : Str) : List V := x.cps.toList.map fun c => V.str ⟨#[c]⟩
def Src (K : PySem.W.Frag) (H : Hp) : Sk → List V → Prop
  | .lst a, xs => SqL K H a xs
  | .tup a, xs => SqT K H a xs
  | .txt x, xs => xs = signs x
/-- its iterator, at place i -/
def Stands (h : Heap) (it : Addr) (t : Tok) (i : Nat) : Sk → Prop
  | .lst a => h.IsListIter it a i
  | .tup a => h.IsTupleIter it a i
  | .txt x => h.IsStrIter it (strIterType x) x t i
def cells (it : Addr) (k : Sk) : List Addr := it :: k.at
theorem sqT_sm {K : PySem.W.Frag} {H H' : Hp} {a : Addr} {xs : List V} (s : Same H H') (h : SqT K H a xs) : SqT K H' a xs := by
  rcases h with h | h
  · rcases h with h | h
    · exact .inl (.inl (s _ _ h))
    · exact .inl (.inr (h.imp fun o q => s _ _ q))
  · exact .inr h
theorem find_rel {xs : List V} {us : List Value} (r : Vals xs us) {i : Nat} {u : Value} (h : us[i]? = some u) : ∃ x, xs[i]? = some x ∧ RelV x u := by
  have hi := (List.getElem?_eq_some_iff.mp h).1
  have hl := r.length
  have hx := List.getElem?_eq_getElem (show i < xs.length by omega)
  obtain ⟨v, hv, rv⟩ := r.get hx
  rw [h] at hv
  cases hv
  exact ⟨_, hx, rv⟩
theorem ad {a n m : Nat} (h : n ≠ m) : a + n ≠ a + m := by omega
theorem src_same {K : PySem.W.Frag} {H H' : Hp} {k : Sk} {xs : List V} (h : Src K H k xs) (s : Same H H') : Src K H' k xs := by
  cases k with
  | lst a => exact s.seq h
  | tup a => exact sqT_sm s h
  | txt x => exact h
section
variable {X : Cx} {pins : List (Addr × Obj)} {σ : L2.St} {H : Hp} {s : Shared} {k k1 k2 : Sk} {xs ys : List V} {it : Addr} {t t1 t2 : Tok} {i : Nat}
theorem src_inj (I : Inv X pins σ H s) (h1 : Src X.K H k xs) (h2 : Src X.K H k ys) : xs = ys := by
  cases k with
  | lst a => exact I.list_inj h1 h2
  | tup a => exact I.tuple_inj h1 h2
  | txt x => exact (show xs = signs x from h1).trans (show ys = signs x from h2).symm
theorem stands_at {h h' : Heap} (st : Stands h it t i k) (q : ∀ o, h.get? it = some o → h'.get? it = some o) : Stands h' it t i k := by
  cases k with
  | lst a => exact Heap.IsListIter.at (show h.IsListIter it a i from st) q
  | tup a => exact Heap.IsTupleIter.at (show h.IsTupleIter it a i from st) q
  | txt x => exact let ⟨o, ho, r⟩ := (show h.IsStrIter it (strIterType x) x t i from st); ⟨o, q o ho, r⟩
theorem stands_obj {h : Heap} (st : Stands h it t i k) : ∃ o, h.get? it = some o ∧ ∀ v, o.data ≠ .cell v := by
  cases k with
  | lst a => obtain ⟨o, e, _, d⟩ := (show h.IsListIter it a i from st); exact ⟨o, e, fun v q => by rw [d] at q; cases q⟩
  | tup a => obtain ⟨o, e, _, d⟩ := (show h.IsTupleIter it a i from st); exact ⟨o, e, fun v q => by rw [d] at q; cases q⟩
  | txt x => obtain ⟨o, e, _, d⟩ := (show h.IsStrIter it (strIterType x) x t i from st); exact ⟨o, e, fun v q => by rw [d] at q; cases q⟩
/-- what an iterator draws -/
theorem draws (I : Inv X pins σ H s) (hc : X.calm = true) (hq : Src X.K H k xs) (st : Stands s.heap it t i k) (ap : ∀ a ∈ k.at, a ≠ it) :
    ∃ (Pv : Nat → Value → Prop) (St : Nat → Heap → Prop), Draws X.prog X.w X.A.in1 it (cells it k) xs.length Pv St ∧ St i s.heap ∧ (∀ i h, St i h → Stands h it t i k) ∧ ∀ i u, Pv i u → ∃ x, xs[i]? = some x ∧ RelV x u := by
  cases k with
  | lst a =>
    obtain ⟨its, rv, p, _⟩ := I.list hq
    have D := Draws.list (prog := X.prog) (w := X.w) (A := X.A.in1) (I.ok.hd hc) it a (ap a (by simp [Sk.at])) its.toArray
    rw [List.size_toArray, ← rv.length] at D
    exact ⟨_, _, D, ⟨st, p.isList⟩, fun i h q => q.1, fun i u hu => by
      have hu' : its[i]? = some u := by simpa using hu
      exact find_rel rv hu'⟩
  | tup a =>
    obtain ⟨its, rv, p, _⟩ := I.tuple hq
    have D := Draws.tuple (prog := X.prog) (w := X.w) (A := X.A.in1) (I.ok.hd hc) it a (ap a (by simp [Sk.at])) its.toArray
    rw [List.size_toArray, ← rv.length] at D
    exact ⟨_, _, D, ⟨st, p⟩, fun i h q => q.1, fun i u hu => by
      have hu' : its[i]? = some u := by simpa using hu
      exact find_rel rv hu'⟩
  | txt x =>
    have e : xs = signs x := hq
    have D := Draws.text (prog := X.prog) (w := X.w) (A := X.A.in1) (I.ok.hd hc) it x t
    have l : x.cps.size = xs.length := by rw [e, signs, List.length_map, Array.length_toList]
    rw [l] at D
    refine ⟨_, _, D, st, fun i h q => q, fun i u hu => ?_⟩
    obtain ⟨c, tk, h1, rfl⟩ := hu
    refine ⟨.str ⟨#[c]⟩, ?_, _, rfl⟩
    rw [e, signs, List.getElem?_map, Array.getElem?_toList, h1]
    rfl
end
def ItZ (K : PySem.W.Frag) (k1 k2 : Sk) : It where
  go := fun i H => ∃ (xs ys : List V) (x y : V), Src K H k1 xs ∧ Src K H k2 ys ∧ xs[i]? = some x ∧ ys[i]? = some y
  yld := fun i H v H' => ∃ T x y, v = .ref T ∧ H T = none ∧ H' = upd H T (.tup [x, y]) ∧ (∀ xs, Src K H k1 xs → xs[i]? = some x) ∧ ∀ ys, Src K H k2 ys → ys[i]? = some y
  stop := fun i H => ∃ xs ys : List V, Src K H k1 xs ∧ Src K H k2 ys ∧ i ≤ xs.length ∧ i ≤ ys.length ∧ (i = xs.length ∨ i = ys.length)
theorem turn_z {P : Program} {w : World} {K : PySem.W.Frag} {elts : List Expr} {kk : Nat} {tpos : Pos} {k1 k2 : Sk} {t1 t2 : Tok} {z TI TO i1 i2 : Addr} (S : ZipSep2 z TI TO i1 i2 (cells i1 k1) (cells i2 k2)) (nI : i1 ≠ i2) (nd1 : ∀ a ∈ k1.at, a ≠ i1) (nd2 : ∀ a ∈ k2.at, a ≠ i2) :
    Turn P w K (.Tuple elts kk tpos) (ItZ K k1 k2) [z, TI, TO, i1, i2] z (fun i h => IsZip h z TI TO .none ∧ IsTupOf2 h TI (.ref i1) (.ref i2) ∧ (∃ x y, IsTupOf2 h TO x y) ∧ Stands h i1 t1 i k1 ∧ Stands h i2 t2 i k2) where
  mem := List.mem_cons_self
  obj := fun i h st c hc => by
    obtain ⟨hz, hTI, ⟨x, y, hTO⟩, h1, h2⟩ := st
    simp only [List.mem_cons, List.not_mem_nil, or_false] at hc
    rcases hc with rfl | rfl | rfl | rfl | rfl
    · exact ⟨_, hz, fun v q => nomatch q⟩
    · exact ⟨_, hTI, fun v q => nomatch q⟩
    · exact ⟨_, hTO, fun v q => nomatch q⟩
    · exact stands_obj h1
    · exact stands_obj h2
  keep := fun i h h' st k => by
    obtain ⟨hz, hTI, ⟨x, y, hTO⟩, h1, h2⟩ := st
    exact ⟨k _ (by simp) _ hz, k _ (by simp) _ hTI, ⟨x, y, k _ (by simp) _ hTO⟩, stands_at h1 fun o q => k _ (by simp) o q, stands_at h2 fun o q => k _ (by simp) o q⟩
  item := by
    rintro X rfl rfl rfl hc i pins s σ H E I hf ⟨hz, hTI, ⟨x0, y0, hTO⟩, h1, h2⟩ ⟨xs, ys, x, y, hqx, hqy, hx, hy⟩
    obtain ⟨P1, St1, D1, s1, b1, r1⟩ := draws I hc hqx h1 nd1
    obtain ⟨P2, St2, D2, s2, b2, r2⟩ := draws I hc hqy h2 nd2
    have zl : z < s.heap.objs.size := Heap.lt_size hz
    refine wpAny_pyNext_zipD2_item S D1 D2 hz hTI hTO s1 s2 (List.getElem?_eq_some_iff.mp hx).1 (List.getElem?_eq_some_iff.mp hy).1 fun u1 u2 h' tk p1 p2 z' TO' d1 d2 hT hsz hk => ?_
    obtain ⟨x', ex, rx⟩ := r1 _ _ p1
    obtain ⟨y', ey, ry⟩ := r2 _ _ p2
    refine ⟨_, rfl, wpAny_letOwnedTupleGo_zip (s := { s with heap := h', toks := tk }) z' fun h'' z'' sb => ?_⟩
    have hT2 : h''.get? s.heap.objs.size = some { cls := .type "tuple", data := .seq #[u1, u2] } := (sb.2 _ (Nat.ne_of_gt zl)).trans hT
    have pairOk : ObjOk X.prog X.w (upd H s.heap.objs.size (.tup [x', y'])) h'' s.heap.objs.size (.tup [x', y']) :=
      ⟨by show 2 ≤ sizeLine; decide, [u1, u2], .cons rx (.cons ry .nil), _, hT2, rfl, _, rfl⟩
    have stays : ∀ c oc, c ∉ [z, TI, TO, i1, i2] → s.heap.get? c = some oc → h''.get? c = some oc := fun c oc hn q => by
      simp only [List.mem_cons, List.not_mem_nil, or_false, not_or] at hn
      exact (sb.2 c hn.1).trans (hk c oc hn.1 hn.2.2.1 hn.2.2.2.1 hn.2.2.2.2 q)
    have I1 : Inv X pins σ (upd H s.heap.objs.size (.tup [x', y'])) { s with heap := h'', toks := tk } := I.turnedNew stays hf (Nat.le_refl _) pairOk
    refine ⟨.ref s.heap.objs.size, _, I1, rfl, ⟨_, x', y', rfl, I.hok.fresh (Nat.le_refl _), rfl, fun l hl => by rw [src_inj I hl hqx]; exact ex, fun l hl => by rw [src_inj I hl hqy]; exact ey⟩,
      ⟨z'', (sb.2 _ S.TIz).trans (hk _ _ S.TIz S.TITO S.TIi1 S.TIi2 hTI), ⟨u1, u2, (sb.2 _ S.TOz).trans TO'⟩, stands_at (b1 _ _ d1) fun o q => (sb.2 _ S.zi1.symm).trans q, stands_at (b2 _ _ d2) fun o q => (sb.2 _ S.zi2.symm).trans q⟩, fun c hcm => ?_⟩
    have hlt : c < s.heap.objs.size := by
      have hcm' := hcm
      simp only [List.mem_cons, List.not_mem_nil, or_false] at hcm'
      rcases hcm' with rfl | rfl | rfl | rfl | rfl
      · exact zl
      · exact Heap.lt_size hTI
      · exact Heap.lt_size hTO
      · obtain ⟨_, q, _⟩ := stands_obj h1; exact Heap.lt_size q
      · obtain ⟨_, q, _⟩ := stands_obj h2; exact Heap.lt_size q
    rw [upd_ne (Nat.ne_of_lt hlt)]
    exact (hf c hcm).1
  done := by
    rintro X rfl rfl rfl hc i pins s σ H E I hf ⟨hz, hTI, ⟨x0, y0, hTO⟩, h1, h2⟩ ⟨xs, ys, hqx, hqy, l1, l2, hend⟩
    obtain ⟨P1, St1, D1, s1, b1, r1⟩ := draws I hc hqx h1 nd1
    obtain ⟨P2, St2, D2, s2, b2, r2⟩ := draws I hc hqy h2 nd2
    refine wpAny_pyNext_zipD2_end S D1 D2 hz hTI hTO s1 s2 l1 l2 hend fun h' tk hk => ⟨rfl, ?_⟩
    exact I.turnedL (ch := [z, TI, TO, i1, i2]) (fun c o hb q => hk c o (fun e => hb (by simp [e])) (fun e => hb (by simp [e])) (fun e => hb (by simp [e])) (fun e => hb (by simp [e])) q) hf
  self := fun A i s Q E st h => wpAny_pyIter_zip st.1 h
def iZ (K : PySem.W.Frag) (ta : TA) : TI := fun σ H R => ta σ H fun vs H1 => ∃ (k1 k2 : Sk) (xs ys : List V), vs = [k1.v, k2.v] ∧ Src K H1 k1 xs ∧ Src K H1 k2 ys ∧ R (ItZ K k1 k2) H1
/-- how a source's walk begins -/
theorem begins {X : Cx} {pins : List (Addr × Obj)} {σ : L2.St} {H : Hp} {s : Shared} {k : Sk} {xs : List V} {u : Value} (I : Inv X pins σ H s) (hq : Src X.K H k xs) (r : RelV k.v u) :
    ∃ (o : Obj) (Hp : Heap → Prop) (t : Tok), Begins u o Hp ∧ Hp s.heap ∧ (∀ a ∈ k.at, a < s.heap.objs.size) ∧ ∀ (h : Heap) (it : Addr), h.get? it = some o → Stands h it t 0 k := by
  cases k with
  | lst a =>
    cases r
    obtain ⟨its, rv, p, _⟩ := I.list hq
    exact ⟨_, _, 0, begins_list a its.toArray, p.isList, fun b hb => by rw [List.mem_singleton.mp hb]; exact p.lt, fun h it e => ⟨_, e, rfl, rfl⟩⟩
  | tup a =>
    cases r
    obtain ⟨its, rv, p, _⟩ := I.tuple hq
    exact ⟨_, _, 0, begins_tuple a its.toArray, p, fun b hb => by rw [List.mem_singleton.mp hb]; exact IsTup.lt p, fun h it e => ⟨_, e, rfl, rfl⟩⟩
  | txt x =>
    obtain ⟨t, rfl⟩ := r
    exact ⟨_, _, t, begins_text x t, trivial, fun b hb => absurd hb (by simp [Sk.at]), fun h it e => ⟨_, e, rfl, rfl⟩⟩
theorem pi_z {X : Cx} {e e2 : Expr} {ta : TA} {p pos tpos : Pos} {elts : List Expr} {kk : Nat} (hg : Gl X "zip") (hm : X.mg "zip" = none) (ha : PA X [e, e2] ta)
    (hs : starEach [e, e2] X.env = (false, eval e X.env) :: starEach [e2] X.env := by rfl) (hpl : (backTo pos (starEach [e2] X.env)).any (·.1) = false := by rfl) :
    PI X (.Tuple elts kk tpos) (.Call (.Name "zip" p) [e, e2] [] pos) (iZ X.K ta) := by
  refine ⟨fun pins s σ H R I h => Call_ (ld_blt I hg hm PyProof.Rows.boot_zip (PyProof.Rows.callWith_type1 (thn (ha.run pos pins s σ H _ I h) fun us s1 h1 => ?_) hs hpl))⟩
  obtain ⟨vs, H1, I1, r1, k1, k2, xs, ys, rfl, hx, hy, q⟩ := h1
  cases r1 with
  | cons ru rr =>
    cases rr with
    | cons rw rr =>
      cases rr
      obtain ⟨o1, G1, t1, B1, g1, lt1, w1⟩ := begins I1 hx ru
      obtain ⟨o2, G2, t2, B2, g2, lt2, w2⟩ := begins I1 hy rw
      refine zip_begins2 B1 B2 g1 g2 fun h' hz hTI hTO e1 e2 hsz hk => wpAny_pyIter_zip hz ?_
      have I2 : Inv X pins σ H1 { s1 with heap := h' } := I1.kept (t' := s1.toks) hk
      have far : ∀ (k : Sk) (n j : Nat), (∀ a ∈ k.at, a < s1.heap.objs.size) → n ≠ j → s1.heap.objs.size + n ∉ cells (s1.heap.objs.size + j) k := fun k n j hl hn hc => by
        rcases List.mem_cons.mp hc with z | z
        · exact ad hn z
        · exact Nat.not_lt_of_le (Nat.le_add_right _ _) (hl _ z)
      have S : ZipSep2 (s1.heap.objs.size + 4) (s1.heap.objs.size + 2) (s1.heap.objs.size + 3) s1.heap.objs.size (s1.heap.objs.size + 1) (cells s1.heap.objs.size k1) (cells (s1.heap.objs.size + 1) k2) :=
        { TIz := ad (by decide), TOz := ad (by decide), TITO := ad (by decide), TIi1 := ad (n := 2) (m := 0) (by decide), TIi2 := ad (by decide), mem1 := List.mem_cons_self, mem2 := List.mem_cons_self,
          zf1 := far k1 4 0 lt1 (by decide), Tf1 := far k1 3 0 lt1 (by decide), zf2 := far k2 4 1 lt2 (by decide), Tf2 := far k2 3 1 lt2 (by decide), sep1_2 := far k2 0 1 lt2 (by decide), sep2_1 := far k1 1 0 lt1 (by decide) }
      refine ⟨s1.heap.objs.size + 4, [s1.heap.objs.size + 4, s1.heap.objs.size + 2, s1.heap.objs.size + 3, s1.heap.objs.size, s1.heap.objs.size + 1], _, _, H1, rfl, I2,
        turn_z (t1 := t1) (t2 := t2) S (ad (n := 0) (m := 1) (by decide)) (fun a h => Nat.ne_of_lt (lt1 a h)) (fun a h => Nat.ne_of_lt (Nat.lt_succ_of_lt (lt2 a h))), ⟨hz, hTI, ⟨_, _, hTO⟩, w1 _ _ e1, w2 _ _ e2⟩, fun c hc => ?_, q⟩
      have hle : s1.heap.objs.size ≤ c := by
        simp only [List.mem_cons, List.not_mem_nil, or_false] at hc
        rcases hc with e | e | e | e | e
        · rw [e]; exact Nat.le_add_right _ _
        · rw [e]; exact Nat.le_add_right _ _
        · rw [e]; exact Nat.le_add_right _ _
        · rw [e]; exact Nat.le_refl _
        · rw [e]; exact Nat.le_add_right _ _
      exact I1.fpOk hle (I1.hok.fresh hle)
/-- a comprehension over zip of two of one length, that the block leaves as they are -/
theorem lc_z {K : PySem.W.Frag} {k1 k2 : Sk} {xs ys : List V} {g : TG} {tt : TT} {te : TE} {vs : List Nat} {σ : L2.St} {H1 : Hp} {D : Addr} {Qd : Hp → Prop} (hl : xs.length = ys.length) (Pv : Nat → Hp → Prop) (h0 : Pv 0 (upd H1 D (.lst []))) (hq : ∀ i H, Pv i H → Src K H k1 xs ∧ Src K H k2 ys)
    (hs : ∀ i x y T H, xs[i]? = some x → ys[i]? = some y → Pv i H → H T = none → g (.ref T) (wipe σ vs) (upd H T (.tup [x, y])) fun σ2 H2 => wipe σ2 vs = wipe σ vs ∧ tt σ2 H2 fun b H3 =>
      if b = true then te σ2 H3 fun y H4 => ∃ acc, H4 D = some (.lst acc) ∧ acc.length < sizeLine ∧ Pv (i + 1) (upd H4 D (.lst (acc ++ [y]))) else Pv (i + 1) H3) (hd : ∀ H, Pv xs.length H → Qd H) :
    ∃ W : Nat → Nat → Hp → Prop, (∃ m, W 0 m (upd H1 D (.lst []))) ∧ ∀ i m H, W i m H →
      ((ItZ K k1 k2).stop i H ∧ Qd H) ∨ ((ItZ K k1 k2).go i H ∧ ∃ Nx : Hp → Prop, (∀ H', Nx H' → ∃ m', m' < m ∧ W (i + 1) m' H') ∧ ∀ x H', (ItZ K k1 k2).yld i H x H' → g x (wipe σ vs) H' fun σ2 H2 => wipe σ2 vs = wipe σ vs ∧ tt σ2 H2 fun b H3 =>
        if b = true then te σ2 H3 fun y H4 => ∃ acc, H4 D = some (.lst acc) ∧ acc.length < sizeLine ∧ Nx (upd H4 D (.lst (acc ++ [y]))) else Nx H3) := by
  refine ⟨fun i m H => m + i = xs.length ∧ Pv i H, ⟨xs.length, rfl, h0⟩, fun i m H ⟨em, p⟩ => ?_⟩
  obtain ⟨qx, qy⟩ := hq i H p
  by_cases c : i < xs.length
  · have cx := List.getElem?_eq_getElem c
    have cy := List.getElem?_eq_getElem (show i < ys.length by omega)
    refine .inr ⟨⟨xs, ys, _, _, qx, qy, cx, cy⟩, Pv (i + 1), fun H' p' => ⟨m - 1, by omega, by omega, p'⟩, fun v H' hv => ?_⟩
    obtain ⟨T, x, y, rfl, nT, rfl, f1, f2⟩ := hv
    exact hs i x y T H (f1 _ qx) (f2 _ qy) p nT
  · have e : i = xs.length := by omega
    subst e
    exact .inl ⟨⟨xs, ys, qx, qy, Nat.le_refl _, by omega, .inl rfl⟩, hd H p⟩
/-- a list or a tuple walked -/
def iSq (K : PySem.W.Frag) (te : TE) : TI := fun σ H R => te σ H fun v H1 => ∃ (a : Addr) (xs : List V), v = .ref a ∧ ((SqL K H1 a xs ∧ R (Itl K a) H1) ∨ (SqT K H1 a xs ∧ R (Itt K a) H1))
theorem pi_sq {X : Cx} {tg e : Expr} {te : TE} (he : PE X e te) : PI X tg e (iSq X.K te) := by
  refine ⟨fun pins s σ H R I h => thn (he.run pins s σ H _ I h) fun u s1 h1 => ?_⟩
  obtain ⟨v, H1, I1, rv, a, xs, rfl, q⟩ := h1
  have new : ∀ c ∈ [s1.heap.objs.size], FpOk X pins H1 c := fun c hc => by
    rw [List.mem_singleton.mp hc]
    exact I1.fpOk (Nat.le_refl _) (I1.hok.fresh (Nat.le_refl _))
  cases rv
  rcases q with ⟨hq, q⟩ | ⟨hq, q⟩
  · obtain ⟨its, r, p, _⟩ := I1.list hq
    exact wpAny_pyIter_list p.isList ⟨_, [s1.heap.objs.size], _, _, H1, rfl, I1.kept (t' := s1.toks) fun b o x => Heap.get?_push_of_some _ x, turn_list a _, ⟨_, Heap.get?_push_size _ rfl, rfl, rfl⟩, new, q⟩
  · obtain ⟨its, r, p, _⟩ := I1.tuple hq
    exact wpAny_pyIter_tuple (show s1.heap.IsTuple a its.toArray from p) ⟨_, [s1.heap.objs.size], _, _, H1, rfl, I1.kept (t' := s1.toks) fun b o x => Heap.get?_push_of_some _ x, turn_tuple a _, ⟨_, Heap.get?_push_size _ rfl, rfl, rfl⟩, new, q⟩
end ZM

set_option maxHeartbeats 1000000
/-! comprehensions that give one value a turn and change nothing that stood -/
namespace ZM
open PySem PySem.Spec PyProof.Rows L2
theorem sm_new {H : Hp} {p : Addr} {o : HO} (h : H p = none) : Same H (upd H p o) := fun b x e => by
  rw [upd_ne (fun z => by rw [z, h] at e; cases e)]
  exact e
theorem sm_at {H H' : Hp} {D : Addr} {o : HO} (hD : H D = none) (s : Same H H') : Same H (upd H' D o) := fun b x e => by
  rw [upd_ne (fun z => by rw [z, hD] at e; cases e)]
  exact s _ _ e
theorem take_next {ys : List V} {i : Nat} {y : V} (h : ys[i]? = some y) : ys.take i ++ [y] = ys.take (i + 1) := by
  rw [List.take_add_one, h]
  rfl
/-- a reading that is not looked into -/
structure Bx (t : TE) (σ : L2.St) (H : Hp) (Q : VK) : Prop where
  run : t σ H Q
theorem pe_bx {X : Cx} {e : Expr} {t : TE} (h : PE X e t) : PE X e (Bx t) := ⟨fun pins s σ H Q I b => h.run pins s σ H Q I b.run⟩
theorem ps_bx {X : Cx} {st : Stmt} {t : TE} {g : TG} (h : PS X st (tAsg t g)) : PS X st (tAsg (Bx t) g) := ⟨fun pins s σ H D I b => h.run pins s σ H D I (Bx.run b)⟩
/-- the rest of a comprehension -/
def Lc (g : TG) (tt : TT) (te : TE) (vs : List Nat) (σ : L2.St) (Q : VK) : It → Hp → Prop := fun J H1 => ∀ D, H1 D = none → ∃ W : Nat → Nat → Hp → Prop, (∃ m, W 0 m (upd H1 D (.lst []))) ∧ ∀ i m H, W i m H →
  (J.stop i H ∧ Q (.ref D) H) ∨ (J.go i H ∧ ∃ Nx : Hp → Prop, (∀ H', Nx H' → ∃ m', m' < m ∧ W (i + 1) m' H') ∧ ∀ x H', J.yld i H x H' → g x (wipe σ vs) H' fun σ2 H2 => wipe σ2 vs = wipe σ vs ∧ tt σ2 H2 fun b H3 =>
    if b = true then te σ2 H3 fun y H4 => ∃ acc, H4 D = some (.lst acc) ∧ acc.length < sizeLine ∧ Nx (upd H4 D (.lst (acc ++ [y]))) else Nx H3)
theorem acc_ok {ys : List V} {i : Nat} (z : ys.length ≤ 1000000) (h : i < ys.length) : (ys.take i).length < sizeLine := by
  rw [List.length_take, sizeLine_eq]
  omega
section
variable {K : PySem.W.Frag} {te : TE} {vs : List Nat} {σ : L2.St} {H1 : Hp} {Q : VK} {xs ys : List V} {a : Addr} {j j2 : Nat}
theorem map_sq (hq : SqL K H1 a xs ∨ SqT K H1 a xs) (ly : ys.length = xs.length) (z : ys.length ≤ 1000000) (hw : ∀ x, wipe ((wipe σ vs).set j (some x)) vs = wipe σ vs)
    (hs : ∀ (i : Nat) (x y : V) (H : Hp) (R : VK), xs[i]? = some x → ys[i]? = some y → Same H1 H → (∀ H4, Same H H4 → R y H4) → te ((wipe σ vs).set j (some x)) H R) (hd : ∀ D H, Same H1 H → H1 D = none → H D = some (.lst ys) → Q (.ref D) H) :
    (SqL K H1 a xs ∧ Lc (gName j) tYes te vs σ Q (Itl K a) H1) ∨ (SqT K H1 a xs ∧ Lc (gName j) tYes te vs σ Q (Itt K a) H1) := by
  have turn : ∀ (D : Addr), H1 D = none → ∀ (i : Nat) (x : V) (H : Hp), xs[i]? = some x → (Same H1 H ∧ H D = some (.lst (ys.take i))) → (gName j) x (wipe σ vs) H fun σ2 H2 => wipe σ2 vs = wipe σ vs ∧ tYes σ2 H2 fun b H3 =>
      if b = true then te σ2 H3 fun y H4 => ∃ acc, H4 D = some (.lst acc) ∧ acc.length < sizeLine ∧ (Same H1 (upd H4 D (.lst (acc ++ [y]))) ∧ (upd H4 D (.lst (acc ++ [y]))) D = some (.lst (ys.take (i + 1)))) else (Same H1 H3 ∧ H3 D = some (.lst (ys.take (i + 1)))) := by
    intro D nD i x H hx ⟨sm, hD⟩
    have li := (List.getElem?_eq_some_iff.mp hx).1
    have hy := List.getElem?_eq_getElem (show i < ys.length by omega)
    refine ⟨hw x, ?_⟩
    show te _ H _
    refine hs i x _ H _ hx hy sm fun H4 s4 => ⟨_, s4 _ _ hD, acc_ok z (by omega), sm_at nD (sm.trans s4), ?_⟩
    rw [upd_same, take_next hy]
  have start : ∀ D, H1 D = none → Same H1 (upd H1 D (.lst [])) ∧ (upd H1 D (.lst [])) D = some (.lst (ys.take 0)) := fun D nD => ⟨sm_new nD, upd_same⟩
  have fin : ∀ D H, H1 D = none → (Same H1 H ∧ H D = some (.lst (ys.take xs.length))) → Q (.ref D) H := fun D H nD h => by
    refine hd D H h.1 nD ?_
    rw [h.2, ← ly, List.take_length]
  rcases hq with hq | hq
  · exact .inl ⟨hq, fun D nD => lc_list (K := K) (a := a) (xs := xs) (fun i H => Same H1 H ∧ H D = some (.lst (ys.take i))) (start D nD) (fun i H _ p => p.1.seq hq) (turn D nD) (fun H p => fin D H nD p)⟩
  · exact .inr ⟨hq, fun D nD => lc_tup (K := K) (a := a) (xs := xs) (fun i H => Same H1 H ∧ H D = some (.lst (ys.take i))) (start D nD) (fun i H _ p => sqT_sm p.1 hq) (turn D nD) (fun H p => fin D H nD p)⟩
theorem map_rng {lo : Int} {n : Nat} (ly : ys.length = n) (z : ys.length ≤ 1000000) (hw : ∀ x, wipe ((wipe σ vs).set j (some x)) vs = wipe σ vs)
    (hs : ∀ (i : Nat) (y : V) (H : Hp) (R : VK), i < n → ys[i]? = some y → Same H1 H → (∀ H4, Same H H4 → R y H4) → te ((wipe σ vs).set j (some (.int (lo + i)))) H R) (hd : ∀ D H, Same H1 H → H1 D = none → H D = some (.lst ys) → Q (.ref D) H) :
    Lc (gName j) tYes te vs σ Q (Itr lo n) H1 := fun D nD => by
  refine lc_range (lo := lo) (n := n) (fun i H => Same H1 H ∧ H D = some (.lst (ys.take i))) ⟨sm_new nD, upd_same⟩ ?_ ?_
  · intro i H hi ⟨sm, hD⟩
    have hy := List.getElem?_eq_getElem (show i < ys.length by omega)
    refine ⟨hw _, ?_⟩
    show te _ H _
    refine hs i _ H _ hi hy sm fun H4 s4 => ⟨_, s4 _ _ hD, acc_ok z (by omega), sm_at nD (sm.trans s4), ?_⟩
    rw [upd_same, take_next hy]
  · intro H h
    refine hd D H h.1 nD ?_
    rw [h.2, ← ly, List.take_length]
theorem map_z {k1 k2 : Sk} {us : List V} (q1 : Src K H1 k1 xs) (q2 : Src K H1 k2 us) (lu : us.length = xs.length) (ly : ys.length = xs.length) (z : ys.length ≤ 1000000) (hw : ∀ x u, wipe (((wipe σ vs).set j (some x)).set j2 (some u)) vs = wipe σ vs)
    (hs : ∀ (i : Nat) (x u y : V) (H : Hp) (R : VK), xs[i]? = some x → us[i]? = some u → ys[i]? = some y → Same H1 H → (∀ H4, Same H H4 → R y H4) → te (((wipe σ vs).set j (some x)).set j2 (some u)) H R) (hd : ∀ D H, Same H1 H → H1 D = none → H D = some (.lst ys) → Q (.ref D) H) :
    Lc (gTup K 2 (gCons (gName j) (gCons (gName j2) gNil))) tYes te vs σ Q (ItZ K k1 k2) H1 := fun D nD => by
  refine lc_z (K := K) (k1 := k1) (k2 := k2) (xs := xs) (ys := us) lu.symm (fun i H => Same H1 H ∧ H D = some (.lst (ys.take i))) ⟨sm_new nD, upd_same⟩ (fun i H p => ⟨src_same q1 p.1, src_same q2 p.1⟩) ?_ ?_
  · intro i x u T H hx hu ⟨sm, hD⟩ nT
    have li := (List.getElem?_eq_some_iff.mp hx).1
    have hy := List.getElem?_eq_getElem (show i < ys.length by omega)
    have s2 := sm_new (o := .tup [x, u]) nT
    refine ⟨T, [x, u], rfl, SqT.of upd_same, rfl, _, _, rfl, _, _, rfl, rfl, hw x u, ?_⟩
    show te _ _ _
    refine hs i x u _ _ _ hx hu hy (sm.trans s2) fun H4 s4 => ⟨_, s4 _ _ (s2 _ _ hD), acc_ok z (by omega), sm_at nD (sm.trans (s2.trans s4)), ?_⟩
    rw [upd_same, take_next hy]
  · intro H h
    refine hd D H h.1 nD ?_
    rw [h.2, ← ly, List.take_length]
/-! the same, of the whole comprehension -/
variable {H : Hp}
theorem lcm_sq {t0 : TE} (h0 : ∀ R : VK, R (.ref a) H1 → t0 σ H R) (hq : SqL K H1 a xs ∨ SqT K H1 a xs) (ly : ys.length = xs.length) (z : ys.length ≤ 1000000) (hw : ∀ x, wipe ((wipe σ vs).set j (some x)) vs = wipe σ vs)
    (hs : ∀ (i : Nat) (x y : V) (H : Hp) (R : VK), xs[i]? = some x → ys[i]? = some y → Same H1 H → (∀ H4, Same H H4 → R y H4) → te ((wipe σ vs).set j (some x)) H R) (hd : ∀ D H, Same H1 H → H1 D = none → H D = some (.lst ys) → Q (.ref D) H) :
    Bx (tLc (iSq K t0) (gName j) tYes te vs) σ H Q := ⟨h0 _ ⟨a, xs, rfl, map_sq hq ly z hw hs hd⟩⟩
theorem lcm_rng {ta : TA} {n : Nat} (h0 : ∀ R : List V → Hp → Prop, R [.int (n : Int)] H1 → ta σ H R) (hn : n ≤ 1000000) (ly : ys.length = n) (hw : ∀ x, wipe ((wipe σ vs).set j (some x)) vs = wipe σ vs)
    (hs : ∀ (i : Nat) (y : V) (H : Hp) (R : VK), i < n → ys[i]? = some y → Same H1 H → (∀ H4, Same H H4 → R y H4) → te ((wipe σ vs).set j (some (.int (0 + (i : Int))))) H R) (hd : ∀ D H, Same H1 H → H1 D = none → H D = some (.lst ys) → Q (.ref D) H) :
    Bx (tLc (iRng1 ta) (gName j) tYes te vs) σ H Q := ⟨h0 _ ⟨n, rfl, by omega, by omega, by
      rw [Int.toNat_natCast]
      exact map_rng (lo := 0) ly (by omega) hw hs hd⟩⟩
theorem lcm_z {ta : TA} {k1 k2 : Sk} {us : List V} (h0 : ∀ R : List V → Hp → Prop, R [k1.v, k2.v] H1 → ta σ H R) (q1 : Src K H1 k1 xs) (q2 : Src K H1 k2 us) (lu : us.length = xs.length) (ly : ys.length = xs.length) (z : ys.length ≤ 1000000) (hw : ∀ x u, wipe (((wipe σ vs).set j (some x)).set j2 (some u)) vs = wipe σ vs)
    (hs : ∀ (i : Nat) (x u y : V) (H : Hp) (R : VK), xs[i]? = some x → us[i]? = some u → ys[i]? = some y → Same H1 H → (∀ H4, Same H H4 → R y H4) → te (((wipe σ vs).set j (some x)).set j2 (some u)) H R) (hd : ∀ D H, Same H1 H → H1 D = none → H D = some (.lst ys) → Q (.ref D) H) :
    Bx (tLc (iZ K ta) (gTup K 2 (gCons (gName j) (gCons (gName j2) gNil))) tYes te vs) σ H Q := ⟨h0 _ ⟨k1, k2, xs, us, rfl, q1, q2, map_z q1 q2 lu ly z hw hs hd⟩⟩
/-! the same with a word of one's own -/
theorem own_rng {ta : TA} {n : Nat} (Pv : Addr → Nat → Hp → Prop) (h0 : ∀ R : List V → Hp → Prop, R [.int (n : Int)] H1 → ta σ H R) (hn : n ≤ 1000000) (hw : ∀ x, wipe ((wipe σ vs).set j (some x)) vs = wipe σ vs) (start : ∀ D, H1 D = none → Pv D 0 (upd H1 D (.lst [])))
    (hs : ∀ (D : Addr) (i : Nat) (H : Hp), H1 D = none → i < n → Pv D i H → te ((wipe σ vs).set j (some (.int (0 + (i : Int))))) H fun y H4 => ∃ acc, H4 D = some (.lst acc) ∧ acc.length < sizeLine ∧ Pv D (i + 1) (upd H4 D (.lst (acc ++ [y])))) (hd : ∀ D H, H1 D = none → Pv D n H → Q (.ref D) H) :
    Bx (tLc (iRng1 ta) (gName j) tYes te vs) σ H Q := ⟨h0 _ ⟨n, rfl, by omega, by omega, by
      rw [Int.toNat_natCast]
      exact fun D nD => lc_range (lo := 0) (n := n) (Pv D) (start D nD) (fun i H hi p => ⟨hw _, hs D i H nD hi p⟩) (fun H p => hd D H nD p)⟩⟩
theorem own_lst {t0 : TE} (Pv : Addr → Nat → Hp → Prop) (h0 : ∀ R : VK, R (.ref a) H1 → t0 σ H R) (hq : SqL K H1 a xs) (hl : ∀ D i H, H1 D = none → Pv D i H → SqL K H a xs) (hw : ∀ x, wipe ((wipe σ vs).set j (some x)) vs = wipe σ vs) (start : ∀ D, H1 D = none → Pv D 0 (upd H1 D (.lst [])))
    (hs : ∀ (D : Addr) (i : Nat) (x : V) (H : Hp), H1 D = none → xs[i]? = some x → Pv D i H → te ((wipe σ vs).set j (some x)) H fun y H4 => ∃ acc, H4 D = some (.lst acc) ∧ acc.length < sizeLine ∧ Pv D (i + 1) (upd H4 D (.lst (acc ++ [y])))) (hd : ∀ D H, H1 D = none → Pv D xs.length H → Q (.ref D) H) :
    Bx (tLc (iList K t0) (gName j) tYes te vs) σ H Q := ⟨h0 _ ⟨a, rfl, ⟨xs, hq⟩, fun D nD => lc_list (K := K) (a := a) (xs := xs) (Pv D) (start D nD) (fun i H _ p => hl D i H nD p) (fun i x H hx p => ⟨hw _, hs D i x H nD hx p⟩) (fun H p => hd D H nD p)⟩⟩
end
/-- a text walked, sign by sign -/
theorem lcm_str {K : PySem.W.Frag} {te t0 : TE} {vs : List Nat} {σ : L2.St} {H H1 : Hp} {Q : VK} {x : Str} {ys : List V} {j : Nat} (h0 : ∀ R : VK, R (.str x) H1 → t0 σ H R) (ly : ys.length = x.cps.size) (z : ys.length ≤ 1000000) (hw : ∀ x, wipe ((wipe σ vs).set j (some x)) vs = wipe σ vs)
    (hs : ∀ (i c : Nat) (y : V) (H : Hp) (R : VK), x.cps[i]? = some c → ys[i]? = some y → Same H1 H → (∀ H4, Same H H4 → R y H4) → te ((wipe σ vs).set j (some (.str ⟨#[c]⟩))) H R) (hd : ∀ D H, Same H1 H → H1 D = none → H D = some (.lst ys) → Q (.ref D) H) :
    Bx (tLc (iStr t0) (gName j) tYes te vs) σ H Q := ⟨h0 _ ⟨x, rfl, fun D nD => by
  refine ⟨fun i m H => m + i = x.cps.size ∧ Same H1 H ∧ H D = some (.lst (ys.take i)), ⟨x.cps.size, rfl, sm_new nD, upd_same⟩, ?_⟩
  rintro i m H ⟨em, sm, hD⟩
  by_cases c : i < x.cps.size
  · refine .inr ⟨c, fun H => Same H1 H ∧ H D = some (.lst (ys.take (i + 1))), fun H' p' => ⟨m - 1, by omega, by omega, p'⟩, fun v H' hv => ?_⟩
    obtain ⟨rfl, cc, hc, rfl⟩ := hv
    have hy := List.getElem?_eq_getElem (show i < ys.length by omega)
    refine ⟨hw _, ?_⟩
    show te _ _ _
    refine hs i cc _ _ _ hc hy sm fun H4 s4 => ⟨_, s4 _ _ hD, acc_ok z (by omega), sm_at nD (sm.trans s4), ?_⟩
    rw [upd_same, take_next hy]
  · refine .inl ⟨Nat.le_of_not_lt c, hd D H sm nD ?_⟩
    rw [hD, show i = ys.length by omega, List.take_length]⟩⟩
theorem if_by {t : TT} {ta tb : TE} {σ : L2.St} {H : Hp} {Q : VK} (G : V → Hp → Prop) (h : ∀ R : VK, (∀ v H', G v H' → R v H') → tIf t ta tb σ H R) (k : ∀ v H', G v H' → Q v H') : Bx (tIf t ta tb) σ H Q := ⟨h Q k⟩
end ZM

set_option maxHeartbeats 2000000
/-! {k: e for x in ..} whose keys are tuples. -/
namespace DTC
open PySem PySem.Spec PyProof.Rows L2 LamX
section
variable {X : Cx} {pins : List (Addr × Obj)} {σ : L2.St} {H : Hp} {s : Shared}
theorem dset_t {E : Value → Shared → Prop} {D b : Addr} {kvs : List (List Key × V)} {k : List Key} {v : V} {u r : Value} {Q : Unit → Shared → Prop} (hu : X.A.units < cLine) (I : Inv X pins σ H s) (hD : H D = some (.dT kvs)) (hb : H b = some (.tup (k.map kV))) (hl : kvs.length < sizeLine) (ru : RelV (.ref b) u) (rv : RelV v r)
    (q : ∀ s' : Shared, Inv X pins σ (upd H D (.dT (putK kvs k v))) s' → Q () s') :
    wpAny (model X.prog X.w) X.A (dictSet D u r) Q E s := by
  obtain ⟨le, sm, xs, kt, hx⟩ := dt_of I.hok hD
  have ru : u = .ref b := ru
  subst ru
  have lx : xs.length = kvs.length := (PySem.Paired.length kt).symm
  refine wpAny_dictSet_heap (knd := tupleKind (mixKind X.prog X.w)) hu (key_of I.hok hb) hx (fun h' hd sb => q _ ?_) (by rw [lx]; omega)
  obtain ⟨o, es, ep, e1, e2, e3, e4, e5, e6⟩ := hd
  refine d_write I (by rw [hD]; trivial) sb ⟨o, e1⟩ ?_
  refine ⟨Nat.le_trans (length_putK _ _ _) (by omega), sm, storedH xs k b r, ?_, o, es, ep, e1, e2, e3, e4, e6⟩
  have hne : ∀ c ys, H c = some (.tup ys) → upd H D (.dT (putK kvs k v)) c = some (.tup ys) := fun c ys hc => (upd_ne (ne_of hc hD (by intro e; nomatch e))).trans hc
  exact KT.keeps (KT.put kt k hb rv) hne
end
end DTC

set_option maxHeartbeats 2000000
namespace DTC
open PySem PySem.Spec PyProof.Rows L2 LamX LV
section
variable {X : Cx} {pins : List (Addr × Obj)} {σ : L2.St} {H : Hp} {s : Shared}
def tDcT (wi : TI) (g : TG) (tk tv : TE) (vs : List Nat) : TE := fun σ H Q =>
  wi σ H fun J H1 => ∀ D : Addr, H1 D = none → ∃ W : Nat → Nat → Hp → Prop, (∃ m, W 0 m (upd H1 D (.dT []))) ∧
    ∀ (i m : Nat) (H : Hp), W i m H →
      J.stop i H ∧ Q (.ref D) H ∨
      J.go i H ∧ ∃ Nx : Hp → Prop, (∀ H', Nx H' → ∃ m', m' < m ∧ W (i + 1) m' H') ∧
        ∀ (x : V) (H' : Hp), J.yld i H x H' → g x (wipe σ vs) H' fun σ2 H2 => wipe σ2 vs = wipe σ vs ∧
          tk σ2 H2 fun y H4 => tv σ2 H4 fun z H5 => ∃ b kvs k, y = .ref b ∧ H5 b = some (.tup (List.map kV k)) ∧ H5 D = some (.dT kvs) ∧ kvs.length < sizeLine ∧ Nx (upd H5 D (.dT (putK kvs k z)))
theorem pe_dcT {kx vx tg iter : Expr} {scope : Scope} {own : List (Str × Nat)} {pos : Pos} {wi : TI} {g : TG} {tk tv : TE} (hu : X.A.units < cLine) (hc : X.calm = true) (hN : X.N.Nodup) (hi : PI X tg iter wi) (ok : BlkOk X.N X.env.scope scope own)
    (hg : ∀ (s : Shared) (H : Hp) (C : Addr) (cl : List (Str × Addr)) (fp : List Addr), PG (X.blk s H scope (compEnvC scope cl C X.env) fp) tg g)
    (hk : ∀ (s : Shared) (H : Hp) (C : Addr) (cl : List (Str × Addr)) (fp : List Addr), PE (X.blk s H scope (compEnvC scope cl C X.env) fp) kx tk)
    (hv : ∀ (s : Shared) (H : Hp) (C : Addr) (cl : List (Str × Addr)) (fp : List Addr), PE (X.blk s H scope (compEnvC scope cl C X.env) fp) vx tv)
    (hs : ∀ x, foldedSetIterable iter X.env x = pure x := by intro _; rfl) :
    PE X (.DictComp kx vx [⟨tg, iter, [], 0⟩] scope pos) (tDcT wi g tk tv (own.map (·.2))) := by
  refine ⟨fun pins s σ H Q I h => ?_⟩
  rw [arm_eval_DictComp]
  have clo : ∀ y ∈ scope.names, y.2 = .free → ∃ c, X.env.cells.lookup y.1 = some c := fun y hy e => (ok.free y hy e).elim (fun k => I.ok.has _ (.inl k)) fun k => I.ok.has _ (.inr k)
  refine wpAny_comprehension_free (use := none) rfl hs (closure_ok clo) ok.kind (fun y hy e => (ok.uniq y hy).trans (by rw [e])) (thn (hi.run pins s σ H _ I h) fun xv s1 hx => thn hx fun itv s2 h2 => ?_)
  obtain ⟨it, fp, tn, J, H2, rfl, I2, T, st2, f2, q⟩ := h2
  refine wpAny_newObj_type (newEnv_comp ?_) (by simp [sizeOk, sizeLine_eq])
  obtain ⟨D, hD⟩ : ∃ D, s2.heap.objs.size = D := ⟨_, rfl⟩
  rw [hD]
  obtain ⟨W, ⟨m0, w0⟩, turn⟩ := q D (I2.hok.fresh (Nat.le_of_eq hD))
  obtain ⟨s3, e3⟩ : ∃ s3 : Shared, s3 = { s2 with heap := s2.heap.push { cls := .type "dict", data := .dict #[] } } := ⟨_, rfl⟩
  have I3 : Inv X pins σ (upd H2 D (.dT [])) s3 := by
    rw [e3]
    refine I2.laid (t' := s2.toks) (fun b o e => Heap.get?_push_of_some _ e) (Nat.le_of_eq hD) ?_
    rw [← hD]
    exact dt_empty _ I2.big
  have h3 : s3.heap = s2.heap.push { cls := .type "dict", data := .dict #[] } := by rw [e3]
  have f3 : ∀ b ∈ fp, FpOk X pins (upd H2 D (.dT [])) b ∧ b < s3.heap.objs.size := fun b hb => by
    obtain ⟨ob, eb, _⟩ := T.obj _ _ st2 b hb
    have lb := Heap.lt_size eb
    exact ⟨⟨(upd_ne (hD ▸ Nat.ne_of_lt lb)).trans (f2 b hb).1, (f2 b hb).2⟩, by rw [h3, Heap.size_push]; exact Nat.lt_succ_of_lt lb⟩
  have fpB : BlkFp X pins fp := fun b hb => ⟨(f3 b hb).1.2.2.2.1, (f3 b hb).1.2.1, (f3 b hb).1.2.2.2.2.1, (f3 b hb).1.2.2.2.2.2⟩
  have st3 : tn 0 s3.heap := T.keep _ _ _ st2 fun b _ o e => by rw [h3]; exact Heap.get?_push_of_some _ e
  have I4 := block_start I3 ok hN f3
  have pg := hg s3 (upd H2 D (.dT [])) s3.heap.objs.size (cellsFrom (s3.heap.objs.size + 1) scope.names (cloFrom X.env.cells scope.names [])) fp
  have pk := hk s3 (upd H2 D (.dT [])) s3.heap.objs.size (cellsFrom (s3.heap.objs.size + 1) scope.names (cloFrom X.env.cells scope.names [])) fp
  have pv := hv s3 (upd H2 D (.dT [])) s3.heap.objs.size (cellsFrom (s3.heap.objs.size + 1) scope.names (cloFrom X.env.cells scope.names [])) fp
  rw [← e3]
  show codeAny _ _ (.compStart (.DictComp kx vx [⟨tg, iter, [], 0⟩] scope pos) 0 (.ref it) (.ref D) (compEnvC scope (cellsFrom (s3.heap.objs.size + 1) scope.names (cloFrom X.env.cells scope.names [])) s3.heap.objs.size X.env)) _ { s3 with heap := pushCells (s3.heap.push { cls := .type "dict", data := .dict #[] }) scope.names }
  have n3 : ∀ b ∈ fp, (upd H2 D (.dT [])) b = none := fun b hb => (f3 b hb).1.1
  generalize hce : compEnvC scope (cellsFrom (s3.heap.objs.size + 1) scope.names (cloFrom X.env.cells scope.names [])) s3.heap.objs.size X.env = ce at I4 pg pk pv ⊢
  have cL : ce.locals = s3.heap.objs.size := by rw [← hce]; rfl
  generalize upd H2 D (.dT []) = H3 at I3 I4 pg pk pv w0 n3 f3
  generalize hs4 : ({ s3 with heap := pushCells (s3.heap.push { cls := .type "dict", data := .dict #[] }) scope.names } : Shared) = s4 at I4 ⊢
  have st4 : tn 0 s4.heap := T.keep _ _ _ st3 fun b _ o e => by rw [← hs4]; exact pushCells_keeps _ _ _ _ (Heap.get?_push_of_some _ e)
  have own' : ∀ {σ' : L2.St} {H' : Hp} {s' : Shared}, Inv (X.blk s3 H3 scope ce fp) [] σ' H' s' → (∀ b ∈ fp, H' b = none) → ∀ b ∈ fp, FpOk (X.blk s3 H3 scope ce fp) [] H' b := fun {σ' H' s'} I' n b hb =>
    ⟨n b hb, (I'.ok.exf b hb).1, I'.ok.exfs b hb, .inl hb, (I'.ok.exf b hb).2, fun p hp => absurd hp List.not_mem_nil⟩
  suffices loop : codeAny (model X.prog X.w) X.A (.compLoop (.DictComp kx vx [⟨tg, iter, [], 0⟩] scope pos) 0 (.ref it) (.ref D) ce) (compPost (model X.prog X.w) X.A X.xe none (EP X pins σ Q) (.ref D) s3.heap.objs.size) s4 from codeAny_compStart_dict loop (T.self X.A 0 _ _ _ st4 loop)
  refine compLoop_anyD (fun n s' => ∃ i H', Inv (X.blk s3 H3 scope ce fp) [] (wipe σ (own.map (·.2))) H' s' ∧ tn i s'.heap ∧ (∀ b ∈ fp, H' b = none) ∧ W i n H') ?_ m0 ⟨0, H3, I4, st4, n3, w0⟩
  rintro n s5 ⟨i, H5, I5, st5, n5, w5⟩
  rcases turn i n H5 w5 with ⟨stop, qq⟩ | ⟨go, Nx, hNx, step⟩
  · refine thnF (T.done (X.blk s3 H3 scope ce fp) rfl rfl rfl hc i [] s5 _ H5 (fun _ _ => False) I5 (own' I5 n5) st5 stop) fun r s6 ⟨hr, I6⟩ => ?_
    rw [hr]
    have I7 : Inv X pins σ H5 s6 := I3.call' (ch := fp) I6.os I6.base I6.hok I6.bare fpB
    obtain ⟨m, hn, _⟩ := I6.loc
    have z : H5 ce.locals = none := I6.free
    have hn : s6.heap.Ns ce.locals m := hn
    rw [cL] at hn z
    obtain ⟨f0, f1, f2, f3', f4, f5⟩ := I3.fpOk (H' := H5) (Nat.le_refl _) z
    exact ⟨m, hn, fun h'' sb => ⟨.ref D, H5, I7.turned (t' := s6.toks) (fun b o hb e => (sb.2 b hb).trans e) f0 f1 f3' f4 f5, rfl, qq⟩⟩
  · refine thnF (T.item (X.blk s3 H3 scope ce fp) rfl rfl rfl hc i [] s5 _ H5 (fun _ _ => False) I5 (own' I5 n5) st5 go) fun r s6 ⟨u, hr, h6⟩ => ?_
    rw [hr]
    refine thnF h6 fun _ s7 ⟨x, H7, I7, r7, y7, st7, n7⟩ => ?_
    refine thnF (pg.run _ s7 _ H7 x u _ (I7.pinned (own' I7 n7) (T.obj _ _ st7)) r7 (step x H7 y7)) fun _ s8 ⟨σ8, H8, I8, hw8, q8⟩ => wpAny_tests_nil ?_
    show wpAny _ _ _ _ _ _
    refine thnF (pk.run _ s8 σ8 H8 _ I8 q8) fun kv s9 ⟨yv, H9, I9, r9, q9⟩ => thnF (pv.run _ s9 σ8 H9 _ I9 q9) fun zv s10 ⟨z, H10, I10, r10, b, kvs, k, hy, hb, hD10, hz10, nx⟩ => dset_t (X := X.blk s3 H3 scope ce fp) hu I10 hD10 hb hz10 (hy ▸ r9) r10 fun s11 I11 => ?_
    obtain ⟨m', hm, w'⟩ := hNx _ nx
    have pin' : ∀ b ∈ fp, ∀ o, s7.heap.get? b = some o → s11.heap.get? b = some o ∧ (upd H10 D (.dT (putK kvs k z))) b = none := fun b hb o e => (I11.pin (b, o) (List.mem_append_right _ (List.mem_append_right _ (mem_pinsAt hb e)))).imp id And.left
    have hl : (wipe σ (own.map (·.2))).length = σ8.length := by rw [← hw8, wipe_length]
    refine ⟨m', hm, i + 1, _, (I11.unpinned (pins := [])).weak hl (fun j v e => (wipe_some (hw8 ▸ e)).1), T.keep _ _ _ st7 fun b hb o e => (pin' b hb o e).1, fun b hb => ?_, w'⟩
    obtain ⟨o, e, _⟩ := T.obj _ _ st7 b hb
    exact (pin' b hb o e).2
end
end DTC

set_option maxHeartbeats 2000000
namespace DTC
open PySem PySem.Spec PyProof.Rows L2 LamX LV
/-- {k: v}, the key a tuple -/
def tDisp1 (tk tv : TE) : TE := fun σ H Q => ∀ D : Addr, H D = none → tk σ (upd H D (.dT [])) fun y H1 => tv σ H1 fun z H2 => ∃ b k, y = .ref b ∧ H2 b = some (.tup (List.map kV k)) ∧ H2 D = some (.dT []) ∧ Q (.ref D) (upd H2 D (.dT [(k, z)]))
theorem pe_disp1 {X : Cx} {ke ve : Expr} {pos : Pos} {tk tv : TE} (hu : X.A.units < cLine) (hk : PE X ke tk) (hv : PE X ve tv) : PE X (.Dict [some ke] [ve] pos) (tDisp1 tk tv) := by
  refine ⟨fun pins s σ H Q I h => wpAny_Dict_any rfl rfl (by simp) (by simp) ?_⟩
  obtain ⟨D, hD⟩ : ∃ D, s.heap.objs.size = D := ⟨_, rfl⟩
  have fr : H D = none := I.hok.fresh (Nat.le_of_eq hD)
  have I1 : Inv X pins σ (upd H D (.dT [])) { s with heap := s.heap.push { cls := .type "dict", data := .dict #[] } } := by
    refine I.laid (t' := s.toks) (fun b o e => Heap.get?_push_of_some _ e) (Nat.le_of_eq hD) ?_
    rw [← hD]
    exact dt_empty _ I.big
  have pp : PPs X pos [some ke] [ve] [(tk, tv)] := pps_cons hk hv pps_nil
  refine thn (pp.run pins _ σ _ (fun ps H2 => match ps with | [(y, z)] => ∃ b k, y = .ref b ∧ H2 b = some (.tup (List.map kV k)) ∧ H2 D = some (.dT []) ∧ Q (.ref D) (upd H2 D (.dT [(k, z)])) | _ => False) I1 (h D fr)) fun vs s1 hh => ?_
  obtain ⟨ps, H2, I2, rv, q⟩ := hh
  cases rv with
  | nil => exact q.elim
  | @cons p c ps' cs' r rr =>
    cases rr with
    | cons _ _ => obtain ⟨y, z⟩ := p; exact q.elim
    | nil =>
      obtain ⟨y, z⟩ := p
      obtain ⟨u, v⟩ := c
      obtain ⟨b, k, rfl, hb, h0, q⟩ := q
      obtain ⟨r1, r2⟩ := r
      unfold storeAll
      rw [hD]
      simp only [List.forIn_cons, List.forIn_nil]
      refine wpAny_bind (wpAny_bind (dset_t hu I2 h0 hb (by show 0 < sizeLine; decide) r1 r2 fun s2 I3 => wpAny_pure (wpAny_pure ?_)))
      exact ⟨.ref D, _, I3, rfl, q⟩
end DTC

set_option maxHeartbeats 2000000
/-! enumerate(x, start=k), x a list -/
namespace EK
open PySem PySem.Spec PyProof.Rows L2
theorem pl_list {h : Heap} {a : Addr} {x : Array Value} (p : PlainL h a x) : h.IsList a x := by
  obtain ⟨o, n, q1, q2, _, q3⟩ := p
  exact ⟨o, q1, q2, n, q3⟩
theorem dshift {prog : Program} {w : World} {A : Around} {it : Addr} {fp : List Addr} {n : Nat} {P : Nat → Value → Prop} {St : Nat → Heap → Prop} (k : Nat) (D : Draws prog w A it fp n P St) :
    Draws prog w A it fp (k + n) (fun i v => k ≤ i ∧ P (i - k) v) (fun i h => k ≤ i ∧ St (i - k) h) where
  live := fun i h st => D.live _ _ st.2
  frame := fun i h h' st kp => ⟨st.1, D.frame _ _ _ st.2 kp⟩
  item := fun i s Q E hi st q => D.item (i - k) s Q E (by have := st.1; omega) st.2 fun x h' tk px st' sb => q x h' tk ⟨st.1, px⟩ ⟨by have := st.1; omega, by have := st.1; rw [show i + 1 - k = i - k + 1 by omega]; exact st'⟩ sb
  done := fun s Q E st q => D.done s Q E (by have := st.2; rwa [show k + n - k = n by omega] at this) q
/-- the list at a, item by item, each in a new pair, the count from k on -/
def IteK (K : PySem.W.Frag) (a : Addr) (k : Nat) : It where
  go := fun i H => ∃ (xs : List V) (x : V), SqL K H a xs ∧ xs[i]? = some x
  yld := fun i H v H' => ∃ T x, v = .ref T ∧ H T = none ∧ H' = upd H T (.tup [.int ((k + i : Nat) : Int), x]) ∧ ∀ xs, SqL K H a xs → xs[i]? = some x
  stop := fun i H => ∃ xs : List V, SqL K H a xs ∧ xs.length ≤ i
theorem turn {P : Program} {w : World} {K : PySem.W.Frag} {elts : List Expr} {kk : Nat} {tpos : Pos} (a e it : Addr) (k : Nat) :
    Turn P w K (.Tuple elts kk tpos) (IteK K a k) [e, it] e (fun i h => (∃ old, IsEnum h e it ((k + i : Nat) : Int) old) ∧ h.IsListIter it a i ∧ e ≠ it) where
  mem := List.mem_cons_self
  obj := fun i h st b hb => by
    obtain ⟨⟨old, he⟩, ⟨o, ho, hc, hd⟩, _⟩ := st
    rcases List.mem_cons.mp hb with z | z
    · subst z
      exact ⟨_, he, fun v q => nomatch q⟩
    · rw [List.mem_singleton.mp z]
      exact ⟨o, ho, fun v q => by rw [hd] at q; cases q⟩
  keep := fun i h h' st kp => by
    obtain ⟨⟨old, he⟩, ⟨o, ho, hc, hd⟩, ne⟩ := st
    exact ⟨⟨old, kp e (by simp) _ he⟩, ⟨o, kp it (by simp) o ho, hc, hd⟩, ne⟩
  item := by
    rintro X rfl rfl rfl hc i pins s σ H E I hf ⟨⟨old, he⟩, hit, hei⟩ ⟨xs, x, hq, hx⟩
    obtain ⟨its, rv, hp, hz⟩ := I.list hq
    obtain ⟨u, hu, ru⟩ := rv.get hx
    have hel : e < s.heap.objs.size := Heap.lt_size he
    have hil : it < s.heap.objs.size := by
      obtain ⟨_, q, _⟩ := hit
      exact Heap.lt_size q
    have hlt : i < its.toArray.size := by
      have q := (List.getElem?_eq_some_iff.mp hu).1
      simpa using q
    have hL : s.heap.IsList a its.toArray := pl_list hp
    have hai : a ≠ it := by
      rintro rfl
      obtain ⟨o, q1, q2, _⟩ := hit
      obtain ⟨o', q3, q4, _⟩ := hL
      rw [q1] at q3
      cases q3
      rw [q2] at q4
      exact absurd q4 (by decide)
    have hae : a ≠ e := by
      rintro rfl
      obtain ⟨o', q3, q4, _⟩ := hL
      rw [he] at q3
      cases q3
      have q4 : (Value.type "enumerate") = Value.type "list" := q4
      exact absurd q4 (by decide)
    refine wpAny_pyNext_enum_itemD (dshift k (Draws.list (A := X.A.in1) (I.ok.hd hc) it a hai its.toArray)) he ⟨Nat.le_add_right _ _, by rw [Nat.add_sub_cancel_left]; exact ⟨hit, hL⟩⟩ (by omega) hei (by simp [hei, Ne.symm hae]) fun y h' tk hy ho hit' hT hsz hk => ?_
    obtain ⟨_, hy⟩ := hy
    rw [Nat.add_sub_cancel_left] at hy
    have hit'' : h'.IsListIter it a (i + 1) := by
      have := hit'.2.1
      rwa [show k + i + 1 - k = i + 1 by omega] at this
    have ey : y = u := by
      have q : its[i]? = some y := by simpa using hy
      rw [hu] at q
      exact (Option.some.inj q).symm
    subst ey
    refine ⟨_, rfl, wpAny_letOwnedTupleGo_enum (s := { s with heap := h', toks := tk + 1 }) ho fun h'' he' sb => ?_⟩
    have hT2 : h''.get? s.heap.objs.size = some { cls := .type "tuple", data := .seq #[.int (k + i : Nat) tk, y] } := (sb.2 _ (Nat.ne_of_gt hel)).trans hT
    have pairOk : ObjOk X.prog X.w (upd H s.heap.objs.size (.tup [.int ((k + i : Nat) : Int), x])) h'' s.heap.objs.size
        (.tup [.int ((k + i : Nat) : Int), x]) := ⟨by show 2 ≤ sizeLine; decide, [.int (k + i : Nat) tk, y], .cons ⟨_, rfl⟩ (.cons ru .nil), _, hT2, rfl, _, rfl⟩
    have stays : ∀ c oc, c ∉ [e, it] → s.heap.get? c = some oc → h''.get? c = some oc := fun c oc hc' z => by
      have n1 : c ≠ e := fun z1 => hc' (by simp [z1])
      have n2 : c ≠ it := fun z1 => hc' (by simp [z1])
      exact (sb.2 c n1).trans (hk c oc n1 n2 z)
    have I1 : Inv X pins σ (upd H s.heap.objs.size (.tup [.int ((k + i : Nat) : Int), x])) { s with heap := h'', toks := tk + 1 } :=
      I.turnedNew (ch := [e, it]) stays hf (Nat.le_refl _) pairOk
    have e1 : ((k + (i + 1) : Nat) : Int) = ((k + i : Nat) : Int) + 1 := by omega
    refine ⟨.ref s.heap.objs.size, _, I1, rfl, ⟨_, x, rfl, I.hok.fresh (Nat.le_refl _), rfl, fun ys hy => by rw [I.list_inj hy hq]; exact hx⟩, ⟨⟨y, by rw [e1]; exact he'⟩, ?_, hei⟩, fun b hb => ?_⟩
    · obtain ⟨o, q1, q2⟩ := hit''
      exact ⟨o, (sb.2 it (Ne.symm hei)).trans q1, q2⟩
    have hb' : b < s.heap.objs.size := by
      rcases List.mem_cons.mp hb with z | z
      · rw [z]; exact hel
      · rw [List.mem_singleton.mp z]; exact hil
    rw [upd_ne (Nat.ne_of_lt hb')]
    exact (hf b hb).1
  done := by
    rintro X rfl rfl rfl hc i pins s σ H E I hf ⟨⟨old, he⟩, hit, hei⟩ ⟨xs, hq, hx⟩
    obtain ⟨its, rv, hp, hz⟩ := I.list hq
    have hL : s.heap.IsList a its.toArray := pl_list hp
    obtain ⟨f0, f1, f2, f3, f4, f5⟩ := hf it (by simp)
    have hl := rv.length
    unfold pyNext
    refine wpAny_bind (wpAny_attempt (wpAny_callSpecial?_slot (name := Str.ofString "__next__") ⟨_, he, rfl⟩ F.slot_enumerate_next (wpAny_call_entry F.slot_enumerate_next ⟨_, he, rfl⟩ F.entry_enumerate_next ?_ (F.args_enumerate_next_1 _))))
    show wpAny _ _ (field (.ref e) 2 >>= _) _ _ _
    refine wpAny_bind (wpAny_field he rfl (x := .ref it) rfl (wpAny_bind (wpAny_nextOf_list_end (A := X.A.in1) (I.ok.hd hc) hit hL (by simp; omega) fun h' x eb hx' => ?_)))
    obtain ⟨o, ho, hcl⟩ := hx'
    exact wpAny_bind (wpAny_isInstance (T := "StopIteration") (b := true) ⟨o, ho, hcl⟩ isSubtype_stop (wpAny_pure ⟨rfl, I.turned (t' := s.toks) (fun b o hb q => eb b o hb q) f0 f1 f3 f4 f5⟩))
  self := fun A i s Q E st h => by
    obtain ⟨⟨_, he⟩, _⟩ := st
    exact wpAny_pyIter_enum he h
def iEnumK (K : PySem.W.Frag) (ta : TA) (tk : TA) : TI := fun σ H R => ta σ H fun vs H1 => tk σ H1 fun zs H2 => ∃ a xs k, zs = [.int ((k : Nat) : Int)] ∧ k < 1000 ∧ vs = [.ref a] ∧ SqL K H2 a xs ∧ R (IteK K a k) H2
theorem callTK {M : Model} {A : Around} {E : Value → Shared → Prop} {s : Shared} {pos : Pos} {T : String} {first : List Value} {args : List (Bool × Sem Value)} {kws : List (Option Str × Sem Value)} {Q : Value → Shared → Prop}
    (hpl : (args.any (·.1) || kws.any (·.1.isNone)) = false) (h : wpAny M A (evalArgs (.type T) true args kws) (fun a s₁ => wpAny M A (call (.type T) (first ++ a.pos) a.kw) Q E s₁) E s) :
    wpAny M A (callWith pos (.type T) first args kws) Q E s :=
  PySem.W.callWith_of (P := fun _ => True) hpl (fun h _ => ⟨.machine, .inr (.inl rfl), fun A Q E s _ q => wpAny_pure q⟩) (thn h fun a s1 q => ⟨trivial, q⟩)
theorem pi_enumK {X : Cx} {e ke : Expr} {ta tk : TA} {p pos tpos kp : Pos} {elts : List Expr} {kk : Nat} (hg : Gl X "enumerate") (hm : X.mg "enumerate" = none) (ha : PA X [e] ta) (hkw : PK X [⟨some "start", ke, kp⟩] tk)
    (hs : backTo pos (starEach [e] X.env) = (false, eval e X.env) :: backTo pos (starEach [] X.env) := by rfl)
    (hpl : ((backTo pos (starEach [e] X.env)).any (·.1) || (backToKw pos (keywordEach [⟨some "start", ke, kp⟩] X.env)).any (·.1.isNone)) = false := by rfl)
    (hall : (backToKw pos (keywordEach [⟨some "start", ke, kp⟩] X.env)).all (·.1.isSome) = true := by rfl)
    (hks : (backToKw pos (keywordEach [⟨some "start", ke, kp⟩] X.env)).filterMap (·.1) = [("start" : Str)] := by rfl) :
    PI X (.Tuple elts kk tpos) (.Call (.Name "enumerate" p) [e] [⟨some "start", ke, kp⟩] pos) (iEnumK X.K ta tk) := by
  refine ⟨fun pins s σ H R I h => wpAny_Call_Name_kw (ld_blt I hg hm boot_enumerate (callTK hpl ?_))⟩
  rw [hs]
  refine evalArgs_kwB hall ?_
  rw [← hs, hks]
  refine thn (ha.run pos pins s σ H _ I h) fun us s1 h1 => ?_
  obtain ⟨vs, H1, I1, r1, h1⟩ := h1
  refine thn (hkw.run pos pins s1 σ H1 _ I1 h1) fun ws s2 h2 => ?_
  obtain ⟨zs, H2, I2, r2, a, xs, k, rfl, hk9, rfl, hq, q⟩ := h2
  cases r1 with
  | cons r rr =>
    cases rr
    cases r
    cases r2 with
    | cons u uu =>
      cases uu
      obtain ⟨t, rfl⟩ := u
      obtain ⟨its, rv, hp, hz⟩ := I2.list hq
      have hL : s2.heap.IsList a its.toArray := pl_list hp
      refine enum_begins_start (begins_list a its.toArray) hL (by omega) (by omega) fun h' he hit hsz hk => wpAny_pyIter_enum he ?_
      have I3 : Inv X pins σ H2 { s2 with heap := h' } := I2.kept (t' := s2.toks) hk
      refine ⟨s2.heap.objs.size + 1, [s2.heap.objs.size + 1, s2.heap.objs.size], _, _, H2, rfl, I3, turn a (s2.heap.objs.size + 1) s2.heap.objs.size k, ⟨⟨.none, he⟩, ⟨_, hit, rfl, rfl⟩, Nat.succ_ne_self _⟩, fun b hb => ?_, q⟩
      have hb' : s2.heap.objs.size ≤ b := by
        rcases List.mem_cons.mp hb with z | z
        · rw [z]; exact Nat.le_succ _
        · rw [List.mem_singleton.mp z]; exact Nat.le_refl _
      exact I2.fpOk hb' (I2.hok.fresh hb')
end EK

set_option maxHeartbeats 2000000
/-! tuples put behind one another, also behind an empty one -/
namespace TC
open PySem PySem.Spec PyProof.Rows L2
theorem cat0 {prog : Program} {w : World} {A : Around} {E : Value → Shared → Prop} {s : Shared} {t b : Addr} {ws : List Value} {Q : Value → Shared → Prop} (h1 : IsTup s.heap t #[]) (h2 : IsTup s.heap b ws.toArray) (q : Q (.ref b) s) : wpAny (model prog w) A (binaryOp .Add (.ref t) (.ref b)) Q E s := by
  obtain ⟨⟨c1, d1, x1, l1⟩, e1, rfl, n1, rfl⟩ := h1
  obtain ⟨⟨c2, d2, x2, l2⟩, e2, rfl, n2, rfl⟩ := h2
  exact concat_meets ⟨_, e1, rfl⟩ ⟨_, e2, rfl⟩ noFill_tuple_add seq_tuple_add F.slot_tuple_add F.entry_tuple_add (F.args_tuple_add_2 _ _) (tuple_addW0 t b #[] ws.toArray n1 n2 _ _ _ _ rfl) ⟨e1, e2, q⟩
def rCatE (K : PySem.W.Frag) : R2 := fun x y H Q => rCatT K x y H Q ∨ ∃ a b ys, x = .ref a ∧ y = .ref b ∧ SqT K H a [] ∧ SqT K H b ys ∧ Q (.ref b) H
theorem op_catE {X : Cx} : OpR X (binaryOp .Add) (rCatE X.K) := by
  intro pins s σ H x y v u Q I r1 r2 h
  rcases h with h | ⟨a, b, ys, rfl, rfl, h1, h2, q⟩
  · exact op_catT pins s σ H x y v u Q I r1 r2 h
  · cases r1
    cases r2
    obtain ⟨i1, v1, p1, _⟩ := I.tuple h1
    obtain ⟨i2, v2, p2, _⟩ := I.tuple h2
    cases v1
    exact cat0 p1 p2 ⟨.ref b, _, I, rfl, q⟩
end TC

namespace CB
open PySem PySem.Spec PyProof.Rows
/-! ### the type of combinations -/
theorem cb_owner : Manifest.owners.lookup (String.ofList ['s', 'n', 'o', 'i', 't', 'a', 'n', 'i', 'b', 'm', 'o', 'c', '.', 's', 'l', 'o', 'o', 't', 'r', 'e', 't', 'i'].reverse) = some Manifest.sig_itertools_combinations := by kernel_rfl
theorem cb_mro : mroOf (.type "itertools.combinations") = pure [.type "itertools.combinations", .type "object"] := by rw [mroOf_type]; kernel_rfl
theorem cb_newL : typeLookup (.type "itertools.combinations") "__new__" = pure (some (.builtin "itertools.combinations.__new__")) := by rw [typeLookup_type, builtinLookup_eq_fast]; kernel_rfl
theorem cb_sub : isSubtype (.type "itertools.combinations") (.type "itertools.combinations") = pure true := by rw [isSubtype_type]; kernel_rfl
theorem cb_init : Slot "itertools.combinations" "__init__" "object.__init__" :=
  .of (owner := "object") (n := "__init__") (by rw [typeLookup_type, builtinLookup_eq_fast]; kernel_rfl) (by decide +kernel) (by decide +kernel)
    (by decide +kernel) (by first | exact .inl (by decide +kernel) | exact .inr (by decide +kernel)) (by rw [isSubtype_type]; kernel_rfl)
theorem cb_called : TypeCalled "itertools.combinations" "itertools.combinations.__new__" "object.__init__" :=
  ⟨by decide +kernel, by decide +kernel, ⟨_, _, cb_mro⟩, madeBy_type cb_mro cb_newL (by decide +kernel), by decide +kernel, cb_sub, cb_init⟩
theorem cb_typeCall (a b : Value) : checkTypeCall "itertools.combinations" ⟨[a, b], []⟩ = pure () := by kernel_rfl
theorem cb_newCall (a b : Value) : checkBuiltinCall "itertools.combinations.__new__" ⟨[.type "itertools.combinations", a, b], []⟩ = pure () := by kernel_rfl
theorem cb_newE : entryFor table "itertools.combinations.__new__" = some Builtin.«itertools.combinations.__new__» := entryFor_of_tree (by kernel_rfl)
theorem cb_next : Slot "itertools.combinations" "__next__" "itertools.combinations.__next__" :=
  .of (owner := "itertools.combinations") (n := "__next__") (by rw [typeLookup_type, builtinLookup_eq_fast]; kernel_rfl) (by decide +kernel) (by decide +kernel)
    (by decide +kernel) (by first | exact .inl (by decide +kernel) | exact .inr (by decide +kernel)) cb_sub
theorem cb_iter : Slot "itertools.combinations" "__iter__" "itertools.combinations.__iter__" :=
  .of (owner := "itertools.combinations") (n := "__iter__") (by rw [typeLookup_type, builtinLookup_eq_fast]; kernel_rfl) (by decide +kernel) (by decide +kernel)
    (by decide +kernel) (by first | exact .inl (by decide +kernel) | exact .inr (by decide +kernel)) cb_sub
theorem cb_nextE : entryFor table "itertools.combinations.__next__" = some Builtin.«itertools.combinations.__next__» := entryFor_of_tree (by kernel_rfl)
theorem cb_iterE : entryFor table "itertools.combinations.__iter__" = some Builtin.«dict_keyiterator.__iter__» :=
  entryFor_alias (id' := "dict_keyiterator.__iter__") (by kernel_rfl)
    (by first | rfl | decide +kernel | (unfold String.splitOn; simp +decide [String.splitOnAux]))
    (by decide +kernel) (by kernel_rfl)
theorem cb_nextA (a : Value) : argsOk "itertools.combinations.__next__" ⟨[a], []⟩ := by
  unfold argsOk
  rw [signature?_of (id := "itertools.combinations.__next__") (n := ['_', '_', 't', 'x', 'e', 'n', '_', '_']) (o := ['s', 'n', 'o', 'i', 't', 'a', 'n', 'i', 'b', 'm', 'o', 'c', '.', 's', 'l', 'o', 'o', 't', 'r', 'e', 't', 'i']) (by kernel_rfl) cb_owner]
  kernel_rfl
theorem cb_iterA (a : Value) : argsOk "itertools.combinations.__iter__" ⟨[a], []⟩ := by
  unfold argsOk
  rw [signature?_of (id := "itertools.combinations.__iter__") (n := ['_', '_', 'r', 'e', 't', 'i', '_', '_']) (o := ['s', 'n', 'o', 'i', 't', 'a', 'n', 'i', 'b', 'm', 'o', 'c', '.', 's', 'l', 'o', 'o', 't', 'r', 'e', 't', 'i']) (by kernel_rfl) cb_owner]
  kernel_rfl
theorem cb_noLen : typeLookup (.type "itertools.combinations") "__len__" = pure none := by rw [typeLookup_type, builtinLookup_eq_fast]; kernel_rfl
theorem cb_noHint : typeLookup (.type "itertools.combinations") "__length_hint__" = pure none := by rw [typeLookup_type, builtinLookup_eq_fast]; kernel_rfl
theorem cb_noDict : typeHasDict (.type "itertools.combinations") = false := by decide +kernel
end CB

namespace CB
open PySem PySem.Spec PyProof.Rows
open Sem (wp)
abbrev cbF (p : Addr) (flag : Int) (last : Value) (ix : List Nat) : Array Value := (.ref p :: rawInt flag :: last :: ix.map fun (n : Nat) => rawInt n).toArray
abbrev IsCb (h : Heap) (it p : Addr) (flag : Int) (last : Value) (ix : List Nat) : Prop :=
  h.get? it = some { cls := .type "itertools.combinations", dict := none, data := .fields (cbF p flag last ix), slots := #[] }
abbrev IsPool (h : Heap) (p : Addr) (us : Array Value) : Prop := h.get? p = some { cls := .type "tuple", data := .seq us }
section
variable {prog : Program} {w : World} {M : Model} {A : Around} {E : Value → Shared → Prop} {s : Shared}
theorem cb_numbers {it p : Addr} {flag : Int} {last : Value} {ix : List Nat} {Q : List Nat → Shared → Prop} (hit : IsCb s.heap it p flag last ix) (h : Q ix s) : wpAny M A (Builtin.Itertools.itNumbersFrom (.ref it) 3) Q E s := by
  unfold Builtin.Itertools.itNumbersFrom
  refine wpAny_bind (wpAny_load hit ?_)
  refine wpAny_pure ?_
  have e : ∀ (f : Value → Nat), (∀ n : Nat, f (rawInt n) = n) → ((cbF p flag last ix).toList.drop 3).map f = ix := fun f hf => by
    show (ix.map fun (n : Nat) => rawInt n).map f = ix
    rw [List.map_map]
    have e1 : (f ∘ fun (n : Nat) => rawInt n) = id := funext fun n => hf n
    rw [e1, List.map_id]
  rw [e _ fun _ => rfl]
  exact h
theorem cb_flag {it p : Addr} {flag : Int} {last : Value} {ix : List Nat} {Q : Int → Shared → Prop} (hit : IsCb s.heap it p flag last ix) (h : Q flag s) : wpAny M A (Builtin.Itertools.itIntField (.ref it) 1) Q E s := by
  unfold Builtin.Itertools.itIntField
  exact wpAny_bind (wpAny_field hit rfl (x := rawInt flag) rfl (wpAny_pure h))
theorem cb_pool {p : Addr} {us : Array Value} {Q : Array Value → Shared → Prop} (hp : IsPool s.heap p us) (h : Q us s) : wpAny M A (Builtin.Itertools.itPoolItems (.ref p)) Q E s := by
  unfold Builtin.Itertools.itPoolItems
  exact wpAny_bind (wpAny_seqItems hp rfl (wpAny_pure h))
theorem cb_item0 {it p : Addr} {ix : List Nat} {us : Array Value} {Q : Value → Shared → Prop} (hit : IsCb s.heap it p 0 .none ix) (hp : IsPool s.heap p us) (hl : ix.length ≤ 1000)
    (hQ : ∀ h', IsCb h' it p 1 (.ref s.heap.objs.size) ix → h'.get? s.heap.objs.size = some { cls := .type "tuple", data := .seq (ix.map fun i => us.getD i .none).toArray } →
      (∀ b o, b ≠ it → s.heap.get? b = some o → h'.get? b = some o) → Q (.ref s.heap.objs.size) { s with heap := h' }) :
    wpAny M A (Builtin.«itertools.combinations.__next__» ⟨[.ref it], []⟩) (fun fin s' => ∃ v, fin = .done (.ret v) ∧ Q v s') E s := by
  obtain ⟨h0, g, d, tk, os⟩ := s
  have lti : it < h0.objs.size := Heap.lt_size hit
  show wpAny _ _ (field (.ref it) 0 >>= _) _ _ _
  refine wpAny_bind (wpAny_field hit rfl (x := .ref p) rfl ?_)
  show wpAny _ _ (Builtin.Itertools.itNumbersFrom (.ref it) 3 >>= _) _ _ _
  refine wpAny_bind (cb_numbers hit ?_)
  show wpAny _ _ (Builtin.Itertools.itIntField (.ref it) 1 >>= _) _ _ _
  refine wpAny_bind (cb_flag hit ?_)
  show wpAny _ _ (setField (.ref it) 1 (rawInt 1) >>= _) _ _ _
  refine wpAny_bind (wpAny_setField hit rfl (by simp) ?_)
  have hit1 : IsCb (h0.update it (Obj.mapFields fun x => x.setIfInBounds 1 (rawInt 1))) it p 1 .none ix := Heap.get?_update_self _ hit rfl
  have k1 : ∀ b o, b ≠ it → h0.get? b = some o → (h0.update it (Obj.mapFields fun x => x.setIfInBounds 1 (rawInt 1))).get? b = some o := fun b o hb e => (Heap.get?_update_other _ _ (Ne.symm hb)).trans e
  have pne : p ≠ it := fun z => by
    rw [z] at hp
    have q := congrArg Obj.data (Option.some.inj (hit.symm.trans hp))
    cases q
  have hz1 : (h0.update it (Obj.mapFields fun x => x.setIfInBounds 1 (rawInt 1))).objs.size = h0.objs.size := Heap.size_update ..
  generalize h0.update it (Obj.mapFields fun x => x.setIfInBounds 1 (rawInt 1)) = h1 at hit1 k1 hz1 ⊢
  show wpAny _ _ ((Builtin.Itertools.itPoolItems (.ref p) >>= _) >>= _) _ _ _
  refine wpAny_bind (wpAny_bind (cb_pool (k1 p _ pne hp) ?_))
  refine wpAny_newTuple ?_ (by rw [List.length_map]; exact Nat.le_trans hl (by rw [sizeLine_eq]; decide))
  have up : ∀ (o : Obj) (b : Addr) (o' : Obj), h1.get? b = some o' → (h1.push o).get? b = some o' := fun o b o' e => Heap.get?_push_of_some _ e
  have hT : (h1.push { cls := .type "tuple", data := .seq (ix.map fun i => us.getD i .none).toArray }).get? h0.objs.size = some { cls := .type "tuple", data := .seq (ix.map fun i => us.getD i .none).toArray } := by
    rw [← hz1]
    exact Heap.get?_push_size _ rfl
  have hit2 := up { cls := .type "tuple", data := .seq (ix.map fun i => us.getD i .none).toArray } _ _ hit1
  have k2 : ∀ b o, b ≠ it → h0.get? b = some o → (h1.push { cls := .type "tuple", data := .seq (ix.map fun i => us.getD i .none).toArray }).get? b = some o := fun b o hb e => up _ _ _ (k1 b o hb e)
  generalize h1.push { cls := .type "tuple", data := .seq (ix.map fun i => us.getD i .none).toArray } = h2 at hT hit2 k2 ⊢
  rw [hz1]
  show wpAny _ _ (field (.ref it) 2 >>= _) _ _ _
  refine wpAny_bind (wpAny_field hit2 rfl (x := .none) rfl ?_)
  show wpAny _ _ (setField (.ref it) 2 (.ref h0.objs.size) >>= _) _ _ _
  refine wpAny_bind (wpAny_setField hit2 rfl (by simp) ?_)
  have hit3 : IsCb (h2.update it (Obj.mapFields fun x => x.setIfInBounds 2 (.ref h0.objs.size))) it p 1 (.ref h0.objs.size) ix := Heap.get?_update_self _ hit2 rfl
  have k3 : ∀ b o, b ≠ it → h2.get? b = some o → (h2.update it (Obj.mapFields fun x => x.setIfInBounds 2 (.ref h0.objs.size))).get? b = some o := fun b o hb e => (Heap.get?_update_other _ _ (Ne.symm hb)).trans e
  refine wpAny_bind (wpAny_letGo ?_)
  exact wpAny_pure ⟨_, rfl, hQ _ hit3 (k3 _ _ (Nat.ne_of_gt lti) hT) fun b o hb e => k3 b o hb (k2 b o hb e)⟩
/-- the next indices -/
def nc (n : Nat) (indices : List Nat) : Option (List Nat) :=
  match (List.range indices.length).reverse.find? fun i => indices.getD i 0 != i + n - indices.length with
  | none => none
  | some i => some (indices.take i ++ (List.range (indices.length - i)).map (indices.getD i 0 + 1 + ·))
theorem cb_cut (p : Addr) (flag : Int) (last : Value) (ix nx : List Nat) : (cbF p flag last ix).extract 0 3 ++ (nx.map fun (n : Nat) => rawInt n).toArray = cbF p flag last nx := by
  apply Array.toList_inj.mp
  simp
theorem cb_item1 {it p : Addr} {last : Value} {ix nx : List Nat} {us : Array Value} {Q : Value → Shared → Prop} (hit : IsCb s.heap it p 1 last ix) (hp : IsPool s.heap p us) (hm : nc us.size ix = some nx) (hl : nx.length ≤ 1000)
    (hQ : ∀ h', IsCb h' it p 1 (.ref s.heap.objs.size) nx → h'.get? s.heap.objs.size = some { cls := .type "tuple", data := .seq (nx.map fun i => us.getD i .none).toArray } →
      (∀ b o, b ≠ it → s.heap.get? b = some o → h'.get? b = some o) → Q (.ref s.heap.objs.size) { s with heap := h' }) :
    wpAny M A (Builtin.«itertools.combinations.__next__» ⟨[.ref it], []⟩) (fun fin s' => ∃ v, fin = .done (.ret v) ∧ Q v s') E s := by
  obtain ⟨h0, g, d, tk, os⟩ := s
  have lti : it < h0.objs.size := Heap.lt_size hit
  have pne : p ≠ it := fun z => by
    rw [z] at hp
    have q := congrArg Obj.data (Option.some.inj (hit.symm.trans hp))
    cases q
  show wpAny _ _ (field (.ref it) 0 >>= _) _ _ _
  refine wpAny_bind (wpAny_field hit rfl (x := .ref p) rfl ?_)
  show wpAny _ _ (Builtin.Itertools.itNumbersFrom (.ref it) 3 >>= _) _ _ _
  refine wpAny_bind (cb_numbers hit ?_)
  show wpAny _ _ (Builtin.Itertools.itIntField (.ref it) 1 >>= _) _ _ _
  refine wpAny_bind (cb_flag hit ?_)
  show wpAny _ _ (Builtin.Itertools.itPoolItems (.ref p) >>= _) _ _ _
  refine wpAny_bind (cb_pool hp ?_)
  split
  case h_2 =>
    rename_i hn
    have e : nc us.size ix = none := hn
    rw [hm] at e
    cases e
  rename_i next hn
  have e : nc us.size ix = some next := hn
  rw [hm] at e
  cases e
  show wpAny _ _ (Builtin.Itertools.itSetNumbersFrom (.ref it) 3 nx >>= _) _ _ _
  refine wpAny_bind ?_
  unfold Builtin.Itertools.itSetNumbersFrom
  refine wpAny_updateFields hit rfl ?_ (by
    show ((cbF p 1 last ix).extract 0 3 ++ (nx.map fun (n : Nat) => rawInt n).toArray).size ≤ _
    rw [cb_cut]
    show (nx.map fun (n : Nat) => rawInt n).length + 3 ≤ sizeLine + 3
    rw [List.length_map, sizeLine_eq]
    omega)
  have hit1 : IsCb (h0.update it (Obj.mapFields fun fs => fs.extract 0 3 ++ (nx.map fun (n : Nat) => rawInt n).toArray)) it p 1 last nx := by
    have q := Heap.get?_update_self (Obj.mapFields fun fs => fs.extract 0 3 ++ (nx.map fun (n : Nat) => rawInt n).toArray) hit rfl
    rw [Obj.mapFields] at q
    rw [cb_cut] at q
    exact q
  have k1 : ∀ b o, b ≠ it → h0.get? b = some o → (h0.update it (Obj.mapFields fun fs => fs.extract 0 3 ++ (nx.map fun (n : Nat) => rawInt n).toArray)).get? b = some o := fun b o hb e => (Heap.get?_update_other _ _ (Ne.symm hb)).trans e
  have hz1 : (h0.update it (Obj.mapFields fun fs => fs.extract 0 3 ++ (nx.map fun (n : Nat) => rawInt n).toArray)).objs.size = h0.objs.size := Heap.size_update ..
  generalize h0.update it (Obj.mapFields fun fs => fs.extract 0 3 ++ (nx.map fun (n : Nat) => rawInt n).toArray) = h1 at hit1 k1 hz1 ⊢
  show wpAny _ _ ((Builtin.Itertools.itPoolItems (.ref p) >>= _) >>= _) _ _ _
  refine wpAny_bind (wpAny_bind (cb_pool (k1 p _ pne hp) ?_))
  refine wpAny_newTuple ?_ (by rw [List.length_map]; exact Nat.le_trans hl (by rw [sizeLine_eq]; decide))
  have up : ∀ (o : Obj) (b : Addr) (o' : Obj), h1.get? b = some o' → (h1.push o).get? b = some o' := fun o b o' e => Heap.get?_push_of_some _ e
  have hT : (h1.push { cls := .type "tuple", data := .seq (nx.map fun i => us.getD i .none).toArray }).get? h0.objs.size = some { cls := .type "tuple", data := .seq (nx.map fun i => us.getD i .none).toArray } := by
    rw [← hz1]
    exact Heap.get?_push_size _ rfl
  have hit2 := up { cls := .type "tuple", data := .seq (nx.map fun i => us.getD i .none).toArray } _ _ hit1
  have k2 : ∀ b o, b ≠ it → h0.get? b = some o → (h1.push { cls := .type "tuple", data := .seq (nx.map fun i => us.getD i .none).toArray }).get? b = some o := fun b o hb e => up _ _ _ (k1 b o hb e)
  generalize h1.push { cls := .type "tuple", data := .seq (nx.map fun i => us.getD i .none).toArray } = h2 at hT hit2 k2 ⊢
  rw [hz1]
  show wpAny _ _ (field (.ref it) 2 >>= _) _ _ _
  refine wpAny_bind (wpAny_field hit2 rfl (x := last) rfl ?_)
  show wpAny _ _ (setField (.ref it) 2 (.ref h0.objs.size) >>= _) _ _ _
  refine wpAny_bind (wpAny_setField hit2 rfl (by simp) ?_)
  have hit3 : IsCb (h2.update it (Obj.mapFields fun x => x.setIfInBounds 2 (.ref h0.objs.size))) it p 1 (.ref h0.objs.size) nx := Heap.get?_update_self _ hit2 rfl
  have k3 : ∀ b o, b ≠ it → h2.get? b = some o → (h2.update it (Obj.mapFields fun x => x.setIfInBounds 2 (.ref h0.objs.size))).get? b = some o := fun b o hb e => (Heap.get?_update_other _ _ (Ne.symm hb)).trans e
  refine wpAny_bind (wpAny_letGo ?_)
  exact wpAny_pure ⟨_, rfl, hQ _ hit3 (k3 _ _ (Nat.ne_of_gt lti) hT) fun b o hb e => k3 b o hb (k2 b o hb e)⟩
/-- the end: StopIteration -/
theorem cb_stop {it p : Addr} {last : Value} {ix : List Nat} {us : Array Value} {Q : Fin → Shared → Prop} (hh : A.handled = none) (hit : IsCb s.heap it p 1 last ix) (hp : IsPool s.heap p us) (hm : nc us.size ix = none)
    (hE : ∀ h' e, Heap.ExtBut it s.heap h' → (∃ o, h'.get? e = some o ∧ o.cls = .type "StopIteration") → E (.ref e) { s with heap := h' }) :
    wpAny M A (Builtin.«itertools.combinations.__next__» ⟨[.ref it], []⟩) Q E s := by
  obtain ⟨h0, g, d, tk, os⟩ := s
  show wpAny _ _ (field (.ref it) 0 >>= _) _ _ _
  refine wpAny_bind (wpAny_field hit rfl (x := .ref p) rfl ?_)
  show wpAny _ _ (Builtin.Itertools.itNumbersFrom (.ref it) 3 >>= _) _ _ _
  refine wpAny_bind (cb_numbers hit ?_)
  show wpAny _ _ (Builtin.Itertools.itIntField (.ref it) 1 >>= _) _ _ _
  refine wpAny_bind (cb_flag hit ?_)
  show wpAny _ _ (Builtin.Itertools.itPoolItems (.ref p) >>= _) _ _ _
  refine wpAny_bind (cb_pool hp ?_)
  split
  · rename_i next hn
    have e : nc us.size ix = some next := hn
    rw [hm] at e
    cases e
  show wpAny _ _ (setField (.ref it) 1 (rawInt 2) >>= _) _ _ _
  refine wpAny_bind (wpAny_setField hit rfl (by simp) ?_)
  show wpAny _ _ (newExc (.type "StopIteration") [] >>= _) _ _ _
  refine wpAny_bind ?_
  simp only [newExc, newTuple]
  refine wpAny_bind (wpAny_newObj_type ?_ (by size_fits))
  refine wpAny_bind (m := firstArgMember _ _) (wpAny_of_eq (a := Value.none) (by first | rfl | (simp only [firstArgMember]; rfl)) ?_)
  refine wpAny_newObj_type ?_ (by size_fits)
  simp only [raiseNew]
  refine wpAny_bind (wpAny_handled ?_)
  rw [hh]
  refine wpAny_bind (wpAny_pure (wpAny_throw ?_))
  exact hE _ _ (((Heap.SameBut.update ..).extBut.push _).push _) ⟨_, Heap.get?_push_size _ rfl, rfl⟩
end
end CB

namespace CB
open PySem PySem.Spec PyProof.Rows
open Sem (wp)
section
variable {prog : Program} {w : World} {M : Model} {A : Around} {E : Value → Shared → Prop} {s : Shared}
theorem cb_ssize {k : Int} {t : Tok} {Q : Int → Shared → Prop} (h0 : 0 ≤ k) (h1 : k < 1000) (h : Q k s) : wpAny M A (Builtin.Itertools.itSsizeArg (.int k t)) Q E s := by
  unfold Builtin.Itertools.itSsizeArg
  refine wpAny_bind (wpAny_of_eq (a := k) (by rfl) ?_)
  have e : (decide (k < -(2 ^ 63 : Int)) || decide (k ≥ 2 ^ 63)) = false := by
    rw [decide_eq_false (by omega), decide_eq_false (by omega)]
    rfl
  rw [e]
  exact wpAny_pure h
theorem cb_plain : plainId "itertools.combinations.__new__" = true := by decide +kernel
theorem cb_new {r : Addr} {n k : Nat} {t u v tt : Tok} {Q₁ : Value → Shared → Prop} (hh : A.handled = none) (hr : IsRange s.heap r 0 (n : Int) 1 t u v) (hn : n ≤ 7) (hk : k ≤ n)
    (hQ : ∀ h' tk p us, h'.get? p = some { cls := .type "tuple", data := .seq us } → us.size = n → (∀ i, i < n → ∃ t, us[i]? = some (.int (i : Int) t)) → (∀ b o, s.heap.get? b = some o → b < p) →
      (∀ b o, s.heap.get? b = some o → h'.get? b = some o) → IsCb h' (p + 1) p 0 .none (List.range k) → Q₁ (.ref (p + 1)) { s with heap := h', toks := tk }) :
    codeAny (model prog w) A (.call (.builtin "itertools.combinations.__new__") ⟨[.type "itertools.combinations", .ref r, .int (k : Int) tt], []⟩) (wants Q₁ E) s := by
  refine codeAny_of_tree ?_
  show wpAny _ A.in1 (do checkBuiltinCall "itertools.combinations.__new__" ⟨[.type "itertools.combinations", .ref r, .int (k : Int) tt], []⟩; again (.builtin "itertools.combinations.__new__" ⟨[.type "itertools.combinations", .ref r, .int (k : Int) tt], []⟩)) _ _ s
  refine wpAny_bind (wpAny_of_eq (cb_newCall _ _) (wpAny_pure ⟨plainId_quiet cb_plain _, codeAny_builtin cb_newE ?_⟩))
  rw [Around.under_plainId cb_plain _]
  show wpAny _ _ ((Builtin.Itertools.itClassAndRest "combinations" _ >>= _) >>= _) _ _ _
  refine wpAny_bind (wpAny_bind (wpAny_of_eq (a := ((.type "itertools.combinations" : Value), [(.ref r : Value), .int (k : Int) tt])) ?_ ?_))
  · unfold Builtin.Itertools.itClassAndRest
    simp only [isType, cb_sub, pure_bind, Bool.not_true, Bool.false_eq_true, if_false]
    rfl
  show wpAny _ _ (Builtin.Itertools.itBindNamed "combinations" ["iterable", "r"] 2 2 [.ref r, .int (k : Int) tt] [] >>= _) _ _ _
  refine wpAny_bind (wpAny_of_eq (a := [some (.ref r), some (.int (k : Int) tt)]) (by rfl) ?_)
  show wpAny _ _ (Builtin.Itertools.itSsizeArg (.int (k : Int) tt) >>= _) _ _ _
  refine wpAny_bind (cb_ssize (by omega) (by omega) ?_)
  show wpAny _ _ (collect (.ref r) >>= _) _ _ _
  refine wpAny_bind (L2.collect_range (n := n) hh hr (small_one (by decide) (by decide) (by omega) (by omega)) (by rw [rangeSize_nat]; omega) (by omega) fun h1 tk acc k1 hi => ?_)
  have hsz : acc.toList.length = n := by rw [Array.length_toList]; exact hi.1
  have c1 : ¬ ((k : Int) < 0) := by omega
  have c2 : Builtin.Itertools.itTooMany (k : Int) = false := by
    unfold Builtin.Itertools.itTooMany
    exact decide_eq_false (by omega)
  rw [if_neg c1, c2, if_neg Bool.false_ne_true]
  show wpAny _ _ (newTuple acc.toList >>= _) _ _ _
  refine wpAny_bind (wpAny_newTuple ?_ (by rw [hsz, sizeLine_eq]; omega))
  have tk0 : ((k : Int)).toNat = k := rfl
  have hT : (h1.push { cls := .type "tuple", data := .seq acc.toList.toArray }).get? h1.objs.size = some { cls := .type "tuple", data := .seq acc.toList.toArray } := Heap.get?_push_size _ rfl
  have hz : (h1.push { cls := .type "tuple", data := .seq acc.toList.toArray }).objs.size = h1.objs.size + 1 := Heap.size_push ..
  have k2 : ∀ b o, s.heap.get? b = some o → (h1.push { cls := .type "tuple", data := .seq acc.toList.toArray }).get? b = some o := fun b o e => Heap.get?_push_of_some _ (k1 b o e)
  have hge : ∀ b o, s.heap.get? b = some o → b < h1.objs.size := fun b o e => Heap.lt_size (k1 b o e)
  generalize h1.push { cls := .type "tuple", data := .seq acc.toList.toArray } = h2 at hT hz k2 ⊢
  refine wpAny_pure ?_
  show wpAny _ _ (Builtin.Itertools.itNewRecord (.type "itertools.combinations") ([.ref h1.objs.size, rawInt (if ((k : Int)).toNat > acc.toList.length then 2 else 0), .none] ++ (List.range ((k : Int)).toNat).map fun (i : Nat) => rawInt i) >>= _) _ _ _
  rw [tk0, hsz, if_neg (by omega)]
  refine wpAny_bind ?_
  unfold Builtin.Itertools.itNewRecord
  rw [cb_noDict]
  have hfit : (cbF h1.objs.size 0 .none (List.range k)).size ≤ sizeLine + 2 := by
    show ((List.range k).map fun (i : Nat) => rawInt i).length + 3 ≤ sizeLine + 2
    rw [List.length_map, List.length_range, sizeLine_eq]
    omega
  refine wpAny_newObj_type (data := .fields (cbF h1.objs.size 0 .none (List.range k))) ?_ hfit
  refine wpAny_pure ?_
  have hI : IsCb (h2.push { cls := .type "itertools.combinations", data := .fields (cbF h1.objs.size 0 .none (List.range k)) }) (h1.objs.size + 1) h1.objs.size 0 .none (List.range k) := by
    rw [← hz]
    exact Heap.get?_push_size _ rfl
  rw [hz]
  refine hQ _ tk h1.objs.size acc (Heap.get?_push_of_some _ (by rw [Array.toArray_toList] at hT; exact hT)) hi.1 (fun i hin => ?_) hge (fun b o e => Heap.get?_push_of_some _ (k2 b o e)) hI
  have hia : i < acc.size := by rw [hi.1]; exact hin
  obtain ⟨t', e⟩ := hi.2 i acc[i] (by rw [Array.getElem?_eq_getElem hia])
  refine ⟨t', ?_⟩
  rw [Array.getElem?_eq_getElem hia, e]
  have z : (0 : Int) + (i : Int) * 1 = (i : Int) := by omega
  rw [z]
theorem cb_call {r : Addr} {n k : Nat} {t u v tt : Tok} {Q : Value → Shared → Prop} (hh : A.handled = none) (hr : IsRange s.heap r 0 (n : Int) 1 t u v) (hn : n ≤ 7) (hk : k ≤ n)
    (hQ : ∀ h' tk p us, h'.get? p = some { cls := .type "tuple", data := .seq us } → us.size = n → (∀ i, i < n → ∃ t, us[i]? = some (.int (i : Int) t)) → (∀ b o, s.heap.get? b = some o → b < p) →
      (∀ b o, s.heap.get? b = some o → h'.get? b = some o) → IsCb h' (p + 1) p 0 .none (List.range k) → Q (.ref (p + 1)) { s with heap := h', toks := tk }) :
    wpAny (model prog w) A (call (.type "itertools.combinations") [.ref r, .int (k : Int) tt]) Q E s := by
  refine callType_codes (Q₁ := fun obj s₁ => s₁.TypeIs obj "itertools.combinations" ∧ Q obj s₁) cb_called (cb_typeCall _ _) F.entry_object_init
    (cb_new (A := A.in1) hh hr hn hk fun h' tk p us e1 e2 e3 e4 e5 e6 => ⟨⟨_, e6, rfl⟩, hQ h' tk p us e1 e2 e3 e4 e5 e6⟩) fun obj s₁ h₁ => ?_
  exact ⟨h₁.1, F.args_object_init_3 obj _ _, object_init_meets cb_called.init.lookup cb_called.made (by decide) prog w A.in1 _ s₁ ⟨h₁.1, rfl, h₁.2⟩⟩
theorem cb_pyIter {it p : Addr} {flag : Int} {last : Value} {ix : List Nat} {Q : Value → Shared → Prop} (hit : IsCb s.heap it p flag last ix) (h : Q (.ref it) s) : wpAny (model prog w) A (pyIter (.ref it)) Q E s := by
  have hT : s.TypeIs (.ref it) "itertools.combinations" := ⟨_, hit, rfl⟩
  refine wpAny_pyIter_slot hT cb_iter (wpAny_call_entry cb_iter hT cb_iterE ?_ (cb_iterA _))
  show wpAny _ _ (ret (.ref it)) _ _ s
  exact wpAny_pure ⟨_, rfl, "itertools.combinations", _, hT, cb_next.lookup, h⟩
theorem cb_pyNext0 {it p : Addr} {ix : List Nat} {us : Array Value} {Q : Option Value → Shared → Prop} (hit : IsCb s.heap it p 0 .none ix) (hp : IsPool s.heap p us) (hl : ix.length ≤ 1000)
    (hQ : ∀ h', IsCb h' it p 1 (.ref s.heap.objs.size) ix → h'.get? s.heap.objs.size = some { cls := .type "tuple", data := .seq (ix.map fun i => us.getD i .none).toArray } →
      (∀ b o, b ≠ it → s.heap.get? b = some o → h'.get? b = some o) → Q (some (.ref s.heap.objs.size)) { s with heap := h' }) : wpAny (model prog w) A (pyNext (.ref it)) Q E s := by
  have hT : s.TypeIs (.ref it) "itertools.combinations" := ⟨_, hit, rfl⟩
  unfold pyNext
  exact wpAny_bind (wpAny_attempt (wpAny_callSpecial?_slot (name := Str.ofString "__next__") hT cb_next
    (wpAny_call_entry cb_next hT cb_nextE (cb_item0 hit hp hl fun h' a b c => wpAny_pure (hQ h' a b c)) (cb_nextA _))))
theorem cb_pyNext1 {it p : Addr} {last : Value} {ix nx : List Nat} {us : Array Value} {Q : Option Value → Shared → Prop} (hit : IsCb s.heap it p 1 last ix) (hp : IsPool s.heap p us) (hm : nc us.size ix = some nx) (hl : nx.length ≤ 1000)
    (hQ : ∀ h', IsCb h' it p 1 (.ref s.heap.objs.size) nx → h'.get? s.heap.objs.size = some { cls := .type "tuple", data := .seq (nx.map fun i => us.getD i .none).toArray } →
      (∀ b o, b ≠ it → s.heap.get? b = some o → h'.get? b = some o) → Q (some (.ref s.heap.objs.size)) { s with heap := h' }) : wpAny (model prog w) A (pyNext (.ref it)) Q E s := by
  have hT : s.TypeIs (.ref it) "itertools.combinations" := ⟨_, hit, rfl⟩
  unfold pyNext
  exact wpAny_bind (wpAny_attempt (wpAny_callSpecial?_slot (name := Str.ofString "__next__") hT cb_next
    (wpAny_call_entry cb_next hT cb_nextE (cb_item1 hit hp hm hl fun h' a b c => wpAny_pure (hQ h' a b c)) (cb_nextA _))))
theorem cb_pyNextE {it p : Addr} {last : Value} {ix : List Nat} {us : Array Value} {Q : Option Value → Shared → Prop} (hh : A.handled = none) (hit : IsCb s.heap it p 1 last ix) (hp : IsPool s.heap p us) (hm : nc us.size ix = none)
    (hQ : ∀ h', Heap.ExtBut it s.heap h' → Q none { s with heap := h' }) : wpAny (model prog w) A (pyNext (.ref it)) Q E s := by
  have hT : s.TypeIs (.ref it) "itertools.combinations" := ⟨_, hit, rfl⟩
  unfold pyNext
  refine wpAny_bind (wpAny_attempt (wpAny_callSpecial?_slot (name := Str.ofString "__next__") hT cb_next (wpAny_call_entry cb_next hT cb_nextE (cb_stop (A := A.in1) hh hit hp hm fun h' x he' hx' => ?_) (cb_nextA _))))
  obtain ⟨o, ho, hc⟩ := hx'
  exact wpAny_bind (wpAny_isInstance (T := "StopIteration") (b := true) ⟨o, ho, hc⟩ isSubtype_stop (wpAny_pure (hQ _ he')))
/-! ### list(combinations(..)) -/
abbrev lO (acc : Array Value) (c : Nat) : Obj := { cls := .type "list", dict := none, data := .seq acc c, slots := #[] }
def Chain (n : Nat) : List Nat → List (List Nat) → Prop
  | ix, [] => nc n ix = none
  | ix, nx :: r => nc n ix = some nx ∧ Chain n nx r
/-- the tuples of r have been laid at ts, behind h -/
def Laid (us : Array Value) (h h' : Heap) : List (List Nat) → List Addr → Prop
  | [], [] => True
  | c :: r, t :: ts => h'.get? t = some { cls := .type "tuple", data := .seq (c.map fun i => us.getD i .none).toArray } ∧ (∀ b o, h.get? b = some o → b < t) ∧ Laid us h h' r ts
  | _, _ => False
theorem Laid.mono {us : Array Value} {h h1 h' : Heap} {X : Addr → Prop} (k : ∀ b o, h.get? b = some o → ∃ o', h1.get? b = some o') : ∀ {r : List (List Nat)} {ts : List Addr}, Laid us h1 h' r ts → Laid us h h' r ts
  | [], [], _ => trivial
  | _ :: _, _ :: _, ⟨a, b, c⟩ => ⟨a, fun x o e => by obtain ⟨o', e'⟩ := k x o e; exact b x o' e', Laid.mono (X := X) k c⟩
  | [], _ :: _, z => z.elim
  | _ :: _, [], z => z.elim
theorem cb_drain1 {S it p : Addr} {us : Array Value} {res : Value} {R : Result → Shared → Prop} (hh : A.handled = none) (hSi : S ≠ it) (hSp : S ≠ p) (hpi : p ≠ it) : ∀ (r : List (List Nat)) (ix : List Nat) (s : Shared) (acc : Array Value) (c : Nat) (last : Value),
    IsCb s.heap it p 1 last ix → IsPool s.heap p us → Chain us.size ix r → (∀ nx ∈ r, nx.length ≤ 1000) → s.heap.get? S = some (lO acc c) → acc.size + r.length ≤ 1000 →
    (∀ h' ts c', Laid us s.heap h' r ts → h'.get? S = some (lO (acc ++ (ts.map Value.ref).toArray) c') → (∀ b o, b ≠ it → b ≠ S → s.heap.get? b = some o → h'.get? b = some o) → R (.ok (.ret res)) { s with heap := h' }) →
    codeAny (model prog w) A (.builtin "list.extend.loop" ⟨[.ref S, .ref it, res], []⟩) R s := by
  intro r
  induction r with
  | nil =>
    intro ix s acc c last hit hp hc hl hS hz hR
    refine codeAny_builtin F.entry_extend_loop ?_
    rw [Around.under_plainId F.plain_extend_loop _]
    show wpAny _ A.in1 (pyNext (.ref it) >>= _) _ _ s
    refine wpAny_bind (cb_pyNextE (A := A.in1) hh hit hp hc fun h' hx => wpAny_pure ?_)
    refine hR h' [] c trivial ?_ fun b o h1 _ e => hx b o h1 e
    have q := hx S _ hSi hS
    simpa using q
  | cons nx r ih =>
    intro ix s acc c last hit hp hc hl hS hz hR
    obtain ⟨hc1, hc2⟩ := hc
    refine codeAny_builtin F.entry_extend_loop ?_
    rw [Around.under_plainId F.plain_extend_loop _]
    show wpAny _ A.in1 (pyNext (.ref it) >>= _) _ _ s
    refine wpAny_bind (cb_pyNext1 (A := A.in1) hit hp hc1 (hl nx List.mem_cons_self) fun h1 hit1 hT k1 => ?_)
    show wpAny _ A.in1 (updateSeq S (·.push (.ref s.heap.objs.size)) >>= _) _ _ _
    have hS1 := k1 S _ hSi hS
    have hz' : acc.size < sizeLine := by
      rw [List.length_cons] at hz
      rw [sizeLine_eq]
      omega
    refine wpAny_bind (wpAny_updateSeq hS1 rfl (wpAny_pure ⟨plainId_quiet F.plain_extend_loop _, ?_⟩) (Nat.le_of_lt hz') (by show (acc.push (.ref s.heap.objs.size)).size ≤ sizeLine + 1; rw [Array.size_push]; omega))
    have k2 : ∀ b o, b ≠ S → h1.get? b = some o → (h1.update S (Obj.mapSeq (·.push (.ref s.heap.objs.size)))).get? b = some o := fun b o hb e => (Heap.get?_update_other _ _ (Ne.symm hb)).trans e
    have hS2 := Heap.get?_update_self (Obj.mapSeq (·.push (Value.ref s.heap.objs.size))) hS1 rfl
    have ltS : S < s.heap.objs.size := Heap.lt_size hS
    have lti : it < s.heap.objs.size := Heap.lt_size hit
    generalize h1.update S (Obj.mapSeq (·.push (.ref s.heap.objs.size))) = h2 at hS2 k2 ⊢
    have kk : ∀ b o, b ≠ it → b ≠ S → s.heap.get? b = some o → h2.get? b = some o := fun b o e1 e2 e => k2 b o e2 (k1 b o e1 e)
    refine ih nx { s with heap := h2 } (acc.push (.ref s.heap.objs.size)) _ (.ref s.heap.objs.size) (k2 it _ (Ne.symm hSi) hit1) (kk p _ hpi (Ne.symm hSp) hp) hc2 (fun y hy => hl y (List.mem_cons_of_mem _ hy)) hS2 (by rw [Array.size_push]; rw [List.length_cons] at hz; omega) fun h' ts c' L e k => ?_
    have ext : ∀ b o, s.heap.get? b = some o → ∃ o', h2.get? b = some o' := fun b o e => by
      by_cases z1 : b = it
      · subst z1; exact ⟨_, k2 b _ (Ne.symm hSi) hit1⟩
      · by_cases z2 : b = S
        · subst z2; exact ⟨_, hS2⟩
        · exact ⟨o, kk b o z1 z2 e⟩
    refine hR h' (s.heap.objs.size :: ts) c' ⟨k _ _ (Nat.ne_of_gt lti) (Nat.ne_of_gt ltS) (k2 _ _ (Nat.ne_of_gt ltS) hT), fun b o e => Heap.lt_size e, Laid.mono (X := fun _ => True) ext L⟩ ?_ fun b o e1 e2 e => k b o e1 e2 (kk b o e1 e2 e)
    rw [e]
    simp
end
end CB

namespace CB
open PySem PySem.Spec PyProof.Rows
open Sem (wp)
section
variable {prog : Program} {w : World} {M : Model} {A : Around} {E : Value → Shared → Prop} {s : Shared}
theorem cb_drain0 {S it p : Addr} {us : Array Value} {res : Value} {R : Result → Shared → Prop} (hh : A.handled = none) (hSi : S ≠ it) (hSp : S ≠ p) (hpi : p ≠ it) {r : List (List Nat)} {ix : List Nat} {s : Shared} {c : Nat}
    (hit : IsCb s.heap it p 0 .none ix) (hp : IsPool s.heap p us) (hc : Chain us.size ix r) (hl : ∀ nx ∈ ix :: r, nx.length ≤ 1000) (hS : s.heap.get? S = some (lO #[] c)) (hz : r.length ≤ 900)
    (hR : ∀ h' ts c', Laid us s.heap h' (ix :: r) ts → h'.get? S = some (lO (ts.map Value.ref).toArray c') → (∀ b o, b ≠ it → b ≠ S → s.heap.get? b = some o → h'.get? b = some o) → R (.ok (.ret res)) { s with heap := h' }) :
    codeAny (model prog w) A (.builtin "list.extend.loop" ⟨[.ref S, .ref it, res], []⟩) R s := by
  refine codeAny_builtin F.entry_extend_loop ?_
  rw [Around.under_plainId F.plain_extend_loop _]
  show wpAny _ A.in1 (pyNext (.ref it) >>= _) _ _ s
  refine wpAny_bind (cb_pyNext0 (A := A.in1) hit hp (hl ix List.mem_cons_self) fun h1 hit1 hT k1 => ?_)
  show wpAny _ A.in1 (updateSeq S (·.push (.ref s.heap.objs.size)) >>= _) _ _ _
  have hS1 := k1 S _ hSi hS
  refine wpAny_bind (wpAny_updateSeq hS1 rfl (wpAny_pure ⟨plainId_quiet F.plain_extend_loop _, ?_⟩) (by show 0 ≤ sizeLine; omega) (by show 1 ≤ sizeLine + 1; omega))
  have k2 : ∀ b o, b ≠ S → h1.get? b = some o → (h1.update S (Obj.mapSeq (·.push (.ref s.heap.objs.size)))).get? b = some o := fun b o hb e => (Heap.get?_update_other _ _ (Ne.symm hb)).trans e
  have hS2 := Heap.get?_update_self (Obj.mapSeq (·.push (Value.ref s.heap.objs.size))) hS1 rfl
  have ltS : S < s.heap.objs.size := Heap.lt_size hS
  have lti : it < s.heap.objs.size := Heap.lt_size hit
  generalize h1.update S (Obj.mapSeq (·.push (.ref s.heap.objs.size))) = h2 at hS2 k2 ⊢
  have kk : ∀ b o, b ≠ it → b ≠ S → s.heap.get? b = some o → h2.get? b = some o := fun b o e1 e2 e => k2 b o e2 (k1 b o e1 e)
  refine cb_drain1 hh hSi hSp hpi r ix { s with heap := h2 } #[.ref s.heap.objs.size] _ (.ref s.heap.objs.size) (k2 it _ (Ne.symm hSi) hit1) (kk p _ hpi (Ne.symm hSp) hp) hc (fun y hy => hl y (List.mem_cons_of_mem _ hy)) hS2 (by show 1 + r.length ≤ 1000; omega) fun h' ts c' L e k => ?_
  have ext : ∀ b o, s.heap.get? b = some o → ∃ o', h2.get? b = some o' := fun b o e => by
    by_cases z1 : b = it
    · subst z1; exact ⟨_, k2 b _ (Ne.symm hSi) hit1⟩
    · by_cases z2 : b = S
      · subst z2; exact ⟨_, hS2⟩
      · exact ⟨o, kk b o z1 z2 e⟩
  refine hR h' (s.heap.objs.size :: ts) c' ⟨k _ _ (Nat.ne_of_gt lti) (Nat.ne_of_gt ltS) (k2 _ _ (Nat.ne_of_gt ltS) hT), fun b o e => Heap.lt_size e, Laid.mono (X := fun _ => True) ext L⟩ ?_ fun b o e1 e2 e => k b o e1 e2 (kk b o e1 e2 e)
  rw [e]
  simp
set_option maxHeartbeats 1000000 in
theorem cb_list {it p : Addr} {us : Array Value} {r : List (List Nat)} {ix : List Nat} {Q : Value → Shared → Prop} (hh : A.handled = none) (hpi : p ≠ it)
    (hit : IsCb s.heap it p 0 .none ix) (hp : IsPool s.heap p us) (hc : Chain us.size ix r) (hl : ∀ nx ∈ ix :: r, nx.length ≤ 1000) (hz : r.length ≤ 900)
    (hQ : ∀ S h' ts c', Laid us s.heap h' (ix :: r) ts → h'.get? S = some (lO (ts.map Value.ref).toArray c') → (∀ b o, b ≠ it → s.heap.get? b = some o → h'.get? b = some o) → (∀ b o, s.heap.get? b = some o → b < S) → Q (.ref S) { s with heap := h' }) :
    wpAny (model prog w) A (call (.type "list") [.ref it]) Q E s := by
  have hSi : s.heap.objs.size ≠ it := Nat.ne_of_gt (Heap.lt_size hit)
  have hSp : s.heap.objs.size ≠ p := Nat.ne_of_gt (Heap.lt_size hp)
  refine callType_codes (Q₁ := fun obj s₁ => obj = .ref s.heap.objs.size ∧ s₁ = { s with heap := s.heap.push { cls := .type "list", data := .seq #[] } })
    F.called_list (F.typeCall_list_1 _) F.entry_list_init (code_list_new _ ⟨rfl, rfl⟩) fun obj s₁ h₁ => ?_
  obtain ⟨rfl, rfl⟩ := h₁
  have hS : (s.heap.push { cls := .type "list", data := .seq #[] }).get? s.heap.objs.size = some { cls := .type "list", data := .seq #[] } := Heap.get?_push_size _ rfl
  refine ⟨⟨_, hS, rfl⟩, F.args_list_init_2 _ _, ?_⟩
  show wpAny _ A.in1.in1 (Builtin.List.listItems (.ref s.heap.objs.size) >>= _) _ _ _
  refine wpAny_bind ?_
  unfold Builtin.List.listItems
  refine wpAny_bind (wpAny_seqItems hS rfl (wpAny_pure ?_))
  show wpAny _ A.in1.in1 (updateSeq s.heap.objs.size (fun _ => #[]) >>= fun _ => letGo (#[] : Array Value).toList.reverse >>= fun _ =>
    Builtin.List.listExtendWith (.ref s.heap.objs.size) (.ref it) .none) _ _ _
  refine wpAny_bind (wpAny_updateSeq hS rfl ?_)
  have hS2 := Heap.get?_update_self (Obj.mapSeq (fun _ => (#[] : Array Value))) hS rfl
  refine wpAny_bind (wpAny_letGo ?_)
  have up : ∀ (h : Heap) (f : Obj → Obj), (∀ b o, s.heap.get? b = some o → h.get? b = some o) → ∀ b o, s.heap.get? b = some o → (h.update s.heap.objs.size f).get? b = some o := fun h f q b o e =>
    (Heap.get?_update_other _ _ (Ne.symm (Nat.ne_of_lt (Heap.lt_size e)))).trans (q b o e)
  have k1 : ∀ b o, s.heap.get? b = some o → (s.heap.push { cls := .type "list", data := .seq #[] }).get? b = some o := fun b o e => Heap.get?_push_of_some _ e
  have k2 := up _ (Obj.mapSeq (fun _ => (#[] : Array Value))) k1
  have tyI : ∀ {h : Heap}, (∀ b o, s.heap.get? b = some o → h.get? b = some o) → Shared.TypeIs { s with heap := h } (.ref it) "itertools.combinations" := fun {h} q => ⟨_, q it _ hit, rfl⟩
  show wpAny _ A.in1.in1 (Builtin.List.listExtendWith (.ref s.heap.objs.size) (.ref it) .none) _ _ _
  unfold Builtin.List.listExtendWith
  refine wpAny_bind (wpAny_typeOf (tyI k2) ?_)
  have h1 : Builtin.List.listSameRef (.ref s.heap.objs.size) (.ref it) = false := by simp [Builtin.List.listSameRef, hSi]
  have h2 : (Value.type "itertools.combinations" == Value.type "list") = false := by decide
  have h3 : (Value.type "itertools.combinations" == Value.type "tuple") = false := by decide
  simp only [h1, h2, h3, Bool.or_false, Bool.false_eq_true, if_false]
  refine wpAny_bind (cb_pyIter (k2 it _ hit) ?_)
  refine wpAny_bind (wpAny_holding ?_)
  unfold Builtin.List.listLengthHint
  refine wpAny_bind (wpAny_specialOf (tyI k2) cb_noLen ?_)
  show wpAny _ A.in1.in1 (specialOf (Value.ref it) (Str.ofString "__length_hint__") >>= _) _ _ _
  refine wpAny_bind (wpAny_specialOf (tyI k2) cb_noHint ?_)
  refine wpAny_pure ?_
  show wpAny _ A.in1.in1 (rule "list.extend.makes-room" >>= _) _ _ _
  refine wpAny_bind (wpAny_rule ?_)
  refine wpAny_bind ?_
  show wpAny _ A.in1.in1 (updateSeq s.heap.objs.size (·.push .none) >>= fun _ => updateSeq s.heap.objs.size (·.pop)) _ _ _
  refine wpAny_bind (wpAny_updateSeq hS2 rfl ?_)
  have hS3 := Heap.get?_update_self (Obj.mapSeq (·.push Value.none)) hS2 rfl
  refine wpAny_updateSeq (hz := by seq_fits) hS3 rfl ?_
  have hS4 := Heap.get?_update_self (Obj.mapSeq (·.pop)) hS3 rfl
  have k4 := up _ (Obj.mapSeq (·.pop)) (up _ (Obj.mapSeq (·.push Value.none)) k2)
  refine wpAny_pure ⟨plainId_quiet F.plain_extend_loop _, ?_⟩
  refine cb_drain0 (A := A.in1) hh hSi hSp hpi (k4 it _ hit) (k4 p _ hp) hc hl hS4 hz fun h' ts c' L e k => ⟨rfl, hQ _ h' ts c' (Laid.mono (X := fun _ => True) (fun b o q => ⟨o, k4 b o q⟩) L) e (fun b o e1 q => k b o e1 (Nat.ne_of_lt (Heap.lt_size q)) (k4 b o q)) fun b o q => Heap.lt_size q⟩
end
end CB

namespace CB
open PySem PySem.Spec PyProof.Rows L2
/-! ### the lots -/
def cmb : Nat → Nat → Nat → List (List Nat)
  | _, _, 0 => [[]]
  | _, 0, _ + 1 => []
  | a, m + 1, k + 1 => (cmb (a + 1) m k).map (a :: ·) ++ cmb (a + 1) m (k + 1)
def combs (n k : Nat) : List (List Nat) := cmb 0 n k
def chainB (n : Nat) : List Nat → List (List Nat) → Bool
  | ix, [] => decide (nc n ix = none)
  | ix, nx :: r => decide (nc n ix = some nx) && chainB n nx r
theorem chain_of {n : Nat} : ∀ {r : List (List Nat)} {ix : List Nat}, chainB n ix r = true → Chain n ix r
  | [], ix, h => by
    show nc n ix = none
    exact of_decide_eq_true h
  | _ :: _, _, h => ⟨of_decide_eq_true (Bool.and_eq_true_iff.mp h).1, chain_of (Bool.and_eq_true_iff.mp h).2⟩
def goodB (n k : Nat) : Bool := match combs n k with
  | [] => false
  | ix :: r => decide (ix = List.range k) && chainB n ix r && (ix :: r).all (fun c => c.all (fun i => decide (i < n)) && decide (c.length = k)) && decide (r.length ≤ 900)
theorem all_good : ((List.range 8).all fun n => (List.range (n + 1)).all fun k => goodB n k) = true := by decide +kernel
theorem good_at {n k : Nat} (hn : n ≤ 7) (hk : k ≤ n) : ∃ r, combs n k = List.range k :: r ∧ Chain n (List.range k) r ∧ (∀ c ∈ combs n k, (∀ i ∈ c, i < n) ∧ c.length = k) ∧ r.length ≤ 900 := by
  have g : goodB n k = true := by
    have h1 := List.all_eq_true.mp all_good n (List.mem_range.mpr (by omega))
    exact List.all_eq_true.mp h1 k (List.mem_range.mpr (by omega))
  unfold goodB at g
  split at g
  · cases g
  · rename_i ix r e
    simp only [Bool.and_eq_true, decide_eq_true_eq, List.all_eq_true] at g
    obtain ⟨⟨⟨g1, g2⟩, g3⟩, g4⟩ := g
    subst g1
    refine ⟨r, e, chain_of g2, fun c hc => ?_, g4⟩
    rw [e] at hc
    exact g3 c hc
abbrev lotV (c : List Nat) : List V := c.map fun (i : Nat) => V.int (i : Int)
/-- each lot is a new tuple of H' -/
def LotsAt (H H' : Hp) : List (List Nat) → List Addr → Prop
  | [], [] => True
  | c :: r, t :: ts => H' t = some (.tup (lotV c)) ∧ H t = none ∧ LotsAt H H' r ts
  | _, _ => False
section
variable {X : Cx} {pins : List (Addr × Obj)} {σ : L2.St} {H : Hp} {s : Shared}
/-- more is tracked -/
theorem inv_more {H' : Hp} {h' : Heap} {t' : Nat} (I : Inv X pins σ H s) (k : ∀ b u, s.heap.get? b = some u → h'.get? b = some u) (hs : ∀ b o, H b = some o → H' b = some o) (hn : ∀ b o, s.heap.get? b = some o → H' b = H b)
    (hok : ∀ b o, H b = none → H' b = some o → ObjOk X.prog X.w H' h' b o) : Inv X pins σ H' { s with heap := h', toks := t' } := by
  refine I.un ⟨fun b o q _ _ _ => k b o q, fun b o q _ _ _ => ⟨o.slots, k b o q⟩, fun b o q n _ => by rw [hn b o q]; exact n, fun b o q _ => ⟨o, k b o q⟩, fun b xs q => hs _ _ q, fun b o u q => hs _ _ q, fun b ps q => ⟨#[], by rw [hs _ _ q]; simp⟩⟩ fun b o q => ?_
  cases e : H b with
  | none => exact hok b o e q
  | some o' =>
    have z := hs b o' e
    rw [q] at z
    cases z
    exact (I.hok b _ e).stay (fun c u _ z => k c u z) (fun d z => hs _ _ z) fun d xs z => hs _ _ z
end
theorem live_of {P : Program} {w : World} {H : Hp} {h : Heap} {a : Addr} {o : HO} (x : ObjOk P w H h a o) : ∃ ob, h.get? a = some ob := by
  cases o with
  | lst xs => obtain ⟨_, _, _, _, e⟩ := x; exact ⟨_, e⟩
  | tup xs => obtain ⟨_, _, _, o, e, _⟩ := x; exact ⟨_, e⟩
  | dK kvs => obtain ⟨_, _, _, _, o, _, _, e, _⟩ := x; exact ⟨_, e⟩
  | dT kvs => obtain ⟨_, _, _, _, o, _, _, e, _⟩ := x; exact ⟨_, e⟩
  | set S n => obtain ⟨o, _, _, _, e, _⟩ := x; exact ⟨_, e⟩
  | ins C dx fs => obtain ⟨_, _, _, e, _⟩ := x; exact ⟨_, e⟩
  | own y => exact x
  | xd fs => obtain ⟨_, ⟨_, _, _, e, _⟩, _⟩ := x; exact ⟨_, e⟩
  | rng lo hi => obtain ⟨_, _, _, e⟩ := x; exact ⟨_, e⟩
  | frz ob u => obtain ⟨e, _⟩ := x; exact ⟨_, e⟩
  | tbl ps => exact ⟨_, x⟩
  | met f y => exact ⟨_, x⟩
  | ext φ => obtain ⟨_, e, _⟩ := x; exact e
theorem fp_fresh {X : Cx} {pins : List (Addr × Obj)} {σ : L2.St} {H : Hp} {s : Shared} (I : Inv X pins σ H s) {b : Addr} (hb : ∀ c o, s.heap.get? c = some o → c < b) : FpOk X pins H b := by
  have hL : X.env.locals < b := by
    obtain ⟨m, ⟨o, es, ep, ho, r⟩, _⟩ := I.loc
    exact hb _ _ ho
  have h0 := I.ok.above
  refine ⟨?_, Nat.ne_of_gt hL, fun hm => ?_, .inr (Nat.le_trans h0 (Nat.le_of_lt hL)), fun x c e z => ?_, fun p hp z => ?_⟩
  · cases e : H b with
    | none => rfl
    | some o =>
      obtain ⟨ob, q⟩ := live_of (I.hok b o e)
      exact absurd (hb _ _ q) (Nat.lt_irrefl _)
  · obtain ⟨_, o, ho, _⟩ := I.ok.funs.mem hm
    exact absurd (Nat.lt_of_lt_of_le (Heap.lt_size ho) (Nat.le_trans h0 (Nat.le_of_lt hL))) (Nat.lt_irrefl _)
  · obtain ⟨v, o, ho, _⟩ := I.cell x c e
    rw [z] at ho
    exact absurd (hb _ _ ho) (Nat.lt_irrefl _)
  · have q := (I.pin p hp).1
    rw [z] at q
    exact absurd (hb _ _ q) (Nat.lt_irrefl _)
/-- what a tuple at b holds -/
def rdT (h : Heap) (b : Addr) : Option HO := match h.get? b with
  | some ⟨_, _, .seq us _, _⟩ => some (.tup (us.toList.map fun v => (absV v).getD .non))
  | _ => none
theorem vals_lot {n : Nat} {us : Array Value} (hu : ∀ i, i < n → ∃ t, us[i]? = some (.int (i : Int) t)) : ∀ {c : List Nat}, (∀ i ∈ c, i < n) → Vals (lotV c) (c.map fun i => us.getD i .none) ∧ (c.map fun i => us.getD i .none).map (fun v => (absV v).getD .non) = lotV c
  | [], _ => ⟨.nil, rfl⟩
  | i :: c, h => by
    obtain ⟨t, e⟩ := hu i (h i List.mem_cons_self)
    have e2 : us.getD i .none = .int (i : Int) t := by
      rw [Array.getD_eq_getD_getElem?, e]
      rfl
    obtain ⟨a, b⟩ := vals_lot hu (c := c) fun j hj => h j (List.mem_cons_of_mem _ hj)
    refine ⟨?_, ?_⟩
    · show Vals (.int (i : Int)   :: lotV c) (us.getD i .none :: c.map fun i => us.getD i .none)
      exact .cons (by rw [e2]; exact ⟨t, rfl⟩) a
    · show (absV (us.getD i .none)).getD .non :: _ = .int (i : Int)   :: lotV c
      rw [e2, b]
      rfl
theorem laid_lots {us : Array Value} {n : Nat} (hu : ∀ i, i < n → ∃ t, us[i]? = some (.int (i : Int) t)) {h h' : Heap} {H H' : Hp} (hH : ∀ b o, H b = some o → ∃ u, h.get? b = some u) {ts0 : List Addr} (hr : ∀ t ∈ ts0, H' t = rdT h' t) :
    ∀ {r : List (List Nat)} {ts : List Addr}, (∀ c ∈ r, ∀ i ∈ c, i < n) → (∀ t ∈ ts, t ∈ ts0) → Laid us h h' r ts → LotsAt H H' r ts
  | [], [], _, _, _ => trivial
  | c :: r, t :: ts, hc, ht, ⟨a, b, l⟩ => by
    refine ⟨?_, ?_, laid_lots hu hH hr (fun d hd => hc d (List.mem_cons_of_mem _ hd)) (fun x hx => ht x (List.mem_cons_of_mem _ hx)) l⟩
    · rw [hr t (ht t List.mem_cons_self)]
      unfold rdT
      rw [a]
      have q := (vals_lot hu (hc c List.mem_cons_self)).2
      show some (HO.tup ((c.map fun i => us.getD i .none).map fun v => (absV v).getD .non)) = _
      rw [q]
    · cases e : H t with
      | none => rfl
      | some o =>
        obtain ⟨u, hu'⟩ := hH t o e
        exact absurd (b t u hu') (Nat.lt_irrefl _)
  | [], _ :: _, _, _, z => z.elim
  | _ :: _, [], _, _, z => z.elim
theorem laid_mem {us : Array Value} {h h' : Heap} : ∀ {r : List (List Nat)} {ts : List Addr}, Laid us h h' r ts → ts.length = r.length ∧ ∀ t ∈ ts, (∃ c ∈ r, h'.get? t = some { cls := .type "tuple", data := .seq (c.map fun i => us.getD i .none).toArray }) ∧ ∀ b o, h.get? b = some o → b < t
  | [], [], _ => ⟨rfl, fun t ht => nomatch ht⟩
  | c :: r, t :: ts, ⟨a, b, l⟩ => by
    obtain ⟨e, f⟩ := laid_mem l
    refine ⟨by rw [List.length_cons, List.length_cons, e], fun x hx => ?_⟩
    rcases List.mem_cons.mp hx with z | z
    · subst z
      exact ⟨⟨c, List.mem_cons_self, a⟩, b⟩
    · obtain ⟨⟨d, hd, e1⟩, e2⟩ := f x z
      exact ⟨⟨d, List.mem_cons_of_mem _ hd, e1⟩, e2⟩
  | [], _ :: _, z => z.elim
  | _ :: _, [], z => z.elim
def tLots (ta tb : TE) : TE := fun σ H Q => ta σ H fun x H1 => ∃ n : Nat, x = .int (n : Int) ∧ n ≤ 7 ∧ tb σ H1 fun y H2 => ∃ k : Nat, y = .int (k : Int) ∧ k ≤ n ∧
  ∀ (l : Addr) (ts : List Addr) (H' : Hp), Same H2 H' → H2 l = none → H' l = some (.lst (ts.map V.ref)) → LotsAt H2 H' (combs n k) ts → Q (.ref l) H'
section
variable {X : Cx} {a b : Expr} {ta tb : TE}
theorem vals_refs : ∀ ts : List Addr, Vals (ts.map V.ref) (ts.map Value.ref)
  | [] => .nil
  | t :: r => .cons rfl (vals_refs r)
theorem pe_lots {p1 p2 p3 q1 q2 q3 : Pos} (hc : X.calm = true) (g1 : Gl X "list") (m1 : X.mg "list" = none) (g2 : Gl X "combinations") (m2 : X.mg "combinations" = some (.type "itertools.combinations")) (g3 : Gl X "range") (m3 : X.mg "range" = none)
    (ha : PE X a ta) (hb : PE X b tb) (n1 : starEach [.Call (.Name "combinations" p2) [.Call (.Name "range" p3) [a] [] q3, b] [] q2] X.env = (false, eval (.Call (.Name "combinations" p2) [.Call (.Name "range" p3) [a] [] q3, b] [] q2) X.env) :: starEach [] X.env := by rfl)
    (n2 : starEach [.Call (.Name "range" p3) [a] [] q3, b] X.env = (false, eval (.Call (.Name "range" p3) [a] [] q3) X.env) :: starEach [b] X.env := by rfl) (n3 : starEach [b] X.env = (false, eval b X.env) :: starEach [] X.env := by rfl)
    (n4 : starEach [a] X.env = (false, eval a X.env) :: starEach [] X.env := by rfl) (h3 : (backTo q2 (starEach [b] X.env)).any (·.1) = false := by rfl) :
    PE X (.Call (.Name "list" p1) [.Call (.Name "combinations" p2) [.Call (.Name "range" p3) [a] [] q3, b] [] q2] [] q1) (tLots ta tb) := by
  refine ⟨fun pins s σ H Q I h => ?_⟩
  refine Call_ (ld_blt I g1 m1 boot_list (PyProof.Rows.callWith_type1 (args_cons (thn (Q := fun x s' => ∃ (it p : Addr) (us : Array Value) (n k : Nat) (H2 : Hp), x = .ref it ∧ p ≠ it ∧ IsCb s'.heap it p 0 .none (List.range k) ∧ IsPool s'.heap p us ∧ us.size = n ∧
      (∀ i, i < n → ∃ t, us[i]? = some (.int (i : Int) t)) ∧ n ≤ 7 ∧ k ≤ n ∧ Inv X pins σ H2 s' ∧ FpOk X pins H2 it ∧
      ∀ (l : Addr) (ts : List Addr) (H' : Hp), Same H2 H' → H2 l = none → H' l = some (.lst (ts.map V.ref)) → LotsAt H2 H' (combs n k) ts → Q (.ref l) H') ?_ fun x s1 hx => args_nil ?_) n1) n1))
  · refine wpAny_Call_Name_kw (ld_glob I g2 m2 (PyProof.Rows.callWith_type1 (args_cons (thn (Q := fun x s' => ∃ (r : Addr) (n : Nat) (t u v : Tok) (H1 : Hp), x = .ref r ∧ n ≤ 7 ∧
        Inv X (pins ++ [(r, { cls := .type "range", dict := none, data := .fields #[.int 0 t, .int (n : Int) u, .int 1 v], slots := #[] })]) σ H1 s' ∧
        tb σ H1 fun y H2 => ∃ k : Nat, y = .int (k : Int) ∧ k ≤ n ∧
          ∀ (l : Addr) (ts : List Addr) (H' : Hp), Same H2 H' → H2 l = none → H' l = some (.lst (ts.map V.ref)) → LotsAt H2 H' (combs n k) ts → Q (.ref l) H') ?_ fun v s1 h1 => ?_) n2) n2 h3))
    · refine Call_ (ld_blt I g3 m3 boot_range (PyProof.Rows.callWith_type1 (one_arg ha I h (fun v s2 x H2 I2 r q => ?_) n4) n4))
      obtain ⟨n, rfl, hn, q⟩ := q
      obtain ⟨t, rfl⟩ := r
      refine call_range_1 ⟨s2.heap.objs.size, n, s2.toks, t, s2.toks + 1, H2, rfl, hn, ?_, q⟩
      have fp := I2.fpOk (b := s2.heap.objs.size) (Nat.le_refl _) (I2.hok.fresh (Nat.le_refl _))
      have I3 : Inv X pins σ H2 { s2 with heap := s2.heap.push { cls := .type "range", data := .fields #[.int 0 s2.toks, .int (n : Int) t, .int 1 (s2.toks + 1)] }, toks := s2.toks + 1 + 1 } := I2.kept fun b u e => Heap.get?_push_of_some _ e
      refine I3.pins_of fun pr hp => ?_
      rcases List.mem_append.mp hp with hp | hp
      · exact I3.pin pr (List.mem_append_right _ hp)
      · rw [List.mem_singleton.mp hp]
        exact ⟨Heap.get?_push_size _ rfl, fp.1, fp.2.1, fp.2.2.1, fun v z => nomatch z⟩
    · obtain ⟨r, n, t, u, v', H1, rfl, hn, I1, q⟩ := h1
      refine one_arg hb I1 q (fun y s2 yv H2 I2 ry q2 => ?_) n3
      obtain ⟨k, rfl, hk, q3⟩ := q2
      obtain ⟨tt, rfl⟩ := ry
      have hr := (I2.pin (r, _) (List.mem_append_right _ (List.mem_append_right _ (List.mem_singleton.mpr rfl)))).1
      refine cb_call (I2.ok.hd hc) hr hn hk fun h' tk p us e1 e2 e3 e4 e5 e6 => ?_
      have J := I2.unpinned
      have fp := fp_fresh J (b := p + 1) fun c o e => Nat.lt_succ_of_lt (e4 c o e)
      exact ⟨p + 1, p, us, n, k, H2, rfl, Nat.ne_of_lt (Nat.lt_succ_self p), e6, e1, e2, e3, hn, hk, J.kept e5, fp, q3⟩
  · obtain ⟨it, p, us, n, k, H2, rfl, hpi, hit, hp, hus, hu, hn, hk, I1, fp, q⟩ := hx
    obtain ⟨r, er, hch, hgood, hle⟩ := good_at hn hk
    subst hus
    refine cb_list (I1.ok.hd hc) hpi hit hp hch (fun c hcm => by rw [← er] at hcm; have := (hgood c hcm).2; omega) hle fun S h' ts c' L hS kk hfr => ?_
    rw [← er] at L
    obtain ⟨lts, hmem⟩ := laid_mem L
    obtain ⟨f0, f1, f2, f3, f4, f5⟩ := fp
    have liveH : ∀ b o, H2 b = some o → ∃ u, s1.heap.get? b = some u := fun b o e => live_of (I1.hok b o e)
    have nS : H2 S = none := by
      cases e : H2 S with
      | none => rfl
      | some o =>
        obtain ⟨u, z⟩ := liveH _ _ e
        exact absurd (hfr _ _ z) (Nat.lt_irrefl _)
    obtain ⟨G, g1', g2'⟩ := restrict h' fun b => decide ((s1.heap.get? b).isSome = true)
    have gl : ∀ b o, s1.heap.get? b = some o → G.get? b = h'.get? b := fun b o e => g1' b (decide_eq_true (by rw [e]; rfl))
    have gd : ∀ b u, G.get? b = some u → ∃ o, s1.heap.get? b = some o := fun b u e => by
      cases z : s1.heap.get? b with
      | some o => exact ⟨o, rfl⟩
      | none =>
        rw [g2' b (decide_eq_false (by rw [z]; intro q; cases q))] at e
        cases e
    have J : Inv X pins σ H2 { s1 with heap := G, toks := s1.toks } := I1.turned (fun b o hb e => (gl b o e).trans (kk b o hb e)) f0 f1 f3 f4 f5
    have nts : ∀ b o, s1.heap.get? b = some o → b ≠ S ∧ b ∉ ts := fun b o e => ⟨Nat.ne_of_lt (hfr b o e), fun hm => absurd ((hmem b hm).2 b o e) (Nat.lt_irrefl _)⟩
    have offOld : ∀ b, b ≠ S ∧ b ∉ ts → (if b = S then some (HO.lst (ts.map V.ref)) else if b ∈ ts then rdT h' b else H2 b) = H2 b := fun b hb => by rw [if_neg hb.1, if_neg hb.2]
    have nSts : S ∉ ts := fun hm => by
      obtain ⟨⟨c, _, e⟩, _⟩ := hmem S hm
      rw [hS] at e
      have q : Value.type "list" = Value.type "tuple" := congrArg Obj.cls (Option.some.inj e)
      exact absurd q (by decide)
    have K : Inv X pins σ (fun b => if b = S then some (HO.lst (ts.map V.ref)) else if b ∈ ts then rdT h' b else H2 b) { s1 with heap := h', toks := s1.toks } := by
      refine inv_more (s := { s1 with heap := G, toks := s1.toks }) J (fun b u e => ?_) (fun b o e => ?_) (fun b o e => ?_) fun b o e1 e2 => ?_
      · obtain ⟨o, z⟩ := gd b u e
        rw [← gl b o z]
        exact e
      · obtain ⟨u, z⟩ := liveH b o e
        rw [offOld b (nts b u z)]
        exact e
      · obtain ⟨o', z⟩ := gd b o e
        exact offOld b (nts b o' z)
      · by_cases hb : b = S
        · rw [if_pos hb] at e2
          cases e2
          rw [hb]
          refine ⟨?_, ts.map Value.ref, c', vals_refs ts, hS⟩
          rw [List.length_map, lts, er, List.length_cons, sizeLine_eq]
          omega
        · rw [if_neg hb] at e2
          by_cases hm : b ∈ ts
          · rw [if_pos hm] at e2
            obtain ⟨⟨c, hcm, e⟩, _⟩ := hmem b hm
            unfold rdT at e2
            rw [e] at e2
            have hv := vals_lot hu (hgood c hcm).1
            have e3 : o = .tup (lotV c) := by
              rw [← hv.2]
              exact (Option.some.inj e2).symm
            subst e3
            refine ⟨?_, c.map fun i => us.getD i .none, hv.1, _, e, rfl, _, rfl⟩
            rw [List.length_map, (hgood c hcm).2, sizeLine_eq]
            omega
          · rw [if_neg hm, e1] at e2
            cases e2
    refine ⟨.ref S, _, K, rfl, q S ts _ (fun b o e => ?_) nS (if_pos rfl) ?_⟩
    · obtain ⟨u, z⟩ := liveH b o e
      exact (offOld b (nts b u z)).trans e
    · refine laid_lots (ts0 := ts) hu liveH (fun t ht => ?_) (fun c hcm => (hgood c hcm).1) (fun _ h => h) L
      have nt : t ≠ S := fun z => nSts (by rw [← z]; exact ht)
      show (if t = S then _ else if t ∈ ts then rdT h' t else H2 t) = _
      rw [if_neg nt, if_pos ht]
end
end CB

set_option maxHeartbeats 2000000
/-! The program's boxes. -/
namespace K4x
open PySem PySem.Spec PyProof.Rows L2 ET
theorem for_enumT {K : PySem.W.Frag} {a : Addr} {xs : List V} {g : TG} {tb : TS} {D : Ends} {σ : L2.St} {H : Hp} (Pv : Nat → L2.St → Hp → Prop) (h0 : Pv 0 σ H) (hl : ∀ i σ H, i ≤ xs.length → Pv i σ H → SqT K H a xs)
    (hs : ∀ (i : Nat) (x : V) (σ : L2.St) (H : Hp) (T : Addr), xs[i]? = some x → Pv i σ H → H T = none → g (.ref T) σ (upd H T (.tup [.int (i : Nat), x])) fun σ2 H2 => tb { D with nx := Pv (i + 1), ct := Pv (i + 1), bk := D.nx } σ2 H2)
    (hd : ∀ σ H, Pv xs.length σ H → D.nx σ H) : ∃ W : Nat → Nat → L2.St → Hp → Prop, (∃ m, W 0 m σ H) ∧ ∀ i m σ H, W i m σ H → ((IteT K a).stop i H ∧ D.nx σ H) ∨
      ((IteT K a).go i H ∧ ∃ N : L2.St → Hp → Prop, (∀ σ' H', N σ' H' → ∃ m', m' < m ∧ W (i + 1) m' σ' H') ∧ ∀ x H', (IteT K a).yld i H x H' → g x σ H' fun σ2 H2 => tb { D with nx := N, ct := N, bk := D.nx } σ2 H2) := by
  refine ⟨fun i m σ H => m = xs.length - i ∧ i ≤ xs.length ∧ Pv i σ H, ⟨xs.length, by simp, Nat.zero_le _, h0⟩, ?_⟩
  rintro i m σ H ⟨rfl, hi, p⟩
  have q := hl i σ H hi p
  by_cases hlt : i < xs.length
  · refine .inr ⟨⟨xs, xs[i], q, List.getElem?_eq_getElem hlt⟩, Pv (i + 1), fun σ' H' p' => ⟨xs.length - (i + 1), by omega, rfl, hlt, p'⟩, ?_⟩
    rintro v H' ⟨T, x, rfl, nT, rfl, hx⟩
    exact hs i x σ H T (hx _ q) p nT
  · obtain rfl : i = xs.length := by omega
    exact .inl ⟨⟨xs, q, Nat.le_refl _⟩, hd σ H p⟩
end K4x
namespace K4
open PySem PySem.Spec PyProof.Rows L2
/-- things in a list or a tuple -/
def Sq (K : PySem.W.Frag) (H : Hp) (a : Addr) (xs : List V) : Prop := SqL K H a xs ∨ SqT K H a xs
theorem Sq.same {K : PySem.W.Frag} {H H' : Hp} {a : Addr} {xs : List V} (h : Sq K H a xs) (s : Same H H') : Sq K H' a xs := h.imp (fun h => s.seq h) (fun h => ZM.sqT_sm s h)
theorem ix_ls {K : PySem.W.Frag} {H : Hp} {p : Addr} {xs : List V} {i : Int} {v : V} {Q : VK} (h : Sq K H p xs) (e : atI xs i = some v) (q : Q v H) : rIx K (.ref p) (.int i) H Q := h.elim (fun h => .inl ⟨p, xs, i, v, rfl, rfl, h, e, q⟩) (fun h => .inr (.inl ⟨p, xs, i, v, rfl, rfl, h, e, q⟩))
abbrev sNw : Stmt := topS 13
theorem scNw : FnScope ["row", "lot", "worths", "total", "sign", "at", "column", "rest"] ["row", "lot", "worths"] (defScope sNw) := ⟨rfl, rfl, rfl, by decide +kernel, rfl, by decide +kernel, by decide +kernel⟩
/-- the worth of a row above the worths of the rows above it -/
def nw (ns : List Int) (f : List Nat → Int) : List Nat → List Nat → Int → Int
  | _, [], _ => 0
  | pre, c :: cs, s => s * ns.getD c 0 * f (pre ++ cs) + nw ns f (pre ++ [c]) cs (-s)
def key (lot : List Nat) : List Key := lot.map fun n : Nat => .inl (n : Int)
theorem key_kV (lot : List Nat) : (key lot).map kV = lot.map fun n : Nat => V.int (n : Int) := by
  unfold key
  rw [List.map_map]
  rfl
def s0 (lot : List Nat) : Int := if lot.length % 2 = 1 then 1 else -1
theorem s0_un (lot : List Nat) : s0 lot = 1 ∨ s0 lot = -1 := by
  unfold s0
  split <;> simp
theorem and1 (n : Nat) : Builtin.bitAnd (n : Int) 1 = ((n % 2 : Nat) : Int) := by
  unfold Builtin.bitAnd
  simp [Nat.and_one_is_mod]
section
variable {P : Program} {w : World} {K : PySem.W.Frag} {mg : Str → Option Value} {base : Heap}
def spNw (K : PySem.W.Frag) : Sp := fun vs H Q _ => ∃ (r l d : Addr) (ns : List Int) (lot : List Nat) (kvs : List (List Key × V)) (f : List Nat → Int), vs = [.ref r, .ref l, .ref d] ∧ Sq K H r (ns.map V.int) ∧ SqT K H l (lot.map fun n : Nat => V.int (n : Int)) ∧ H d = some (.dT kvs) ∧ ns.length ≤ 1000 ∧ lot.length ≤ 1000 ∧
  (∀ v ∈ ns, -2 ^ 64 < v ∧ v < 2 ^ 64) ∧ (∀ c ∈ lot, c < ns.length) ∧ (∀ pre c cs, lot = pre ++ c :: cs → valV kvs (key (pre ++ cs)) = some (.int (f (pre ++ cs)))) ∧ ∀ H', Same H H' → Q (.int (nw ns f [] lot (s0 lot))) H'
theorem ok_nw {f : Addr} {fd : FuncData} {k : Nat} (F : Fun K "_next_worth" "_next_worth" sNw f fd) (me : mg "enumerate" = none) (ml : mg "len" = none) : FnOk P w K mg base CX0 (k + 1) f fd ["row", "lot", "worths"] (spNw K) := by
  refine F.ok scNw (fun vs H Q E ⟨r, l, d, ns, lot, kvs, f, e, _⟩ => by rw [e]; rfl) (fun cdv A outer s H vs Q E hr h => ?_)
  obtain ⟨r, l, d, ns, lot, kvs, f', rfl, hr', hl, hd, z1, z2, hB, hc, hv, q⟩ := h
  have u1 : (A.deeper (envOfC "_next_worth" (defScope sNw) s.heap.objs.size f cdv)).units + 1 < cLine := by
    have := hr.units
    omega
  refine ⟨_, pss_cons (ps_set (i := 3) scNw.nd rfl (Or.inl rfl) pe_int)
    (pss_cons (ZM.ps_bx (ps_set (i := 4) scNw.nd rfl (Or.inl rfl) (pe_ifExp (pt_truth (pe_op op_and (pe_callB call_len_seq (by rfl) ml PySem.boot_len (pa_cons (pv 1) pa_nil)) pe_int) (fun _ => rfl)) pe_int (pe_un un_neg pe_int))))
    (pss_cons (ps_for PassesOwn.never rfl (ET.pi_enumT (by rfl) me (pa_cons (pv 1) pa_nil)) (pg_tup rfl (pgs_cons (pg_name (i := 5) scNw.nd rfl (Or.inl rfl)) (pgs_cons (pg_name (i := 6) scNw.nd rfl (Or.inl rfl)) pgs_nil)))
      (pss_cons (ps_set (i := 7) scNw.nd rfl (Or.inl rfl) (pe_op TC.op_catE (pe_slice sl_tup (pv 1) po_none (po_some (pv 5))) (pe_slice sl_tup (pv 1) (po_some (pe_op op_add (pv 5) pe_int)) po_none)))
      (pss_cons (ps_aug scNw.nd (i := 3) rfl (Or.inl rfl) (pe_op op_mul (pe_op op_mul (pv 4) (pe_ix (r := rIx K) ix_seq (pv 0) (pv 6) (fun _ _ => rfl))) (pe_dget u1 (pv 2) (pv 7) (fun _ _ => rfl))) ip_add)
      (pss_one (ps_set (i := 4) scNw.nd rfl (Or.inl rfl) (pe_un un_neg (pv 4)))))))
    (pss_one (ps_ret (pv 3))))), ?_⟩
  refine ZM.if_by (fun v H' => v = .int (s0 lot) ∧ H' = H) (fun R hR => ?_) ?_
  · refine ⟨_, rfl, l, _, rfl, .inr hl, _, _, rfl, rfl, _, rfl, ?_⟩
    rw [List.length_map, and1]
    unfold s0 at hR
    by_cases o : lot.length % 2 = 1
    · rw [if_pos o] at hR
      rw [o]
      exact hR _ _ ⟨rfl, rfl⟩
    · rw [if_neg o] at hR
      rw [show lot.length % 2 = 0 by omega]
      exact ⟨_, rfl, hR _ _ ⟨rfl, rfl⟩⟩
  · rintro v H' ⟨rfl, rfl⟩
    refine ⟨_, rfl, l, _, rfl, hl, K4x.for_enumT (K := K) (a := l) (xs := lot.map fun n : Nat => V.int (n : Int)) (fun i σ H2 => ∃ x5 x6 x7 T z, σ = [some (.ref r), some (.ref l), some (.ref d), some (.int T), some (.int z), x5, x6, x7] ∧ Same H' H2 ∧ (z = 1 ∨ z = -1) ∧ T + nw ns f' (lot.take i) (lot.drop i) z = nw ns f' [] lot (s0 lot))
      ⟨none, none, none, 0, s0 lot, rfl, Same.refl _, s0_un lot, by rw [List.take_zero, List.drop_zero, Int.zero_add]⟩ (fun i σ H2 _ ⟨_, _, _, _, _, _, s, _⟩ => ZM.sqT_sm s hl) ?_ ?_⟩
    · rintro i x σ H2 T hi ⟨x5, x6, x7, t, z, rfl, s1, zu, e⟩ nT
      rw [List.getElem?_map] at hi
      obtain ⟨c, hc', rfl⟩ := Option.map_eq_some_iff.mp hi
      obtain ⟨li, gc⟩ := List.getElem?_eq_some_iff.mp hc'
      have s2 := s1.trans (same_new (o := .tup [.int (i : Nat), .int (c : Nat)]) nT)
      refine ⟨T, _, rfl, SqT.of upd_same, rfl, _, _, rfl, _, _, rfl, rfl, ?_⟩
      generalize upd H2 T (.tup [.int (i : Nat), .int (c : Nat)]) = H3 at s2 ⊢
      have lm : (lot.map fun n : Nat => V.int (n : Int)).length = lot.length := List.length_map _
      have el : lot = lot.take i ++ c :: lot.drop (i + 1) := by rw [← gc, List.getElem_cons_drop, List.take_append_drop]
      have cl : c < ns.length := hc c (gc ▸ List.getElem_mem li)
      have gn : (ns.map V.int)[c]? = some (.int (ns.getD c 0)) := by
        rw [List.getElem?_map, List.getD_eq_getElem?_getD, List.getElem?_eq_getElem cl]
        rfl
      have at1 : atI (ns.map V.int) (c : Int) = some (.int (ns.getD c 0)) := atI_nat gn
      have nb : -2 ^ 64 < ns.getD c 0 ∧ ns.getD c 0 < 2 ^ 64 := hB _ (by
        rw [List.getD_eq_getElem?_getD, List.getElem?_eq_getElem cl]
        exact List.getElem_mem cl)
      have cm1 : CMul z (ns.getD c 0) := .inr nb
      have cm2 : CMul (z * ns.getD c 0) (f' (lot.take i ++ lot.drop (i + 1))) := .inl (by
        rcases zu with rfl | rfl
        · rw [Int.one_mul]; exact nb
        · omega)
      have lk : (lot.take i ++ lot.drop (i + 1)).map (fun n : Nat => V.int (n : Int)) = (lot.map fun n : Nat => V.int (n : Int)).take i ++ (lot.map fun n : Nat => V.int (n : Int)).drop (i + 1) := by rw [List.map_append, List.map_take, List.map_drop]
      have e2 : t + (z * ns.getD c 0 * f' (lot.take i ++ lot.drop (i + 1)) + nw ns f' (lot.take (i + 1)) (lot.drop (i + 1)) (-z)) = nw ns f' [] lot (s0 lot) := by
        rw [← e, ← gc, List.take_add_one, List.getElem?_eq_getElem li]
        conv => rhs; rw [← List.getElem_cons_drop li, nw]
        rfl
      refine ⟨_, rfl, _, rfl, _, rfl, l, _, rfl, ZM.sqT_sm s2 hl, ?_, fun p np => ?_⟩
      · rw [HT.sIx_none, HT.sIx_nat]
        omega
      rw [cutTo]
      have s3 := s2.trans (same_new (o := .tup ((lot.map fun n : Nat => V.int (n : Int)).take i)) np)
      refine ⟨_, rfl, _, rfl, _, _, rfl, rfl, _, rfl, l, _, rfl, ZM.sqT_sm s3 hl, ?_, fun p2 np2 => ?_⟩
      · rw [show ((i : Int) + 1) = ((i + 1 : Nat) : Int) by omega, HT.sIx_nat]
        omega
      rw [show ((i : Int) + 1) = ((i + 1 : Nat) : Int) by omega, cutFrom]
      have s4 := s3.trans (same_new (o := .tup ((lot.map fun n : Nat => V.int (n : Int)).drop (i + 1))) np2)
      have hp : (upd (upd H3 p (.tup ((lot.map fun n : Nat => V.int (n : Int)).take i))) p2 (.tup ((lot.map fun n : Nat => V.int (n : Int)).drop (i + 1)))) p = some (.tup ((lot.map fun n : Nat => V.int (n : Int)).take i)) := same_new np2 _ _ upd_same
      have hp2 : (upd (upd H3 p (.tup ((lot.map fun n : Nat => V.int (n : Int)).take i))) p2 (.tup ((lot.map fun n : Nat => V.int (n : Int)).drop (i + 1)))) p2 = some (.tup ((lot.map fun n : Nat => V.int (n : Int)).drop (i + 1))) := upd_same
      generalize upd (upd H3 p (.tup ((lot.map fun n : Nat => V.int (n : Int)).take i))) p2 (.tup ((lot.map fun n : Nat => V.int (n : Int)).drop (i + 1))) = H4 at s4 hp hp2 ⊢
      by_cases i0 : i = 0
      · refine .inr ⟨p, p2, _, rfl, rfl, .inl (.inl (by rw [hp, i0]; rfl)), .inl (.inl hp2), ?_⟩
        have s5 := s4
        have hb5 : H4 p2 = some (.tup ((lot.take i ++ lot.drop (i + 1)).map (fun n : Nat => V.int (n : Int)))) := by rw [hp2, lk, i0, List.take_zero, List.nil_append]
        refine ⟨.int t, rfl, _, rfl, _, rfl, _, rfl, ix_ls (hr'.same s5) at1 ⟨_, _, rfl, rfl, cm1, _, rfl, _, rfl, d, _, rfl, .inr ⟨kvs, key (lot.take i ++ lot.drop (i + 1)), _, .inl (s5 _ _ hd), rfl, by rw [key_kV]; exact hb5, (hv _ _ _ el).symm⟩, _, _, rfl, rfl, cm2, _, _, rfl, rfl, _, rfl, _, rfl, ?_⟩⟩
        exact ⟨_, _, _, _, _, rfl, s5, by omega, by rw [Int.add_assoc]; exact e2⟩
      · refine .inl ⟨p, p2, _, _, rfl, rfl, .inl (.inl hp), .inl (.inl hp2), ?_, ?_, fun d0 => ?_, fun d1 p3 np3 => ?_⟩
        · intro h
          have := congrArg List.length h
          rw [List.length_take, lm, List.length_nil] at this
          omega
        · rw [List.length_take, List.length_drop, lm, sizeLine_eq]
          omega
        · have s5 := s4
          have hb5 : H4 p = some (.tup ((lot.take i ++ lot.drop (i + 1)).map (fun n : Nat => V.int (n : Int)))) := by rw [hp, lk, d0, List.append_nil]
          refine ⟨.int t, rfl, _, rfl, _, rfl, _, rfl, ix_ls (hr'.same s5) at1 ⟨_, _, rfl, rfl, cm1, _, rfl, _, rfl, d, _, rfl, .inr ⟨kvs, key (lot.take i ++ lot.drop (i + 1)), _, .inl (s5 _ _ hd), rfl, by rw [key_kV]; exact hb5, (hv _ _ _ el).symm⟩, _, _, rfl, rfl, cm2, _, _, rfl, rfl, _, rfl, _, rfl, ?_⟩⟩
          exact ⟨_, _, _, _, _, rfl, s5, by omega, by rw [Int.add_assoc]; exact e2⟩
        · have s5 := s4.trans (same_new (o := .tup ((lot.map fun n : Nat => V.int (n : Int)).take i ++ (lot.map fun n : Nat => V.int (n : Int)).drop (i + 1))) np3)
          have hb5 : (upd H4 p3 (.tup ((lot.map fun n : Nat => V.int (n : Int)).take i ++ (lot.map fun n : Nat => V.int (n : Int)).drop (i + 1)))) p3 = some (.tup ((lot.take i ++ lot.drop (i + 1)).map (fun n : Nat => V.int (n : Int)))) := by rw [upd_same, lk]
          refine ⟨.int t, rfl, _, rfl, _, rfl, _, rfl, ix_ls (hr'.same s5) at1 ⟨_, _, rfl, rfl, cm1, _, rfl, _, rfl, d, _, rfl, .inr ⟨kvs, key (lot.take i ++ lot.drop (i + 1)), _, .inl (s5 _ _ hd), rfl, by rw [key_kV]; exact hb5, (hv _ _ _ el).symm⟩, _, _, rfl, rfl, cm2, _, _, rfl, rfl, _, rfl, _, rfl, ?_⟩⟩
          exact ⟨_, _, _, _, _, rfl, s5, by omega, by rw [Int.add_assoc]; exact e2⟩
    · rintro σ H2 ⟨x5, x6, x7, t, z, rfl, s1, zu, e⟩
      refine ⟨_, rfl, ?_⟩
      rw [List.length_map, List.drop_of_length_le (Nat.le_refl _), nw, Int.add_zero] at e
      rw [e]
      exact q _ s1
end
end K4

set_option maxHeartbeats 2000000
/-! The program's lots, within their bounds, and its boxes. -/
namespace K4
open PySem PySem.Spec PyProof.Rows L2 CX4
abbrev sLots : Stmt := topS 8
abbrev sChk : Stmt := topS 9
abbrev sBox : Stmt := topS 11
abbrev sBsg : Stmt := topS 12
abbrev sCB : Stmt := topS 14
theorem scLots : FnScope ["many", "size"] ["many", "size"] (defScope sLots) := ⟨rfl, rfl, rfl, by decide +kernel, rfl, by decide +kernel, by decide +kernel⟩
theorem scChk : FnScope ["many"] ["many"] (defScope sChk) := ⟨rfl, rfl, rfl, by decide +kernel, rfl, by decide +kernel, by decide +kernel⟩
theorem scCB : FnScope ["rows", "many", "row"] ["rows"] (defScope sCB) := ⟨rfl, rfl, rfl, by decide +kernel, rfl, by decide +kernel, by decide +kernel⟩
theorem scBox : FnScope ["rows", "many", "worths", "size", "row", "lot"] ["rows"] (defScope sBox) := ⟨rfl, rfl, rfl, by decide +kernel, rfl, by decide +kernel, by decide +kernel⟩
def rLen (K : PySem.W.Frag) : List V → Hp → VK → Prop := fun xs H Q => ∃ (p : Addr) (ys : List V), xs = [V.ref p] ∧ (SqL K H p ys ∨ SqT K H p ys) ∧ Q (V.int ys.length) H
/-- a place that is not come to -/
theorem ps_no {X : Cx} {st : Stmt} : PS X st (fun _ _ _ => False) := ⟨fun _ _ _ _ _ _ h => h.elim⟩
theorem log_ok {i : Int} (h : i.natAbs < 10 ^ 30) : i.natAbs.log2 < 1920 := by
  by_cases z : i.natAbs = 0
  · rw [z]; decide
  · exact Nat.lt_trans ((Nat.log2_lt z).mpr (Nat.lt_of_lt_of_le h (by decide : 10 ^ 30 ≤ 2 ^ 100))) (by decide)
theorem len_ok {i : Int} (h : i.natAbs < 10 ^ 30) : (Str.ofString (toString i)).length ≤ 31 := by
  rw [PySem.ofString_length]
  exact int_text_length_le10 (by decide) h
theorem lit_ok {x : String} (h : x.length ≤ 100 := by decide) : (Str.ofString x).length ≤ 100 := by
  rw [PySem.ofString_length]
  exact h
theorem j2 {a b : Str} {n m : Nat} (ha : a.length ≤ n) (hb : b.length ≤ m) : (a ++ b).length ≤ n + m := by
  rw [Str.length_append]
  omega
theorem fits {a : Str} {n : Nat} (h : a.length ≤ n) (hn : n ≤ 16777216 := by decide) : a.length ≤ sizeLine := by
  rw [sizeLine_eq]
  omega
theorem e0 : Str.empty.length ≤ 0 := by decide
theorem if_t {c : Bool} {A B : Prop} (hc : c = true) (h : A) : if c = true then A else B := (if_pos hc).mpr h
theorem if_f {c : Bool} {A B : Prop} (hc : c = false) (h : B) : if c = true then A else B := (if_neg (by rw [hc]; decide)).mpr h
section
variable {P : Program} {w : World} {K : PySem.W.Frag} {mg : Str → Option Value} {base : Heap}
def spChk : Sp := fun vs H Q E => ∃ n : Int, vs = [.int n] ∧ 0 ≤ n ∧ n ≤ 7 ∧ Q .non H
theorem ok_chk {f : Addr} {fd : FuncData} {k : Nat} (F : Fun K "_check_many" "_check_many" sChk f fd) (gM : ∃ u, mg "MOST" = some u ∧ RelV (.int 7) u) : FnOk P w K mg base CX0 (k + 1) f fd ["many"] spChk := by
  obtain ⟨u, gM, rM⟩ := gM
  refine F.ok scChk (fun vs H Q E ⟨n, e, _⟩ => by rw [e]; rfl) (fun cdv A outer s H vs Q E hr h => ⟨_, pss_cons (ps_if (pt_not (pt_chain op_le op_le pe_int (pv 0) (pe_glob rfl gM rM))) (pss_one ps_no) pss_nil) pss_nil, ?_⟩)
  obtain ⟨n, rfl, c0, c7, q⟩ := h
  exact ⟨_, rfl, 0, n, rfl, rfl, _, rfl, if_t (decide_eq_true c0) ⟨n, 7, rfl, rfl, _, rfl, if_f (by simp [c7]) q⟩⟩
def spLots : Sp := fun vs H Q E => ∃ a b : Nat, vs = [.int (a : Int), .int (b : Int)] ∧ a ≤ 7 ∧ b ≤ a ∧
  ∀ (l : Addr) (ts : List Addr) (H' : Hp), Same H H' → H l = none → H' l = some (.lst (ts.map V.ref)) → CB.LotsAt H H' (CB.combs a b) ts → Q (.ref l) H'
/-- the built-in names that lots uses -/
structure TxB (mg : Str → Option Value) : Prop where
  n1 : mg "list" = none
  n2 : mg "range" = none
  n3 : mg "int" = none
  gB : mg "combinations" = some (.type "itertools.combinations")
theorem ok_lots {f g : Addr} {fd gd : FuncData} {k : Nat} (F : Fun K "lots" "lots" sLots f fd) (B : TxB mg) (G : FnOk P w K mg base CX0 (k + 1) g gd ["many"] spChk) (gG : mg "_check_many" = some (.ref g)) (kG : PySem.W.keepIn K (.ref g) = true) (bG : Binds K gd ["many"] []) :
    FnOk P w K mg base CX0 (k + 2) f fd ["many", "size"] spLots := by
  refine F.ok scLots (fun vs H Q E ⟨a, b, e, _⟩ => by rw [e]; rfl) (fun cdv A outer s H vs Q E hr h => ⟨_, pss_cons (ps_expr (pe_call G hr (by rfl) gG kG bG .nil pass0 (pa_cons (pv 0) pa_nil)))
    (pss_cons (ps_if (pt_not (pt_chain op_le op_le pe_int (pv 1) (pv 0))) (pss_one ps_no) pss_nil)
    (pss_one (ps_ret (CB.pe_lots rfl rfl B.n1 rfl B.gB rfl B.n2 (pv 0) (pe_callTy call_int1 rfl B.n3 (by first | rfl | boot_by_name) (pa_cons (pv 1) pa_nil)))))), ?_⟩)
  obtain ⟨a, b, rfl, a7, ba, q⟩ := h
  refine ⟨_, rfl, a, rfl, by omega, by omega, ?_⟩
  refine ⟨_, rfl, 0, b, rfl, rfl, _, rfl, if_t (decide_eq_true (by omega)) ⟨_, rfl, b, a, rfl, rfl, _, rfl, if_f (by simp; omega) ?_⟩⟩
  exact ⟨_, rfl, a, rfl, by omega, _, rfl, .inl ⟨_, rfl, b, rfl, by omega, q⟩⟩
/-- lists or tuples of so many things each, in a list or a tuple -/
def RowsL (K : PySem.W.Frag) (H : Hp) (a : Addr) (ls : List Nat) : Prop := ∃ bs : List Addr, Sq K H a (bs.map V.ref) ∧ bs.length = ls.length ∧ ∀ (i : Nat) (b : Addr) (l : Nat), bs[i]? = some b → ls[i]? = some l → ∃ xs : List V, Sq K H b xs ∧ xs.length = l
theorem RowsL.same {H H' : Hp} {a : Addr} {ls : List Nat} (h : RowsL K H a ls) (s : Same H H') : RowsL K H' a ls := by
  obtain ⟨bs, h1, h2, h3⟩ := h
  exact ⟨bs, h1.same s, h2, fun i b r e1 e2 => (h3 i b r e1 e2).imp fun xs h => ⟨h.1.same s, h.2⟩⟩
/-- rows of numbers -/
def RowsAt (K : PySem.W.Frag) (H : Hp) (a : Addr) (rs : List (List Int)) : Prop := ∃ bs : List Addr, Sq K H a (bs.map V.ref) ∧ bs.length = rs.length ∧ ∀ (i : Nat) (b : Addr) (r : List Int), bs[i]? = some b → rs[i]? = some r → Sq K H b (r.map V.int)
theorem RowsAt.same {H H' : Hp} {a : Addr} {rs : List (List Int)} (h : RowsAt K H a rs) (s : Same H H') : RowsAt K H' a rs := by
  obtain ⟨bs, h1, h2, h3⟩ := h
  exact ⟨bs, h1.same s, h2, fun i b r e1 e2 => (h3 i b r e1 e2).same s⟩
theorem RowsAt.lens {H : Hp} {a : Addr} {rs : List (List Int)} (h : RowsAt K H a rs) : RowsL K H a (rs.map List.length) := by
  obtain ⟨bs, h1, h2, h3⟩ := h
  refine ⟨bs, h1, by rw [h2, List.length_map], fun i b l e1 e2 => ?_⟩
  rw [List.getElem?_map] at e2
  obtain ⟨r, hr, rfl⟩ := Option.map_eq_some_iff.mp e2
  exact ⟨_, h3 i b r e1 hr, List.length_map _⟩
/-- rows of these lengths make a box -/
def okB (ls : List Nat) : Bool := decide (ls.length ≤ 7) && ls.all fun l => decide (l = ls.length)
/-- a refusal by the class at C of the name c -/
def Refuses (C : Addr) (c : Str) (H : Hp) (E : XK) : Prop := ∀ d : Addr, H d = none → E (.ref C) (some d) (upd H d (.xd (wd c)))
structure TxE (P : Program) (K : PySem.W.Frag) (mg : Str → Option Value) (C D fI : Addr) : Prop where
  iT : PySem.CleX.InitTxt P K mg D fI
  cT : ∃ nv, PySem.CleX.ClsTxt K C D fI nv ∧ RelV (.str "BadBox") nv
  gC : mg "BadBox" = some (.ref C)
  gM : ∃ u, mg "MOST" = some u ∧ RelV (.int 7) u
variable {C D fI : Addr}
def spCB (K : PySem.W.Frag) (C : Addr) : Sp := fun vs H Q E => ∃ (a : Addr) (ls : List Nat), vs = [.ref a] ∧ RowsL K H a ls ∧ ls.length ≤ 1000 ∧ (∀ l ∈ ls, l ≤ 1000) ∧ (okB ls = false → ∀ H', Same H H' → Refuses C "BadBox" H' E) ∧ (okB ls = true → ∀ H', Same H H' → Q .non H')
theorem ok_cb {f : Addr} {fd : FuncData} (F : Fun K "_check_box" "_check_box" sCB f fd) (T : TxE P K mg C D fI) (ml : mg "len" = none) (ma : mg "any" = none) : FnOk P w K mg base (L2.CX P w) 3 f fd ["rows"] (spCB K C) := by
  obtain ⟨u, gM, rM⟩ := T.gM
  obtain ⟨nv, cT, rw⟩ := T.cT
  refine F.okX scCB (fun vs H Q E ⟨a, rs, e, _⟩ => by rw [e]; rfl) (fun cdv A outer s H vs Q E hr h => ⟨_,
    pss_cons (ps_set (i := 1) scCB.nd rfl (Or.inr rfl) (pe_callB call_len_seq (by rfl) ml PySem.boot_len (pa_cons (pv 0) pa_nil)))
    (pss_cons (ps_if (pt_cmpR op_gt (pv 1) (pe_glob rfl gM rM) (nomark _))
      (pss_one (ps_cle rfl T.iT cT rw T.gC hr (takes_of rfl rfl rfl rfl) (by exact (pa_cons (pe_joined (.cons pe_str (.cons (pe_fmt (pe_glob rfl gM rM)) (.cons pe_str (.cons (pe_fmt (pv 1)) .nil))))) pa_nil)))) pss_nil)
    (pss_cons (ps_if (pt_val (pe_callB (cr_any rfl) (by rfl) ma (by decide +kernel) (pa_cons
      (ZM.pe_bx (pe_lc (own := [("row", 2)]) (g := gName 2) (tt := tYes) rfl scCB.nd (ZM.pi_sq (pv 0)) (blkOk_by (N := ["rows", "many", "row"]) (sc := defScope sCB) (by decide +kernel))
        (fun _ _ _ _ _ => pg_name (i := 2) scCB.nd rfl (Or.inl rfl)) (fun _ _ _ _ _ => pts_nil) (fun _ _ _ _ _ => pe_cmpR op_ne (pe_callB (r := rLen K) call_len_seq (by rfl) ml PySem.boot_len (pa_cons (pv 2) pa_nil)) (pv 1) (by with_unfolding_all rfl)))) pa_nil)))
      (pss_one (ps_cle rfl T.iT cT rw T.gC hr (takes_of rfl rfl rfl rfl) (by exact (pa_cons (pe_joined (.cons pe_str (.cons (pe_fmt (pv 1)) (.cons pe_str (.cons (pe_fmt (pv 1)) (.cons pe_str .nil)))))) pa_nil)))) pss_nil) pss_nil)), ?_⟩)
  obtain ⟨a, ls, rfl, ⟨bs, hb, lb, hrow⟩, r7, hl, hN, hY⟩ := h
  have len0 : (bs.map V.ref).length = ls.length := by rw [List.length_map, lb]
  have hb' : SqL K H a (bs.map V.ref) ∨ SqT K H a (bs.map V.ref) := hb
  refine ⟨_, rfl, a, _, rfl, hb', _, rfl, _, _, rfl, rfl, _, rfl, ?_⟩
  rw [len0]
  have l1 : (Str.ofString "a box has at most ").length ≤ 100 := lit_ok
  have l2 : (Str.ofString " rows, not ").length ≤ 100 := lit_ok
  have l3 : (Str.ofString "each of ").length ≤ 100 := lit_ok
  have l4 : (Str.ofString " rows must have ").length ≤ 100 := lit_ok
  have l5 : (Str.ofString " numbers").length ≤ 100 := lit_ok
  have h7 : ((7 : Int)).natAbs < 10 ^ 30 := by decide
  have hn : ((ls.length : Nat) : Int).natAbs < 10 ^ 30 := by
    rw [Int.natAbs_natCast]
    exact Nat.lt_of_le_of_lt r7 (by decide)
  by_cases c7 : ls.length ≤ 7
  · refine if_f (by simp; omega) ?_
    refine ZM.lcm_sq (ys := ls.map fun l => V.bl (!decide (l = ls.length))) (fun R r => ⟨_, rfl, r⟩) hb' (by simp [lb]) (by simp; omega) (fun _ => rfl) ?_ ?_
    · intro i x y H2 R hx hy sm hR
      rw [List.getElem?_map] at hx hy
      obtain ⟨b, hb', rfl⟩ := Option.map_eq_some_iff.mp hx
      obtain ⟨r, hr', rfl⟩ := Option.map_eq_some_iff.mp hy
      obtain ⟨xs, e1, e2⟩ := hrow i b r hb' hr'
      refine ⟨_, rfl, b, _, rfl, e1.same sm, _, rfl, ?_⟩
      rw [e2]
      have := hR H2 (Same.refl _)
      dsimp only [rNe]
      refine ⟨rfl, ?_⟩
      by_cases z : r = ls.length
      · simpa [z] using this
      · simpa [z, show ¬ ((r : Int) = (ls.length : Int)) by omega] using this
    · intro D2 H2 sm _ hD
      refine ⟨D2, ls.map fun l => !decide (l = ls.length), rfl, SqL.of (by rw [hD, List.map_map]; rfl), ?_⟩
      refine ⟨_, rfl, ?_⟩
      by_cases g : okB ls = true
      · refine if_f ?_ (hY g _ sm)
        unfold okB at g
        rw [Bool.and_eq_true, List.all_eq_true] at g
        rw [List.any_map, List.any_eq_false]
        intro x hx
        have := of_decide_eq_true (g.2 x hx)
        simp [this]
      · refine if_t ?_ ?_
        · unfold okB at g
          rw [decide_eq_true c7, Bool.true_and] at g
          rw [List.any_map]
          have : ¬ (ls.all fun l => decide (l = ls.length)) = true := g
          rw [List.all_eq_true] at this
          rw [List.any_eq_true]
          exact Classical.byContradiction fun h => this fun x hx => Classical.byContradiction fun h2 => h ⟨x, hx, by simpa using h2⟩
        · exact ⟨_, rfl, fits (j2 e0 l3), _, rfl, .inr ⟨_, rfl, log_ok hn, _, rfl, fits (j2 (j2 e0 l3) (len_ok hn)), _, rfl, fits (j2 (j2 (j2 e0 l3) (len_ok hn)) l4), _, rfl, .inr ⟨_, rfl, log_ok hn, _, rfl, fits (j2 (j2 (j2 (j2 e0 l3) (len_ok hn)) l4) (len_ok hn)), _, rfl, fits (j2 (j2 (j2 (j2 (j2 e0 l3) (len_ok hn)) l4) (len_ok hn)) l5), _, rfl, hN (by simpa using g) _ sm⟩⟩⟩
  · refine if_t (by simp; omega) ?_
    exact ⟨_, rfl, fits (j2 e0 l1), .inr ⟨7, rfl, log_ok h7, _, rfl, fits (j2 (j2 e0 l1) (len_ok h7)), _, rfl, fits (j2 (j2 (j2 e0 l1) (len_ok h7)) l2), _, rfl, .inr ⟨_, rfl, log_ok hn, _, rfl, fits (j2 (j2 (j2 (j2 e0 l1) (len_ok h7)) l2) (len_ok hn)), _, rfl, hN (by unfold okB; rw [decide_eq_false c7, Bool.false_and]) H (Same.refl _)⟩⟩⟩
end
end K4

set_option maxHeartbeats 2000000
/-! enumerate(x, start=k), x a list or a tuple -/
namespace EK
open PySem PySem.Spec PyProof.Rows L2
/-- the tuple at a, item by item, each in a new pair, the count from k on -/
def IteKT (K : PySem.W.Frag) (a : Addr) (k : Nat) : It where
  go := fun i H => ∃ (xs : List V) (x : V), SqT K H a xs ∧ xs[i]? = some x
  yld := fun i H v H' => ∃ T x, v = .ref T ∧ H T = none ∧ H' = upd H T (.tup [.int ((k + i : Nat) : Int), x]) ∧ ∀ xs, SqT K H a xs → xs[i]? = some x
  stop := fun i H => ∃ xs : List V, SqT K H a xs ∧ xs.length ≤ i
theorem turnT {P : Program} {w : World} {K : PySem.W.Frag} {elts : List Expr} {kk : Nat} {tpos : Pos} (a e it : Addr) (k : Nat) (hai : a ≠ it) (hae : a ≠ e) (hei : e ≠ it) :
    Turn P w K (.Tuple elts kk tpos) (IteKT K a k) [e, it] e (fun i h => (∃ old, IsEnum h e it ((k + i : Nat) : Int) old) ∧ h.IsTupleIter it a i) where
  mem := List.mem_cons_self
  obj := fun i h st b hb => by
    obtain ⟨⟨old, he⟩, ⟨o, ho, hc, hd⟩⟩ := st
    rcases List.mem_cons.mp hb with z | z
    · subst z
      exact ⟨_, he, fun v q => nomatch q⟩
    · rw [List.mem_singleton.mp z]
      exact ⟨o, ho, fun v q => by rw [hd] at q; cases q⟩
  keep := fun i h h' st kp => by
    obtain ⟨⟨old, he⟩, hi⟩ := st
    exact ⟨⟨old, kp e (by simp) _ he⟩, hi.at fun o q => kp it (by simp) o q⟩
  item := by
    rintro X rfl rfl rfl hc i pins s σ H E I hf ⟨⟨old, he⟩, hit⟩ ⟨xs, x, hq, hx⟩
    obtain ⟨its, rv, p, hz⟩ := I.tuple hq
    obtain ⟨u, hu, ru⟩ := rv.get hx
    have hp : s.heap.IsTuple a its.toArray := p
    have hel : e < s.heap.objs.size := Heap.lt_size he
    have hil : it < s.heap.objs.size := by
      obtain ⟨_, q, _⟩ := hit
      exact Heap.lt_size q
    have hlt : i < its.toArray.size := by
      have q := (List.getElem?_eq_some_iff.mp hu).1
      simpa using q
    refine wpAny_pyNext_enum_itemD (dshift k (Draws.tuple (A := X.A.in1) (I.ok.hd hc) it a hai its.toArray)) he ⟨Nat.le_add_right _ _, by rw [Nat.add_sub_cancel_left]; exact ⟨hit, hp⟩⟩ (by omega) hei (by simp [hei, Ne.symm hae]) fun y h' tk hy ho hit' hT hsz hk => ?_
    obtain ⟨_, hy⟩ := hy
    rw [Nat.add_sub_cancel_left] at hy
    have hit'' : h'.IsTupleIter it a (i + 1) := by
      have := hit'.2.1
      rwa [show k + i + 1 - k = i + 1 by omega] at this
    have ey : y = u := by
      have q : its[i]? = some y := by simpa using hy
      rw [hu] at q
      exact (Option.some.inj q).symm
    subst ey
    refine ⟨_, rfl, wpAny_letOwnedTupleGo_enum (s := { s with heap := h', toks := tk + 1 }) ho fun h'' he' sb => ?_⟩
    have hT2 : h''.get? s.heap.objs.size = some { cls := .type "tuple", data := .seq #[.int (k + i : Nat) tk, y] } := (sb.2 _ (Nat.ne_of_gt hel)).trans hT
    have pairOk : ObjOk X.prog X.w (upd H s.heap.objs.size (.tup [.int ((k + i : Nat) : Int), x])) h'' s.heap.objs.size
        (.tup [.int ((k + i : Nat) : Int), x]) := ⟨by show 2 ≤ sizeLine; decide, [.int (k + i : Nat) tk, y], .cons ⟨_, rfl⟩ (.cons ru .nil), _, hT2, rfl, _, rfl⟩
    have stays : ∀ c oc, c ∉ [e, it] → s.heap.get? c = some oc → h''.get? c = some oc := fun c oc hc' z => by
      have n1 : c ≠ e := fun z1 => hc' (by simp [z1])
      have n2 : c ≠ it := fun z1 => hc' (by simp [z1])
      exact (sb.2 c n1).trans (hk c oc n1 n2 z)
    have I1 : Inv X pins σ (upd H s.heap.objs.size (.tup [.int ((k + i : Nat) : Int), x])) { s with heap := h'', toks := tk + 1 } :=
      I.turnedNew (ch := [e, it]) stays hf (Nat.le_refl _) pairOk
    have e1 : ((k + (i + 1) : Nat) : Int) = ((k + i : Nat) : Int) + 1 := by omega
    refine ⟨.ref s.heap.objs.size, _, I1, rfl, ⟨_, x, rfl, I.hok.fresh (Nat.le_refl _), rfl, fun ys hy => by rw [I.tuple_inj hy hq]; exact hx⟩, ⟨⟨y, by rw [e1]; exact he'⟩, hit''.at fun o q => (sb.2 it (Ne.symm hei)).trans q⟩, fun b hb => ?_⟩
    have hb' : b < s.heap.objs.size := by
      rcases List.mem_cons.mp hb with z | z
      · rw [z]; exact hel
      · rw [List.mem_singleton.mp z]; exact hil
    rw [upd_ne (Nat.ne_of_lt hb')]
    exact (hf b hb).1
  done := by
    rintro X rfl rfl rfl hc i pins s σ H E I hf ⟨⟨old, he⟩, hit⟩ ⟨xs, hq, hx⟩
    obtain ⟨its, rv, p, hz⟩ := I.tuple hq
    have hp : s.heap.IsTuple a its.toArray := p
    obtain ⟨f0, f1, f2, f3, f4, f5⟩ := hf it (by simp)
    have hl := rv.length
    unfold pyNext
    refine wpAny_bind (wpAny_attempt (wpAny_callSpecial?_slot (name := Str.ofString "__next__") ⟨_, he, rfl⟩ F.slot_enumerate_next (wpAny_call_entry F.slot_enumerate_next ⟨_, he, rfl⟩ F.entry_enumerate_next ?_ (F.args_enumerate_next_1 _))))
    show wpAny _ _ (field (.ref e) 2 >>= _) _ _ _
    refine wpAny_bind (wpAny_field he rfl (x := .ref it) rfl (wpAny_bind (wpAny_nextOf_tuple_end (A := X.A.in1) (I.ok.hd hc) hit hp (by simp; omega) fun h' x eb hx' => ?_)))
    obtain ⟨o, ho, hcl⟩ := hx'
    exact wpAny_bind (wpAny_isInstance (T := "StopIteration") (b := true) ⟨o, ho, hcl⟩ isSubtype_stop (wpAny_pure ⟨rfl, I.turned (t' := s.toks) (fun b o hb q => eb b o hb q) f0 f1 f3 f4 f5⟩))
  self := fun A i s Q E st h => by
    obtain ⟨⟨_, he⟩, _⟩ := st
    exact wpAny_pyIter_enum he h
def iEnumS (K : PySem.W.Frag) (ta : TA) (tk : TA) : TI := fun σ H R => ta σ H fun vs H1 => tk σ H1 fun zs H2 => ∃ a xs k, zs = [.int ((k : Nat) : Int)] ∧ k < 1000 ∧ vs = [.ref a] ∧ ((SqL K H2 a xs ∧ R (IteK K a k) H2) ∨ (SqT K H2 a xs ∧ R (IteKT K a k) H2))
theorem pi_enumS {X : Cx} {e ke : Expr} {ta tk : TA} {p pos tpos kp : Pos} {elts : List Expr} {kk : Nat} (hg : Gl X "enumerate") (hm : X.mg "enumerate" = none) (ha : PA X [e] ta) (hkw : PK X [⟨some "start", ke, kp⟩] tk)
    (hs : backTo pos (starEach [e] X.env) = (false, eval e X.env) :: backTo pos (starEach [] X.env) := by rfl)
    (hpl : ((backTo pos (starEach [e] X.env)).any (·.1) || (backToKw pos (keywordEach [⟨some "start", ke, kp⟩] X.env)).any (·.1.isNone)) = false := by rfl)
    (hall : (backToKw pos (keywordEach [⟨some "start", ke, kp⟩] X.env)).all (·.1.isSome) = true := by rfl)
    (hks : (backToKw pos (keywordEach [⟨some "start", ke, kp⟩] X.env)).filterMap (·.1) = [("start" : Str)] := by rfl) :
    PI X (.Tuple elts kk tpos) (.Call (.Name "enumerate" p) [e] [⟨some "start", ke, kp⟩] pos) (iEnumS X.K ta tk) := by
  refine ⟨fun pins s σ H R I h => wpAny_Call_Name_kw (ld_blt I hg hm boot_enumerate (callTK hpl ?_))⟩
  rw [hs]
  refine evalArgs_kwB hall ?_
  rw [← hs, hks]
  refine thn (ha.run pos pins s σ H _ I h) fun us s1 h1 => ?_
  obtain ⟨vs, H1, I1, r1, h1⟩ := h1
  refine thn (hkw.run pos pins s1 σ H1 _ I1 h1) fun ws s2 h2 => ?_
  obtain ⟨zs, H2, I2, r2, a, xs, k, rfl, hk9, rfl, hh⟩ := h2
  cases r1 with
  | cons r rr =>
    cases rr
    cases r
    cases r2 with
    | cons u uu =>
      cases uu
      obtain ⟨t, rfl⟩ := u
      rcases hh with ⟨hq, q⟩ | ⟨hq, q⟩
      · obtain ⟨its, rv, hp, hz⟩ := I2.list hq
        have hL : s2.heap.IsList a its.toArray := pl_list hp
        refine enum_begins_start (begins_list a its.toArray) hL (by omega) (by omega) fun h' he hit hsz hk => wpAny_pyIter_enum he ?_
        have I3 : Inv X pins σ H2 { s2 with heap := h' } := I2.kept (t' := s2.toks) hk
        refine ⟨s2.heap.objs.size + 1, [s2.heap.objs.size + 1, s2.heap.objs.size], _, _, H2, rfl, I3, turn a (s2.heap.objs.size + 1) s2.heap.objs.size k, ⟨⟨.none, he⟩, ⟨_, hit, rfl, rfl⟩, Nat.succ_ne_self _⟩, fun b hb => ?_, q⟩
        have hb' : s2.heap.objs.size ≤ b := by
          rcases List.mem_cons.mp hb with z | z
          · rw [z]; exact Nat.le_succ _
          · rw [List.mem_singleton.mp z]; exact Nat.le_refl _
        exact I2.fpOk hb' (I2.hok.fresh hb')
      · obtain ⟨its, rv, p', hz⟩ := I2.tuple hq
        have hp : s2.heap.IsTuple a its.toArray := p'
        have hlt : a < s2.heap.objs.size := IsTup.lt p'
        refine enum_begins_start (begins_tuple a its.toArray) hp (by omega) (by omega) fun h' he hit hsz hk => wpAny_pyIter_enum he ?_
        have I3 : Inv X pins σ H2 { s2 with heap := h' } := I2.kept (t' := s2.toks) hk
        refine ⟨s2.heap.objs.size + 1, [s2.heap.objs.size + 1, s2.heap.objs.size], _, _, H2, rfl, I3, turnT a (s2.heap.objs.size + 1) s2.heap.objs.size k (Nat.ne_of_lt hlt) (Nat.ne_of_lt (Nat.lt_succ_of_lt hlt)) (Nat.succ_ne_self _), ⟨⟨.none, he⟩, ⟨_, hit, rfl, rfl⟩⟩, fun b hb => ?_, q⟩
        have hb' : s2.heap.objs.size ≤ b := by
          rcases List.mem_cons.mp hb with z | z
          · rw [z]; exact Nat.le_succ _
          · rw [List.mem_singleton.mp z]; exact Nat.le_refl _
        exact I2.fpOk hb' (I2.hok.fresh hb')
end EK

/-! Worths of boxes: expansions by rows, for boxes of any size. -/
namespace DETM
/-- one row expanded: each thing of the lot left out in turn, with signs by turns -/
def E (a : Nat → Int) (h : List Nat → Int) : List Nat → Int
  | [] => 0
  | c :: cs => a c * h cs - E a (fun l => h (c :: l)) cs
theorem E_congr {a : Nat → Int} : ∀ {cs : List Nat} {h h' : List Nat → Int}, (∀ l : List Nat, l.length + 1 = cs.length → (∀ x ∈ l, x ∈ cs) → h l = h' l) → E a h cs = E a h' cs
  | [], _, _, _ => rfl
  | c :: cs, h, h', e => by
    rw [E, E, e cs rfl (fun x hx => List.mem_cons_of_mem _ hx), E_congr (h := fun l => h (c :: l)) (h' := fun l => h' (c :: l)) (cs := cs) fun l hl hm => e (c :: l) (by simp; omega) fun x hx => by
      rcases List.mem_cons.mp hx with rfl | hx
      · exact List.mem_cons_self
      · exact List.mem_cons_of_mem _ (hm x hx)]
theorem E_congrA {a b : Nat → Int} : ∀ {cs : List Nat} {h : List Nat → Int}, (∀ c ∈ cs, a c = b c) → E a h cs = E b h cs
  | [], _, _ => rfl
  | c :: cs, h, e => by
    rw [E, E, e c List.mem_cons_self, E_congrA fun x hx => e x (List.mem_cons_of_mem _ hx)]
theorem E_sub (a : Nat → Int) : ∀ (cs : List Nat) (h h' : List Nat → Int), E a (fun l => h l - h' l) cs = E a h cs - E a h' cs
  | [], _, _ => by simp [E]
  | c :: cs, h, h' => by
    rw [E, E, E, E_sub a cs (fun l => h (c :: l)) (fun l => h' (c :: l)), Int.mul_sub]
    omega
theorem E_mul (a : Nat → Int) (k : Int) : ∀ (cs : List Nat) (h : List Nat → Int), E a (fun l => k * h l) cs = k * E a h cs
  | [], _ => by simp [E]
  | c :: cs, h => by
    rw [E, E, E_mul a k cs (fun l => h (c :: l)), Int.mul_sub, Int.mul_left_comm]
theorem E_neg (a : Nat → Int) (cs : List Nat) (h : List Nat → Int) : E a (fun l => - h l) cs = - E a h cs := by
  have := E_mul a (-1) cs h
  rw [show (fun l => -1 * h l) = fun l => - h l from funext fun l => by omega] at this
  omega
theorem E_zero (a : Nat → Int) (cs : List Nat) : E a (fun _ => 0) cs = 0 := by
  have := E_mul a 0 cs fun _ => 0
  simpa using this
theorem E_addA (a b : Nat → Int) (k : Int) : ∀ (cs : List Nat) (h : List Nat → Int), E (fun c => a c + k * b c) h cs = E a h cs + k * E b h cs
  | [], _ => by simp [E]
  | c :: cs, h => by
    rw [E, E, E, E_addA a b k cs, Int.add_mul, Int.mul_sub, Int.mul_assoc]
    omega
/-- two rows expanded one behind the other: exchanged, the sign turns -/
theorem exch (a b : Nat → Int) : ∀ (cs : List Nat) (h : List Nat → Int), E a (E b h) cs = - E b (E a h) cs
  | [], _ => rfl
  | c :: cs, h => by
    have e1 : E a (fun l => E b h (c :: l)) cs = b c * E a h cs - E a (E b fun m => h (c :: m)) cs := by
      rw [show (fun l => E b h (c :: l)) = fun l => b c * h l - E b (fun m => h (c :: m)) l from funext fun l => by rw [E], E_sub, E_mul]
    have e2 : E b (fun l => E a h (c :: l)) cs = a c * E b h cs - E b (E a fun m => h (c :: m)) cs := by
      rw [show (fun l => E a h (c :: l)) = fun l => a c * h l - E a (fun m => h (c :: m)) l from funext fun l => by rw [E], E_sub, E_mul]
    rw [E, E, e1, e2, exch a b cs fun m => h (c :: m)]
    omega
def rw' (r : List Int) : Nat → Int := fun c => r.getD c 0
/-- a box expanded by its rows from the first one on -/
def F : List (List Int) → List Nat → Int
  | [], _ => 1
  | r :: rs, lot => E (rw' r) (F rs) lot
theorem F_congr_tail {rs rs' : List (List Int)} (h : ∀ l, l.length = rs.length → F rs l = F rs' l) (hl : rs.length = rs'.length) : ∀ (xs : List (List Int)) (l : List Nat), l.length = xs.length + rs.length → F (xs ++ rs) l = F (xs ++ rs') l
  | [], l, e => h l (by simpa using e)
  | x :: xs, l, e => by
    show E _ _ _ = E _ _ _
    exact E_congr fun m hm _ => F_congr_tail h hl xs m (by simp at e; omega)
theorem F_adj (xs : List (List Int)) (r s : List Int) (ys : List (List Int)) (l : List Nat) : F (xs ++ r :: s :: ys) l = - F (xs ++ s :: r :: ys) l := by
  induction xs generalizing l with
  | nil => exact exch _ _ _ _
  | cons x xs ih =>
    show E _ (F (xs ++ r :: s :: ys)) _ = - E _ (F (xs ++ s :: r :: ys)) _
    rw [show F (xs ++ r :: s :: ys) = fun l => - F (xs ++ s :: r :: ys) l from funext ih, E_neg]
def sg (n : Nat) : Int := if n % 2 = 0 then 1 else -1
theorem sg0 : sg 0 = 1 := rfl
theorem sg_succ (n : Nat) : sg (n + 1) = - sg n := by
  unfold sg
  by_cases h : n % 2 = 0
  · rw [if_pos h, if_neg (by omega)]
  · rw [if_neg h, if_pos (by omega)]; rfl
theorem sg_sq (n : Nat) : sg n * sg n = 1 := by
  unfold sg
  split <;> rfl
/-- a row moved behind some others -/
theorem F_move (xs : List (List Int)) (r : List Int) (ms ys : List (List Int)) (l : List Nat) : F (xs ++ r :: ms ++ ys) l = sg ms.length * F (xs ++ ms ++ r :: ys) l := by
  induction ms generalizing xs with
  | nil => simp [sg0]
  | cons m ms ih =>
    have h1 := F_adj xs r m (ms ++ ys) l
    have h2 := ih (xs ++ [m])
    simp only [List.append_assoc, List.cons_append, List.nil_append] at h1 h2 ⊢
    rw [h1, h2, List.length_cons, sg_succ, Int.neg_mul]
/-- two rows exchanged -/
theorem F_swap (xs : List (List Int)) (r : List Int) (ms : List (List Int)) (s : List Int) (ys : List (List Int)) (l : List Nat) : F (xs ++ r :: ms ++ s :: ys) l = - F (xs ++ s :: ms ++ r :: ys) l := by
  have h1 := F_move xs r ms (s :: ys) l
  have h2 := F_adj (xs ++ ms) r s ys l
  have h3 := F_move xs s ms (r :: ys) l
  simp only [List.append_assoc, List.cons_append] at h1 h2 h3 ⊢
  rw [h1, h2, h3, Int.mul_neg]
theorem F_same (xs : List (List Int)) (r : List Int) (ms ys : List (List Int)) (l : List Nat) : F (xs ++ r :: ms ++ r :: ys) l = 0 := by
  have := F_swap xs r ms r ys l
  omega
/-- a row added so often to another one -/
theorem F_lin (xs : List (List Int)) (r s t : List Int) (k : Int) (ys : List (List Int)) (l : List Nat) (h : ∀ c ∈ l, t.getD c 0 = r.getD c 0 + k * s.getD c 0) : F (xs ++ t :: ys) l = F (xs ++ r :: ys) l + k * F (xs ++ s :: ys) l := by
  induction xs generalizing l with
  | nil =>
    show E _ _ _ = E _ _ _ + k * E _ _ _
    rw [← E_addA]
    exact E_congrA h
  | cons x xs ih =>
    show E _ (F (xs ++ t :: ys)) _ = E _ (F (xs ++ r :: ys)) _ + k * E _ (F (xs ++ s :: ys)) _
    rw [← E_mul]
    have : E (rw' x) (F (xs ++ t :: ys)) l = E (rw' x) (fun m => F (xs ++ r :: ys) m - (- (k * F (xs ++ s :: ys) m))) l := E_congr fun m _ hm => by
      rw [ih m fun c hc => h c (hm c hc)]
      omega
    rw [this, E_sub, E_neg]
    omega
/-- the signs that the other way about makes -/
def tri : Nat → Int
  | 0 => 1
  | n + 1 => sg n * tri n
theorem tri_sq : ∀ n, tri n * tri n = 1
  | 0 => rfl
  | n + 1 => by
    rw [tri, Int.mul_assoc, Int.mul_left_comm (tri n), ← Int.mul_assoc, sg_sq, tri_sq n]
    rfl
theorem F_rev : ∀ (rs : List (List Int)) (l : List Nat), F rs.reverse l = tri rs.length * F rs l
  | [], _ => by simp [F, tri]
  | r :: rs, l => by
    have h1 := F_move [] r rs.reverse [] l
    simp only [List.nil_append, List.append_nil, List.length_reverse] at h1
    have h2 : sg rs.length * (sg rs.length * F (rs.reverse ++ [r]) l) = F (rs.reverse ++ [r]) l := by
      rw [← Int.mul_assoc, sg_sq, Int.one_mul]
    rw [List.reverse_cons, ← h2, ← h1]
    show sg rs.length * E _ _ _ = _ * E _ _ _
    rw [show F rs.reverse = fun l => tri rs.length * F rs l from funext (F_rev rs), E_mul, ← Int.mul_assoc]
    rfl
/-- a lot with a column that is nought in all rows -/
theorem F_col {c : Nat} : ∀ (rs : List (List Int)) (l : List Nat), (∀ r ∈ rs, r.getD c 0 = 0) → c ∈ l → l.length = rs.length → F rs l = 0
  | [], l, _, hc, hl => by
    match l, hl with
    | [], _ => cases hc
  | r :: rs, l, h, hc, hl => by
    have z : ∀ (pre cs : List Nat), c ∈ pre ++ cs → (pre ++ cs).length = rs.length + 1 → (c ∉ pre ∨ True) → E (rw' r) (fun m => F rs (pre ++ m)) cs = 0 := by
      intro pre cs
      induction cs generalizing pre with
      | nil => intros; rfl
      | cons d ds ih =>
        intro hm hlen _
        rw [E]
        have h2 := ih (pre ++ [d]) (by simpa using hm) (by simpa using hlen) (.inr trivial)
        simp only [List.append_assoc, List.cons_append, List.nil_append] at h2
        rw [h2]
        by_cases e : d = c
        · rw [e, show rw' r c = 0 from h r List.mem_cons_self]
          simp
        · rw [F_col rs (pre ++ ds) (fun s hs => h s (List.mem_cons_of_mem _ hs)) (by
            simp only [List.mem_append, List.mem_cons] at hm ⊢
            rcases hm with a | a | a
            · exact .inl a
            · exact absurd a.symm e
            · exact .inr a) (by simp at hlen ⊢; omega)]
          simp
    exact z [] l hc (by simpa using hl) (.inr trivial)
/-- rows that have nought below the diagonal: the product of the diagonal -/
theorem F_tri : ∀ (rs : List (List Int)) (l : List Nat), l.length = rs.length → (∀ (i j : Nat) (r : List Int) (c : Nat), rs[i]? = some r → l[j]? = some c → j < i → r.getD c 0 = 0) →
    F rs l = ((List.zip rs l).map fun p => p.1.getD p.2 0).foldl (· * ·) 1
  | [], [], _, _ => rfl
  | r :: rs, c :: cs, hl, h => by
    show E _ _ _ = _
    rw [E]
    have e0 : E (rw' r) (fun l => F rs (c :: l)) cs = 0 := by
      rw [← E_zero (rw' r) cs]
      exact E_congr fun m hm _ => F_col rs (c :: m) (fun s hs => by
        obtain ⟨i, hi⟩ := List.getElem?_of_mem hs
        exact h (i + 1) 0 s c (by simpa using hi) rfl (by omega)) List.mem_cons_self (by simp at hl ⊢; omega)
    have ih := F_tri rs cs (by simpa using hl) fun i j s d e1 e2 lt => h (i + 1) (j + 1) s d (by simpa using e1) (by simpa using e2) (by omega)
    rw [e0, ih]
    have gen : ∀ (xs : List Int) (k : Int), xs.foldl (· * ·) k = k * xs.foldl (· * ·) 1 := by
      intro xs
      induction xs with
      | nil => intro k; simp
      | cons x xs ih =>
        intro k
        rw [List.foldl_cons, List.foldl_cons, ih, ih (1 * x), Int.one_mul, Int.mul_assoc]
    rw [List.zip_cons_cons, List.map_cons, List.foldl_cons, gen _ (1 * _), Int.one_mul]
    show rw' r c * _ - 0 = _
    rw [Int.sub_zero]
    rfl
end DETM

set_option maxHeartbeats 4000000
/-! The worth of a box. -/
namespace K4
open PySem PySem.Spec PyProof.Rows L2 CX4
/-- the worths of the upper rows -/
def wf (rs : List (List Int)) : Nat → List Nat → Int
  | 0, _ => 1
  | k + 1, lot => nw (rs.getD k []) (wf rs k) [] lot (s0 lot)
theorem less_all : ((List.range 8).all fun n => (List.range n).all fun i => (CB.combs n (i + 1)).all fun lot => (List.range lot.length).all fun j => decide (lot.take j ++ lot.drop (j + 1) ∈ CB.combs n i)) = true := by decide +kernel
theorem less {n i : Nat} (hn : n ≤ 7) (hi : i < n) {lot pre cs : List Nat} {c : Nat} (hl : lot ∈ CB.combs n (i + 1)) (e : lot = pre ++ c :: cs) : pre ++ cs ∈ CB.combs n i := by
  have h1 := List.all_eq_true.mp less_all n (List.mem_range.mpr (by omega))
  have h2 := List.all_eq_true.mp h1 i (List.mem_range.mpr hi)
  have h3 := List.all_eq_true.mp h2 lot hl
  have h4 := List.all_eq_true.mp h3 pre.length (List.mem_range.mpr (by rw [e, List.length_append, List.length_cons]; omega))
  have h5 := of_decide_eq_true h4
  rw [e] at h5
  simpa using h5
theorem lots_get {H H' : Hp} : ∀ {cs : List (List Nat)} {ts : List Addr}, CB.LotsAt H H' cs ts → cs.length = ts.length ∧ ∀ (j : Nat) (t : Addr), ts[j]? = some t → ∃ c, cs[j]? = some c ∧ H' t = some (.tup (CB.lotV c))
  | [], [], _ => ⟨rfl, fun j t h => by simp at h⟩
  | c :: r, t :: ts, h => by
    obtain ⟨h1, _, h3⟩ := h
    obtain ⟨e, g⟩ := lots_get h3
    refine ⟨by rw [List.length_cons, List.length_cons, e], fun j u hu => ?_⟩
    cases j with
    | zero =>
      cases hu
      exact ⟨c, rfl, h1⟩
    | succ j => exact g j u hu
theorem key_inj {a b : List Nat} (h : key a = key b) : a = b := by
  unfold key at h
  exact List.map_inj_right (fun x y e => by injection e with e; omega) |>.mp h
theorem dc_lst {K : PySem.W.Frag} {a : Addr} {xs : List V} {g : TG} {tk tv : TE} {vs : List Nat} {σ : L2.St} {H1 : Hp} {D : Addr} {Qd : Hp → Prop} (Pv : Nat → Hp → Prop) (h0 : Pv 0 (upd H1 D (.dT []))) (hl : ∀ i H, i ≤ xs.length → Pv i H → SqL K H a xs)
    (hs : ∀ (i : Nat) (x : V) (H : Hp), xs[i]? = some x → Pv i H → g x (wipe σ vs) H fun σ2 H2 => wipe σ2 vs = wipe σ vs ∧
          tk σ2 H2 fun y H4 => tv σ2 H4 fun z H5 => ∃ b kvs k, y = .ref b ∧ H5 b = some (.tup (List.map kV k)) ∧ H5 D = some (.dT kvs) ∧ kvs.length < sizeLine ∧ Pv (i + 1) (upd H5 D (.dT (putK kvs k z))))
    (hd : ∀ H, Pv xs.length H → Qd H) : ∃ W : Nat → Nat → Hp → Prop, (∃ m, W 0 m (upd H1 D (.dT []))) ∧
    ∀ (i m : Nat) (H : Hp), W i m H →
      (Itl K a).stop i H ∧ Qd H ∨
      (Itl K a).go i H ∧ ∃ Nx : Hp → Prop, (∀ H', Nx H' → ∃ m', m' < m ∧ W (i + 1) m' H') ∧
        ∀ (x : V) (H' : Hp), (Itl K a).yld i H x H' → g x (wipe σ vs) H' fun σ2 H2 => wipe σ2 vs = wipe σ vs ∧
          tk σ2 H2 fun y H4 => tv σ2 H4 fun z H5 => ∃ b kvs k, y = .ref b ∧ H5 b = some (.tup (List.map kV k)) ∧ H5 D = some (.dT kvs) ∧ kvs.length < sizeLine ∧ Nx (upd H5 D (.dT (putK kvs k z))) := by
  refine ⟨fun i m H => m = xs.length - i ∧ i ≤ xs.length ∧ Pv i H, ⟨xs.length, by simp, Nat.zero_le _, h0⟩, ?_⟩
  rintro i m H ⟨rfl, hi, p⟩
  have q := hl i H hi p
  by_cases hlt : i < xs.length
  · refine .inr ⟨⟨xs, xs[i], q, List.getElem?_eq_getElem hlt⟩, Pv (i + 1), fun H' p' => ⟨xs.length - (i + 1), by omega, rfl, hlt, p'⟩, ?_⟩
    rintro v H' ⟨rfl, hx⟩
    exact hs i v _ (hx _ q) p
  · obtain rfl : i = xs.length := by omega
    exact .inl ⟨⟨xs, q, Nat.le_refl _⟩, hd H p⟩
theorem for_enumK {K : PySem.W.Frag} {a : Addr} {k : Nat} {xs : List V} {g : TG} {tb : TS} {D : Ends} {σ : L2.St} {H : Hp} (Pv : Nat → L2.St → Hp → Prop) (h0 : Pv 0 σ H) (hl : ∀ i σ H, i ≤ xs.length → Pv i σ H → SqL K H a xs)
    (hs : ∀ (i : Nat) (x : V) (σ : L2.St) (H : Hp) (T : Addr), xs[i]? = some x → Pv i σ H → H T = none → g (.ref T) σ (upd H T (.tup [.int ((k + i : Nat) : Int), x])) fun σ2 H2 => tb { D with nx := Pv (i + 1), ct := Pv (i + 1), bk := D.nx } σ2 H2)
    (hd : ∀ σ H, Pv xs.length σ H → D.nx σ H) : ∃ W : Nat → Nat → L2.St → Hp → Prop, (∃ m, W 0 m σ H) ∧ ∀ i m σ H, W i m σ H → ((EK.IteK K a k).stop i H ∧ D.nx σ H) ∨
      ((EK.IteK K a k).go i H ∧ ∃ N : L2.St → Hp → Prop, (∀ σ' H', N σ' H' → ∃ m', m' < m ∧ W (i + 1) m' σ' H') ∧ ∀ x H', (EK.IteK K a k).yld i H x H' → g x σ H' fun σ2 H2 => tb { D with nx := N, ct := N, bk := D.nx } σ2 H2) := by
  refine ⟨fun i m σ H => m = xs.length - i ∧ i ≤ xs.length ∧ Pv i σ H, ⟨xs.length, by simp, Nat.zero_le _, h0⟩, ?_⟩
  rintro i m σ H ⟨rfl, hi, p⟩
  have q := hl i σ H hi p
  by_cases hlt : i < xs.length
  · refine .inr ⟨⟨xs, xs[i], q, List.getElem?_eq_getElem hlt⟩, Pv (i + 1), fun σ' H' p' => ⟨xs.length - (i + 1), by omega, rfl, hlt, p'⟩, ?_⟩
    rintro v H' ⟨T, x, rfl, nT, rfl, hx⟩
    exact hs i x σ H T (hx _ q) p nT
  · obtain rfl : i = xs.length := by omega
    exact .inl ⟨⟨xs, q, Nat.le_refl _⟩, hd σ H p⟩
theorem for_enumKT {K : PySem.W.Frag} {a : Addr} {k : Nat} {xs : List V} {g : TG} {tb : TS} {D : Ends} {σ : L2.St} {H : Hp} (Pv : Nat → L2.St → Hp → Prop) (h0 : Pv 0 σ H) (hl : ∀ i σ H, i ≤ xs.length → Pv i σ H → SqT K H a xs)
    (hs : ∀ (i : Nat) (x : V) (σ : L2.St) (H : Hp) (T : Addr), xs[i]? = some x → Pv i σ H → H T = none → g (.ref T) σ (upd H T (.tup [.int ((k + i : Nat) : Int), x])) fun σ2 H2 => tb { D with nx := Pv (i + 1), ct := Pv (i + 1), bk := D.nx } σ2 H2)
    (hd : ∀ σ H, Pv xs.length σ H → D.nx σ H) : ∃ W : Nat → Nat → L2.St → Hp → Prop, (∃ m, W 0 m σ H) ∧ ∀ i m σ H, W i m σ H → ((EK.IteKT K a k).stop i H ∧ D.nx σ H) ∨
      ((EK.IteKT K a k).go i H ∧ ∃ N : L2.St → Hp → Prop, (∀ σ' H', N σ' H' → ∃ m', m' < m ∧ W (i + 1) m' σ' H') ∧ ∀ x H', (EK.IteKT K a k).yld i H x H' → g x σ H' fun σ2 H2 => tb { D with nx := N, ct := N, bk := D.nx } σ2 H2) := by
  refine ⟨fun i m σ H => m = xs.length - i ∧ i ≤ xs.length ∧ Pv i σ H, ⟨xs.length, by simp, Nat.zero_le _, h0⟩, ?_⟩
  rintro i m σ H ⟨rfl, hi, p⟩
  have q := hl i σ H hi p
  by_cases hlt : i < xs.length
  · refine .inr ⟨⟨xs, xs[i], q, List.getElem?_eq_getElem hlt⟩, Pv (i + 1), fun σ' H' p' => ⟨xs.length - (i + 1), by omega, rfl, hlt, p'⟩, ?_⟩
    rintro v H' ⟨T, x, rfl, nT, rfl, hx⟩
    exact hs i x σ H T (hx _ q) p nT
  · obtain rfl : i = xs.length := by omega
    exact .inl ⟨⟨xs, q, Nat.le_refl _⟩, hd σ H p⟩
theorem for_enumS {K : PySem.W.Frag} {a : Addr} {k : Nat} {xs : List V} {g : TG} {tb : TS} {D : Ends} {σ : L2.St} {H0 H : Hp} (hq : Sq K H0 a xs) (s0 : Same H0 H) (Pv : Nat → L2.St → Hp → Prop) (h0 : Pv 0 σ H) (hl : ∀ i σ H, i ≤ xs.length → Pv i σ H → Same H0 H)
    (hs : ∀ (i : Nat) (x : V) (σ : L2.St) (H : Hp) (T : Addr), xs[i]? = some x → Pv i σ H → H T = none → g (.ref T) σ (upd H T (.tup [.int ((k + i : Nat) : Int), x])) fun σ2 H2 => tb { D with nx := Pv (i + 1), ct := Pv (i + 1), bk := D.nx } σ2 H2)
    (hd : ∀ σ H, Pv xs.length σ H → D.nx σ H) : (SqL K H a xs ∧ ∃ W : Nat → Nat → L2.St → Hp → Prop, (∃ m, W 0 m σ H) ∧ ∀ i m σ H, W i m σ H → ((EK.IteK K a k).stop i H ∧ D.nx σ H) ∨
      ((EK.IteK K a k).go i H ∧ ∃ N : L2.St → Hp → Prop, (∀ σ' H', N σ' H' → ∃ m', m' < m ∧ W (i + 1) m' σ' H') ∧ ∀ x H', (EK.IteK K a k).yld i H x H' → g x σ H' fun σ2 H2 => tb { D with nx := N, ct := N, bk := D.nx } σ2 H2)) ∨
    (SqT K H a xs ∧ ∃ W : Nat → Nat → L2.St → Hp → Prop, (∃ m, W 0 m σ H) ∧ ∀ i m σ H, W i m σ H → ((EK.IteKT K a k).stop i H ∧ D.nx σ H) ∨
      ((EK.IteKT K a k).go i H ∧ ∃ N : L2.St → Hp → Prop, (∀ σ' H', N σ' H' → ∃ m', m' < m ∧ W (i + 1) m' σ' H') ∧ ∀ x H', (EK.IteKT K a k).yld i H x H' → g x σ H' fun σ2 H2 => tb { D with nx := N, ct := N, bk := D.nx } σ2 H2)) := by
  rcases hq with h | h
  · exact .inl ⟨s0.seq h, for_enumK Pv h0 (fun i σ H' hi p => (hl i σ H' hi p).seq h) hs hd⟩
  · exact .inr ⟨ZM.sqT_sm s0 h, for_enumKT Pv h0 (fun i σ H' hi p => ZM.sqT_sm (hl i σ H' hi p) h) hs hd⟩
section
variable {P : Program} {w : World} {K : PySem.W.Frag} {mg : Str → Option Value} {base : Heap} {C : Addr}
def spBox (K : PySem.W.Frag) (C : Addr) : Sp := fun vs H Q E => ∃ (a : Addr) (ls : List Nat), vs = [.ref a] ∧ RowsL K H a ls ∧ ls.length ≤ 1000 ∧ (∀ l ∈ ls, l ≤ 1000) ∧ (okB ls = false → ∀ H', Same H H' → Refuses C "BadBox" H' E) ∧
  (okB ls = true → ∃ rs : List (List Int), ls = rs.map List.length ∧ RowsAt K H a rs ∧ (∀ r ∈ rs, ∀ v ∈ r, -2 ^ 64 < v ∧ v < 2 ^ 64) ∧ ∀ H', Same H H' → Q (.int (wf rs rs.length (List.range rs.length))) H')
/-- what box calls -/
structure TxX (P : Program) (w : World) (K : PySem.W.Frag) (mg : Str → Option Value) (base : Heap) (C0 : Addr) (fc fl fn : Addr) (dc dl dn : FuncData) : Prop where
  C : FnOk P w K mg base (L2.CX P w) 3 fc dc ["rows"] (spCB K C0)
  gC : mg "_check_box" = some (.ref fc)
  kC : PySem.W.keepIn K (.ref fc) = true
  bC : Binds K dc ["rows"] []
  L : FnOk P w K mg base CX0 3 fl dl ["many", "size"] spLots
  gL : mg "lots" = some (.ref fl)
  kL : PySem.W.keepIn K (.ref fl) = true
  bL : Binds K dl ["many", "size"] []
  N : FnOk P w K mg base CX0 3 fn dn ["row", "lot", "worths"] (spNw K)
  gN : mg "_next_worth" = some (.ref fn)
  kN : PySem.W.keepIn K (.ref fn) = true
  bN : Binds K dn ["row", "lot", "worths"] []
  len : mg "len" = none
  en : mg "enumerate" = none
  tup : mg "tuple" = none
  rng : mg "range" = none
theorem ok_box {f fc fl fn : Addr} {fd dc dl dn : FuncData} (F : Fun K "box" "box" sBox f fd) (T : TxX P w K mg base C fc fl fn dc dl dn) : FnOk P w K mg base (L2.CX P w) 4 f fd ["rows"] (spBox K C) := by
  refine F.okX scBox (fun vs H Q E ⟨a, rs, e, _⟩ => by rw [e]; rfl) (fun cdv A outer s H vs Q E hr h => ?_)
  obtain ⟨a, ls, rfl, hL, l7, hl7, hN, hY⟩ := h
  have u1 : (A.deeper (envOfC "box" (defScope sBox) s.heap.objs.size f cdv)).units + 1 < cLine := by
    have := hr.units
    omega
  have u0 := Nat.lt_of_succ_lt u1
  refine ⟨_, pss_cons (ps_expr (by exact (pe_callS (E := WE fun cls d _ H => E cls d H) T.C hr rfl T.gC T.kC T.bC (fun σ => passAt (takes_of rfl rfl rfl rfl) σ) (by exact (pa_cons (pv 0) pa_nil)))))
    (PSs.nox (pss_cons (ps_set (i := 1) scBox.nd rfl (Or.inl rfl) (pe_callB call_len_seq (by rfl) T.len PySem.boot_len (pa_cons (pv 0) pa_nil)))
    (pss_cons (ps_set (i := 2) scBox.nd rfl (Or.inr rfl) (DTC.pe_disp1 u0 (pe_tup pa_nil) pe_int))
    (pss_cons (ps_for PassesOwn.never rfl (EK.pi_enumS (by rfl) T.en (pa_cons (pv 0) pa_nil) (pk_cons pe_int pk_nil)) (pg_tup rfl (pgs_cons (pg_name (i := 3) scBox.nd rfl (Or.inl rfl)) (pgs_cons (pg_name (i := 4) scBox.nd rfl (Or.inr rfl)) pgs_nil)))
      (pss_one (ZM.ps_bx (ps_set (i := 2) scBox.nd rfl (Or.inr rfl) (DTC.pe_dcT (own := [("lot", 5)]) (g := gName 5) u0 rfl scBox.nd (pi_list (pe_call T.L hr (by rfl) T.gL T.kL T.bL .nil pass0 (pa_cons (pv 1) (pa_cons (pv 3) pa_nil)))) (blkOk_by (N := ["rows", "many", "worths", "size", "row", "lot"]) (sc := defScope sBox) (by decide +kernel))
        (fun _ _ _ _ _ => pg_name (i := 5) scBox.nd rfl (Or.inl rfl)) (fun _ _ _ _ _ => pv 5) (fun _ _ _ _ _ => pe_call (E := fun _ _ _ => False) T.N hr (by rfl) T.gN T.kN T.bN .nil pass0 (pa_cons (pv 4) (pa_cons (pv 5) (pa_cons (pv 2) pa_nil)))))))))
    (pss_one (ps_ret (pe_dget u1 (pv 2) (pe_tupRg rfl (by rfl) T.tup (prg_1 (by rfl) T.rng (pv 1))) (fun _ _ => rfl)))))))), ?_⟩
  refine ⟨_, rfl, a, ls, rfl, hL, l7, hl7, hN, fun g H2 s2 => ?_⟩
  obtain ⟨rs, els, hR, hB, q⟩ := hY g
  unfold okB at g
  rw [Bool.and_eq_true, List.all_eq_true, els, List.length_map] at g
  have r7 : rs.length ≤ 7 := of_decide_eq_true g.1
  have hl : ∀ r ∈ rs, r.length = rs.length ∧ ∀ v ∈ r, -2 ^ 64 < v ∧ v < 2 ^ 64 := fun r hr => ⟨of_decide_eq_true (g.2 _ (List.mem_map_of_mem hr)), hB r hr⟩
  clear hN hY g
  obtain ⟨n, en⟩ : ∃ n, rs.length = n := ⟨_, rfl⟩
  obtain ⟨bs, hb, lb, hrow⟩ := hR
  have len0 : (bs.map V.ref).length = n := by rw [List.length_map, lb, en]
  refine ⟨_, rfl, a, _, rfl, hb.same s2, ?_⟩
  rw [len0]
  intro D nD
  refine ⟨by decide, fun p np => ⟨p, [], rfl, upd_same, same_new np _ _ upd_same, ?_⟩⟩
  have s3 : Same H2 (upd (upd (upd H2 D (.dT [])) p (.tup [])) D (.dT [([], .int 1)])) := ZM.sm_at nD ((same_new nD).trans (same_new np))
  have d3 : (upd (upd (upd H2 D (.dT [])) p (.tup [])) D (.dT [([], .int 1)])) D = some (.dT [([], .int 1)]) := upd_same
  generalize upd (upd (upd H2 D (.dT [])) p (.tup [])) D (.dT [([], .int 1)]) = H3 at s3 d3 ⊢
  have s3 := s2.trans s3
  refine ⟨_, rfl, a, _, 1, rfl, by omega, rfl, for_enumS (K := K) (a := a) (k := 1) (xs := bs.map V.ref) hb s3 (fun i σ H' => ∃ (d : Addr) (x3 x4 x5 : Option V) (kvs : List (List Key × V)), σ = [some (.ref a), some (.int (n : Nat)), some (.ref d), x3, x4, x5] ∧ Same H H' ∧ H' d = some (.dT kvs) ∧ ∀ lot ∈ CB.combs n i, valV kvs (key lot) = some (.int (wf rs i lot)))
    ⟨D, none, none, none, _, rfl, s3, d3, ?_⟩ (fun i σ H' _ ⟨_, _, _, _, _, _, s, _⟩ => s) ?_ ?_⟩
  · intro lot hlot
    obtain ⟨r, e, ch, g, l⟩ := CB.good_at (n := n) (k := 0) (by omega) (Nat.zero_le _)
    obtain rfl : lot = [] := List.length_eq_zero_iff.mp (g lot hlot).2
    rfl
  · rintro i x σ H4 T hx ⟨d, x3, x4, x5, kvs, rfl, s4, hd, hv⟩ nT
    have li : i < n := by
      have := (List.getElem?_eq_some_iff.mp hx).1
      omega
    rw [List.getElem?_map] at hx
    obtain ⟨b, hb', rfl⟩ := Option.map_eq_some_iff.mp hx
    have gr : rs[i]? = some (rs[i]'(by omega)) := List.getElem?_eq_getElem _
    have eg : rs.getD i [] = rs[i]'(by omega) := by rw [List.getD_eq_getElem?_getD, gr]; rfl
    have rb := hrow i b _ hb' gr
    rw [← eg] at rb
    have rl := hl (rs.getD i []) (eg ▸ List.getElem_mem _)
    rw [en] at rl
    obtain ⟨rl, rB⟩ := rl
    refine ⟨T, _, rfl, SqT.of upd_same, rfl, _, _, rfl, _, _, rfl, rfl, ⟨?_⟩⟩
    have s5 := s4.trans (same_new (o := .tup [.int ((1 + i : Nat) : Int), .ref b]) nT)
    have hd5 := same_new (o := .tup [.int ((1 + i : Nat) : Int), .ref b]) nT _ _ hd
    generalize upd H4 T (.tup [.int ((1 + i : Nat) : Int), .ref b]) = H5 at s5 hd5 ⊢
    refine ⟨_, rfl, _, rfl, n, 1 + i, rfl, by omega, by omega, fun l ts H6 s6 nl hl6 LA => ?_⟩
    obtain ⟨r, ec, ch, gA, rlen⟩ := CB.good_at (n := n) (k := 1 + i) (by omega) (by omega)
    have clen : (CB.combs n (1 + i)).length ≤ 1000 := by
      rw [ec, List.length_cons]
      omega
    obtain ⟨lt, LG⟩ := lots_get LA
    have hd6 := s6 _ _ hd5
    have s7 := s5.trans s6
    refine ⟨l, rfl, ⟨_, SqL.of hl6⟩, fun D nD => dc_lst (K := K) (a := l) (xs := ts.map V.ref) (fun j H => Same H6 H ∧ ∃ kv2 : List (List Key × V), H D = some (.dT kv2) ∧ kv2.length ≤ j ∧ ∀ lot ∈ (CB.combs n (1 + i)).take j, valV kv2 (key lot) = some (.int (wf rs (i + 1) lot)))
      ⟨same_new nD, [], upd_same, Nat.le_refl _, fun lot h => by simp at h⟩ (fun j H _ p => p.1.seq (SqL.of hl6)) ?_ ?_⟩
    · rintro j x H7 hx ⟨s8, kv2, hD, hk2, hv2⟩
      have lj := (List.getElem?_eq_some_iff.mp hx).1
      rw [List.length_map] at lj
      rw [List.getElem?_map] at hx
      obtain ⟨t, ht, rfl⟩ := Option.map_eq_some_iff.mp hx
      obtain ⟨c, hc, htc⟩ := LG j t ht
      have mc : c ∈ CB.combs n (1 + i) := List.mem_of_getElem? hc
      have mc' : c ∈ CB.combs n (i + 1) := by rw [Nat.add_comm i 1]; exact mc
      obtain ⟨g1, g2⟩ := gA c mc
      refine ⟨rfl, ?_⟩
      refine ⟨_, rfl, _, rfl, _, rfl, _, rfl, b, t, d, rs.getD i [], c, kvs, wf rs i, rfl, rb.same (s7.trans s8), .inl (.inl (s8 _ _ htc)), s8 _ _ hd6, by omega, by omega, rB, fun u hu => by rw [rl]; exact g1 u hu, fun pre u cs e => hv _ (less (by omega) li mc' e), fun H8 s9 => ?_⟩
      refine ⟨t, kv2, key c, rfl, by rw [key_kV]; exact s9 _ _ (s8 _ _ htc), s9 _ _ hD, by rw [sizeLine_eq]; omega, ZM.sm_at nD (s8.trans s9), _, upd_same, Nat.le_trans (length_putK _ _ _) (by omega), ?_⟩
      intro lot hlot
      rw [valV_put]
      by_cases e : key lot = key c
      · rw [if_pos e]
        obtain rfl := key_inj e
        rfl
      · rw [if_neg e]
        refine hv2 lot ?_
        rw [List.take_add_one, hc] at hlot
        rcases List.mem_append.mp hlot with h | h
        · exact h
        · exact absurd (by rw [List.mem_singleton.mp h]) e
    · rintro H7 ⟨s8, kv2, hD, hk2, hv2⟩
      refine ⟨D, _, _, _, kv2, rfl, s7.trans s8, hD, fun lot hlot => hv2 lot ?_⟩
      rw [List.length_map, ← lt, List.take_length, Nat.add_comm 1 i]
      exact hlot
  · rintro σ H4 ⟨d, x3, x4, x5, kvs, rfl, s4, hd, hv⟩
    rw [len0] at hv
    obtain ⟨r, e, ch, g, l⟩ := CB.good_at (n := n) (k := n) (by omega) (Nat.le_refl _)
    refine ⟨_, rfl, _, rfl, n, rfl, ⟨by decide, by decide, by omega, by omega, by omega⟩, fun p np => ⟨d, _, rfl, .inr ⟨kvs, key (List.range n), p, .inl (same_new np _ _ hd), rfl, ?_, (hv _ (by rw [e]; exact List.mem_cons_self)).symm⟩, ?_⟩⟩
    · rw [upd_same, key_kV]
      simp [rgV]
    · have := q _ (s4.trans (same_new (o := .tup (rgV 0 (n : Int))) np))
      rw [en] at this
      exact this
end
end K4

/-! The program's worth and the law's worth are the expansion by rows; rows added and exchanged. -/
namespace K4
open DETM
theorem nw_E (ns : List Int) (f : List Nat → Int) : ∀ (cs pre : List Nat) (s : Int), nw ns f pre cs s = s * E (rw' ns) (fun l => f (pre ++ l)) cs
  | [], _, _ => by simp [nw, E]
  | c :: cs, pre, s => by
    rw [nw, E, nw_E ns f cs (pre ++ [c]) (-s), Int.mul_sub, Int.neg_mul, ← Int.mul_assoc]
    simp only [List.append_assoc, List.cons_append, List.nil_append]
    rfl
theorem s0_sg {lot : List Nat} {k : Nat} (h : lot.length = k + 1) : s0 lot = sg k := by
  unfold s0 sg
  rw [h]
  by_cases e : k % 2 = 0
  · rw [if_pos (by omega), if_pos e]
  · rw [if_neg (by omega), if_neg e]
theorem wf_F (rs : List (List Int)) : ∀ (k : Nat) (lot : List Nat), lot.length = k → k ≤ rs.length → wf rs k lot = tri k * F (rs.take k).reverse lot
  | 0, lot, h, _ => by simp [wf, F, tri]
  | k + 1, lot, h, hk => by
    have e : rs[k]? = some rs[k] := List.getElem?_eq_getElem (by omega)
    rw [wf, nw_E, s0_sg h, tri, List.take_add_one, e, List.reverse_append]
    show sg k * E _ _ _ = sg k * tri k * E (rw' rs[k]) (F (rs.take k).reverse) lot
    rw [Int.mul_assoc, ← E_mul _ (tri k), List.getD_eq_getElem?_getD, e]
    have : E (rw' rs[k]) (fun l => wf rs k ([] ++ l)) lot = E (rw' rs[k]) (fun l => tri k * F (rs.take k).reverse l) lot := E_congr fun m hm _ => by
      rw [List.nil_append]
      exact wf_F rs k m (by omega) (by omega)
    exact congrArg (sg k * ·) this
theorem bx_F (rs : List (List Int)) : wf rs rs.length (List.range rs.length) = F rs (List.range rs.length) := by
  rw [wf_F rs _ _ (by simp) (Nat.le_refl _), List.take_length, F_rev, ← Int.mul_assoc, tri_sq, Int.one_mul]
/-! sums -/
def ps (f : Nat → Int) : Nat → Int
  | 0 => 0
  | m + 1 => ps f m + f m
theorem ps_front (f : Nat → Int) : ∀ m, ps f (m + 1) = f 0 + ps (fun k => f (k + 1)) m
  | 0 => by simp [ps]
  | m + 1 => by
    rw [ps, ps_front f m, ps]
    omega
theorem ps_congr {f g : Nat → Int} : ∀ {m : Nat}, (∀ k, k < m → f k = g k) → ps f m = ps g m
  | 0, _ => rfl
  | m + 1, h => by rw [ps, ps, ps_congr fun k hk => h k (by omega), h m (by omega)]
theorem ps_neg (f : Nat → Int) : ∀ m, ps (fun k => - f k) m = - ps f m
  | 0 => rfl
  | m + 1 => by
    rw [ps, ps, ps_neg f m]
    omega
theorem E_ps (a : Nat → Int) : ∀ (l : List Nat) (h : List Nat → Int), E a h l = ps (fun k => sg k * a (l.getD k 0) * h (l.eraseIdx k)) l.length
  | [], _ => rfl
  | c :: cs, h => by
    rw [E, List.length_cons, ps_front, E_ps a cs fun l => h (c :: l), Int.sub_eq_add_neg, ← ps_neg]
    have : sg 0 * a ((c :: cs).getD 0 0) * h ((c :: cs).eraseIdx 0) = a c * h cs := by simp [sg0]
    rw [this]
    congr 1
    exact ps_congr fun k _ => by
      rw [sg_succ, Int.neg_mul, Int.neg_mul]
      simp
/-- the law's worth, of so many rows -/
def lw : Nat → List (List Int) → Int
  | 0, _ => 1
  | n + 1, rows => ps (fun k => sg k * (rows.headD []).getD k 0 * lw n (rows.tail.map fun r => r.eraseIdx k)) (n + 1)
def sel (l : List Nat) (r : List Int) : List Int := l.map fun c => r.getD c 0
theorem sel_erase (l : List Nat) (k : Nat) (r : List Int) : (sel l r).eraseIdx k = sel (l.eraseIdx k) r := by
  unfold sel
  induction l generalizing k with
  | nil => rfl
  | cons c cs ih =>
    cases k with
    | zero => rfl
    | succ k => simp only [List.map_cons, List.eraseIdx_cons_succ]; rw [ih]
theorem lw_F : ∀ (rs : List (List Int)) (l : List Nat), l.length = rs.length → lw rs.length (rs.map (sel l)) = F rs l
  | [], _, _ => rfl
  | r :: rs, l, h => by
    rw [List.length_cons, lw]
    show _ = E _ _ _
    rw [E_ps, h, List.length_cons]
    refine ps_congr fun k hk => ?_
    have e : l[k]? = some (l[k]'(by simp at h; omega)) := List.getElem?_eq_getElem _
    rw [List.map_cons, List.headD_cons, List.tail_cons, List.map_map]
    have e2 : ((fun r => List.eraseIdx r k) ∘ sel l) = sel (l.eraseIdx k) := funext fun r => sel_erase l k r
    rw [e2, lw_F rs (l.eraseIdx k) (by rw [List.length_eraseIdx, if_pos (by simp at h; omega), h]; rfl)]
    congr 2
    unfold sel rw'
    simp only [List.getD_eq_getElem?_getD, List.getElem?_map, e]
    rfl
theorem sel_range {n : Nat} {r : List Int} (h : r.length = n) : sel (List.range n) r = r := by
  apply List.ext_getElem?
  intro i
  unfold sel
  rw [List.getElem?_map]
  by_cases c : i < n
  · rw [List.getElem?_range c, List.getElem?_eq_getElem (by omega)]
    simp [List.getD_eq_getElem?_getD, List.getElem?_eq_getElem (show i < r.length by omega)]
  · rw [List.getElem?_eq_none (by simp; omega), List.getElem?_eq_none (by omega)]
    rfl
theorem lw_bx {rs : List (List Int)} (h : ∀ r ∈ rs, r.length = rs.length) : lw rs.length rs = F rs (List.range rs.length) := by
  have e := lw_F rs (List.range rs.length) (by simp)
  rw [← e]
  congr 1
  exact ((List.map_congr_left fun r hr => sel_range (h r hr)).trans (List.map_id _)).symm
/-! rows added and exchanged, by their places -/
theorem split2 {α : Type} : ∀ {rows : List α} {i j : Nat}, i < j → j < rows.length → ∃ xs r ms s ys, rows = xs ++ r :: ms ++ s :: ys ∧ xs.length = i ∧ (xs ++ r :: ms).length = j
  | rows, i, j, h, hj => by
    refine ⟨rows.take i, rows[i]'(by omega), (rows.drop (i + 1)).take (j - i - 1), rows[j], rows.drop (j + 1), ?_, by simp; omega, by simp; omega⟩
    have e1 : rows.take i ++ rows[i]'(by omega) :: (rows.drop (i + 1)).take (j - i - 1) = rows.take j := by
      have e : j = i + (1 + (j - i - 1)) := by omega
      have e2 : rows.drop i = rows[i]'(by omega) :: rows.drop (i + 1) := List.drop_eq_getElem_cons (by omega)
      conv => rhs; rw [e, List.take_add, e2, Nat.add_comm 1, List.take_succ_cons]
    rw [e1]
    have e3 : rows.drop j = rows[j] :: rows.drop (j + 1) := List.drop_eq_getElem_cons hj
    rw [← e3, List.take_append_drop]
theorem set_at {α : Type} {xs ys : List α} {r t : α} {i : Nat} (h : xs.length = i) : (xs ++ r :: ys).set i t = xs ++ t :: ys := by
  rw [List.set_append_right _ _ (by omega), show i - xs.length = 0 by omega]
  rfl
theorem get_at {xs ys : List (List Int)} {r : List Int} {i : Nat} (h : xs.length = i) : (xs ++ r :: ys).getD i [] = r := by
  rw [List.getD_eq_getElem?_getD, List.getElem?_append_right (by omega), show i - xs.length = 0 by omega]
  rfl
theorem two {i j : Nat} {rows : List (List Int)} (h : i < j) (hj : j < rows.length) : ∃ xs r ms s ys, rows = xs ++ r :: ms ++ s :: ys ∧ xs.length = i ∧ (xs ++ r :: ms).length = j ∧ rows.getD i [] = r ∧ rows.getD j [] = s ∧ (∀ t, rows.set i t = xs ++ t :: ms ++ s :: ys) ∧ (∀ t, rows.set j t = xs ++ r :: ms ++ t :: ys) := by
  obtain ⟨xs, r, ms, s, ys, e, h1, h2⟩ := split2 h hj
  refine ⟨xs, r, ms, s, ys, e, h1, h2, ?_, ?_, fun t => ?_, fun t => ?_⟩
  · rw [e, List.append_assoc, List.cons_append]; exact get_at h1
  · rw [e]; exact get_at h2
  · rw [e, List.append_assoc, List.cons_append, set_at h1, List.append_assoc, List.cons_append]
  · rw [e]; exact set_at h2
theorem F_swp {rows : List (List Int)} {j k : Nat} (hj : j < rows.length) (hk : k < rows.length) (ne : j ≠ k) (l : List Nat) : F ((rows.set j (rows.getD k [])).set k (rows.getD j [])) l = - F rows l := by
  by_cases c : j < k
  · obtain ⟨xs, r, ms, s, ys, e, h1, h2, g1, g2, s1, s2⟩ := two c hk
    rw [g1, g2, s1, set_at (show (xs ++ s :: ms).length = k by simp at h2 ⊢; omega), e]
    have := F_swap xs r ms s ys l
    omega
  · obtain ⟨xs, r, ms, s, ys, e, h1, h2, g1, g2, s1, s2⟩ := two (show k < j by omega) hj
    rw [g1, g2, s2, show xs ++ r :: ms ++ r :: ys = xs ++ r :: (ms ++ r :: ys) by simp, set_at h1, e]
    have := F_swap xs r ms s ys l
    simp only [List.append_assoc, List.cons_append] at this ⊢
    omega
theorem F_add {rows : List (List Int)} {j k : Nat} (hj : j < rows.length) (hk : k < rows.length) (ne : j ≠ k) (b : Int) (t : List Int) (l : List Nat) (ht : ∀ c ∈ l, t.getD c 0 = (rows.getD j []).getD c 0 + b * (rows.getD k []).getD c 0) : F (rows.set j t) l = F rows l := by
  by_cases c : j < k
  · obtain ⟨xs, r, ms, s, ys, e, h1, h2, g1, g2, s1, s2⟩ := two c hk
    rw [g1, g2] at ht
    have h := F_lin xs r s t b (ms ++ s :: ys) l ht
    have z := F_same xs s ms ys l
    simp only [List.append_assoc, List.cons_append] at h z e s1
    rw [s1, e, h, z]
    simp
  · obtain ⟨xs, r, ms, s, ys, e, h1, h2, g1, g2, s1, s2⟩ := two (show k < j by omega) hj
    rw [g1, g2] at ht
    have h := F_lin (xs ++ r :: ms) s r t b ys l ht
    have z := F_same xs r ms ys l
    simp only [List.append_assoc, List.cons_append] at h z e s2
    rw [s2, e, h, z]
    simp
end K4

set_option maxHeartbeats 2000000
/-! Lists of ints, tuples of texts as data: alike, of bounded depth. -/
namespace DI
open PySem PySem.Spec PyProof.Rows L2
abbrev li (l : List Int) : PyData := .list (l.map PyData.int)
theorem eqvI : ∀ xs ys : List Int, PyData.eqvAll (xs.map PyData.int) (ys.map PyData.int) = decide (xs = ys)
  | [], [] => by simp [PyData.eqvAll]
  | [], _ :: _ => by simp [PyData.eqvAll]
  | _ :: _, [] => by simp [PyData.eqvAll]
  | x :: xs, y :: ys => by
    rw [List.map_cons, List.map_cons, PyData.eqvAll, PyData.eqv, eqvI xs ys]
    by_cases h : x = y <;> by_cases h2 : xs = ys <;> simp [h, h2]
theorem eqv_li (xs ys : List Int) : PyData.eqv (li xs) (li ys) = decide (xs = ys) := by
  rw [PyData.eqv]
  exact eqvI xs ys
theorem layI : ∀ l : List Int, PyData.canLayAll0 (l.map PyData.int) = true
  | [] => by simp [PyData.canLayAll0]
  | n :: r => by simp only [List.map_cons, PyData.canLayAll0, PyData.canLay0, layI r, Bool.and_self]
theorem depI : ∀ l : List Int, PyData.depthAll (l.map PyData.int) ≤ 1
  | [] => by simp [PyData.depthAll]
  | n :: r => by
    have := depI r
    simp only [List.map_cons, PyData.depthAll, PyData.depth]
    omega
theorem sh_li (l : List Int) : SeqAt.shaped (li l) = true := by
  unfold SeqAt.shaped
  have h := depI l
  have h2 : PyData.canLay0 (li l) = true := by
    rw [PyData.canLay0]
    exact layI l
  have h3 : PyData.depth (li l) ≤ 2 := by
    rw [PyData.depth]
    omega
  rw [h2, Bool.true_and]
  exact decide_eq_true (by omega)
theorem dpI {K : PySem.W.Frag} {H : Hp} : ∀ l : List Int, DpAll K H (l.map V.int) (l.map PyData.int)
  | [] => .nil
  | n :: r => .cons (.int n) (dpI r)
theorem dp_li {K : PySem.W.Frag} {H : Hp} {a : Addr} {l : List Int} (h : SqL K H a (l.map V.int)) : Dp K H (.ref a) (li l) := .lst h (dpI l)
end DI

set_option maxHeartbeats 2000000
namespace DI
open PySem PySem.Spec PyProof.Rows L2
theorem dep_li (l : List Int) : PyData.depth (li l) ≤ 2 := by
  have := depI l
  rw [PyData.depth]
  omega
theorem lay_li (l : List Int) : PyData.canLay0 (li l) = true := by
  rw [PyData.canLay0]
  exact layI l
abbrev lli (r : List (List Int)) : PyData := .list (r.map li)
theorem layL : ∀ r : List (List Int), PyData.canLayAll0 (r.map li) = true
  | [] => by simp [PyData.canLayAll0]
  | n :: r => by rw [List.map_cons, PyData.canLayAll0, lay_li n, layL r]; rfl
theorem depL : ∀ r : List (List Int), PyData.depthAll (r.map li) ≤ 2
  | [] => by simp [PyData.depthAll]
  | n :: r => by
    have h1 := depL r
    have h2 := dep_li n
    rw [List.map_cons, PyData.depthAll]
    omega
theorem sh_lli (r : List (List Int)) : SeqAt.shaped (lli r) = true := by
  unfold SeqAt.shaped
  have h := depL r
  rw [PyData.canLay0, PyData.depth, layL r, Bool.true_and]
  exact decide_eq_true (by omega)
theorem eqvL : ∀ xs ys : List (List Int), PyData.eqvAll (xs.map li) (ys.map li) = decide (xs = ys)
  | [], [] => by simp [PyData.eqvAll]
  | [], _ :: _ => by simp [PyData.eqvAll]
  | _ :: _, [] => by simp [PyData.eqvAll]
  | x :: xs, y :: ys => by
    rw [List.map_cons, List.map_cons, PyData.eqvAll, eqv_li, eqvL xs ys]
    by_cases h : x = y <;> by_cases h2 : xs = ys <;> simp [h, h2]
theorem eqv_lli (xs ys : List (List Int)) : PyData.eqv (lli xs) (lli ys) = decide (xs = ys) := by
  rw [PyData.eqv]
  exact eqvL xs ys
end DI

set_option maxHeartbeats 4000000
/-! The sign of a box; the law's worth. -/
namespace K4
open PySem PySem.Spec PyProof.Rows L2 CX4 DETM
theorem scBsg : FnScope ["rows", "worth"] ["rows"] (defScope sBsg) := ⟨rfl, rfl, rfl, by decide +kernel, rfl, by decide +kernel, by decide +kernel⟩
def sgn (n : Int) : Int := if n = 0 then 0 else if n > 0 then 1 else -1
section
variable {P : Program} {w : World} {K : PySem.W.Frag} {mg : Str → Option Value} {base : Heap} {C : Addr}
def spBsg (K : PySem.W.Frag) (C : Addr) : Sp := fun vs H Q E => ∃ (a : Addr) (ls : List Nat), vs = [.ref a] ∧ RowsL K H a ls ∧ ls.length ≤ 1000 ∧ (∀ l ∈ ls, l ≤ 1000) ∧ (okB ls = false → ∀ H', Same H H' → Refuses C "BadBox" H' E) ∧
  (okB ls = true → ∃ rs : List (List Int), ls = rs.map List.length ∧ RowsAt K H a rs ∧ (∀ r ∈ rs, ∀ v ∈ r, -2 ^ 64 < v ∧ v < 2 ^ 64) ∧ ∀ H', Same H H' → Q (.int (sgn (wf rs rs.length (List.range rs.length)))) H')
theorem ok_bsg {f g : Addr} {fd gd : FuncData} (F : Fun K "box_sign" "box_sign" sBsg f fd) (G : FnOk P w K mg base (L2.CX P w) 4 g gd ["rows"] (spBox K C)) (gG : mg "box" = some (.ref g)) (kG : PySem.W.keepIn K (.ref g) = true) (bG : Binds K gd ["rows"] []) : FnOk P w K mg base (L2.CX P w) 5 f fd ["rows"] (spBsg K C) := by
  refine F.okX scBsg (fun vs H Q E ⟨a, rs, e, _⟩ => by rw [e]; rfl) (fun cdv A outer s H vs Q E hr h => ?_)
  obtain ⟨a, ls, rfl, hR, l7, hl, hN, hY⟩ := h
  refine ⟨_, pss_cons (ps_set (i := 1) scBsg.nd rfl (Or.inl rfl) (by exact (pe_callS (E := WE fun cls d _ H => E cls d H) G hr rfl gG kG bG (fun σ => passAt (takes_of rfl rfl rfl rfl) σ) (by exact (pa_cons (pv 0) pa_nil)))))
    (pss_cons (ps_if (pt_cmpR op_eq (pv 1) pe_int (nomark _)) (pss_one (ps_ret pe_int)) pss_nil)
    (pss_one (ps_ret (pe_ifExp (pt_cmpR op_gt (pv 1) pe_int (nomark _)) pe_int (pe_un un_neg pe_int))))), ?_⟩
  refine ⟨_, rfl, a, ls, rfl, hR, l7, hl, hN, fun g => ?_⟩
  obtain ⟨rs, e, hA, hB, q⟩ := hY g
  refine ⟨rs, e, hA, hB, fun H2 s2 => ?_⟩
  have q := q _ s2
  unfold sgn at q
  generalize wf rs rs.length (List.range rs.length) = z at q ⊢
  by_cases c : z = 0
  · rw [if_pos c] at q
    exact ⟨_, rfl, rfl, _, rfl, if_t (by simp [c]) q⟩
  · rw [if_neg c] at q
    refine ⟨_, rfl, rfl, _, rfl, if_f (by simp [c]) ⟨_, rfl, _, _, rfl, rfl, _, rfl, ?_⟩⟩
    by_cases d : z > 0
    · rw [if_pos d] at q
      exact if_t (by simp; omega) q
    · rw [if_neg d] at q
      exact if_f (by simp; omega) ⟨_, rfl, q⟩
/-- lists of numbers in a list -/
def LRows (K : PySem.W.Frag) (H : Hp) (a : Addr) (rs : List (List Int)) : Prop := ∃ bs : List Addr, SqL K H a (bs.map V.ref) ∧ bs.length = rs.length ∧ ∀ (i : Nat) (b : Addr) (r : List Int), bs[i]? = some b → rs[i]? = some r → SqL K H b (r.map V.int)
theorem LRows.same {H H' : Hp} {a : Addr} {rs : List (List Int)} (h : LRows K H a rs) (s : Same H H') : LRows K H' a rs := by
  obtain ⟨bs, h1, h2, h3⟩ := h
  exact ⟨bs, s.seq h1, h2, fun i b r e1 e2 => s.seq (h3 i b r e1 e2)⟩
theorem LRows.at {H : Hp} {a : Addr} {rs : List (List Int)} (h : LRows K H a rs) : RowsAt K H a rs := by
  obtain ⟨bs, h1, h2, h3⟩ := h
  exact ⟨bs, .inl h1, h2, fun i b r e1 e2 => .inl (h3 i b r e1 e2)⟩
theorem dpL {H : Hp} : ∀ {bs : List Addr} {rs : List (List Int)}, bs.length = rs.length → (∀ (i : Nat) (b : Addr) (r : List Int), bs[i]? = some b → rs[i]? = some r → SqL K H b (r.map V.int)) → DpAll K H (bs.map V.ref) (rs.map DI.li)
  | [], [], _, _ => .nil
  | b :: bs, r :: rs, l, h => .cons (DI.dp_li (h 0 b r rfl rfl)) (dpL (by simpa using l) fun i c s e1 e2 => h (i + 1) c s e1 e2)
theorem LRows.dp {H : Hp} {a : Addr} {rs : List (List Int)} (h : LRows K H a rs) : Dp K H (.ref a) (DI.lli rs) := by
  obtain ⟨bs, h1, h2, h3⟩ := h
  exact .lst h1 (dpL h2 h3)
/-- new rows -/
def NewR (H H' : Hp) (D b : Addr) (rs : List (List Int)) : Prop := ∃ cs : List Addr, cs.length = rs.length ∧ H' D = some (.lst (cs.map V.ref)) ∧ ∀ (m : Nat) (c : Addr) (r : List Int), cs[m]? = some c → rs[m]? = some r → H' c = some (.lst (r.map V.int)) ∧ H c = none ∧ c ≠ D
theorem NewR.at {H H' : Hp} {D b : Addr} {rs : List (List Int)} (h : NewR H H' D b rs) : LRows K H' D rs := by
  obtain ⟨cs, l, hD, hc⟩ := h
  exact ⟨cs, SqL.of hD, l, fun i c r e1 e2 => SqL.of (hc i c r e1 e2).1⟩
end
section
variable {K : PySem.W.Frag} {te : TE} {vs : List Nat} {σ : L2.St} {H H1 : Hp} {Q : VK} {a : Addr} {j : Nat}
/-- one new row more -/
theorem row_next {D D2 : Addr} {i : Nat} {H2 H4 : Hp} {rs : List (List Int)} {r : List Int} {cs : List Addr} (lc : cs.length = i) (lr : rs.length = i) (hD : H2 D = some (.lst (cs.map V.ref)))
    (hcs : ∀ (m : Nat) (c : Addr) (r : List Int), cs[m]? = some c → rs[m]? = some r → H2 c = some (.lst (r.map V.int)) ∧ H1 c = none ∧ c ≠ D) (nD : H1 D = none) (s12 : Same H1 H2) (s24 : Same H2 H4) (nD2 : H2 D2 = none) (hD2 : H4 D2 = some (.lst (r.map V.int))) (hi : i < 1000) :
    ∃ acc, H4 D = some (.lst acc) ∧ acc.length < sizeLine ∧ (∃ cs : List Addr, cs.length = i + 1 ∧ Same H1 (upd H4 D (.lst (acc ++ [.ref D2]))) ∧ (upd H4 D (.lst (acc ++ [.ref D2]))) D = some (.lst (cs.map V.ref)) ∧
      ∀ (m : Nat) (c : Addr) (r' : List Int), cs[m]? = some c → (rs ++ [r])[m]? = some r' → (upd H4 D (.lst (acc ++ [.ref D2]))) c = some (.lst (r'.map V.int)) ∧ H1 c = none ∧ c ≠ D) := by
  have DD : D2 ≠ D := fun z => by rw [z, hD] at nD2; cases nD2
  have nD21 : H1 D2 = none := by
    cases e : H1 D2 with
    | none => rfl
    | some o => rw [s12 _ _ e] at nD2; cases nD2
  refine ⟨cs.map V.ref, s24 _ _ hD, by rw [List.length_map, sizeLine_eq]; omega, cs ++ [D2], by simp [lc], ZM.sm_at nD (s12.trans s24), by rw [upd_same, List.map_append]; rfl, ?_⟩
  intro m c r' hc hr'
  by_cases hm : m < i
  · rw [List.getElem?_append_left (by omega)] at hc hr'
    obtain ⟨e1, e2, e3⟩ := hcs m c r' hc hr'
    exact ⟨by rw [upd_ne e3]; exact s24 _ _ e1, e2, e3⟩
  · rw [List.getElem?_append_right (by omega)] at hc hr'
    have hm' : m - cs.length = 0 := by
      have := (List.getElem?_eq_some_iff.mp hc).1
      simp at this
      omega
    have hm2 : m - rs.length = 0 := by omega
    rw [hm'] at hc
    rw [hm2] at hr'
    cases hc
    cases hr'
    exact ⟨by rw [upd_ne DD]; exact hD2, nD21, DD⟩
theorem rows_lst {t0 : TE} {rs : List (List Int)} (f : List Int → List Int) (h0 : ∀ R : VK, R (.ref a) H1 → t0 σ H R) (hR : LRows K H1 a rs) (hz : rs.length ≤ 7) (hw : ∀ x, wipe ((wipe σ vs).set j (some x)) vs = wipe σ vs)
    (hs : ∀ (c : Addr) (r : List Int) (H : Hp) (R : VK), r ∈ rs → SqL K H c (r.map V.int) → (∀ D2 H', Same H H' → H D2 = none → H' D2 = some (.lst ((f r).map V.int)) → R (.ref D2) H') → te ((wipe σ vs).set j (some (.ref c))) H R)
    (hd : ∀ D H', Same H1 H' → H1 D = none → NewR H1 H' D D (rs.map f) → Q (.ref D) H') : ZM.Bx (tLc (iList K t0) (gName j) tYes te vs) σ H Q := by
  obtain ⟨bs, hb, lb, hrow⟩ := hR
  refine ZM.own_lst (a := a) (xs := bs.map V.ref) (fun D i H' => ∃ cs : List Addr, cs.length = i ∧ Same H1 H' ∧ H' D = some (.lst (cs.map V.ref)) ∧ ∀ (m : Nat) (c : Addr) (r : List Int), cs[m]? = some c → ((rs.map f).take i)[m]? = some r → H' c = some (.lst (r.map V.int)) ∧ H1 c = none ∧ c ≠ D)
    h0 hb (fun D i H' nD p => by obtain ⟨_, _, s, _⟩ := p; exact s.seq hb) hw (fun D nD => ⟨[], rfl, same_new nD, upd_same, by simp⟩) ?_ ?_
  · rintro D i x H2 nD hx ⟨cs, lc, s12, hD, hcs⟩
    have li := (List.getElem?_eq_some_iff.mp hx).1
    rw [List.length_map] at li
    rw [List.getElem?_map] at hx
    obtain ⟨c, hc, rfl⟩ := Option.map_eq_some_iff.mp hx
    have hr := List.getElem?_eq_getElem (show i < rs.length by omega)
    generalize rs[i]'(by omega) = r at hr
    refine hs c r H2 _ (List.mem_of_getElem? hr) (s12.seq (hrow i c r hc hr)) fun D2 H4 s24 nD2 hD2 => ?_
    have e : (rs.map f).take (i + 1) = (rs.map f).take i ++ [f r] := by rw [List.take_add_one, List.getElem?_map, hr]; rfl
    rw [e]
    exact row_next lc (by rw [List.length_take, List.length_map]; omega) hD hcs nD s12 s24 nD2 hD2 (by omega)
  · rintro D H2 nD ⟨cs, lc, s12, hD, hcs⟩
    rw [List.length_map] at lc
    rw [List.take_of_length_le (by rw [List.length_map, List.length_map, lb]; exact Nat.le_refl _)] at hcs
    exact hd D H2 s12 nD ⟨cs, by rw [lc, List.length_map, lb], hD, hcs⟩
theorem rows_rng {ta : TA} {n : Nat} (g : Nat → List Int) (h0 : ∀ R : List V → Hp → Prop, R [.int (n : Int)] H1 → ta σ H R) (hn : n ≤ 7) (hw : ∀ x, wipe ((wipe σ vs).set j (some x)) vs = wipe σ vs)
    (hs : ∀ (i : Nat) (H : Hp) (R : VK), i < n → Same H1 H → (∀ D2 H', Same H H' → H D2 = none → H' D2 = some (.lst ((g i).map V.int)) → R (.ref D2) H') → te ((wipe σ vs).set j (some (.int (0 + (i : Int))))) H R)
    (hd : ∀ D H', Same H1 H' → H1 D = none → NewR H1 H' D D ((List.range n).map g) → Q (.ref D) H') : ZM.Bx (tLc (iRng1 ta) (gName j) tYes te vs) σ H Q := by
  refine ZM.own_rng (n := n) (fun D i H' => ∃ cs : List Addr, cs.length = i ∧ Same H1 H' ∧ H' D = some (.lst (cs.map V.ref)) ∧ ∀ (m : Nat) (c : Addr) (r : List Int), cs[m]? = some c → ((List.range i).map g)[m]? = some r → H' c = some (.lst (r.map V.int)) ∧ H1 c = none ∧ c ≠ D)
    h0 (by omega) hw (fun D nD => ⟨[], rfl, same_new nD, upd_same, by simp⟩) ?_ ?_
  · rintro D i H2 nD hi ⟨cs, lc, s12, hD, hcs⟩
    refine hs i H2 _ hi s12 fun D2 H4 s24 nD2 hD2 => ?_
    rw [List.range_succ, List.map_append]
    exact row_next lc (by simp) hD hcs nD s12 s24 nD2 hD2 (by omega)
  · rintro D H2 nD ⟨cs, lc, s12, hD, hcs⟩
    exact hd D H2 s12 nD ⟨cs, by rw [lc]; simp, hD, hcs⟩
end
/-- what is walked made first -/
theorem lc_pre {K : PySem.W.Frag} {t0 te : TE} {g : TG} {tt : TT} {vs : List Nat} {σ : L2.St} {H : Hp} {Q : VK} (G : Addr → Hp → Prop) (h0 : ∀ R : VK, (∀ a H1, G a H1 → R (.ref a) H1) → t0 σ H R)
    (k : ∀ a H1, G a H1 → ZM.Bx (tLc (iList K (fun _ _ R => R (.ref a) H1)) g tt te vs) σ H1 Q) : ZM.Bx (tLc (iList K t0) g tt te vs) σ H Q := ⟨h0 _ fun a H1 g => (k a H1 g).run⟩
abbrev sW : Stmt := topS 22
abbrev nW : List Str := ["_law_rows9", "_law_found", "_law_k", "_law_lesser_rows", "_law_row"]
theorem scW : FnScope nW ["_law_rows9"] (defScope sW) := ⟨rfl, rfl, rfl, by decide +kernel, rfl, by decide +kernel, by decide +kernel⟩
section
variable {P : Program} {w : World} {K : PySem.W.Frag} {mg : Str → Option Value} {base : Heap}
def spW (K : PySem.W.Frag) (m : Nat) : Sp := fun vs H Q _ => ∃ (a : Addr) (rs : List (List Int)), vs = [.ref a] ∧ LRows K H a rs ∧ rs.length < m ∧ rs.length ≤ 7 ∧ (∀ r ∈ rs, r.length = rs.length ∧ ∀ v ∈ r, -2 ^ 64 < v ∧ v < 2 ^ 64) ∧ ∀ H', Same H H' → Q (.int (lw rs.length rs)) H'
theorem ok_worth {f : Addr} {fd : FuncData} (F : Fun K "_law_worth" "_law_worth" sW f fd) (ml : mg "len" = none) (mr : mg "range" = none) (gW : mg "_law_worth" = some (.ref f)) (bW : Binds K fd ["_law_rows9"] []) : ∀ m : Nat, FnOk P w K mg base CX0 m f fd ["_law_rows9"] (spW K m) := by
  intro m
  induction m with
  | zero => exact ⟨fun vs H Q E h => (by obtain ⟨a, rs, _, _, h1, _⟩ := h; cases h1), fun A outer s H args us vs Q E hr he hb hv h => (by obtain ⟨a, rs, _, _, h1, _⟩ := h; cases h1)⟩
  | succ m G =>
    refine F.ok scW (fun vs H Q E ⟨a, rs, e, _⟩ => by rw [e]; rfl) (fun cdv A outer s H vs Q E hr h => ?_)
    obtain ⟨a, rs, rfl, hR, hm, h7, hB, q⟩ := h
    refine ⟨_, pss_cons (ps_if (pt_cmpR (op_eqD hr.units) (pv 0) (pe_lst pa_nil) (nomark _)) (pss_one (ps_ret pe_int)) pss_nil)
      (pss_cons (ps_set (i := 1) scW.nd rfl (Or.inl rfl) pe_int)
      (pss_cons (ps_for PassesOwn.never rfl (pi_range1 (by rfl) mr (pa_cons (pe_callB call_len_seq (by rfl) ml PySem.boot_len (pa_cons (pv 0) pa_nil)) pa_nil)) (pg_name (i := 2) scW.nd rfl (Or.inr rfl))
        (pss_cons (ZM.ps_bx (ps_setLc (i := 3) (own := [("_law_row", 4)]) (g := gName 4) (tt := tYes) rfl scW.nd rfl rfl (sw_true rfl rfl rfl (by decide +kernel)) (pi_list (pe_slice sl_list (pv 0) (po_some pe_int) po_none)) (blkOk_by (N := nW) (sc := defScope sW) (by decide +kernel))
          (fun _ _ _ _ _ => pg_name (i := 4) scW.nd rfl (Or.inl rfl)) (fun _ _ _ _ _ => pts_nil)
          (fun _ _ _ _ _ => pe_op op_cat (pe_slice (r := rSlL K) sl_list (pv 4) po_none (po_some (pv 2))) (pe_slice (r := rSlL K) sl_list (pv 4) (po_some (pe_op op_add (pv 2) pe_int)) po_none))))
        (pss_one (ps_set (i := 1) scW.nd rfl (Or.inl rfl) (pe_op op_add (pv 1) (pe_op op_mul (pe_op op_mul (pe_ix (r := rIx K) ix_seq (pe_lst (pa_cons pe_int (pa_cons (pe_un un_neg pe_int) pa_nil))) (pe_op op_mod (pv 2) pe_int) (fun _ _ => rfl))
            (pe_ix (r := rIx K) ix_seq (pe_ix (r := rIx K) ix_seq (pv 0) pe_int (fun _ _ => rfl)) (pv 2) (fun _ _ => rfl))) (pe_call G hr (by rfl) gW F.kp bW .nil pass0 (pa_cons (pv 3) pa_nil))))))))
      (pss_one (ps_ret (pv 1))))), ?_⟩
    refine ⟨_, rfl, Nat.zero_le _, fun p np => ⟨DI.lli rs, DI.lli [], (hR.same (same_new np)).dp, .lst (SqL.of upd_same) .nil, DI.sh_lli _, DI.sh_lli _, _, rfl, ?_⟩⟩
    have s1 := same_new (o := .lst []) np
    generalize upd H p (.lst []) = H1 at s1 ⊢
    have hR1 := hR.same s1
    rw [DI.eqv_lli]
    by_cases e0 : rs = []
    · refine if_t (decide_eq_true e0) ?_
      have := q _ s1
      rw [e0] at this
      exact this
    · refine if_f (decide_eq_false e0) ?_
      obtain ⟨r0, rt, rfl⟩ : ∃ r0 rt, rs = r0 :: rt := List.exists_cons_of_ne_nil e0
      obtain ⟨n, en⟩ : ∃ n, rt.length = n := ⟨_, rfl⟩
      obtain ⟨bs, hb, lb, hrow⟩ := hR1
      rw [List.length_cons, en] at lb hm h7
      let f := fun k => sg k * (r0.getD k 0) * lw n (rt.map fun r => r.eraseIdx k)
      refine ⟨_, rfl, a, _, rfl, .inl hb, ((n + 1 : Nat) : Int), ?_, by omega, by omega, for_range (lo := 0) (n := n + 1) (fun i σ H' => ∃ x2 x3, σ = [some (.ref a), some (.int (ps f i)), x2, x3, none] ∧ Same H1 H') ⟨none, none, rfl, Same.refl _⟩ ?_ ?_⟩
      · rw [List.length_map, lb]
      · rintro i σ H2 hi ⟨x2, x3, rfl, s2⟩
        obtain ⟨b0, bt, rfl⟩ : ∃ b0 bt, bs = b0 :: bt := by
          match bs, lb with
          | b0 :: bt, _ => exact ⟨b0, bt, rfl⟩
        refine lc_pre (fun D H3 => H3 D = some (.lst (bt.map V.ref)) ∧ Same H1 H3) (fun R r => ⟨_, rfl, _, rfl, a, _, rfl, s2.seq hb, fun D nD => r D _ ⟨?_, s2.trans (same_new nD)⟩⟩) (fun D H3 ⟨hD, s3⟩ => ?_)
        · rw [upd_same, show (1 : Int) = ((1 : Nat) : Int) from rfl, cutFrom]
          rfl
        have hT : LRows K H3 D rt := ⟨bt, SqL.of hD, by simpa [en] using lb, fun j b r e1 e2 => s3.seq (hrow (j + 1) b r e1 e2)⟩
        refine rows_lst (K := K) (a := D) (H1 := H3) (rs := rt) (fun r => r.eraseIdx i) (fun R r => r) hT (by omega) (fun _ => rfl) (fun c r H4 R hr hc k => ?_) (fun L H4 s4 nL hL => ?_)
        · refine ⟨_, rfl, _, rfl, _, rfl, c, _, rfl, hc, fun p1 np1 => ?_⟩
          rw [show (0 + (i : Int)) = ((i : Nat) : Int) by omega, cutTo]
          have q1 := same_new (o := .lst ((r.map V.int).take i)) np1
          refine ⟨_, rfl, _, rfl, _, _, rfl, rfl, _, rfl, c, _, rfl, q1.seq hc, fun p2 np2 => ?_⟩
          rw [show ((i : Int) + 1) = ((i + 1 : Nat) : Int) by omega, cutFrom]
          have q2 := same_new (o := .lst ((r.map V.int).drop (i + 1))) np2
          have rl := (hB r (List.mem_cons_of_mem _ hr)).1
          rw [List.length_cons, en] at rl
          refine ⟨p1, p2, _, _, rfl, rfl, q2 _ _ upd_same, upd_same, ?_, fun p3 np3 => ?_⟩
          · rw [List.length_take, List.length_drop, List.length_map, sizeLine_eq]
            omega
          · refine k p3 _ (q1.trans (q2.trans (same_new np3))) ?_ ?_
            · cases e : H4 p3 with
              | none => rfl
              | some o => rw [q2 _ _ (q1 _ _ e)] at np3; cases np3
            · rw [upd_same, List.eraseIdx_eq_take_drop_succ, List.map_append, List.map_take, List.map_drop]
        · refine ⟨_, rfl, _, rfl, (by show 2 ≤ sizeLine; rw [sizeLine_eq]; omega), fun p2 np2 => ?_⟩
          have s5 := s3.trans (s4.trans (same_new (o := .lst [.int 1, .int (-1)]) np2))
          have hL5 : LRows K (upd H4 p2 (.lst [.int 1, .int (-1)])) L (rt.map fun r => r.eraseIdx i) := hL.at.same (same_new np2)
          have hp5 : (upd H4 p2 (.lst [.int 1, .int (-1)])) p2 = some (.lst [.int 1, .int (-1)]) := upd_same
          generalize upd H4 p2 (.lst [.int 1, .int (-1)]) = H5 at s5 hL5 hp5 ⊢
          have at1 : atI [V.int 1, V.int (-1)] ((0 + (i : Int)) % 2) = some (.int (sg i)) := by
            unfold sg
            by_cases z : i % 2 = 0
            · rw [if_pos z, show (0 + (i : Int)) % 2 = ((0 : Nat) : Int) by omega]; rfl
            · rw [if_neg z, show (0 + (i : Int)) % 2 = ((1 : Nat) : Int) by omega]; rfl
          refine ⟨_, rfl, _, _, rfl, rfl, (by show (0 : Int) < 2; decide), ix_ls (.inl (SqL.of hp5)) at1 ?_⟩
          have at0 : atI ((b0 :: bt).map V.ref) 0 = some (.ref b0) := atI_nat (j := 0) rfl
          refine ⟨_, rfl, ix_ls (.inl (s5.seq hb)) at0 ⟨_, rfl, ?_⟩⟩
          have l0 := (hB r0 List.mem_cons_self).1
          have b0' := (hB r0 List.mem_cons_self).2
          rw [List.length_cons, en] at l0
          have gn : (r0.map V.int)[i]? = some (.int (r0.getD i 0)) := by
            rw [List.getElem?_map, List.getD_eq_getElem?_getD, List.getElem?_eq_getElem (show i < r0.length by omega)]
            rfl
          have nb : -2 ^ 64 < r0.getD i 0 ∧ r0.getD i 0 < 2 ^ 64 := b0' _ (by
            rw [List.getD_eq_getElem?_getD, List.getElem?_eq_getElem (show i < r0.length by omega)]
            exact List.getElem_mem _)
          have sgu : sg i = 1 ∨ sg i = -1 := by
            unfold sg
            split <;> simp
          refine ix_ls (i := 0 + (i : Int)) (.inl (s5.seq (hrow 0 b0 r0 rfl rfl))) (by rw [Int.zero_add]; exact atI_nat gn) ⟨_, _, rfl, rfl, .inr nb, _, rfl, ?_⟩
          refine ⟨L, _, rfl, hL5, ?_, ?_, ?_, fun H6 s6 => ?_⟩
          · rw [List.length_map, en]; omega
          · rw [List.length_map, en]; omega
          · intro r hr
            obtain ⟨r', hr', rfl⟩ := List.mem_map.mp hr
            have g1 := hB r' (List.mem_cons_of_mem _ hr')
            rw [List.length_cons, en] at g1
            refine ⟨by rw [List.length_map, en, List.length_eraseIdx, if_pos (by omega), g1.1]; rfl, fun v hv => g1.2 v (List.mem_of_mem_eraseIdx hv)⟩
          · rw [List.length_map, en]
            refine ⟨_, _, rfl, rfl, .inl ?_, _, _, rfl, rfl, ?_⟩
            · rcases sgu with z | z <;> rw [z] <;> omega
            · exact ⟨_, _, rfl, s5.trans s6⟩
      · rintro σ H2 ⟨x2, x3, rfl, s2⟩
        refine ⟨_, rfl, ?_⟩
        have := q _ (s1.trans s2)
        rw [List.length_cons, en, lw] at this
        exact this
end
end K4

set_option maxHeartbeats 4000000
/-! Drawn boxes. -/
namespace K4
open PySem PySem.Spec PyProof.Rows L2 CX4 DETM
/-- all that stood stands, but what the bag holds -/
def But (b : Addr) (H H' : Hp) : Prop := ∀ c o, c ≠ b → H c = some o → H' c = some o
theorem But.refl {b : Addr} {H : Hp} : But b H H := fun _ _ _ h => h
theorem But.trans {b : Addr} {H H' H2 : Hp} (h : But b H H') (h2 : But b H' H2) : But b H H2 := fun c o n e => h2 c o n (h c o n e)
theorem But.new {b p : Addr} {H : Hp} {o : HO} (np : H p = none) : But b H (upd H p o) := fun c o' _ e => by
  rw [upd_ne (fun z => by rw [z, np] at e; cases e)]
  exact e
theorem But.bag {b : Addr} {H : Hp} {o : HO} : But b H (upd H b o) := fun c o' n e => by
  rw [upd_ne n]
  exact e
theorem But.at {b D : Addr} {H H' : Hp} {o : HO} (h : But b H H') (nD : H D = none) : But b H (upd H' D o) := fun c o' n e => by
  rw [upd_ne (fun z => by rw [z, nD] at e; cases e)]
  exact h c o' n e
theorem But.was {b D : Addr} {H H' : Hp} (h : But b H H') {xs : List V} (hb : H b = some (.lst xs)) (nD : H' D = none) (hb' : ∃ ys, H' b = some (.lst ys)) : H D = none := by
  cases e : H D with
  | none => rfl
  | some o =>
    by_cases c : D = b
    · obtain ⟨ys, hy⟩ := hb'
      rw [c, hy] at nD
      cases nD
    · rw [h D o c e] at nD
      cases nD

/-- a box of n rows, its numbers not beyond B -/
structure SqB (B n : Nat) (rs : List (List Int)) : Prop where
  l : rs.length = n
  r : ∀ r ∈ rs, r.length = n
  b : ∀ r ∈ rs, ∀ v ∈ r, v.natAbs ≤ B
theorem getD_le {B : Nat} {ns : List Int} (h : ∀ v ∈ ns, v.natAbs ≤ B) (c : Nat) : (ns.getD c 0).natAbs ≤ B := by
  rw [List.getD_eq_getElem?_getD]
  cases e : ns[c]? with
  | none => simp
  | some v => exact h v (List.mem_of_getElem? e)
theorem row_le {B : Nat} {rs : List (List Int)} (h : ∀ r ∈ rs, ∀ v ∈ r, v.natAbs ≤ B) (k : Nat) : ∀ v ∈ rs.getD k [], v.natAbs ≤ B := by
  rw [List.getD_eq_getElem?_getD]
  cases e : rs[k]? with
  | none => simp
  | some r => exact h r (List.mem_of_getElem? e)
theorem SqB.set {B n k : Nat} {rs : List (List Int)} {t : List Int} (s : SqB B n rs) (lt : t.length = n) (bt : ∀ v ∈ t, v.natAbs ≤ B) : SqB B n (rs.set k t) := ⟨by rw [List.length_set, s.l], fun r hr => by
  rcases List.mem_or_eq_of_mem_set hr with h | h
  · exact s.r r h
  · rw [h, lt], fun r hr => by
  rcases List.mem_or_eq_of_mem_set hr with h | h
  · exact s.b r h
  · rw [h]; exact bt⟩
abbrev sBD : Stmt := topS 24
abbrev nBD : List Str := ["_law_bag_here", "_law_size", "_law_top", "_law_found", "_law_j", "_law_k", "_law_one"]
theorem scBD : FnScope nBD ["_law_bag_here", "_law_size"] (defScope sBD) := ⟨rfl, rfl, rfl, by decide +kernel, rfl, by decide +kernel, by decide +kernel⟩
section
variable {P : Program} {w : World} {K : PySem.W.Frag} {mg : Str → Option Value} {base : Heap}
/-- new rows that stand beside the bag -/
structure Dr (B n : Nat) (ms : List Int) (l b : Addr) (H H' : Hp) (D : Addr) (rs : List (List Int)) : Prop where
  s : SqB B n rs
  n : H D = none
  N : NewR H H' D D rs
  B : BagAt l ms H' b
  u : But b H H'
theorem But.gone {b D : Addr} {H H' : Hp} {l : Addr} {ms : List Int} (h : But b H H') (B : BagAt l ms H b) (B' : BagAt l ms H' b) (nD : H' D = none) : H D = none := by
  obtain ⟨xs, hx⟩ := B.at
  exact h.was hx nD B'.at
theorem Dr.bag {B n : Nat} {ms : List Int} {l b : Addr} {H H' : Hp} {D : Addr} {rs : List (List Int)} (h : Dr B n ms l b H H' D rs) (Bb : BagAt l ms H b) {xs : List V} (B2 : BagAt l ms (upd H' b (.lst xs)) b) : Dr B n ms l b H (upd H' b (.lst xs)) D rs := by
  obtain ⟨y, hy⟩ := Bb.at
  refine ⟨h.s, h.n, ?_, B2, h.u.trans .bag⟩
  obtain ⟨cs, lc, hD, hc⟩ := h.N
  have Db : D ≠ b := fun z => by have := h.n; rw [z, hy] at this; cases this
  refine ⟨cs, lc, by rw [upd_ne Db]; exact hD, fun m c r e1 e2 => ?_⟩
  obtain ⟨g1, g2, g3⟩ := hc m c r e1 e2
  exact ⟨by rw [upd_ne (fun z => by rw [z, hy] at g2; cases g2)]; exact g1, g2, g3⟩
def spBD : Sp := fun vs H Q _ => ∃ (b l : Addr) (n : Nat) (bs : List Int), vs = [.ref b, .int (n : Int)] ∧ n ≤ 5 ∧ BagAt l bs H b ∧
  ∀ (D : Addr) (rs : List (List Int)) (H' : Hp), Dr 999999999 n bs l b H H' D rs → Q (.ref D) H'
theorem ok_bd {f g o : Addr} {fd gd od : FuncData} (F : Fun K "_law_box_drawn" "_law_box_drawn" sBD f fd) (mr : mg "range" = none) (G : FnOk P w K mg base CX0 1 g gd ["_law_bag_here", "_law_many"] spPull) (gG : mg "_law_pull" = some (.ref g)) (kG : PySem.W.keepIn K (.ref g) = true) (bG : Binds K gd ["_law_bag_here", "_law_many"] [])
    (O : FnOk P w K mg base CX0 2 o od ["_law_bag_here", "_law_some"] (spOf K)) (gO : mg "_law_of" = some (.ref o)) (kO : PySem.W.keepIn K (.ref o) = true) (bO : Binds K od ["_law_bag_here", "_law_some"] []) :
    FnOk P w K mg base CX0 3 f fd ["_law_bag_here", "_law_size"] spBD := by
  refine F.ok scBD (fun vs H Q E ⟨b, l, n, bs, e, _⟩ => by rw [e]; rfl) (fun cdv A outer s H vs Q E hr h => ?_)
  have r1 := hr.mono (j := 1) (by decide)
  refine ⟨_, pss_cons (ps_set (i := 2) scBD.nd rfl (Or.inr rfl) (pe_call O hr (by rfl) gO kO bO .nil pass0 (pa_cons (pv 0) (pa_cons (pe_lst (pa_cons pe_int (pa_cons pe_int (pa_cons pe_int (pa_cons pe_int (pa_cons pe_int pa_nil)))))) pa_nil))))
    (C8.pss_cut (ps_set (i := 3) scBD.nd rfl (Or.inr rfl) (ZM.pe_bx (pe_lc (own := [("_law_j", 4)]) (g := gName 4) (tt := tYes) rfl scBD.nd (pi_range1 (by rfl) mr (pa_cons (pv 1) pa_nil)) (blkOk_by (N := nBD) (sc := defScope sBD) (by decide +kernel))
        (fun _ _ _ _ _ => pg_name (i := 4) scBD.nd rfl (Or.inl rfl)) (fun _ _ _ _ _ => pts_nil)
        (fun _ _ _ _ _ => ZM.pe_bx (pe_lc (own := [("_law_k", 5)]) (g := gName 5) (tt := tYes) rfl scBD.nd (pi_range1 (by rfl) mr (pa_cons (pv 1) pa_nil)) (blkOk_by (N := nBD) (by rfl))
          (fun _ _ _ _ _ => pg_name (i := 5) scBD.nd rfl (Or.inl rfl)) (fun _ _ _ _ _ => pts_nil)
          (fun _ _ _ _ _ => pe_op op_sub (pe_call G r1 (by rfl) gG kG bG .nil pass0 (pa_cons (pv 0) (pa_cons (pe_op op_add (pe_op op_mul pe_int (pv 2)) pe_int) pa_nil))) (pv 2)))))))
    (C8.pss_cut (ps_if (pt_cmpR op_gt (pv 1) pe_int (nomark _)) (pss_one (ps_set (i := 3) scBD.nd rfl (Or.inr rfl) (ZM.pe_bx (pe_lc (own := [("_law_j", 4)]) (g := gName 4) (tt := tYes) rfl scBD.nd (pi_range1 (by rfl) mr (pa_cons (pv 1) pa_nil)) (blkOk_by (N := nBD) (sc := defScope sBD) (by decide +kernel))
        (fun _ _ _ _ _ => pg_name (i := 4) scBD.nd rfl (Or.inr rfl)) (fun _ _ _ _ _ => pts_nil)
        (fun _ _ _ _ _ => ZM.pe_bx (pe_lc (own := [("_law_k", 5)]) (g := gName 5) (tt := tYes) rfl scBD.nd (pi_range1 (by rfl) mr (pa_cons (pv 1) pa_nil)) (blkOk_by (N := nBD) (by rfl))
          (fun _ _ _ _ _ => pg_name (i := 5) scBD.nd rfl (Or.inl rfl)) (fun _ _ _ _ _ => pts_nil)
          (fun _ _ _ _ _ => ZM.pe_bx (pe_ifExp (PW.pt (pw_or (pt_cmpR op_gt (pe_op op_mod (pe_op op_add (pv 4) (pv 5)) pe_int) pe_int (nomark _)) (pw_or1 (pt_cmpR op_eq (pv 4) (pv 5) (nomark _))))) (pe_ix (r := rIx K) ix_seq (pe_ix (r := rIx K) ix_seq (pv 3) (pv 4) (fun _ _ => rfl)) (pv 5) (fun _ _ => rfl)) pe_int))))))) ) pss_nil)
    (pss_cons (ps_if (PW.pt (pw_and (pt_cmpR op_gt (pv 1) pe_int (nomark _)) (pw_and1 (pt_cmpR op_eq (pe_call G r1 (by rfl) gG kG bG .nil pass0 (pa_cons (pv 0) (pa_cons pe_int pa_nil))) pe_int (nomark _)))))
      (pss_cons (ps_set (i := 4) scBD.nd rfl (Or.inl rfl) (pe_call G r1 (by rfl) gG kG bG .nil pass0 (pa_cons (pv 0) (pa_cons (pv 1) pa_nil))))
      (pss_one (ps_asg (ZM.pe_bx (pe_lc (own := [("_law_one", 6)]) (g := gName 6) (tt := tYes) rfl scBD.nd (ZM.pi_sq (pe_ix ix_list (pv 3) (pe_op op_mod (pe_op op_add (pv 4) pe_int) (pv 1)) (fun _ _ => rfl))) (blkOk_by (N := nBD) (sc := defScope sBD) (by decide +kernel))
        (fun _ _ _ _ _ => pg_name (i := 6) scBD.nd rfl (Or.inl rfl)) (fun _ _ _ _ _ => pts_nil) (fun _ _ _ _ _ => pe_op op_sub pe_int (pv 6)))) (pg_sub (pv 3) (pv 4) set_list)))) pss_nil)
    (pss_one (ps_ret (pv 3)))))), ?_⟩
  obtain ⟨b, l, n, bs, rfl, n4, B, q⟩ := h
  refine ⟨_, rfl, (by show 5 ≤ sizeLine; rw [sizeLine_eq]; omega), fun p np => ?_⟩
  obtain ⟨bx0, hb0⟩ := B.at
  have pb : p ≠ b := fun z => by rw [z, hb0] at np; cases np
  refine ⟨b, l, p, bs, _, rfl, B.new np, upd_same, pb, (by show 0 < 5; decide), (by show 5 < 1073741824; decide), fun v zs hv B3 => ?_⟩
  have : ∃ t : Int, v = .int t ∧ 0 ≤ t ∧ t ≤ 999999999 := by
    simp only [List.mem_cons, List.not_mem_nil, or_false] at hv
    rcases hv with e | e | e | e | e <;> exact ⟨_, e, by omega, by omega⟩
  obtain ⟨t, rfl, t0, t9⟩ := this
  have bu3 : But b H (upd (upd H p (.lst [.int 1, .int 2, .int 9, .int 9999, .int 999999999])) b (.lst zs)) := (But.new np).trans .bag
  generalize upd (upd H p (.lst [.int 1, .int 2, .int 9, .int 9999, .int 999999999])) b (.lst zs) = H3 at B3 bu3 ⊢
  refine ⟨fun σ H' => ∃ (D : Addr) (rs : List (List Int)), σ = [some (.ref b), some (.int (n : Int)), some (.int t), some (.ref D), none, none, none] ∧ Dr 999999999 n bs l b H H' D rs, ?_, ?_⟩
  · refine ZM.own_rng (n := n) (fun D i H' => ∃ (cs : List Addr) (rs : List (List Int)), cs.length = i ∧ rs.length = i ∧ (∀ r ∈ rs, r.length = n) ∧ (∀ r ∈ rs, ∀ v ∈ r, v.natAbs ≤ 999999999) ∧ H' D = some (.lst (cs.map V.ref)) ∧ (∀ (m : Nat) (c : Addr) (r : List Int), cs[m]? = some c → rs[m]? = some r → H' c = some (.lst (r.map V.int)) ∧ H c = none ∧ c ≠ D) ∧ BagAt l bs H' b ∧ But b H3 H')
      (fun R r => ⟨_, rfl, r⟩) (by omega) (fun _ => rfl) (fun D nD => ⟨[], [], rfl, rfl, by simp, by simp, upd_same, by simp, B3.new nD, .new nD⟩) ?_ ?_
    · rintro D i H4 nD hi ⟨cs, rs, lc, lr, hr4, hr9, hD, hcs, B4, bu4⟩
      obtain ⟨bx3, hb3⟩ := B3.at
      obtain ⟨bx4, hb4⟩ := B4.at
      have Db : D ≠ b := fun z => by rw [z, hb3] at nD; cases nD
      have Dl : D ≠ l := fun z => by rw [z, B3.ls] at nD; cases nD
      refine ZM.own_rng (n := n) (fun D2 j H5 => ∃ r : List Int, r.length = j ∧ (∀ v ∈ r, v.natAbs ≤ 999999999) ∧ H5 D2 = some (.lst (r.map V.int)) ∧ BagAt l bs H5 b ∧ But b H4 H5) (fun R r => ⟨_, rfl, r⟩) (by omega) (fun _ => rfl) (fun D2 nD2 => ⟨[], rfl, by simp, upd_same, B4.new nD2, .new nD2⟩) ?_ ?_
      · rintro D2 j H5 nD2 hj ⟨r, lr2, hr2, hD2, B5, bu5⟩
        have D2b : D2 ≠ b := fun z => by rw [z, hb4] at nD2; cases nD2
        have D2l : D2 ≠ l := fun z => by rw [z, B4.ls] at nD2; cases nD2
        refine ⟨_, rfl, _, rfl, _, _, rfl, rfl, .inl (by omega), _, _, rfl, rfl, b, l, _, bs, rfl, by omega, by omega, B5, fun u xs u0 u1 B6 => ⟨_, rfl, _, _, rfl, rfl, r.map V.int, by rw [upd_ne D2b]; exact hD2, by rw [List.length_map, sizeLine_eq]; omega, r ++ [u - t], by simp [lr2], ?_, by rw [upd_same, List.map_append]; rfl, B6.off D2b D2l, (bu5.trans .bag).at nD2⟩⟩
        intro v hv
        rcases List.mem_append.mp hv with h | h
        · exact hr2 v h
        · rw [List.mem_singleton.mp h]; omega
      · rintro D2 H5 nD2 ⟨r, lr2, hr2, hD2, B5, bu5⟩
        have DD : D2 ≠ D := fun z => by rw [z, hD] at nD2; cases nD2
        refine ⟨cs.map V.ref, bu5 _ _ Db hD, by rw [List.length_map, sizeLine_eq]; omega, cs ++ [D2], rs ++ [r], by simp [lc], by simp [lr], ?_, ?_, by rw [upd_same, List.map_append]; rfl, ?_, B5.off Db Dl, (bu4.trans bu5).at nD⟩
        · intro x hx
          rcases List.mem_append.mp hx with h | h
          · exact hr4 x h
          · rw [List.mem_singleton.mp h]; exact lr2
        · intro x hx
          rcases List.mem_append.mp hx with h | h
          · exact hr9 x h
          · rw [List.mem_singleton.mp h]; exact hr2
        · intro m c r' hc hr'
          by_cases hm : m < i
          · rw [List.getElem?_append_left (by omega)] at hc hr'
            obtain ⟨e1, e2, e3⟩ := hcs m c r' hc hr'
            have cb : c ≠ b := fun z => by rw [z, hb0] at e2; cases e2
            exact ⟨by rw [upd_ne e3]; exact bu5 _ _ cb e1, e2, e3⟩
          · rw [List.getElem?_append_right (by omega)] at hc hr'
            have hm' : m - cs.length = 0 := by
              have := (List.getElem?_eq_some_iff.mp hc).1
              simp at this
              omega
            have hm2 : m - rs.length = 0 := by omega
            rw [hm'] at hc
            rw [hm2] at hr'
            cases hc
            cases hr'
            exact ⟨by rw [upd_ne DD]; exact hD2, (bu3.trans bu4).gone B B4 nD2, DD⟩
    · rintro D H4 nD ⟨cs, rs, lc, lr, hr4, hr9, hD, hcs, B4, bu4⟩
      exact ⟨D, rs, rfl, ⟨lr, hr4, hr9⟩, bu3.gone B B3 nD, ⟨cs, by rw [lc, lr], hD, hcs⟩, B4, bu3.trans bu4⟩
  · rintro σ H4 ⟨D, rs, rfl, R⟩
    refine ⟨fun σ H' => ∃ (D : Addr) (rs : List (List Int)), σ = [some (.ref b), some (.int (n : Int)), some (.int t), some (.ref D), none, none, none] ∧ Dr 999999999 n bs l b H H' D rs, ?_, ?_⟩
    · refine ⟨_, rfl, _, _, rfl, rfl, _, rfl, ite2 (fun h1 => ?_) (fun h1 => ⟨D, rs, rfl, R⟩)⟩
      have hA := R.N.at (K := K)
      obtain ⟨cs, hDs, lc, hrow⟩ := hA
      have sl := R.s.l
      refine rows_rng (n := n) (fun i => (List.range n).map fun k => if (i + k) % 3 > 0 ∨ i = k then (rs.getD i []).getD k 0 else 0) (fun R r => ⟨_, rfl, r⟩) (by omega) (fun _ => rfl) ?_ ?_
      · intro i H5 R5 hi s5 k5
        have gr := List.getElem?_eq_getElem (show i < rs.length by omega)
        have gc := List.getElem?_eq_getElem (show i < cs.length by omega)
        have er : rs.getD i [] = rs[i]'(by omega) := by rw [List.getD_eq_getElem?_getD, gr]; rfl
        have lri := R.s.r _ (List.mem_of_getElem? gr)
        have hri := hrow i _ _ gc gr
        rw [← er] at lri hri
        generalize cs[i]'(by omega) = c at gc hri
        obtain ⟨r, er0⟩ : ∃ r, rs.getD i [] = r := ⟨_, rfl⟩
        rw [er0] at lri hri
        refine ZM.lcm_rng (n := n) (ys := ((List.range n).map fun k => if (i + k) % 3 > 0 ∨ i = k then r.getD k 0 else 0).map V.int) (fun R r => ⟨_, rfl, r⟩) (by omega) (by simp) (fun _ => rfl) ?_ (fun D2 H6 s6 nD2 hD2 => k5 D2 H6 s6 nD2 (by rw [er0]; exact hD2))
        intro k y H6 R6 hk hy s6 k6
        rw [List.getElem?_map, List.getElem?_map, List.getElem?_range hk] at hy
        obtain rfl : V.int (if (i + k) % 3 > 0 ∨ i = k then r.getD k 0 else 0) = y := Option.some.inj hy
        refine ZM.if_by (fun v H' => v = V.int (if (i + k) % 3 > 0 ∨ i = k then r.getD k 0 else 0) ∧ H' = H6) (fun R7 k7 => ?_) (fun v H' ⟨e1, e2⟩ => by rw [e1, e2]; exact k6 H6 (Same.refl _))
        have at1 : atI (cs.map V.ref) (0 + (i : Int)) = some (.ref c) := by
          rw [Int.zero_add]
          exact atI_nat (by rw [List.getElem?_map, gc]; rfl)
        have at2 : atI (r.map V.int) (0 + (k : Int)) = some (.int (r.getD k 0)) := by
          rw [Int.zero_add]
          refine atI_nat ?_
          rw [List.getElem?_map, List.getD_eq_getElem?_getD, List.getElem?_eq_getElem (show k < r.length by omega)]
          rfl
        have yes : (i + k) % 3 > 0 ∨ i = k → tOp (rIx K) (tOp (rIx K) (tVar 3) (tVar 4)) (tVar 5) [some (.ref b), some (.int (n : Int)), some (.int t), some (.ref D), some (.int (0 + (i : Int))), some (.int (0 + (k : Int))), none] H6 R7 := fun h => by
          refine ⟨_, rfl, _, rfl, ix_ls (.inl ((s5.trans s6).seq hDs)) at1 ⟨_, rfl, ix_ls (.inl ((s5.trans s6).seq hri)) at2 (k7 _ _ ⟨by rw [if_pos h], rfl⟩)⟩⟩
        refine ⟨_, rfl, _, rfl, _, _, rfl, rfl, _, _, rfl, rfl, (by show (0 : Int) < 3; decide), _, _, rfl, rfl, _, rfl, ite2 (fun h => ?_) (fun h => ?_)⟩
        · exact yes (.inl (by have : (0 + (i : Int) + (0 + (k : Int))) % 3 > 0 := of_decide_eq_true h; omega))
        · have h : ¬ ((0 + (i : Int) + (0 + (k : Int))) % 3 > 0) := fun z => h (decide_eq_true z)
          refine ⟨_, rfl, _, rfl, rfl, _, rfl, ite2 (fun h2 => ?_) (fun h2 => ?_)⟩
          · exact yes (.inr (by have : V.int (0 + (i : Int)) = V.int (0 + (k : Int)) := of_decide_eq_true h2; injection this; omega))
          · have h2 : ¬ (0 + (i : Int) = 0 + (k : Int)) := fun z => h2 (decide_eq_true (congrArg V.int z))
            exact k7 _ _ ⟨by rw [if_neg (by omega)], rfl⟩
      · intro D2 H5 s5 nD2 N2
        have bu5 : But b H H5 := R.u.trans fun c o _ e => s5 _ _ e
        obtain ⟨cs2, l2, h2, h3⟩ := N2
        have NN := (⟨cs2, l2, h2, fun m c r e1 e2 => ⟨(h3 m c r e1 e2).1, R.u.gone B R.B (h3 m c r e1 e2).2.1, (h3 m c r e1 e2).2.2⟩⟩ : NewR H H5 D2 D2 _)
        refine ⟨D2, _, rfl, ⟨⟨?_, fun r hr => ?_, fun r hr v hv => ?_⟩, R.u.gone B R.B nD2, NN, R.B.same s5, bu5⟩⟩
        · rw [List.length_map, List.length_range]
        · obtain ⟨i, _, rfl⟩ := List.mem_map.mp hr
          rw [List.length_map, List.length_range]
        · obtain ⟨i, _, rfl⟩ := List.mem_map.mp hr
          obtain ⟨k, _, rfl⟩ := List.mem_map.mp hv
          split
          · exact getD_le (row_le R.s.b i) k
          · decide
    · clear R D rs H4
      rintro σ H4 ⟨D, rs, rfl, R⟩
      have fin : ∀ (xs : List V), BagAt l bs (upd H4 b (.lst xs)) b → Q (.ref D) (upd H4 b (.lst xs)) := fun xs B5 => q D rs _ (R.bag B B5)
      have B4 := R.B
      obtain ⟨bx4, hb4⟩ := B4.at
      refine ⟨_, rfl, _, _, rfl, rfl, _, rfl, ite2 (fun h1 => ?_) (fun h1 => ?_)⟩
      · refine ⟨_, rfl, b, l, 4, bs, rfl, by omega, by omega, B4, fun u xs u0 u1 B5 => ⟨rfl, _, rfl, ite2 (fun h2 => ?_) (fun h2 => ?_)⟩⟩
        · have h1' : (n : Int) > 4 ∨ (n : Int) > 1 := .inr (of_decide_eq_true h1)
          refine ⟨_, rfl, _, rfl, b, l, (n : Int), bs, rfl, by omega, by omega, B5, fun u2 xs2 v0 v1 B6 => ?_⟩
          obtain ⟨un, rfl⟩ := Int.eq_ofNat_of_zero_le v0
          have ul : un < n := by omega
          have R6 := (R.bag B B5).bag B B6
          generalize upd (upd H4 b (.lst xs)) b (.lst xs2) = H6 at R6 ⊢
          obtain ⟨cs, lc, hD, hcs⟩ := R6.N
          have lr := R6.s.l
          have B6 := R6.B
          obtain ⟨bx6, hb6⟩ := B6.at
          obtain ⟨m2, em⟩ : ∃ m2, (un + 1) % n = m2 := ⟨_, rfl⟩
          have m2l : m2 < n := em ▸ Nat.mod_lt _ (by omega)
          have gc := List.getElem?_eq_getElem (show m2 < cs.length by omega)
          have gr := List.getElem?_eq_getElem (show m2 < rs.length by omega)
          generalize cs[m2]'(by omega) = c2 at gc
          generalize rs[m2]'(by omega) = r2 at gr
          obtain ⟨e1, e2, e3⟩ := hcs m2 c2 r2 gc gr
          have lr2 := R6.s.r r2 (List.mem_of_getElem? gr)
          have br2 := R6.s.b r2 (List.mem_of_getElem? gr)
          have Db : D ≠ b := fun z => by have := R6.n; rw [z, hb0] at this; cases this
          have Dl : D ≠ l := fun z => by have := R6.n; rw [z, B.ls] at this; cases this
          have hat : atI (cs.map V.ref) (((un : Int) + 1) % (n : Int)) = some (.ref c2) := by
            rw [show ((un : Int) + 1) % (n : Int) = ((m2 : Nat) : Int) by rw [← em]; simp]
            exact atI_nat (by rw [List.getElem?_map, gc]; rfl)
          refine ZM.lcm_sq (K := K) (a := c2) (xs := r2.map V.int) (ys := r2.map fun x => V.int (0 - x)) (fun R r => ⟨_, rfl, _, rfl, _, _, rfl, rfl, _, rfl, _, _, rfl, rfl, (by show (0 : Int) < (n : Int); omega), D, _, _, .ref c2, rfl, rfl, SqL.of hD, hat, r⟩) (.inl (SqL.of e1)) (by simp) (by simp; omega) (fun _ => rfl) ?_ ?_
          · intro i x y H7 R hx hy sm hR
            rw [List.getElem?_map] at hx hy
            obtain ⟨v, hv1, rfl⟩ := Option.map_eq_some_iff.mp hx
            rw [hv1] at hy
            cases hy
            exact ⟨_, rfl, _, _, rfl, rfl, hR _ (Same.refl _)⟩
          · intro D3 H7 sm7 nD3 hD3
            have DD : D3 ≠ D := fun z => by rw [z, hD] at nD3; cases nD3
            have nD3' : H D3 = none := R6.u.gone B B6 nD3
            refine ⟨_, rfl, _, rfl, D, _, (un : Int), un, rfl, rfl, sm7 _ _ hD, ?_, ?_⟩
            · simp [ixN]
              omega
            refine ⟨_, rfl, q D (rs.set un (r2.map fun x => 0 - x)) _ ⟨R6.s.set (by rw [List.length_map, lr2]) (fun v hv => ?_), R6.n, ⟨cs.set un D3, by rw [List.length_set, List.length_set, lc], by rw [upd_same, List.map_set], fun m c r hm1 hm2 => ?_⟩, (B6.same sm7).off Db Dl, (R6.u.trans (fun c o _ e => sm7 _ _ e)).at R6.n⟩⟩
            · obtain ⟨x, hx, rfl⟩ := List.mem_map.mp hv
              have := br2 x hx
              omega
            · rw [List.getElem?_set] at hm1 hm2
              by_cases z : un = m
              · rw [if_pos z, if_pos (by omega)] at hm1 hm2
                cases hm1
                cases hm2
                exact ⟨by rw [upd_ne DD, hD3, List.map_map]; rfl, nD3', DD⟩
              · rw [if_neg z] at hm1 hm2
                obtain ⟨f1, f2, f3⟩ := hcs m c r hm1 hm2
                exact ⟨by rw [upd_ne f3]; exact sm7 _ _ f1, f2, f3⟩
        · exact ⟨_, rfl, fin xs B5⟩
      · have e := upd_self hb4
        refine ⟨_, rfl, ?_⟩
        rw [← e]
        exact fin bx4 (by rw [e]; exact B4)
end
end K4

set_option maxHeartbeats 8000000
/-! Boxes made by adding and exchanging rows. -/
namespace K4
open PySem PySem.Spec PyProof.Rows L2 CX4 DETM
abbrev sBM : Stmt := topS 23
abbrev nBM : List Str := ["_law_bag_here", "_law_size", "_law_due", "_law_k", "_law_j", "_law_rows9", "_law_step", "_law_by", "_law_a", "_law_b"]
theorem scBM : FnScope nBM ["_law_bag_here"] (defScope sBM) := ⟨rfl, rfl, rfl, by decide +kernel, rfl, by decide +kernel, by decide +kernel⟩
/-- new rows at cs that stand beside the bag -/
structure DrC (B n : Nat) (ms : List Int) (l b : Addr) (H H' : Hp) (D : Addr) (cs : List Addr) (rs : List (List Int)) : Prop where
  s : SqB B n rs
  n : H D = none
  lc : cs.length = rs.length
  d : H' D = some (.lst (cs.map V.ref))
  c : ∀ (m : Nat) (c : Addr) (r : List Int), cs[m]? = some c → rs[m]? = some r → H' c = some (.lst (r.map V.int)) ∧ H c = none ∧ c ≠ D
  B : BagAt l ms H' b
  u : But b H H'
section
variable {B n : Nat} {ms : List Int} {l b : Addr} {H H' : Hp} {D : Addr} {cs : List Addr} {rs : List (List Int)}
theorem DrC.dr (h : DrC B n ms l b H H' D cs rs) : Dr B n ms l b H H' D rs := ⟨h.s, h.n, ⟨cs, h.lc, h.d, h.c⟩, h.B, h.u⟩
theorem Dr.ex (h : Dr B n ms l b H H' D rs) : ∃ cs, DrC B n ms l b H H' D cs rs := by
  obtain ⟨cs, h1, h2, h3⟩ := h.N
  exact ⟨cs, h.s, h.n, h1, h2, h3, h.B, h.u⟩
theorem DrC.same (h : DrC B n ms l b H H' D cs rs) {H2 : Hp} (s : Same H' H2) : DrC B n ms l b H H2 D cs rs := ⟨h.s, h.n, h.lc, s _ _ h.d, fun m c r e1 e2 => ⟨s _ _ (h.c m c r e1 e2).1, (h.c m c r e1 e2).2⟩, h.B.same s, h.u.trans fun c o _ e => s _ _ e⟩
theorem Dr.same (h : Dr B n ms l b H H' D rs) {H2 : Hp} (s : Same H' H2) : Dr B n ms l b H H2 D rs := by
  obtain ⟨cs, h⟩ := h.ex
  exact (h.same s).dr
theorem DrC.le (h : DrC B n ms l b H H' D cs rs) {B2 : Nat} (hB : B ≤ B2) : DrC B2 n ms l b H H' D cs rs := ⟨⟨h.s.l, h.s.r, fun r hr v hv => Nat.le_trans (h.s.b r hr v hv) hB⟩, h.n, h.lc, h.d, h.c, h.B, h.u⟩
theorem DrC.bag (h : DrC B n ms l b H H' D cs rs) (Bb : BagAt l ms H b) {xs : List V} (B2 : BagAt l ms (upd H' b (.lst xs)) b) : DrC B n ms l b H (upd H' b (.lst xs)) D cs rs := by
  obtain ⟨y, hy⟩ := Bb.at
  have Db : D ≠ b := fun z => by have := h.n; rw [z, hy] at this; cases this
  refine ⟨h.s, h.n, h.lc, by rw [upd_ne Db]; exact h.d, fun m c r e1 e2 => ?_, B2, h.u.trans .bag⟩
  obtain ⟨g1, g2, g3⟩ := h.c m c r e1 e2
  exact ⟨by rw [upd_ne (fun z => by rw [z, hy] at g2; cases g2)]; exact g1, g2, g3⟩
theorem DrC.put (h : DrC B n ms l b H H' D cs rs) (Bb : BagAt l ms H b) {H5 : Hp} (s : Same H' H5) {D3 : Addr} (n3 : H' D3 = none) {t : List Int} (h3 : H5 D3 = some (.lst (t.map V.int))) {k B2 : Nat} (lt : t.length = n) (bt : ∀ v ∈ t, v.natAbs ≤ B2) (hB : B ≤ B2) (hk : k < n) :
    DrC B2 n ms l b H (upd H5 D (.lst ((cs.map V.ref).set k (.ref D3)))) D (cs.set k D3) (rs.set k t) := by
  obtain ⟨y, hy⟩ := Bb.at
  have Db : D ≠ b := fun z => by have := h.n; rw [z, hy] at this; cases this
  have Dl : D ≠ l := fun z => by have := h.n; rw [z, Bb.ls] at this; cases this
  have D3D : D3 ≠ D := fun z => by rw [z, h.d] at n3; cases n3
  have h' := (h.le hB).same s
  refine ⟨h'.s.set lt bt, h.n, by rw [List.length_set, List.length_set, h.lc], by rw [upd_same, List.map_set], fun m c r e1 e2 => ?_, h'.B.off Db Dl, h'.u.at h.n⟩
  rw [List.getElem?_set] at e1 e2
  by_cases z : k = m
  · rw [if_pos z, if_pos (by rw [h.lc, h.s.l]; exact hk)] at e1
    rw [if_pos z, if_pos (by rw [h.s.l]; exact hk)] at e2
    cases e1
    cases e2
    exact ⟨by rw [upd_ne D3D]; exact h3, h.u.gone Bb h.B n3, D3D⟩
  · rw [if_neg z] at e1 e2
    obtain ⟨f1, f2, f3⟩ := h'.c m c r e1 e2
    exact ⟨by rw [upd_ne f3]; exact f1, f2, f3⟩
theorem DrC.swap (h : DrC B n ms l b H H' D cs rs) (Bb : BagAt l ms H b) {H5 : Hp} (s : Same H' H5) {j k : Nat} (hj : j < n) (hk : k < n) {cj ck : Addr} (gj : cs[j]? = some cj) (gk : cs[k]? = some ck) :
    DrC B n ms l b H (upd (upd H5 D (.lst ((cs.map V.ref).set j (.ref ck)))) D (.lst (((cs.map V.ref).set j (.ref ck)).set k (.ref cj)))) D ((cs.set j ck).set k cj) ((rs.set j (rs.getD k [])).set k (rs.getD j [])) := by
  obtain ⟨y, hy⟩ := Bb.at
  have Db : D ≠ b := fun z => by have := h.n; rw [z, hy] at this; cases this
  have Dl : D ≠ l := fun z => by have := h.n; rw [z, Bb.ls] at this; cases this
  have h' := h.same s
  have rk : rs[k]? = some (rs.getD k []) := by rw [List.getD_eq_getElem?_getD, List.getElem?_eq_getElem (show k < rs.length by rw [h.s.l]; exact hk)]; rfl
  have rj : rs[j]? = some (rs.getD j []) := by rw [List.getD_eq_getElem?_getD, List.getElem?_eq_getElem (show j < rs.length by rw [h.s.l]; exact hj)]; rfl
  have mk := List.mem_of_getElem? rk
  have mj := List.mem_of_getElem? rj
  refine ⟨(h.s.set (h.s.r _ mk) (h.s.b _ mk)).set (h.s.r _ mj) (h.s.b _ mj), h.n, by simp [h.lc], by rw [upd_same, List.map_set, List.map_set], fun m c r e1 e2 => ?_, (h'.B.off Db Dl).off Db Dl, (h'.u.at h.n).at h.n⟩
  have old : ∀ {m : Nat} {c : Addr} {r : List Int}, cs[m]? = some c → rs[m]? = some r → (upd (upd H5 D (.lst ((cs.map V.ref).set j (.ref ck)))) D (.lst (((cs.map V.ref).set j (.ref ck)).set k (.ref cj)))) c = some (.lst (r.map V.int)) ∧ H c = none ∧ c ≠ D := fun {m c r} e1 e2 => by
    obtain ⟨f1, f2, f3⟩ := h'.c m c r e1 e2
    exact ⟨by rw [upd_ne f3, upd_ne f3]; exact f1, f2, f3⟩
  rw [List.getElem?_set, List.length_set] at e1 e2
  by_cases z : k = m
  · rw [if_pos z, if_pos (by rw [h.lc, h.s.l]; exact hk)] at e1
    rw [if_pos z, if_pos (by rw [h.s.l]; exact hk)] at e2
    cases e1
    cases e2
    exact old gj rj
  · rw [if_neg z, List.getElem?_set] at e1 e2
    by_cases y : j = m
    · rw [if_pos y, if_pos (by rw [h.lc, h.s.l]; exact hj)] at e1
      rw [if_pos y, if_pos (by rw [h.s.l]; exact hj)] at e2
      cases e1
      cases e2
      exact old gk rk
    · rw [if_neg y] at e1 e2
      exact old e1 e2
theorem DrC.cell (h : DrC B n ms l b H H' D cs rs) (Bb : BagAt l ms H b) (nd : cs.Nodup) {k i : Nat} {ck : Addr} {r : List Int} {v : Int} (gk : cs[k]? = some ck) (rk : rs[k]? = some r) (hv : v.natAbs ≤ B) :
    DrC B n ms l b H (upd H' ck (.lst ((r.map V.int).set i (.int v)))) D cs (rs.set k (r.set i v)) := by
  obtain ⟨y, hy⟩ := Bb.at
  obtain ⟨c1, c2, c3⟩ := h.c k ck r gk rk
  have cb : ck ≠ b := fun z => by rw [z, hy] at c2; cases c2
  have cl : ck ≠ l := fun z => by rw [z, Bb.ls] at c2; cases c2
  have mk := List.mem_of_getElem? rk
  have kl := (List.getElem?_eq_some_iff.mp rk).1
  refine ⟨h.s.set (by rw [List.length_set]; exact h.s.r _ mk) (fun x hx => ?_), h.n, by rw [List.length_set, h.lc], by rw [upd_ne c3.symm]; exact h.d, fun m c r' e1 e2 => ?_, h.B.off cb cl, h.u.at c2⟩
  · rcases List.mem_or_eq_of_mem_set hx with g | g
    · exact h.s.b _ mk x g
    · rw [g]; exact hv
  · rw [List.getElem?_set] at e2
    by_cases z : k = m
    · rw [if_pos z, if_pos kl] at e2
      cases e2
      rw [← z, gk] at e1
      cases e1
      exact ⟨by rw [upd_same, List.map_set], c2, c3⟩
    · rw [if_neg z] at e2
      obtain ⟨f1, f2, f3⟩ := h.c m c r' e1 e2
      have ne : c ≠ ck := fun y => by
        rw [y] at e1
        exact z ((List.getElem?_inj (List.getElem?_eq_some_iff.mp gk).1 nd).mp (gk.trans e1.symm))
      exact ⟨by rw [upd_ne ne]; exact f1, f2, f3⟩
end
theorem zw_get {xs ys : List Int} (k : Int) {c : Nat} (hx : c < xs.length) (hy : c < ys.length) : (List.zipWith (fun a b => a + k * b) xs ys).getD c 0 = xs.getD c 0 + k * ys.getD c 0 := by
  rw [List.getD_eq_getElem?_getD, List.getD_eq_getElem?_getD, List.getD_eq_getElem?_getD, List.getElem?_zipWith, List.getElem?_eq_getElem hx, List.getElem?_eq_getElem hy]
  rfl
/-- the product of the first numbers of the diagonal -/
def pd (rs : List (List Int)) (n i : Nat) : Int := (((List.zip rs (List.range n)).take i).map fun p => p.1.getD p.2 0).foldl (· * ·) 1
theorem pd_set {rs : List (List Int)} {n i : Nat} {r : List Int} (l : rs.length = n) (hi : i < n) : pd (rs.set i r) n (i + 1) = pd rs n i * r.getD i 0 := by
  have e : (List.zip (rs.set i r) (List.range n)).take (i + 1) = (List.zip rs (List.range n)).take i ++ [(r, i)] := by
    have e1 : (List.zip (rs.set i r) (List.range n))[i]? = some (r, i) := by
      rw [List.getElem?_zip_eq_some]
      exact ⟨by rw [List.getElem?_set_self (by omega)], by rw [List.getElem?_range hi]⟩
    rw [List.take_add_one, e1, List.zip_eq_zipWith, List.zip_eq_zipWith, List.take_zipWith, List.take_zipWith, List.take_set_of_le (Nat.le_refl _)]
    rfl
  unfold pd
  rw [e, List.map_append, List.foldl_append]
  rfl
theorem pd_all {rs : List (List Int)} {n : Nat} (l : rs.length = n) (tri : ∀ (i : Nat) (r : List Int) (j : Nat), rs[i]? = some r → j < i → r.getD j 0 = 0) : F rs (List.range n) = pd rs n n := by
  rw [F_tri rs (List.range n) (by simp [l]) fun i j r c e1 e2 lt => ?_]
  · unfold pd
    rw [List.take_of_length_le (by simp [l])]
  · have : j < n := by have := (List.getElem?_eq_some_iff.mp e2).1; simpa using this
    rw [List.getElem?_range this] at e2
    cases e2
    exact tri i r j e1 lt
section
variable {P : Program} {w : World} {K : PySem.W.Frag} {mg : Str → Option Value} {base : Heap}
def spBM : Sp := fun vs H Q _ => ∃ (b l : Addr) (bs : List Int), vs = [.ref b] ∧ BagAt l bs H b ∧
  ∀ (T D : Addr) (n : Nat) (due : Int) (rs : List (List Int)) (H' : Hp), n ≤ 7 → H T = none → H' T = some (.tup [.ref D, .int due]) → Dr 999999999 n bs l b H H' D rs → F rs (List.range n) = due → Q (.ref T) H'
theorem ok_bm {f g o : Addr} {fd gd od : FuncData} (F0 : Fun K "_law_box_made" "_law_box_made" sBM f fd) (mr : mg "range" = none) (mz : mg "zip" = none) (G : FnOk P w K mg base CX0 1 g gd ["_law_bag_here", "_law_many"] spPull) (gG : mg "_law_pull" = some (.ref g)) (kG : PySem.W.keepIn K (.ref g) = true) (bG : Binds K gd ["_law_bag_here", "_law_many"] [])
    (O : FnOk P w K mg base CX0 2 o od ["_law_bag_here", "_law_some"] (spOf K)) (gO : mg "_law_of" = some (.ref o)) (kO : PySem.W.keepIn K (.ref o) = true) (bO : Binds K od ["_law_bag_here", "_law_some"] []) :
    FnOk P w K mg base CX0 3 f fd ["_law_bag_here"] spBM := by
  refine F0.ok scBM (fun vs H Q E ⟨b, l, bs, e, _⟩ => by rw [e]; rfl) (fun cdv A outer s H vs Q E hr h => ?_)
  have r1 := hr.mono (j := 1) (by decide)
  refine ⟨_, pss_cons (ps_asg (pe_tup (pa_cons (pe_op op_add pe_int (pe_call G r1 (by rfl) gG kG bG .nil pass0 (pa_cons (pv 0) (pa_cons pe_int pa_nil)))) (pa_cons pe_int pa_nil))) (pg_tup rfl (pgs_cons (pg_name (i := 1) scBM.nd rfl (Or.inr rfl)) (pgs_cons (pg_name (i := 2) scBM.nd rfl (Or.inl rfl)) pgs_nil))))
    (C8.pss_cut (ZM.ps_bx (ps_setLc (i := 5) (own := [("_law_k", 3)]) (g := gName 3) (tt := tYes) rfl scBM.nd rfl rfl (sw_true rfl rfl rfl (by decide +kernel)) (pi_range1 (by rfl) mr (pa_cons (pv 1) pa_nil)) (blkOk_by (N := nBM) (sc := defScope sBM) (by decide +kernel))
        (fun _ _ _ _ _ => pg_name (i := 3) scBM.nd rfl (Or.inr rfl)) (fun _ _ _ _ _ => pts_nil)
        (fun _ _ _ _ _ => ZM.pe_bx (pe_lc (own := [("_law_j", 4)]) (g := gName 4) (tt := tYes) rfl scBM.nd (pi_range1 (by rfl) mr (pa_cons (pv 1) pa_nil)) (blkOk_by (N := nBM) (by rfl))
          (fun _ _ _ _ _ => pg_name (i := 4) scBM.nd rfl (Or.inl rfl)) (fun _ _ _ _ _ => pts_nil)
          (fun _ _ _ _ _ => ZM.pe_bx (pe_ifExp (pt_cmpR op_gt (pv 4) (pv 3) (nomark _)) (pe_op op_sub (pe_call G r1 (by rfl) gG kG bG .nil pass0 (pa_cons (pv 0) (pa_cons pe_int pa_nil))) pe_int) pe_int))))))
    (C8.pss_cut (ps_for PassesOwn.never rfl (pi_range1 (by rfl) mr (pa_cons (pv 1) pa_nil)) (pg_name (i := 3) scBM.nd rfl (Or.inl rfl))
      (pss_cons (ps_asg (pe_call O hr (by rfl) gO kO bO .nil pass0 (pa_cons (pv 0) (pa_cons (pe_lst (pa_cons pe_int (pa_cons (pe_un un_neg pe_int) (pa_cons pe_int (pa_cons (pe_un un_neg pe_int) pa_nil))))) pa_nil))) (pg_sub (pe_ix ix_list (pv 5) (pv 3) (fun _ _ => rfl)) (pv 3) set_list))
      (pss_one (ps_set (i := 2) scBM.nd rfl (Or.inl rfl) (pe_op op_mul (pv 2) (pe_ix ix_list (pe_ix ix_list (pv 5) (pv 3) (fun _ _ => rfl)) (pv 3) (fun _ _ => rfl)))))))
    (pss_cons (ps_for PassesOwn.never rfl (pi_range1 (by rfl) mr (pa_cons pe_int pa_nil)) (pg_name (i := 6) scBM.nd rfl (Or.inl rfl))
      (pss_cons (ps_set (i := 3) scBM.nd rfl (Or.inl rfl) (pe_call G r1 (by rfl) gG kG bG .nil pass0 (pa_cons (pv 0) (pa_cons (pv 1) pa_nil))))
      (pss_cons (ps_asg (pe_tup (pa_cons (pe_op op_mod (pe_op op_add (pe_op op_add (pv 3) pe_int) (pe_call G r1 (by rfl) gG kG bG .nil pass0 (pa_cons (pv 0) (pa_cons (pe_op op_sub (pv 1) pe_int) pa_nil)))) (pv 1)) (pa_cons (pe_op op_sub (pe_call G r1 (by rfl) gG kG bG .nil pass0 (pa_cons (pv 0) (pa_cons pe_int pa_nil))) pe_int) pa_nil))) (pg_tup rfl (pgs_cons (pg_name (i := 4) scBM.nd rfl (Or.inl rfl)) (pgs_cons (pg_name (i := 7) scBM.nd rfl (Or.inr rfl)) pgs_nil))))
      (pss_cons (ps_asg (ZM.pe_bx (pe_lc (own := [("_law_a", 8), ("_law_b", 9)]) (g := gTup K 2 (gCons (gName 8) (gCons (gName 9) gNil))) (tt := tYes) rfl scBM.nd (ZM.pi_z (by rfl) mz (pa_cons (pe_ix ix_list (pv 5) (pv 4) (fun _ _ => rfl)) (pa_cons (pe_ix ix_list (pv 5) (pv 3) (fun _ _ => rfl)) pa_nil))) (blkOk_by (N := nBM) (sc := defScope sBM) (by decide +kernel))
          (fun _ _ _ _ _ => pg_tup rfl (pgs_cons (pg_name (i := 8) scBM.nd rfl (Or.inl rfl)) (pgs_cons (pg_name (i := 9) scBM.nd rfl (Or.inl rfl)) pgs_nil))) (fun _ _ _ _ _ => pts_nil) (fun _ _ _ _ _ => pe_op op_add (pv 8) (pe_op op_mul (pv 7) (pv 9))))) (pg_sub (pv 5) (pv 4) set_list))
      (pss_one (ps_if (pt_cmpR op_eq (pe_call G r1 (by rfl) gG kG bG .nil pass0 (pa_cons (pv 0) (pa_cons pe_int pa_nil))) pe_int (nomark _))
        (pss_cons (ps_asg (pe_tup (pa_cons (pe_ix ix_list (pv 5) (pv 3) (fun _ _ => rfl)) (pa_cons (pe_ix ix_list (pv 5) (pv 4) (fun _ _ => rfl)) pa_nil))) (pg_tup rfl (pgs_cons (pg_sub (pv 5) (pv 4) set_list) (pgs_cons (pg_sub (pv 5) (pv 3) set_list) pgs_nil))))
        (pss_one (ps_set (i := 2) scBM.nd rfl (Or.inl rfl) (pe_op op_sub pe_int (pv 2))))) pss_nil))))))
    (pss_one (ps_ret (pe_tup (pa_cons (pv 5) (pa_cons (pv 2) pa_nil)))))))), ?_⟩
  obtain ⟨b, l, bs, rfl, B, q⟩ := h
  obtain ⟨bx0, hb0⟩ := B.at
  refine ⟨_, rfl, b, l, 2, bs, rfl, by decide, by decide, B, fun u xs u0 u2 B1 => ⟨6, u, rfl, rfl, ?_⟩⟩
  obtain ⟨n, hn⟩ : ∃ n : Nat, 6 + u = (n : Int) := ⟨(6 + u).toNat, by omega⟩
  have n6 : 6 ≤ n := by omega
  have n7 : n ≤ 7 := by omega
  dsimp only
  rw [hn]
  refine ⟨(by show 2 ≤ sizeLine; rw [sizeLine_eq]; omega), fun p np => ⟨p, _, rfl, SqT.of upd_same, rfl, _, _, rfl, _, _, rfl, rfl, ?_⟩⟩
  have bu3 : But b H (upd (upd H b (.lst xs)) p (.tup [.int (n : Int), .int 1])) := But.bag.trans (.new np)
  have B3 := B1.new (o := .tup [.int (n : Int), .int 1]) np
  generalize upd (upd H b (.lst xs)) p (.tup [.int (n : Int), .int 1]) = H3 at bu3 B3 ⊢
  refine ⟨fun σ H' => ∃ (D : Addr) (cs : List Addr) (rs : List (List Int)), σ = [some (.ref b), some (.int (n : Int)), some (.int 1), none, none, some (.ref D), none, none, none, none] ∧ DrC 9 n bs l b H H' D cs rs ∧ cs.Nodup ∧ ∀ (i : Nat) (r : List Int) (j : Nat), rs[i]? = some r → j < i → r.getD j 0 = 0, ?_, ?_⟩
  · refine ZM.own_rng (n := n) (fun D i H' => ∃ (cs : List Addr) (rs : List (List Int)), cs.length = i ∧ rs.length = i ∧ (∀ r ∈ rs, r.length = n) ∧ (∀ r ∈ rs, ∀ v ∈ r, v.natAbs ≤ 9) ∧ H' D = some (.lst (cs.map V.ref)) ∧ (∀ (m : Nat) (c : Addr) (r : List Int), cs[m]? = some c → rs[m]? = some r → H' c = some (.lst (r.map V.int)) ∧ H c = none ∧ c ≠ D) ∧ BagAt l bs H' b ∧ But b H3 H' ∧ cs.Nodup ∧ ∀ (i : Nat) (r : List Int) (j : Nat), rs[i]? = some r → j < i → r.getD j 0 = 0)
      (fun R r => ⟨_, rfl, r⟩) (by omega) (fun _ => rfl) (fun D nD => ⟨[], [], rfl, rfl, by simp, by simp, upd_same, by simp, B3.new nD, .new nD, List.nodup_nil, by simp⟩) ?_ ?_
    · rintro D i H4 nD hi ⟨cs, rs, lc, lr, hr4, hr9, hD, hcs, B4, bu4, nd, tri⟩
      obtain ⟨bx3, hb3⟩ := B3.at
      obtain ⟨bx4, hb4⟩ := B4.at
      have Db : D ≠ b := fun z => by rw [z, hb3] at nD; cases nD
      have Dl : D ≠ l := fun z => by rw [z, B3.ls] at nD; cases nD
      refine ZM.own_rng (n := n) (fun D2 j H5 => ∃ r : List Int, r.length = j ∧ (∀ v ∈ r, v.natAbs ≤ 9) ∧ H5 D2 = some (.lst (r.map V.int)) ∧ BagAt l bs H5 b ∧ But b H4 H5 ∧ ∀ m, m < i → r.getD m 0 = 0) (fun R r => ⟨_, rfl, r⟩) (by omega) (fun _ => rfl) (fun D2 nD2 => ⟨[], rfl, by simp, upd_same, B4.new nD2, .new nD2, by simp⟩) ?_ ?_
      · rintro D2 j H5 nD2 hj ⟨r, lr2, hr2, hD2, B5, bu5, z2⟩
        have D2b : D2 ≠ b := fun z => by rw [z, hb4] at nD2; cases nD2
        have D2l : D2 ≠ l := fun z => by rw [z, B4.ls] at nD2; cases nD2
        have more : ∀ (t : Int) (H6 : Hp), t.natAbs ≤ 9 → (j < i → t = 0) → H6 D2 = some (.lst (r.map V.int)) → BagAt l bs H6 b → But b H4 H6 → ∃ acc, H6 D2 = some (.lst acc) ∧ acc.length < sizeLine ∧ ∃ r' : List Int, r'.length = j + 1 ∧ (∀ v ∈ r', v.natAbs ≤ 9) ∧ (upd H6 D2 (.lst (acc ++ [.int t]))) D2 = some (.lst (r'.map V.int)) ∧ BagAt l bs (upd H6 D2 (.lst (acc ++ [.int t]))) b ∧ But b H4 (upd H6 D2 (.lst (acc ++ [.int t]))) ∧ ∀ m, m < i → r'.getD m 0 = 0 := fun t H6 ht ht0 hD6 B6 bu6 => by
          refine ⟨_, hD6, by rw [List.length_map, sizeLine_eq]; omega, r ++ [t], by simp [lr2], fun v hv => ?_, by rw [upd_same, List.map_append]; rfl, B6.off D2b D2l, bu6.at nD2, fun m hm => ?_⟩
          · rcases List.mem_append.mp hv with h | h
            · exact hr2 v h
            · rw [List.mem_singleton.mp h]; exact ht
          · have := z2 m hm
            rw [List.getD_eq_getElem?_getD] at this ⊢
            by_cases c : m < j
            · rw [List.getElem?_append_left (by omega)]; exact this
            · by_cases c2 : m = j
              · rw [c2, ← lr2, List.getElem?_concat_length]
                exact ht0 (by omega)
              · rw [List.getElem?_eq_none (by simp; omega)]; rfl
        refine ⟨?_⟩
        refine ⟨_, rfl, _, rfl, _, _, rfl, rfl, _, rfl, ite2 (fun h1 => ?_) (fun h1 => ?_)⟩
        · have h1 : (0 + (i : Int)) < 0 + (j : Int) := of_decide_eq_true h1
          refine ⟨_, rfl, b, l, 19, bs, rfl, by decide, by decide, B5, fun u xs u0 u1 B6 => ⟨_, _, rfl, rfl, ?_⟩⟩
          exact more (u - 9) _ (by omega) (fun z => by omega) (by rw [upd_ne D2b]; exact hD2) B6 (bu5.trans .bag)
        · exact more 0 _ (by decide) (fun _ => rfl) hD2 B5 bu5
      · rintro D2 H5 nD2 ⟨r, lr2, hr2, hD2, B5, bu5, z2⟩
        have DD : D2 ≠ D := fun z => by rw [z, hD] at nD2; cases nD2
        refine ⟨cs.map V.ref, bu5 _ _ Db hD, by rw [List.length_map, sizeLine_eq]; omega, cs ++ [D2], rs ++ [r], by simp [lc], by simp [lr], ?_, ?_, by rw [upd_same, List.map_append]; rfl, ?_, B5.off Db Dl, (bu4.trans bu5).at nD, ?_, ?_⟩
        · intro x hx
          rcases List.mem_append.mp hx with h | h
          · exact hr4 x h
          · rw [List.mem_singleton.mp h]; exact lr2
        · intro x hx
          rcases List.mem_append.mp hx with h | h
          · exact hr9 x h
          · rw [List.mem_singleton.mp h]; exact hr2
        · intro m c r' hc hr'
          by_cases hm : m < i
          · rw [List.getElem?_append_left (by omega)] at hc hr'
            obtain ⟨e1, e2, e3⟩ := hcs m c r' hc hr'
            have cb : c ≠ b := fun z => by rw [z, hb0] at e2; cases e2
            exact ⟨by rw [upd_ne e3]; exact bu5 _ _ cb e1, e2, e3⟩
          · rw [List.getElem?_append_right (by omega)] at hc hr'
            have hm' : m - cs.length = 0 := by
              have := (List.getElem?_eq_some_iff.mp hc).1
              simp at this
              omega
            have hm2 : m - rs.length = 0 := by omega
            rw [hm'] at hc
            rw [hm2] at hr'
            cases hc
            cases hr'
            exact ⟨by rw [upd_ne DD]; exact hD2, (bu3.trans bu4).gone B B4 nD2, DD⟩
        · rw [List.nodup_append]
          refine ⟨nd, by simp, fun x hx y hy => ?_⟩
          rw [List.mem_singleton.mp hy]
          intro z
          obtain ⟨m, hm⟩ := List.getElem?_of_mem hx
          have ml := (List.getElem?_eq_some_iff.mp hm).1
          have h1 := (hcs m x _ hm (List.getElem?_eq_getElem (show m < rs.length by omega))).1
          rw [z, nD2] at h1
          cases h1
        · intro i' r' j' e1 e2
          by_cases c : i' < i
          · rw [List.getElem?_append_left (by omega)] at e1
            exact tri i' r' j' e1 e2
          · rw [List.getElem?_append_right (by omega)] at e1
            have e3 : i' - rs.length = 0 := by
              have := (List.getElem?_eq_some_iff.mp e1).1
              simp at this
              omega
            rw [e3] at e1
            cases e1
            exact z2 j' (by omega)
    · rintro D H4 nD ⟨cs, rs, lc, lr, hr4, hr9, hD, hcs, B4, bu4, nd, tri⟩
      exact ⟨D, cs, rs, rfl, ⟨⟨lr, hr4, hr9⟩, bu3.gone B B3 nD, by rw [lc, lr], hD, hcs, B4, bu3.trans bu4⟩, nd, tri⟩
  · rintro σ H4 ⟨D, cs, rs, rfl, R, nd, tri⟩
    refine ⟨fun σ H' => ∃ (D : Addr) (cs : List Addr) (rs : List (List Int)) (due : Int) (x3 : Option V), σ = [some (.ref b), some (.int (n : Int)), some (.int due), x3, none, some (.ref D), none, none, none, none] ∧ DrC 9 n bs l b H H' D cs rs ∧ F rs (List.range n) = due, ?_, ?_⟩
    · refine ⟨_, rfl, n, rfl, by omega, by omega, for_range (lo := 0) (n := n) (fun i σ H' => ∃ (rs : List (List Int)) (x3 : Option V), σ = [some (.ref b), some (.int (n : Int)), some (.int (pd rs n i)), x3, none, some (.ref D), none, none, none, none] ∧ DrC 9 n bs l b H H' D cs rs ∧ ∀ (i : Nat) (r : List Int) (j : Nat), rs[i]? = some r → j < i → r.getD j 0 = 0) ⟨rs, none, rfl, R, tri⟩ ?_ ?_⟩
      · clear R tri rs H4 bu3 B3
        rintro i σ H4 hi ⟨rs, x3, rfl, R, tri⟩
        have gr := List.getElem?_eq_getElem (show i < rs.length by rw [R.s.l]; exact hi)
        have gc := List.getElem?_eq_getElem (show i < cs.length by rw [R.lc, R.s.l]; exact hi)
        generalize rs[i]'(by rw [R.s.l]; exact hi) = r at gr
        generalize cs[i]'(by rw [R.lc, R.s.l]; exact hi) = c at gc
        refine ⟨_, rfl, _, rfl, _, rfl, (by show 4 ≤ sizeLine; rw [sizeLine_eq]; omega), fun p np => ?_⟩
        have R1 := R.same (same_new (o := .lst [.int 1, .int (-1), .int 2, .int (-3)]) np)
        have pb : p ≠ b := fun z => by
          obtain ⟨y, hy⟩ := R.B.at
          rw [z, hy] at np
          cases np
        refine ⟨b, l, p, bs, _, rfl, R1.B, upd_same, pb, (by show 0 < 4; decide), (by show 4 < 1073741824; decide), fun v zs hv B5 => ?_⟩
        have : ∃ t : Int, v = .int t ∧ t.natAbs ≤ 9 := by
          simp only [List.mem_cons, List.not_mem_nil, or_false] at hv
          rcases hv with e | e | e | e <;> exact ⟨_, e, by decide⟩
        obtain ⟨t, rfl, t9⟩ := this
        have R2 := R1.bag B B5
        clear R R1 B5 hv
        generalize upd (upd H4 p (.lst [.int 1, .int (-1), .int 2, .int (-3)])) b (.lst zs) = H5 at R2 ⊢
        have lr := R2.s.r r (List.mem_of_getElem? gr)
        obtain ⟨f1, f2, f3⟩ := R2.c i c r gc gr
        have atc : atI (cs.map V.ref) (0 + (i : Int)) = some (.ref c) := by
          rw [Int.zero_add]
          exact atI_nat (by rw [List.getElem?_map, gc]; rfl)
        refine ⟨_, rfl, _, rfl, D, _, _, .ref c, rfl, rfl, SqL.of R2.d, atc, _, rfl, c, _, 0 + (i : Int), i, rfl, rfl, f1, ?_, ?_⟩
        · rw [List.length_map]
          simp [ixN]
          omega
        have R3 := R2.cell B nd (i := i) (v := t) gc gr t9
        have g3 : (rs.set i (r.set i t))[i]? = some (r.set i t) := by rw [List.getElem?_set_self (by rw [R2.s.l]; exact hi)]
        obtain ⟨h1, h2, h3⟩ := R3.c i c _ gc g3
        have att : atI ((r.set i t).map V.int) (0 + (i : Int)) = some (.int t) := by
          rw [Int.zero_add]
          refine atI_nat ?_
          rw [List.getElem?_map, List.getElem?_set_self (by omega)]
          rfl
        refine ⟨_, rfl, _, rfl, _, rfl, D, _, _, .ref c, rfl, rfl, SqL.of R3.d, atc, _, rfl, c, _, _, .int t, rfl, rfl, SqL.of h1, att, _, _, rfl, rfl, .inr (by omega), ?_⟩
        refine ⟨_, some (.int (0 + (i : Int))), ?_, R3, fun i' r' j' e1 e2 => ?_⟩
        · rw [pd_set R2.s.l hi, List.getD_eq_getElem?_getD, List.getElem?_set_self (by omega)]
          rfl
        · rw [List.getElem?_set] at e1
          by_cases z : i = i'
          · rw [if_pos z, if_pos (by rw [R2.s.l]; exact hi)] at e1
            cases e1
            rw [List.getD_eq_getElem?_getD, List.getElem?_set_ne (by omega), ← List.getD_eq_getElem?_getD]
            exact tri i r j' gr (by omega)
          · rw [if_neg z] at e1
            exact tri i' r' j' e1 e2
      · rintro σ H5 ⟨rs, x3, rfl, R, tri⟩
        exact ⟨D, cs, rs, _, x3, rfl, R, pd_all R.s.l tri⟩
    · clear R tri nd rs cs D H4 bu3 B3
      rintro σ H4 ⟨D, cs, rs, due, x3, rfl, R, hF⟩
      refine ⟨8, rfl, by decide, by decide, for_range (lo := 0) (n := 8) (fun i σ H' => ∃ (cs : List Addr) (rs : List (List Int)) (due : Int) (x3 x4 x6 x7 : Option V), σ = [some (.ref b), some (.int (n : Int)), some (.int due), x3, x4, some (.ref D), x6, x7, none, none] ∧ DrC (9 * 3 ^ i) n bs l b H H' D cs rs ∧ F rs (List.range n) = due) ⟨cs, rs, due, x3, none, none, none, rfl, R, hF⟩ ?_ ?_⟩
      · clear R hF rs cs H4
        rintro i σ H4 hi ⟨cs, rs, due, x3, x4, x6, x7, rfl, R, hF⟩
        have n0 : (0 : Int) < (n : Int) := by omega
        refine ⟨_, rfl, _, rfl, b, l, (n : Int), bs, rfl, by omega, by omega, R.B, fun kk ys1 k0 k1 B5 => ?_⟩
        have R := R.bag B B5
        obtain ⟨kn, rfl⟩ := Int.eq_ofNat_of_zero_le k0
        generalize upd H4 b (.lst ys1) = H5 at R ⊢
        refine ⟨_, rfl, _, _, rfl, rfl, _, rfl, _, rfl, _, _, rfl, rfl, b, l, (n : Int) - 1, bs, rfl, by omega, by omega, R.B, fun u ys2 u0 u1 B6 => ⟨_, _, rfl, rfl, _, rfl, _, _, rfl, rfl, n0, ?_⟩⟩
        have R := R.bag B B6
        obtain ⟨un, rfl⟩ := Int.eq_ofNat_of_zero_le u0
        generalize upd H5 b (.lst ys2) = H6 at R ⊢
        obtain ⟨jn, ej⟩ : ∃ jn, (kn + 1 + un) % n = jn := ⟨_, rfl⟩
        have jl : jn < n := ej ▸ Nat.mod_lt _ (by omega)
        have kl : kn < n := by omega
        have jk : jn ≠ kn := by
          have : n = 6 ∨ n = 7 := by omega
          rcases this with rfl | rfl <;> omega
        refine ⟨_, rfl, b, l, 5, bs, rfl, by decide, by decide, R.B, fun v ys3 v0 v5 B7 => ⟨_, _, rfl, rfl, ?_⟩⟩
        dsimp only
        rw [show ((kn : Int) + 1 + (un : Int)) % (n : Int) = ((jn : Nat) : Int) by rw [← ej]; simp]
        have R := R.bag B B7
        generalize upd H6 b (.lst ys3) = H7 at R ⊢
        obtain ⟨bb, hbb⟩ : ∃ bb, v - 2 = bb := ⟨_, rfl⟩
        have bb2 : bb.natAbs ≤ 2 := by omega
        rw [hbb]
        refine ⟨(by show 2 ≤ sizeLine; rw [sizeLine_eq]; omega), fun p np => ⟨p, _, rfl, SqT.of upd_same, rfl, _, _, rfl, _, _, rfl, rfl, ?_⟩⟩
        have R := R.same (same_new (o := .tup [.int (jn : Int), .int bb]) np)
        generalize upd H7 p (.tup [.int (jn : Int), .int bb]) = H8 at R ⊢
        have gk := List.getElem?_eq_getElem (show kn < cs.length by rw [R.lc, R.s.l]; exact kl)
        have gj := List.getElem?_eq_getElem (show jn < cs.length by rw [R.lc, R.s.l]; exact jl)
        generalize cs[kn]'(by rw [R.lc, R.s.l]; exact kl) = ck at gk
        generalize cs[jn]'(by rw [R.lc, R.s.l]; exact jl) = cj at gj
        have rk : rs[kn]? = some (rs.getD kn []) := by rw [List.getD_eq_getElem?_getD, List.getElem?_eq_getElem (show kn < rs.length by rw [R.s.l]; exact kl)]; rfl
        have rj : rs[jn]? = some (rs.getD jn []) := by rw [List.getD_eq_getElem?_getD, List.getElem?_eq_getElem (show jn < rs.length by rw [R.s.l]; exact jl)]; rfl
        have lk := R.s.r _ (List.mem_of_getElem? rk)
        have lj := R.s.r _ (List.mem_of_getElem? rj)
        have bk := R.s.b _ (List.mem_of_getElem? rk)
        have bj := R.s.b _ (List.mem_of_getElem? rj)
        have hck := (R.c kn ck _ gk rk).1
        have hcj := (R.c jn cj _ gj rj).1
        have hD := R.d
        have atk : atI (cs.map V.ref) ((kn : Nat) : Int) = some (.ref ck) := atI_nat (by rw [List.getElem?_map, gk]; rfl)
        have atj : atI (cs.map V.ref) ((jn : Nat) : Int) = some (.ref cj) := atI_nat (by rw [List.getElem?_map, gj]; rfl)
        have ixj : ∀ {m : Nat}, m = n → ixN m ((jn : Nat) : Int) = some jn := fun e => by
          subst e
          simp [ixN]
          omega
        have ixk : ∀ {m : Nat}, m = n → ixN m ((kn : Nat) : Int) = some kn := fun e => by
          subst e
          simp [ixN]
          omega
        refine ZM.lcm_z (K := K) (k1 := .lst cj) (k2 := .lst ck) (xs := (rs.getD jn []).map V.int) (us := (rs.getD kn []).map V.int) (ys := (List.zipWith (fun a b => a + bb * b) (rs.getD jn []) (rs.getD kn [])).map V.int) (fun R r => ⟨_, rfl, _, rfl, D, _, _, .ref cj, rfl, rfl, SqL.of hD, atj, _, rfl, _, rfl, D, _, _, .ref ck, rfl, rfl, SqL.of hD, atk, r⟩) (SqL.of hcj) (SqL.of hck) (by rw [List.length_map, List.length_map, lk, lj]) (by rw [List.length_map, List.length_zipWith, List.length_map, lk, lj]; omega) (by rw [List.length_map, List.length_zipWith, lk, lj]; omega) (fun _ _ => rfl) ?_ ?_
        · intro m x y y0 H20 R hx hu hy sm hR
          rw [List.getElem?_map] at hx hu hy
          obtain ⟨xa, e1, rfl⟩ := Option.map_eq_some_iff.mp hx
          obtain ⟨xb, e2, rfl⟩ := Option.map_eq_some_iff.mp hu
          rw [List.getElem?_zipWith, e1, e2] at hy
          cases hy
          exact ⟨_, rfl, _, rfl, _, rfl, _, _, rfl, rfl, .inl (by omega), _, _, rfl, rfl, hR _ (Same.refl _)⟩
        · intro D3 H9 s9 nD3 hD3
          refine ⟨_, rfl, _, rfl, D, _, ((jn : Nat) : Int), jn, rfl, rfl, s9 _ _ hD, ixj (by rw [List.length_map, R.lc, R.s.l]), ?_⟩
          have Rp := R.put B s9 nD3 hD3 (k := jn) (B2 := 9 * 3 ^ (i + 1)) (by rw [List.length_zipWith, lk, lj]; omega) (fun x hx => ?_) (by rw [Nat.pow_succ]; omega) jl
          · have hF2 : F (rs.set jn (List.zipWith (fun a b => a + bb * b) (rs.getD jn []) (rs.getD kn []))) (List.range n) = due := by
              rw [F_add (by rw [R.s.l]; exact jl) (by rw [R.s.l]; exact kl) jk bb _ _ (fun c hc => ?_)]
              · exact hF
              · have hc := List.mem_range.mp hc
                exact zw_get bb (by rw [lj]; exact hc) (by rw [lk]; exact hc)
            generalize rs.set jn (List.zipWith (fun a b => a + bb * b) (rs.getD jn []) (rs.getD kn [])) = rs2 at Rp hF2
            generalize upd H9 D (.lst ((cs.map V.ref).set jn (.ref D3))) = H10 at Rp ⊢
            generalize cs.set jn D3 = cs2 at Rp
            clear hF R rk rj gk gj hck hcj hD atk atj lk lj bk bj s9 hD3 nD3
            refine ⟨_, rfl, b, l, 3, bs, rfl, by decide, by decide, Rp.B, fun w3 ys4 w0 w1 B11 => ⟨rfl, _, rfl, ite2 (fun h => ?_) (fun h => ?_)⟩⟩
            · have R := Rp.bag B B11
              generalize upd H10 b (.lst ys4) = H11 at R ⊢
              have gk := List.getElem?_eq_getElem (show kn < cs2.length by rw [R.lc, R.s.l]; exact kl)
              have gj := List.getElem?_eq_getElem (show jn < cs2.length by rw [R.lc, R.s.l]; exact jl)
              generalize cs2[kn]'(by rw [R.lc, R.s.l]; exact kl) = dk at gk
              generalize cs2[jn]'(by rw [R.lc, R.s.l]; exact jl) = dj at gj
              have atk : atI (cs2.map V.ref) ((kn : Nat) : Int) = some (.ref dk) := atI_nat (by rw [List.getElem?_map, gk]; rfl)
              have atj : atI (cs2.map V.ref) ((jn : Nat) : Int) = some (.ref dj) := atI_nat (by rw [List.getElem?_map, gj]; rfl)
              refine ⟨_, rfl, _, rfl, D, _, _, .ref dk, rfl, rfl, SqL.of R.d, atk, _, rfl, _, rfl, D, _, _, .ref dj, rfl, rfl, SqL.of R.d, atj, (by show 2 ≤ sizeLine; rw [sizeLine_eq]; omega), fun p np => ?_⟩
              have sp := same_new (o := .tup [.ref dk, .ref dj]) np
              have Rs := R.swap B sp jl kl gj gk
              refine ⟨p, _, rfl, SqT.of upd_same, rfl, _, _, rfl, ⟨_, rfl, _, rfl, D, _, ((jn : Nat) : Int), jn, rfl, rfl, sp _ _ R.d, ixj (by rw [List.length_map, R.lc, R.s.l]), _, _, rfl, ⟨_, rfl, _, rfl, D, _, ((kn : Nat) : Int), kn, rfl, rfl, upd_same, ixk (by rw [List.length_set, List.length_map, R.lc, R.s.l]), rfl, ?_⟩⟩⟩
              refine ⟨_, rfl, _, _, rfl, rfl, _, _, 0 - due, _, _, _, _, rfl, Rs, ?_⟩
              rw [F_swp (by rw [R.s.l]; exact jl) (by rw [R.s.l]; exact kl) jk, hF2]
              omega
            · exact ⟨_, _, due, _, _, _, _, rfl, Rp.bag B B11, hF2⟩
          · obtain ⟨m, hm⟩ := List.getElem?_of_mem hx
            rw [List.getElem?_zipWith] at hm
            split at hm
            · rename_i xa xb e1 e2
              cases hm
              have h1 := bj xa (List.mem_of_getElem? e1)
              have h2 := bk xb (List.mem_of_getElem? e2)
              have h3 := Int.natAbs_add_le xa (bb * xb)
              have h4 : (bb * xb).natAbs ≤ 2 * (9 * 3 ^ i) := by
                rw [Int.natAbs_mul]
                exact Nat.mul_le_mul bb2 h2
              rw [Nat.pow_succ]
              omega
            · cases hm
      · rintro σ H5 ⟨cs, rs, due, x3, x4, x6, x7, rfl, R, hF⟩
        refine ⟨_, rfl, _, rfl, (by show 2 ≤ sizeLine; rw [sizeLine_eq]; omega), fun T nT => q T D n due rs _ n7 (R.u.gone B R.B nT) upd_same ((R.le (by decide)).same (same_new nT)).dr hF⟩
end
end K4

set_option maxHeartbeats 8000000
/-! The law of boxes. -/
namespace K4
open PySem PySem.Spec PyProof.Rows L2 LamX CX4 DETM
abbrev sTried : Stmt := topS 20
abbrev sSg : Stmt := topS 21
abbrev sLaw : Stmt := topS 25
theorem scTried : FnScope ["_law_ask", "e"] ["_law_ask"] (defScope sTried) := ⟨rfl, rfl, rfl, by decide +kernel, rfl, by decide +kernel, by decide +kernel⟩
theorem scSg : FnScope ["_law_number"] ["_law_number"] (defScope sSg) := ⟨rfl, rfl, rfl, by decide +kernel, rfl, by decide +kernel, by decide +kernel⟩
abbrev nLaw : List Str := ["_law_script", "_law_bag_here", "_law_turn", "_law_rows9", "_law_due", "_law_handed", "_law_found", "_law_unit", "_law_bad", "_law_row", "_law_j", "_law_k"]
theorem scLaw : FnScope nLaw ["_law_script"] (defScope sLaw) := ⟨rfl, rfl, rfl, by decide +kernel, rfl, by decide +kernel, by decide +kernel⟩
def rLst (K : PySem.W.Frag) : List V → Hp → VK → Prop := fun xs H Q => ∃ (p : Addr) (ys : List V), xs = [V.ref p] ∧ (SqL K H p ys ∨ SqT K H p ys) ∧ ∀ (l : Addr), H l = none → Q (V.ref l) (upd H l (HO.lst ys))
def rTup (K : PySem.W.Frag) : List V → Hp → VK → Prop := fun xs H Q => ∃ p ys, xs = [V.ref p] ∧ ((SqL K H p ys ∧ ∀ l, H l = none → Q (.ref l) (upd H l (.tup ys))) ∨ (SqT K H p ys ∧ Q (.ref p) H))
def rIntB : List V → Hp → VK → Prop := fun xs H Q => (∃ i, xs = [.int i] ∧ Q (.int i) H) ∨ ∃ k, xs = [.bl k] ∧ Q (.int (if k then 1 else 0)) H
def NewM (mk : List V → HO) (H H' : Hp) (D : Addr) (rs : List (List Int)) : Prop := ∃ cs : List Addr, cs.length = rs.length ∧ H' D = some (.lst (cs.map V.ref)) ∧ ∀ (m : Nat) (c : Addr) (r : List Int), cs[m]? = some c → rs[m]? = some r → H' c = some (mk (r.map V.int)) ∧ H c = none ∧ c ≠ D
section
variable {K : PySem.W.Frag} {te : TE} {vs : List Nat} {σ : L2.St} {H H1 : Hp} {Q : VK} {a : Addr} {j : Nat}
/-- one new row more -/
theorem row_nextM (mk : List V → HO) {D D2 : Addr} {i : Nat} {H2 H4 : Hp} {rs : List (List Int)} {r : List Int} {cs : List Addr} (lc : cs.length = i) (lr : rs.length = i) (hD : H2 D = some (.lst (cs.map V.ref)))
    (hcs : ∀ (m : Nat) (c : Addr) (r : List Int), cs[m]? = some c → rs[m]? = some r → H2 c = some (mk (r.map V.int)) ∧ H1 c = none ∧ c ≠ D) (nD : H1 D = none) (s12 : Same H1 H2) (s24 : Same H2 H4) (nD2 : H2 D2 = none) (hD2 : H4 D2 = some (mk (r.map V.int))) (hi : i < 1000) :
    ∃ acc, H4 D = some (.lst acc) ∧ acc.length < sizeLine ∧ (∃ cs : List Addr, cs.length = i + 1 ∧ Same H1 (upd H4 D (.lst (acc ++ [.ref D2]))) ∧ (upd H4 D (.lst (acc ++ [.ref D2]))) D = some (.lst (cs.map V.ref)) ∧
      ∀ (m : Nat) (c : Addr) (r' : List Int), cs[m]? = some c → (rs ++ [r])[m]? = some r' → (upd H4 D (.lst (acc ++ [.ref D2]))) c = some (mk (r'.map V.int)) ∧ H1 c = none ∧ c ≠ D) := by
  have DD : D2 ≠ D := fun z => by rw [z, hD] at nD2; cases nD2
  have nD21 : H1 D2 = none := by
    cases e : H1 D2 with
    | none => rfl
    | some o => rw [s12 _ _ e] at nD2; cases nD2
  refine ⟨cs.map V.ref, s24 _ _ hD, by rw [List.length_map, sizeLine_eq]; omega, cs ++ [D2], by simp [lc], ZM.sm_at nD (s12.trans s24), by rw [upd_same, List.map_append]; rfl, ?_⟩
  intro m c r' hc hr'
  by_cases hm : m < i
  · rw [List.getElem?_append_left (by omega)] at hc hr'
    obtain ⟨e1, e2, e3⟩ := hcs m c r' hc hr'
    exact ⟨by rw [upd_ne e3]; exact s24 _ _ e1, e2, e3⟩
  · rw [List.getElem?_append_right (by omega)] at hc hr'
    have hm' : m - cs.length = 0 := by
      have := (List.getElem?_eq_some_iff.mp hc).1
      simp at this
      omega
    have hm2 : m - rs.length = 0 := by omega
    rw [hm'] at hc
    rw [hm2] at hr'
    cases hc
    cases hr'
    exact ⟨by rw [upd_ne DD]; exact hD2, nD21, DD⟩
theorem rows_mk (mk : List V → HO) {t0 : TE} {rs : List (List Int)} (f : List Int → List Int) (h0 : ∀ R : VK, R (.ref a) H1 → t0 σ H R) (hR : LRows K H1 a rs) (hz : rs.length ≤ 7) (hw : ∀ x, wipe ((wipe σ vs).set j (some x)) vs = wipe σ vs)
    (hs : ∀ (c : Addr) (r : List Int) (H : Hp) (R : VK), r ∈ rs → SqL K H c (r.map V.int) → (∀ D2 H', Same H H' → H D2 = none → H' D2 = some (mk ((f r).map V.int)) → R (.ref D2) H') → te ((wipe σ vs).set j (some (.ref c))) H R)
    (hd : ∀ D H', Same H1 H' → H1 D = none → NewM mk H1 H' D (rs.map f) → Q (.ref D) H') : ZM.Bx (tLc (iList K t0) (gName j) tYes te vs) σ H Q := by
  obtain ⟨bs, hb, lb, hrow⟩ := hR
  refine ZM.own_lst (a := a) (xs := bs.map V.ref) (fun D i H' => ∃ cs : List Addr, cs.length = i ∧ Same H1 H' ∧ H' D = some (.lst (cs.map V.ref)) ∧ ∀ (m : Nat) (c : Addr) (r : List Int), cs[m]? = some c → ((rs.map f).take i)[m]? = some r → H' c = some (mk (r.map V.int)) ∧ H1 c = none ∧ c ≠ D)
    h0 hb (fun D i H' nD p => by obtain ⟨_, _, s, _⟩ := p; exact s.seq hb) hw (fun D nD => ⟨[], rfl, same_new nD, upd_same, by simp⟩) ?_ ?_
  · rintro D i x H2 nD hx ⟨cs, lc, s12, hD, hcs⟩
    have li := (List.getElem?_eq_some_iff.mp hx).1
    rw [List.length_map] at li
    rw [List.getElem?_map] at hx
    obtain ⟨c, hc, rfl⟩ := Option.map_eq_some_iff.mp hx
    have hr := List.getElem?_eq_getElem (show i < rs.length by omega)
    generalize rs[i]'(by omega) = r at hr
    refine hs c r H2 _ (List.mem_of_getElem? hr) (s12.seq (hrow i c r hc hr)) fun D2 H4 s24 nD2 hD2 => ?_
    have e : (rs.map f).take (i + 1) = (rs.map f).take i ++ [f r] := by rw [List.take_add_one, List.getElem?_map, hr]; rfl
    rw [e]
    exact row_nextM mk lc (by rw [List.length_take, List.length_map]; omega) hD hcs nD s12 s24 nD2 hD2 (by omega)
  · rintro D H2 nD ⟨cs, lc, s12, hD, hcs⟩
    rw [List.length_map] at lc
    rw [List.take_of_length_le (by rw [List.length_map, List.length_map, lb]; exact Nat.le_refl _)] at hcs
    exact hd D H2 s12 nD ⟨cs, by rw [lc, List.length_map, lb], hD, hcs⟩
theorem rows_mkI {bs : List Addr} (mk : List V → HO) {t0 : TE} {rs : List (List Int)} (f : List Int → List Int) (h0 : ∀ R : VK, R (.ref a) H1 → t0 σ H R) (hb : SqL K H1 a (bs.map V.ref)) (lb : bs.length = rs.length) (hz : rs.length ≤ 7) (hw : ∀ x, wipe ((wipe σ vs).set j (some x)) vs = wipe σ vs)
    (hs : ∀ (i : Nat) (c : Addr) (r : List Int) (H : Hp) (R : VK), bs[i]? = some c → rs[i]? = some r → Same H1 H → (∀ D2 H', Same H H' → H D2 = none → H' D2 = some (mk ((f r).map V.int)) → R (.ref D2) H') → te ((wipe σ vs).set j (some (.ref c))) H R)
    (hd : ∀ D H', Same H1 H' → H1 D = none → NewM mk H1 H' D (rs.map f) → Q (.ref D) H') : ZM.Bx (tLc (iList K t0) (gName j) tYes te vs) σ H Q := by
  refine ZM.own_lst (a := a) (xs := bs.map V.ref) (fun D i H' => ∃ cs : List Addr, cs.length = i ∧ Same H1 H' ∧ H' D = some (.lst (cs.map V.ref)) ∧ ∀ (m : Nat) (c : Addr) (r : List Int), cs[m]? = some c → ((rs.map f).take i)[m]? = some r → H' c = some (mk (r.map V.int)) ∧ H1 c = none ∧ c ≠ D)
    h0 hb (fun D i H' nD p => by obtain ⟨_, _, s, _⟩ := p; exact s.seq hb) hw (fun D nD => ⟨[], rfl, same_new nD, upd_same, by simp⟩) ?_ ?_
  · rintro D i x H2 nD hx ⟨cs, lc, s12, hD, hcs⟩
    have li := (List.getElem?_eq_some_iff.mp hx).1
    rw [List.length_map] at li
    rw [List.getElem?_map] at hx
    obtain ⟨c, hc, rfl⟩ := Option.map_eq_some_iff.mp hx
    have hr := List.getElem?_eq_getElem (show i < rs.length by omega)
    generalize rs[i]'(by omega) = r at hr
    refine hs i c r H2 _ hc hr s12 fun D2 H4 s24 nD2 hD2 => ?_
    have e : (rs.map f).take (i + 1) = (rs.map f).take i ++ [f r] := by rw [List.take_add_one, List.getElem?_map, hr]; rfl
    rw [e]
    exact row_nextM mk lc (by rw [List.length_take, List.length_map]; omega) hD hcs nD s12 s24 nD2 hD2 (by omega)
  · rintro D H2 nD ⟨cs, lc, s12, hD, hcs⟩
    rw [List.length_map] at lc
    rw [List.take_of_length_le (by rw [List.length_map, List.length_map, lb]; exact Nat.le_refl _)] at hcs
    exact hd D H2 s12 nD ⟨cs, by rw [lc, List.length_map, lb], hD, hcs⟩
end
abbrev noV : List V := [.str "no", .str "BadBox"]
abbrev noD : PyData := .list [.tuple [.str "no", .str "BadBox"], .tuple [.str "no", .str "BadBox"]]
theorem no_sh : SeqAt.shaped noD = true := by decide +kernel
theorem bag_ext {H H' : Hp} {b l : Addr} {ns : List Int} (B : BagAt l ns H b) (e : ExtN H H') : BagAt l ns H' b := by
  obtain ⟨i, bank, salt, c, hB, r⟩ := B.ex
  exact ⟨B.ne, e _ _ B.ls (fun ps z => by cases z), i, bank, salt, c, e _ _ hB (fun ps z => by cases z), r⟩
theorem tabs_but {T : List (Addr × Str)} {H H' : Hp} {b : Addr} {xs : List V} (t : Tabs T H) (hb : H b = some (.lst xs)) (k : ∀ c o, c ≠ b → H c = some o → H' c = some o) : Tabs T H' := fun p hp => by
  obtain ⟨ps, h1, h2, h3⟩ := t p hp
  refine ⟨ps, k _ _ (fun z => by rw [z, hb] at h1; cases h1) h1, h2, fun pos cv hc => ?_⟩
  obtain ⟨c, e, hco⟩ := h3 pos cv hc
  exact ⟨c, e, k _ _ (fun z => by rw [z, hb] at hco; cases hco) hco⟩
theorem tabs_off {T : List (Addr × Str)} {H : Hp} {b l : Addr} {ns : List Int} (t : Tabs T H) (B : BagAt l ns H b) {ys : List V} : Tabs T (upd H b (.lst ys)) := by
  obtain ⟨xs, hb⟩ := B.at
  exact tabs_but t hb fun c o hc e => by rw [upd_ne hc]; exact e
theorem sz {n : Nat} (h : n ≤ 1000) : n ≤ sizeLine := by rw [sizeLine_eq]; omega
theorem szl {n : Nat} (h : n ≤ 1000) : n < sizeLine := by rw [sizeLine_eq]; omega
/-- lists of so many things each, in a list -/
def HRows (H : Hp) (a : Addr) (ls : List Nat) : Prop := ∃ bs : List Addr, H a = some (.lst (bs.map V.ref)) ∧ bs.length = ls.length ∧ ∀ (i : Nat) (b : Addr) (l : Nat), bs[i]? = some b → ls[i]? = some l → ∃ xs : List V, H b = some (.lst xs) ∧ xs.length = l
theorem HRows.ext {H H' : Hp} {a : Addr} {ls : List Nat} (h : HRows H a ls) (e : ExtN H H') : HRows H' a ls := by
  obtain ⟨bs, h1, h2, h3⟩ := h
  refine ⟨bs, e _ _ h1 (fun ps z => by cases z), h2, fun i b l e1 e2 => ?_⟩
  obtain ⟨xs, g1, g2⟩ := h3 i b l e1 e2
  exact ⟨xs, e _ _ g1 (fun ps z => by cases z), g2⟩
theorem HRows.same {H H' : Hp} {a : Addr} {ls : List Nat} (h : HRows H a ls) (s : Same H H') : HRows H' a ls := by
  obtain ⟨bs, h1, h2, h3⟩ := h
  exact ⟨bs, s _ _ h1, h2, fun i b l e1 e2 => (h3 i b l e1 e2).imp fun xs g => ⟨s _ _ g.1, g.2⟩⟩
theorem HRows.lens {K : PySem.W.Frag} {H : Hp} {a : Addr} {ls : List Nat} (h : HRows H a ls) : RowsL K H a ls := by
  obtain ⟨bs, h1, h2, h3⟩ := h
  exact ⟨bs, .inl (SqL.of h1), h2, fun i b l e1 e2 => (h3 i b l e1 e2).imp fun xs g => ⟨.inl (SqL.of g.1), g.2⟩⟩
/-- the same, none of them the bag at b -/
def HRb (b : Addr) (H : Hp) (a : Addr) (ls : List Nat) : Prop := ∃ bs : List Addr, H a = some (.lst (bs.map V.ref)) ∧ a ≠ b ∧ bs.length = ls.length ∧ ∀ (i : Nat) (c : Addr) (l : Nat), bs[i]? = some c → ls[i]? = some l → ∃ xs : List V, H c = some (.lst xs) ∧ c ≠ b ∧ xs.length = l
theorem HRb.same {b : Addr} {H H' : Hp} {a : Addr} {ls : List Nat} (h : HRb b H a ls) (s : Same H H') : HRb b H' a ls := by
  obtain ⟨bs, h1, h0, h2, h3⟩ := h
  exact ⟨bs, s _ _ h1, h0, h2, fun i c l e1 e2 => (h3 i c l e1 e2).imp fun xs g => ⟨s _ _ g.1, g.2⟩⟩
theorem HRb.bag {b : Addr} {H : Hp} {a : Addr} {ls : List Nat} {o : HO} (h : HRb b H a ls) : HRows (upd H b o) a ls := by
  obtain ⟨bs, h1, h0, h2, h3⟩ := h
  refine ⟨bs, by rw [upd_ne h0]; exact h1, h2, fun i c l e1 e2 => ?_⟩
  obtain ⟨xs, g1, g2, g3⟩ := h3 i c l e1 e2
  exact ⟨xs, by rw [upd_ne g2]; exact g1, g3⟩
theorem HRb.snoc {b e q : Addr} {H : Hp} {cs : List Addr} {ys : List V} {m : Nat} (h : H e = some (.lst (cs.map V.ref ++ [.ref q]))) (ne : e ≠ b) (hq : H q = some (.lst ys)) (nq : q ≠ b) (hc : ∀ (i : Nat) (c : Addr), cs[i]? = some c → ∃ xs : List V, H c = some (.lst xs) ∧ c ≠ b ∧ xs.length = m) : HRb b H e (List.replicate cs.length m ++ [ys.length]) := by
  refine ⟨cs ++ [q], by rw [List.map_append]; exact h, ne, by simp, fun i c l e1 e2 => ?_⟩
  by_cases z : i < cs.length
  · rw [List.getElem?_append_left z] at e1
    rw [List.getElem?_append_left (by rw [List.length_replicate]; exact z), List.getElem?_replicate_of_lt z] at e2
    cases e2
    exact hc i c e1
  · rw [List.getElem?_append_right (by omega)] at e1
    rw [List.getElem?_append_right (by rw [List.length_replicate]; omega), List.length_replicate] at e2
    have : i - cs.length = 0 := by
      have := (List.getElem?_eq_some_iff.mp e1).1
      simp at this
      omega
    rw [this] at e1 e2
    cases e1
    cases e2
    exact ⟨ys, hq, nq, rfl⟩
theorem okB_last {xs : List Nat} {k : Nat} (h : k ≠ xs.length + 1) : okB (xs ++ [k]) = false := by
  unfold okB
  have : ((xs ++ [k]).all fun l => decide (l = (xs ++ [k]).length)) = false := by
    rw [List.all_eq_false]
    exact ⟨k, by simp, by simp; omega⟩
  rw [this, Bool.and_false]
theorem ints_ne_bag {H : Hp} {A b l : Addr} {ns ms : List Int} (h : H A = some (.lst (ns.map V.int))) (B : BagAt l ms H b) : A ≠ b := fun z => by
  obtain ⟨i, bank, salt, c, hB, _⟩ := B.ex
  rw [z, hB] at h
  cases ns with
  | nil => cases h
  | cons n r => cases h
theorem new_ne {H : Hp} {b l p : Addr} {ms : List Int} (B : BagAt l ms H b) (n : H p = none) : p ≠ b := fun z => by
  obtain ⟨x, hx⟩ := B.at
  rw [z, hx] at n
  cases n
theorem okB_sq {B n : Nat} {rs : List (List Int)} (s : SqB B n rs) (h : n ≤ 7) : okB (rs.map List.length) = true := by
  unfold okB
  rw [List.length_map, s.l, decide_eq_true h, Bool.true_and, List.all_eq_true]
  intro x hx
  obtain ⟨r, hr, rfl⟩ := List.mem_map.mp hx
  exact decide_eq_true (s.r r hr)
/-- where the law stands between its parts -/
def Mid (Tb : List (Addr × Str)) (a b l : Addr) (ms : List Int) (σ : L2.St) (H : Hp) : Prop := ∃ x2 x3 x4 x5 x6 x7 x8 : Option V, σ = [some (.ref a), some (.ref b), x2, x3, x4, x5, x6, x7, x8, none, none, none] ∧ BagAt l ms H b ∧ Tabs Tb H
section
variable {P : Program} {w : World} {K : PySem.W.Frag} {mg : Str → Option Value} {base : Heap} {C D fI : Addr}
def spSg : Sp := fun vs H Q _ => ∃ n : Int, vs = [.int n] ∧ ∀ H', Same H H' → Q (.int (sgn n)) H'
theorem ok_sg {f : Addr} {fd : FuncData} {k : Nat} (F : Fun K "_law_sign_of" "_law_sign_of" sSg f fd) (mi : mg "int" = none) : FnOk P w K mg base CX0 (k + 1) f fd ["_law_number"] spSg := by
  refine F.ok scSg (fun vs H Q E ⟨n, e, _⟩ => by rw [e]; rfl) (fun cdv A outer s H vs Q E hr h => ⟨_, pss_one (ps_ret (pe_ix (r := rIx K) ix_seq (pe_lst (pa_cons pe_int (pa_cons pe_int (pa_cons (pe_un un_neg pe_int) pa_nil))))
    (pe_op op_add (pe_callTy call_int1 rfl mi (by first | rfl | boot_by_name) (pa_cons (pe_cmpR op_gt (pv 0) pe_int (nomark _)) pa_nil)) (pe_op op_mul pe_int (pe_callTy call_int1 rfl mi (by first | rfl | boot_by_name) (pa_cons (pe_cmpR op_lt (pv 0) pe_int (nomark _)) pa_nil)))) (fun _ _ => rfl))), ?_⟩)
  obtain ⟨n, rfl, q⟩ := h
  refine ⟨_, rfl, (by show 3 ≤ sizeLine; rw [sizeLine_eq]; omega), fun p np => ?_⟩
  refine ⟨_, rfl, _, _, rfl, rfl, .inr ⟨_, rfl, _, rfl, _, _, rfl, rfl, .inr ⟨_, rfl, _, _, rfl, rfl, .inl (by decide), _, _, rfl, rfl, ?_⟩⟩⟩
  have q := q _ (same_new (o := .lst [.int 0, .int 1, .int (-1)]) np)
  unfold sgn at q
  refine ix_ls (xs := [.int 0, .int 1, .int (-1)]) (v := .int (if n = 0 then 0 else if n > 0 then 1 else -1)) (.inl (SqL.of upd_same)) ?_ q
  by_cases h0 : n = 0
  · subst h0; rfl
  · by_cases h1 : n > 0
    · have a : decide (0 < n) = true := decide_eq_true h1
      have b : decide (n < 0) = false := decide_eq_false (by omega)
      simp only [a, b, if_neg h0, if_pos h1]
      rfl
    · have a : decide (0 < n) = false := decide_eq_false h1
      have b : decide (n < 0) = true := decide_eq_true (by omega)
      simp only [a, b, if_neg h0, if_neg h1]
      rfl
def id1 {α : Type} : List α → List α → List α
  | [], [x] => [x]
  | _, _ => []
theorem kb_box {f : Addr} {fd : FuncData} (F : Fun K "box" "box" sBox f fd) : KBinds K fd ["rows"] ["rows"] id1 id1 := by
  obtain ⟨oc, od, kV, doc, pm, an, cdv, ct, osl, rfl, lk, hcd⟩ := F.ex
  refine ⟨fun s us ws _ hl => ?_, fun r1 r2 => ?_⟩
  · match us, ws, hl with
    | [], [w1], _ => exact .of_eq rfl
  · cases r1 with
    | cons _ _ => cases r2 <;> exact .nil
    | nil => cases r2 with
      | nil => exact .nil
      | cons a b => cases b with
        | nil => exact .cons a .nil
        | cons _ _ => exact .nil
theorem kb_bsg {f : Addr} {fd : FuncData} (F : Fun K "box_sign" "box_sign" sBsg f fd) : KBinds K fd ["rows"] ["rows"] id1 id1 := by
  obtain ⟨oc, od, kV, doc, pm, an, cdv, ct, osl, rfl, lk, hcd⟩ := F.ex
  refine ⟨fun s us ws _ hl => ?_, fun r1 r2 => ?_⟩
  · match us, ws, hl with
    | [], [w1], _ => exact .of_eq rfl
  · cases r1 with
    | cons _ _ => cases r2 <;> exact .nil
    | nil => cases r2 with
      | nil => exact .nil
      | cons a b => cases b with
        | nil => exact .cons a .nil
        | cons _ _ => exact .nil
theorem no_dp {H : Hp} {L p1 p2 : Addr} (hL : H L = some (.lst [.ref p1, .ref p2])) (h1 : H p1 = some (.tup noV)) (h2 : H p2 = some (.tup noV)) : Dp K H (.ref L) noD :=
  .lst (SqL.of hL) (.cons (.tup (SqT.of h1) (.cons (.str _) (.cons (.str _) .nil))) (.cons (.tup (SqT.of h2) (.cons (.str _) (.cons (.str _) .nil))) .nil))
theorem has_i {H : Hp} {F : Addr} {ns : List Int} (h : H F = some (.lst (ns.map V.int))) (l : ns.length ≤ 1000) : Has H 3 (.ref F) (.lst (ns.map Dt.int)) := Has.ints (ns := ns) (n := 1) h (by omega)
/-- what the law's own names are -/
structure TL (P : Program) (w : World) (K : PySem.W.Frag) (mg : Str → Option Value) (base : Heap) (C : Addr) (fB fO fS fW fG fX fY fM fD fT D D2 : Addr) (dB dO dS dW dG dX dY dM dD : FuncData) : Prop extends TS1 mg where
  B : FnOk P w K mg base CX0 1 fB dB ["_law_script"] (spBag K)
  gB : mg "_law_bag" = some (.ref fB)
  kB : PySem.W.keepIn K (.ref fB) = true
  bB : Binds K dB ["_law_script"] []
  O : FnOk P w K mg base CX0 2 fO dO ["_law_bag_here", "_law_some"] (spOf K)
  gO : mg "_law_of" = some (.ref fO)
  kO : PySem.W.keepIn K (.ref fO) = true
  bO : Binds K dO ["_law_bag_here", "_law_some"] []
  S : FnOk P w K mg base CX0 3 fS dS ["_law_found", "_law_due"] (spSame 3)
  gS : mg "_law_same" = some (.ref fS)
  kS : PySem.W.keepIn K (.ref fS) = true
  bS : Binds K dS ["_law_found", "_law_due"] []
  W : FnOk P w K mg base CX0 6 fW dW ["_law_rows9"] (spW K 6)
  gW : mg "_law_worth" = some (.ref fW)
  kW : PySem.W.keepIn K (.ref fW) = true
  bW : Binds K dW ["_law_rows9"] []
  G : FnOk P w K mg base CX0 1 fG dG ["_law_number"] spSg
  gG : mg "_law_sign_of" = some (.ref fG)
  kG : PySem.W.keepIn K (.ref fG) = true
  bG : Binds K dG ["_law_number"] []
  X : FnOk P w K mg base (L2.CX P w) 4 fX dX ["rows"] (spBox K C)
  gX : mg "box" = some (.ref fX)
  kX : PySem.W.keepIn K (.ref fX) = true
  bX : Binds K dX ["rows"] []
  bXk : KBinds K dX ["rows"] ["rows"] id1 id1
  Y : FnOk P w K mg base (L2.CX P w) 5 fY dY ["rows"] (spBsg K C)
  gY : mg "box_sign" = some (.ref fY)
  kY : PySem.W.keepIn K (.ref fY) = true
  bY : Binds K dY ["rows"] []
  bYk : KBinds K dY ["rows"] ["rows"] id1 id1
  M : FnOk P w K mg base CX0 3 fM dM ["_law_bag_here"] spBM
  gM' : mg "_law_box_made" = some (.ref fM)
  kM : PySem.W.keepIn K (.ref fM) = true
  bM : Binds K dM ["_law_bag_here"] []
  Dn : FnOk P w K mg base CX0 3 fD dD ["_law_bag_here", "_law_size"] spBD
  gD : mg "_law_box_drawn" = some (.ref fD)
  kD : PySem.W.keepIn K (.ref fD) = true
  bD : Binds K dD ["_law_bag_here", "_law_size"] []
  gT : mg "_law_tried" = some (.ref fT)
  m1 : mg "CleaveError" = some (.ref D)
  m2 : mg "HouseError" = some (.ref D2)
def spLawT (Pt : Addr) (K : PySem.W.Frag) : Sp := fun vs H Q _ => ∃ (a : Addr) (ns : List Int), vs = [.ref a] ∧ SqL K H a (ns.map V.int) ∧ ns.length ≤ 63 ∧ H Pt = some (.tbl #[]) ∧ ∀ H', Q (.bl true) H'
theorem ok_law {f fB fO fS fW fG fX fY fM fD fT D2 c Pt : Addr} {dB dO dS dW dG dX dY dM dD dT : FuncData} {oc kV doc pm ct : Value} {od an : Option Addr} {osl : Array (Option Value)}
    (lk : K.lookup f = some ⟨oc, od, .func (PySem.W.fnOf "law" "law" (defArgs sLaw) (defBody sLaw) (defScope sLaw) .none kV doc pm an (.ref c) ct), osl⟩) (hcd : PySem.W.codeIn K (.ref c) "law" = true)
    (T : TL P w K mg base C fB fO fS fW fG fX fY fM fD fT D D2 dB dO dS dW dG dX dY dM dD) (TP : TxE P K mg C D fI)
    (hE : PySem.W.exmOne K (.ref C) (.ref D) = some true) (TB : TabB base mg c Pt)
    (FT' : Fun K "_law_tried" "_law_tried" sTried fT dT) (bT : Binds K dT ["_law_ask"] []) : FnOk P w K mg base CX0 8 f (PySem.W.fnOf "law" "law" (defArgs sLaw) (defBody sLaw) (defScope sLaw) .none kV doc pm an (.ref c) ct) ["_law_script"] (spLawT Pt K) := by
  obtain ⟨nv, cT, rnv⟩ := TP.cT
  obtain ⟨oc2, od2, kV2, doc2, pm2, an2, cdv2, ct2, osl2, rfl, lkT, hcT⟩ := FT'.ex
  refine fn_of lk hcd scLaw (fun vs H Q E ⟨a, ns, e, _⟩ => by rw [e]; rfl) (fun A outer s H vs Q E hr h => ?_)
  let X : Cx := (cxOf CX0 P w K mg base nLaw "law" (defScope sLaw) f (.ref c) A outer s H E).nox
  suffices hs : ∃ t, PSs X (defBody sLaw) t ∧ t { nx := fun _ H' => Q .non H', rt := Q } (L2.start nLaw vs) H from hs.elim fun t q => ⟨t, q.1.nox, q.2⟩
  let Tb : List (Addr × Str) := [(Pt, X.env.qual ++ "<lambda>")]
  have hm : (Pt, X.env.qual ++ "<lambda>") ∈ Tb := List.mem_cons_self
  have hu : ∀ p ∈ Tb, p.1 = Pt → p.2 = X.env.qual ++ "<lambda>" := fun p hp _ => by rw [List.mem_singleton.mp hp]
  have r1 : Room 1 X.A := hr.mono (by decide)
  have r2 : Room 2 X.A := hr.mono (by decide)
  have r3 : Room 3 X.A := hr.mono (by decide)
  have r4 : Room 4 X.A := hr.mono (by decide)
  have r5 : Room 5 X.A := hr.mono (by decide)
  have r6 : Room 6 X.A := hr.mono (by decide)
  have gv : ∀ q : Str, GivesTo X ["_law_ask", "e"] "_law_tried" (defScope sTried) fT cdv2 (defBody sTried) "_law_ask" q (TD.TT2 X.K D) := fun q => TD.told2 (X := X) rfl rfl rfl (by decide) T.m1 T.m2
  refine ⟨_, pss_cons (ps_set (i := 1) scLaw.nd rfl (Or.inl rfl) (pe_call T.B r1 (by rfl) T.gB T.kB T.bB .nil pass0 (pa_cons (pv 0) pa_nil)))
    (C8.pss_cut (ps_for PassesOwn.never rfl (pi_range1 (by rfl) T.range (pa_cons pe_int pa_nil)) (pg_name (i := 2) scLaw.nd rfl (Or.inl rfl))
      (pss_cons (ps_set (i := 3) scLaw.nd rfl (Or.inl rfl) (pe_call T.Dn r3 (by rfl) T.gD T.kD T.bD .nil pass0 (pa_cons (pv 1) (pa_cons (pe_call T.O r2 (by rfl) T.gO T.kO T.bO .nil pass0 (pa_cons (pv 1) (pa_cons (pe_lst (pa_cons pe_int (pa_cons pe_int (pa_cons pe_int (pa_cons pe_int (pa_cons pe_int (pa_cons pe_int pa_nil))))))) pa_nil))) pa_nil))))
      (pss_cons (ps_set (i := 4) scLaw.nd rfl (Or.inl rfl) (pe_call T.W r6 (by rfl) T.gW T.kW T.bW .nil pass0 (pa_cons (pv 3) pa_nil)))
      (pss_cons (ZM.ps_bx (ps_setLc (i := 5) (own := [("_law_row", 9)]) (g := gName 9) (tt := tYes) rfl scLaw.nd rfl rfl (sw_true rfl rfl rfl (by decide +kernel)) (pi_list (pv 3)) (blkOk_by (N := nLaw) (sc := defScope sLaw) (by decide +kernel))
          (fun _ _ _ _ _ => pg_name (i := 9) scLaw.nd rfl (Or.inl rfl)) (fun _ _ _ _ _ => pts_nil) (fun _ _ _ _ _ => pe_callTy (r := rLst K) call_list_of (by rfl) T.list (by decide +kernel) (pa_cons (pv 9) pa_nil))))
      (pss_cons (ps_set (i := 6) scLaw.nd rfl (Or.inl rfl) (pe_lst (pa_cons (pe_callS (E := WE fun _ _ _ _ => False) T.X r4 (by rfl) T.gX T.kX T.bX (fun σ => passAt L2.takes0 σ) (pa_cons (pv 5) pa_nil)) (pa_cons (pe_callS (E := WE fun _ _ _ _ => False) T.Y r5 (by rfl) T.gY T.kY T.bY (fun σ => passAt L2.takes0 σ) (pa_cons (pv 5) pa_nil))
          (pa_cons (pe_callS (E := WE fun _ _ _ _ => False) T.X r4 (by rfl) T.gX T.kX T.bX (fun σ => passAt L2.takes0 σ) (pa_cons (pe_callTy call_tuple_of (by rfl) T.tuple (by decide +kernel) (pa_cons
            (ZM.pe_bx (pe_lc (own := [("_law_row", 9)]) (g := gName 9) (tt := tYes) rfl scLaw.nd (pi_list (pv 3)) (blkOk_by (N := nLaw) (sc := defScope sLaw) (by decide +kernel))
              (fun _ _ _ _ _ => pg_name (i := 9) scLaw.nd rfl (Or.inl rfl)) (fun _ _ _ _ _ => pts_nil) (fun _ _ _ _ _ => pe_callTy (r := rTup K) call_tuple_of (by rfl) T.tuple (by decide +kernel) (pa_cons (pv 9) pa_nil)))) pa_nil)) pa_nil)) pa_nil)))))
      (pss_cons (ps_if (PW.pt (pw_or (pt_not (pt_val (pe_call T.S r3 (by rfl) T.gS T.kS T.bS .nil pass0 (pa_cons (pv 6) (pa_cons (pe_lst (pa_cons (pv 4) (pa_cons (pe_call T.G r1 (by rfl) T.gG T.kG T.bG .nil pass0 (pa_cons (pv 4) pa_nil)) (pa_cons (pv 4) pa_nil)))) pa_nil))))) (pw_or1 (pt_cmpR (op_neD hr.units) (pv 5) (pv 3) (nomark _))))) (pss_one (ps_ret pe_bl)) pss_nil)
      (C8.pss_cut (ps_set (i := 8) scLaw.nd rfl (Or.inr rfl) (pe_call T.O r2 (by rfl) T.gO T.kO T.bO .nil pass0 (pa_cons (pv 1) (pa_cons (pe_lst (pa_cons
          (pe_op op_cat (pv 3) (pe_lst (pa_cons (pe_op op_rep (pe_lst (pa_cons pe_int pa_nil)) (pe_callB call_len_seq (by rfl) T.len PySem.boot_len (pa_cons (pv 3) pa_nil))) pa_nil)))
          (pa_cons (pe_op op_cat (ZM.pe_bx (pe_lc (own := [("_law_row", 9)]) (g := gName 9) (tt := tYes) rfl scLaw.nd (pi_list (pv 3)) (blkOk_by (N := nLaw) (sc := defScope sLaw) (by decide +kernel))
              (fun _ _ _ _ _ => pg_name (i := 9) scLaw.nd rfl (Or.inl rfl)) (fun _ _ _ _ _ => pts_nil) (fun _ _ _ _ _ => pe_op op_cat (pv 9) (pe_lst (pa_cons pe_int pa_nil))))) (pe_lst (pa_cons (pe_lst pa_nil) pa_nil)))
          (pa_cons (pe_op op_rep (pe_lst (pa_cons (pe_op op_rep (pe_lst (pa_cons pe_int pa_nil)) pe_int) pa_nil)) pe_int) pa_nil)))) pa_nil))))
      (pss_one (ps_if (pt_cmpR (op_neD hr.units) (pe_lst (pa_cons
          (pe_lamcall (T := Tb) (P := Pt) (c := c) (k := 5) (t := fun E => tCallS (spBox K C) (WE fun cls d _ H => E cls d H) (tCons (tVar 8) tNil)) (by rfl) T.gT FT'.kp lkT hcT bT scTried rfl (Or.inl rfl) (gv _) TB rfl hm hu hr (lamS_by (sc := defScope sLaw) (by decide +kernel)) rfl (fun _ _ _ _ _ => rfl)
            (fun A outer s H E f c' hr2 => pe_callS T.X (hr2.mono (by decide)) rfl T.gX T.kX T.bX (fun σ => passAt (takes_of rfl rfl rfl rfl) σ) (pa_cons (pv 8) pa_nil)))
        (pa_cons
          (LD.pe_lamcallD (T := Tb) (P := Pt) (c := c) (k := 5) (pn := "_law_again") (t := fun E => tCallK (spBsg K C) id1 E tNil (tCons (tVar 8) tNil)) (by rfl) T.gT FT'.kp lkT hcT bT scTried rfl (Or.inl rfl) (gv _) TB rfl hm hu hr (LD.lamD_by (sc := defScope sLaw) (by decide +kernel)) rfl rfl (fun _ _ _ _ _ _ _ => ⟨_, rfl, fun _ => rfl⟩)
            (fun A outer s H E f c' hr2 => pe_callKw T.Y hr2 rfl T.gY T.kY T.bYk (passes_call (takes_of (E := E) rfl rfl rfl rfl) (fun _ _ _ _ h => h)) (pk_cons (pv 8) pk_nil))) pa_nil)))
          (pe_op op_rep (pe_lst (pa_cons (pe_tup (pa_cons pe_str (pa_cons pe_str pa_nil))) pa_nil)) pe_int) (nomark _)) (pss_one (ps_ret pe_bl)) pss_nil)))))))))
    (C8.pss_cut (ps_for PassesOwn.never rfl (pi_range1 (by rfl) T.range (pa_cons pe_int pa_nil)) (pg_name (i := 2) scLaw.nd rfl (Or.inl rfl))
      (pss_cons (ps_asg (pe_call T.M r3 (by rfl) T.gM' T.kM T.bM .nil pass0 (pa_cons (pv 1) pa_nil)) (pg_tup rfl (pgs_cons (pg_name (i := 3) scLaw.nd rfl (Or.inl rfl)) (pgs_cons (pg_name (i := 4) scLaw.nd rfl (Or.inl rfl)) pgs_nil))))
      (pss_one (ps_if (pt_not (pt_val (pe_call T.S r3 (by rfl) T.gS T.kS T.bS .nil pass0 (pa_cons (pe_lst (pa_cons (pe_callS (E := WE fun _ _ _ _ => False) T.X r4 (by rfl) T.gX T.kX T.bX (fun σ => passAt L2.takes0 σ) (pa_cons (pv 3) pa_nil)) (pa_cons (pe_callS (E := WE fun _ _ _ _ => False) T.Y r5 (by rfl) T.gY T.kY T.bY (fun σ => passAt L2.takes0 σ) (pa_cons (pv 3) pa_nil)) pa_nil)))
        (pa_cons (pe_lst (pa_cons (pv 4) (pa_cons (pe_call T.G r1 (by rfl) T.gG T.kG T.bG .nil pass0 (pa_cons (pv 4) pa_nil)) pa_nil))) pa_nil))))) (pss_one (ps_ret pe_bl)) pss_nil))))
    (pss_cons (ZM.ps_bx (ps_setLc (i := 7) (own := [("_law_j", 10)]) (g := gName 10) (tt := tYes) rfl scLaw.nd rfl rfl (sw_true rfl rfl rfl (by decide +kernel)) (pi_range1 (by rfl) T.range (pa_cons pe_int pa_nil)) (blkOk_by (N := nLaw) (sc := defScope sLaw) (by decide +kernel))
        (fun _ _ _ _ _ => pg_name (i := 10) scLaw.nd rfl (Or.inr rfl)) (fun _ _ _ _ _ => pts_nil)
        (fun _ _ _ _ _ => ZM.pe_bx (pe_lc (own := [("_law_k", 11)]) (g := gName 11) (tt := tYes) rfl scLaw.nd (pi_range1 (by rfl) T.range (pa_cons pe_int pa_nil)) (blkOk_by (N := nLaw) (by rfl))
          (fun _ _ _ _ _ => pg_name (i := 11) scLaw.nd rfl (Or.inl rfl)) (fun _ _ _ _ _ => pts_nil)
          (fun _ _ _ _ _ => pe_callTy (r := rIntB) call_int1 (by rfl) T.int (by first | rfl | boot_by_name) (pa_cons (pe_cmpR op_eq (pv 11) (pv 10) (nomark _)) pa_nil))))))
    (pss_cons (ps_set (i := 6) scLaw.nd rfl (Or.inl rfl) (pe_lst (pa_cons (pe_callS (E := WE fun _ _ _ _ => False) T.X r4 (by rfl) T.gX T.kX T.bX (fun σ => passAt L2.takes0 σ) (pa_cons (pe_lst pa_nil) pa_nil))
        (pa_cons (pe_callS (E := WE fun _ _ _ _ => False) T.Y r5 (by rfl) T.gY T.kY T.bY (fun σ => passAt L2.takes0 σ) (pa_cons (pe_lst (pa_cons (pe_lst (pa_cons (pe_un un_neg pe_int) pa_nil)) pa_nil)) pa_nil))
        (pa_cons (pe_callS (E := WE fun _ _ _ _ => False) T.X r4 (by rfl) T.gX T.kX T.bX (fun σ => passAt L2.takes0 σ) (pa_cons (pv 7) pa_nil))
        (pa_cons (pe_callKw T.X r4 (by rfl) T.gX T.kX T.bXk (passes_call (W := fun _ _ _ _ => False) (E := fun _ _ _ => False) L2.takes0 (fun _ _ _ _ h => h)) (pk_cons (pe_lst (pa_cons (pe_lst (pa_cons pe_int (pa_cons pe_int pa_nil))) (pa_cons (pe_lst (pa_cons pe_int (pa_cons pe_int pa_nil))) pa_nil))) pk_nil)) pa_nil))))))
    (pss_one (ps_ret (pe_call T.S r3 (by rfl) T.gS T.kS T.bS .nil pass0 (pa_cons (pv 6) (pa_cons (pe_lst (pa_cons pe_int (pa_cons (pe_un un_neg pe_int) (pa_cons pe_int (pa_cons (pe_un un_neg pe_int) pa_nil))))) pa_nil))))))))), ?_⟩
  obtain ⟨a, ns0, rfl, hS, hlen, hPt, q⟩ := h
  refine ⟨_, rfl, a, ns0, rfl, hS, fun H1 l b ms s1 nl nb B => ?_⟩
  have T1 : Tabs Tb H1 := fun p hp => by rw [List.mem_singleton.mp hp]; exact TabS.nil (s1 _ _ hPt)
  refine ⟨Mid Tb a b l ms, ?_, ?_⟩
  · refine ⟨5, rfl, by decide, by decide, for_range (lo := 0) (n := 5) (fun i σ H' => Mid Tb a b l ms σ H') ⟨none, none, none, none, none, none, none, rfl, B, T1⟩ ?_ (fun σ H h => h)⟩
    clear B T1 s1 nl nb
    rintro i σ H2 hi ⟨x2, x3, x4, x5, x6, x7, x8, rfl, B, T2⟩
    refine ⟨_, rfl, _, rfl, sz (by show 6 ≤ 1000; decide), fun p np => ?_⟩
    have Bp := B.new (o := .lst [.int 0, .int 1, .int 2, .int 3, .int 4, .int 5]) np
    have Tp := T2.ext (same_new (o := .lst [.int 0, .int 1, .int 2, .int 3, .int 4, .int 5]) np)
    obtain ⟨bx, hb⟩ := B.at
    have pb : p ≠ b := fun z => by rw [z, hb] at np; cases np
    refine ⟨b, l, p, ms, _, rfl, Bp, upd_same, pb, (by show 0 < 6; decide), (by show 6 < 1073741824; decide), fun v zs hv B3 => ?_⟩
    have T3 := tabs_off Tp Bp (ys := zs)
    obtain ⟨n, rfl, n5⟩ : ∃ n : Nat, v = .int n ∧ n ≤ 5 := by
      simp only [List.mem_cons, List.not_mem_nil, or_false] at hv
      rcases hv with e | e | e | e | e | e
      · exact ⟨0, e, by decide⟩
      · exact ⟨1, e, by decide⟩
      · exact ⟨2, e, by decide⟩
      · exact ⟨3, e, by decide⟩
      · exact ⟨4, e, by decide⟩
      · exact ⟨5, e, by decide⟩
    clear hv B T2 Tp hb
    generalize upd (upd H2 p (.lst [.int 0, .int 1, .int 2, .int 3, .int 4, .int 5])) b (.lst zs) = H3 at B3 T3 ⊢
    refine ⟨b, l, n, ms, rfl, n5, B3, fun W0 rs H4 R => ?_⟩
    obtain ⟨bx3, hb3⟩ := B3.at
    have T4 := tabs_but T3 hb3 R.u
    have B4 := R.B
    have sq := R.s
    have hA := R.N.at (K := K)
    have lr := sq.l
    obtain ⟨cs, lc, hD, hcs⟩ := R.N
    have hcs : ∀ (m : Nat) (c : Addr) (r : List Int), cs[m]? = some c → rs[m]? = some r → H4 c = some (.lst (r.map V.int)) := fun m c r e1 e2 => (hcs m c r e1 e2).1
    clear R B3 T3 hb3
    have bnd : ∀ r ∈ rs, ∀ v ∈ r, -2 ^ 64 < v ∧ v < 2 ^ 64 := fun r hr v hv => by
      have := sq.b r hr v hv
      omega
    have rl : ∀ r ∈ rs, r.length = rs.length := fun r hr => by rw [sq.r r hr, lr]
    -- due
    refine ⟨_, rfl, W0, rs, rfl, hA, by omega, by omega, fun r hr => ⟨rl r hr, bnd r hr⟩, fun H5 s5 => ?_⟩
    obtain ⟨due, hdue⟩ : ∃ due, F rs (List.range rs.length) = due := ⟨_, rfl⟩
    show gName 4 (V.int (lw rs.length rs)) _ _ _
    rw [lw_bx rl, hdue]
    have hw : wf rs rs.length (List.range rs.length) = due := (bx_F rs).trans hdue
    have hA5 := hA.same s5
    have B5 := B4.same s5
    have T5 := T4.ext s5
    -- handed
    refine rows_mk (K := K) (a := W0) (rs := rs) HO.lst (fun r => r) (fun R r => ⟨_, rfl, r⟩) hA5 (by omega) (fun _ => rfl) (fun c r H R hr hc k => ⟨_, rfl, c, _, rfl, .inl hc, fun p np => k p _ (same_new np) np upd_same⟩) (fun L H6 s6 nL N6 => ?_)
    rw [List.map_id'] at N6
    have hL : LRows K H6 L rs := by
      obtain ⟨ds, l1, l2, l3⟩ := N6
      exact ⟨ds, SqL.of l2, l1, fun i c r e1 e2 => SqL.of (l3 i c r e1 e2).1⟩
    have g7 := okB_sq sq (by omega)
    have ls7 : (rs.map List.length).length ≤ 1000 := by rw [List.length_map]; omega
    have ls9 : ∀ x ∈ rs.map List.length, x ≤ 1000 := fun x hx => by
      obtain ⟨r, hr, rfl⟩ := List.mem_map.mp hx
      rw [rl r hr]
      omega
    -- found
    refine ⟨_, rfl, L, _, rfl, hL.at.lens, ls7, ls9, fun z => absurd g7 (by rw [z]; decide), fun _ => ⟨rs, rfl, hL.at, bnd, fun H7 s7 => ?_⟩⟩
    have hL7 := hL.same s7
    refine ⟨_, rfl, L, _, rfl, hL7.at.lens, ls7, ls9, fun z => absurd g7 (by rw [z]; decide), fun _ => ⟨rs, rfl, hL7.at, bnd, fun H8 s8 => ?_⟩⟩
    have s68 := s6.trans (s7.trans s8)
    have hA8 := hA5.same s68
    rw [hw]
    refine rows_mk (K := K) (a := W0) (rs := rs) HO.tup (fun r => r) (fun R r => ⟨_, rfl, r⟩) hA8 (by omega) (fun _ => rfl) (fun c r H R hr hc k => ⟨_, rfl, c, _, rfl, .inl ⟨hc, fun p np => k p _ (same_new np) np upd_same⟩⟩) (fun L2 H9 s9 nL2 N9 => ?_)
    rw [List.map_id'] at N9
    obtain ⟨ds, l1, l2, l3⟩ := N9
    refine ⟨L2, _, rfl, .inl ⟨SqL.of l2, fun tp ntp => ?_⟩⟩
    have s10 := same_new (o := .tup (ds.map V.ref)) ntp
    have hT : RowsAt K (upd H9 tp (.tup (ds.map V.ref))) tp rs := ⟨ds, .inr (SqT.of upd_same), l1, fun i c r e1 e2 => .inr (SqT.of (s10 _ _ (l3 i c r e1 e2).1))⟩
    refine ⟨tp, _, rfl, hT.lens, ls7, ls9, fun z => absurd g7 (by rw [z]; decide), fun _ => ⟨rs, rfl, hT, bnd, fun H11 s11 => ?_⟩⟩
    rw [hw]
    refine ⟨sz (by show 3 ≤ 1000; decide), fun F0 nF => ?_⟩
    have s12 := same_new (o := .lst [.int due, .int (sgn due), .int due]) nF
    have hF0 : (upd H11 F0 (.lst [.int due, .int (sgn due), .int due])) F0 = some (.lst ([due, sgn due, due].map V.int)) := upd_same
    have s812 := s8.trans (s9.trans (s10.trans (s11.trans s12)))
    have t812 := s9.trans (s10.trans (s11.trans s12))
    generalize upd H11 F0 (.lst [.int due, .int (sgn due), .int due]) = H12 at hF0 s812 t812 ⊢
    refine ⟨_, rfl, _, rfl, _, rfl, due, rfl, fun H13 s13 => ?_⟩
    refine ⟨_, rfl, sz (by show 3 ≤ 1000; decide), fun w0 nw0 => ?_⟩
    have s14 := same_new (o := .lst [.int due, .int (sgn due), .int due]) nw0
    refine ⟨.ref F0, .ref w0, .lst ([due, sgn due, due].map Dt.int), rfl, has_i (s14 _ _ (s13 _ _ hF0)) (by show 3 ≤ 1000; decide), has_i (ns := [due, sgn due, due]) upd_same (by show 3 ≤ 1000; decide), fun H15 s15 => ⟨true, rfl, iteF ?_⟩⟩
    have sz8 := (t812.trans s13).trans (s14.trans s15)
    have hL15 := (hL7.same s8).same sz8
    have hA15 := hA8.same sz8
    refine ⟨_, rfl, _, rfl, DI.lli rs, DI.lli rs, hL15.dp, hA15.dp, DI.sh_lli _, DI.sh_lli _, _, rfl, if_f (by rw [DI.eqv_lli]; simp) ?_⟩
    have sAll := s5.trans (s68.trans sz8)
    have B6 := B4.same sAll
    have T6 := T4.ext sAll
    have hD6 := sAll _ _ hD
    have hcs6 : ∀ (m : Nat) (c : Addr) (r : List Int), cs[m]? = some c → rs[m]? = some r → H15 c = some (.lst (r.map V.int)) := fun m c r e1 e2 => sAll _ _ (hcs m c r e1 e2)
    clear hw sAll sz8 hL15 s15 s14 nw0 s13 hF0 s812 t812 s12 nF s11 hT s10 ntp l3 l2 l1 nL2 s9 hA8 s68 s8 hL7 s7 hL N6 nL s6 B5 T5 hA5 s5 hcs hD B4 T4 hA bnd np pb Bp hPt ls7 ls9 g7 hdue
    -- bent boxes
    refine ⟨fun σ H' => ∃ (e : Addr) (ls : List Nat) (x2 x3 x4 x5 x6 x7 : Option V), σ = [some (.ref a), some (.ref b), x2, x3, x4, x5, x6, x7, some (.ref e), none, none, none] ∧ HRows H' e ls ∧ ls.length ≤ 1000 ∧ (∀ x ∈ ls, x ≤ 1000) ∧ okB ls = false ∧ BagAt l ms H' b ∧ Tabs Tb H', ?_, ?_⟩
    · have lcs : cs.length = n := by rw [lc, lr]
      have rows : ∀ (i : Nat) (c : Addr), cs[i]? = some c → ∃ r : List Int, rs[i]? = some r ∧ r.length = n ∧ H15 c = some (.lst (r.map V.int)) ∧ c ≠ b := fun i c hc => by
        have gr := List.getElem?_eq_getElem (show i < rs.length by have := (List.getElem?_eq_some_iff.mp hc).1; omega)
        exact ⟨_, gr, sq.r _ (List.mem_of_getElem? gr), hcs6 i c _ hc gr, ints_ne_bag (hcs6 i c _ hc gr) B6⟩
      -- a row more
      refine ⟨_, rfl, _, rfl, sz (by show 1 ≤ 1000; decide), fun p1 np1 => ?_⟩
      have s1 := same_new (o := .lst [.int 0]) np1
      have h1 : (upd H15 p1 (.lst [.int 0])) p1 = some (.lst [.int 0]) := upd_same
      generalize upd H15 p1 (.lst [.int 0]) = Ha at s1 h1 ⊢
      refine ⟨_, rfl, W0, _, rfl, .inl (s1.seq (SqL.of hD6)), p1, _, [.int 0], rfl, rfl, h1, by omega, by rw [List.length_map]; omega, sz (by rw [List.length_map]; show 1 * _ ≤ 1000; omega), fun q1 nq1 => ?_⟩
      have q1b := new_ne (B6.same s1) nq1
      obtain ⟨ys, eys⟩ : ∃ ys, (List.replicate (Int.toNat (((cs.map V.ref).length : Nat) : Int)) [V.int 0]).flatten = ys := ⟨_, rfl⟩
      rw [eys]
      have lys : ys.length = n := by
        rw [← eys]
        simp [lcs]
      have s2 := s1.trans (same_new (o := .lst ys) nq1)
      have h2 : (upd Ha q1 (.lst ys)) q1 = some (.lst ys) := upd_same
      generalize upd Ha q1 (.lst ys) = Hb at s2 h2 ⊢
      refine ⟨sz (by show 1 ≤ 1000; decide), fun p2 np2 => ?_⟩
      have s3 := s2.trans (same_new (o := .lst [.ref q1]) np2)
      have h3 := same_new (o := .lst [.ref q1]) np2 _ _ h2
      have hp2 : (upd Hb p2 (.lst [.ref q1])) p2 = some (.lst [.ref q1]) := upd_same
      generalize upd Hb p2 (.lst [.ref q1]) = Hc at s3 h3 hp2 ⊢
      refine ⟨W0, p2, cs.map V.ref, [.ref q1], rfl, rfl, s3 _ _ hD6, hp2, sz (by rw [List.length_map]; show _ + 1 ≤ 1000; omega), fun e1 ne1 => ?_⟩
      have e1b := new_ne (B6.same s3) ne1
      have s4 := s3.trans (same_new (o := .lst (cs.map V.ref ++ [.ref q1])) ne1)
      have K1 : HRb b (upd Hc e1 (.lst (cs.map V.ref ++ [.ref q1]))) e1 (List.replicate cs.length n ++ [ys.length]) := HRb.snoc upd_same e1b (same_new (o := .lst (cs.map V.ref ++ [.ref q1])) ne1 _ _ h3) q1b fun i c hc => by
        obtain ⟨r, g1, g2, g3, g4⟩ := rows i c hc
        exact ⟨_, s4 _ _ g3, g4, by rw [List.length_map]; exact g2⟩
      generalize upd Hc e1 (.lst (cs.map V.ref ++ [.ref q1])) = Hd at s4 K1 ⊢
      rw [lcs, lys] at K1
      clear h1 h2 h3 hp2 s1 s2 s3 q1b e1b
      -- a number more
      refine rows_mkI (K := K) (a := W0) (bs := cs) (rs := rs) HO.lst (fun r => r ++ [1]) (fun R r => ⟨_, rfl, r⟩) (SqL.of (s4 _ _ hD6)) lc (by omega) (fun _ => rfl) (fun i c r He R hc hr se k => ?_) (fun L2 He s5 nL2 N5 => ?_)
      · refine ⟨_, rfl, sz (by show 1 ≤ 1000; decide), fun u nu => ?_⟩
        have su := same_new (o := .lst [.int 1]) nu
        refine ⟨c, u, r.map V.int, [.int 1], rfl, rfl, su _ _ (se _ _ (s4 _ _ (hcs6 i c r hc hr))), upd_same, sz (by rw [List.length_map, sq.r r (List.mem_of_getElem? hr)]; show _ + 1 ≤ 1000; omega), fun u2 nu2 => k u2 _ (su.trans (same_new nu2)) ?_ (by rw [upd_same, List.map_append]; rfl)⟩
        cases e : He u2 with
        | none => rfl
        | some o => rw [su _ _ e] at nu2; cases nu2
      obtain ⟨ds, ld, hds, hrd⟩ := N5
      rw [List.length_map, lr] at ld
      refine ⟨Nat.zero_le _, fun p3 np3 => ?_⟩
      have s6 := same_new (o := .lst []) np3
      have hp3 : (upd He p3 (.lst [])) p3 = some (.lst []) := upd_same
      generalize upd He p3 (.lst []) = Hf at s6 hp3 ⊢
      refine ⟨sz (by show 1 ≤ 1000; decide), fun p4 np4 => ?_⟩
      have s7 := s6.trans (same_new (o := .lst [.ref p3]) np4)
      have h7 := same_new (o := .lst [.ref p3]) np4 _ _ hp3
      have hp4 : (upd Hf p4 (.lst [.ref p3])) p4 = some (.lst [.ref p3]) := upd_same
      generalize upd Hf p4 (.lst [.ref p3]) = Hg at s7 h7 hp4 ⊢
      refine ⟨L2, p4, ds.map V.ref, [.ref p3], rfl, rfl, s7 _ _ hds, hp4, sz (by rw [List.length_map]; show _ + 1 ≤ 1000; omega), fun e2 ne2 => ?_⟩
      have Bd := B6.same s4
      have e2b := new_ne ((Bd.same s5).same s7) ne2
      have p3b := new_ne (Bd.same s5) np3
      have s8 := s7.trans (same_new (o := .lst (ds.map V.ref ++ [.ref p3])) ne2)
      have K2 : HRb b (upd Hg e2 (.lst (ds.map V.ref ++ [.ref p3]))) e2 (List.replicate ds.length (n + 1) ++ [([] : List V).length]) := HRb.snoc upd_same e2b (same_new (o := .lst (ds.map V.ref ++ [.ref p3])) ne2 _ _ h7) p3b fun i c hc => by
        have gr := List.getElem?_eq_getElem (show i < rs.length by have := (List.getElem?_eq_some_iff.mp hc).1; omega)
        obtain ⟨g1, g2, g3⟩ := hrd i c _ hc (by rw [List.getElem?_map, gr]; rfl)
        exact ⟨_, s8 _ _ g1, new_ne Bd g2, by rw [List.length_map, List.length_append, sq.r _ (List.mem_of_getElem? gr)]; rfl⟩
      generalize upd Hg e2 (.lst (ds.map V.ref ++ [.ref p3])) = Hh at s8 K2 ⊢
      rw [ld] at K2
      have s9 := s4.trans (s5.trans s8)
      have K1 := K1.same (s5.trans s8)
      clear s8 e2b p3b s7 h7 hp4 s6 hp3 hrd hds ld s5 nL2 Bd s4
      -- eight rows of eight
      refine ⟨sz (by show 1 ≤ 1000; decide), fun p5 np5 => ?_⟩
      have t1 := same_new (o := .lst [.int 0]) np5
      have h5 : (upd Hh p5 (.lst [.int 0])) p5 = some (.lst [.int 0]) := upd_same
      generalize upd Hh p5 (.lst [.int 0]) = Hi at t1 h5 ⊢
      refine ⟨p5, 8, [.int 0], rfl, rfl, h5, by decide, by decide, sz (by show 1 * 8 ≤ 1000; decide), fun q3 nq3 => ?_⟩
      have q3b := new_ne ((B6.same s9).same t1) nq3
      have t2 := t1.trans (same_new (o := .lst (List.replicate (Int.toNat 8) [V.int 0]).flatten) nq3)
      have h6 : (upd Hi q3 (.lst (List.replicate (Int.toNat 8) [V.int 0]).flatten)) q3 = some (.lst (List.replicate (Int.toNat 8) [V.int 0]).flatten) := upd_same
      generalize upd Hi q3 (.lst (List.replicate (Int.toNat 8) [V.int 0]).flatten) = Hj at t2 h6 ⊢
      refine ⟨sz (by show 1 ≤ 1000; decide), fun p6 np6 => ?_⟩
      have t3 := t2.trans (same_new (o := .lst [.ref q3]) np6)
      have h7 := same_new (o := .lst [.ref q3]) np6 _ _ h6
      have h8 : (upd Hj p6 (.lst [.ref q3])) p6 = some (.lst [.ref q3]) := upd_same
      generalize upd Hj p6 (.lst [.ref q3]) = Hk at t3 h7 h8 ⊢
      refine ⟨p6, 8, [.ref q3], rfl, rfl, h8, by decide, by decide, sz (by show 1 * 8 ≤ 1000; decide), fun e3 ne3 => ?_⟩
      have e3b := new_ne ((B6.same s9).same t3) ne3
      have t4 := t3.trans (same_new (o := .lst (List.replicate (Int.toNat 8) [V.ref q3]).flatten) ne3)
      have K3 : HRb b (upd Hk e3 (.lst (List.replicate (Int.toNat 8) [V.ref q3]).flatten)) e3 (List.replicate 8 8) := by
        refine ⟨List.replicate 8 q3, by rw [upd_same]; rfl, e3b, rfl, fun i c x g1 g2 => ?_⟩
        have m1 := List.mem_of_getElem? g1
        have m2 := List.mem_of_getElem? g2
        rw [(List.mem_replicate.mp m1).2, (List.mem_replicate.mp m2).2]
        exact ⟨_, same_new (o := .lst (List.replicate (Int.toNat 8) [V.ref q3]).flatten) ne3 _ _ h7, q3b, rfl⟩
      generalize upd Hk e3 (.lst (List.replicate (Int.toNat 8) [V.ref q3]).flatten) = Hl at t4 K3 ⊢
      refine ⟨sz (by show 3 ≤ 1000; decide), fun pl npl => ?_⟩
      have t5 := same_new (o := .lst [.ref e1, .ref e2, .ref e3]) npl
      have hpl : (upd Hl pl (.lst [.ref e1, .ref e2, .ref e3])) pl = some (.lst [.ref e1, .ref e2, .ref e3]) := upd_same
      have s10 := (s9.trans t4).trans t5
      have plb := new_ne (B6.same (s9.trans t4)) npl
      have K1 := (K1.same t4).same t5
      have K2 := (K2.same t4).same t5
      have K3 := K3.same t5
      generalize upd Hl pl (.lst [.ref e1, .ref e2, .ref e3]) = Hm at s10 hpl K1 K2 K3 ⊢
      have Bm := B6.same s10
      refine ⟨b, l, pl, ms, _, rfl, Bm, hpl, plb, (by show 0 < 3; decide), (by show 3 < 1073741824; decide), fun v zs hv B9 => ?_⟩
      have T9 := tabs_off (T6.ext s10) Bm (ys := zs)
      simp only [List.mem_cons, List.not_mem_nil, or_false] at hv
      rcases hv with e | e | e
      · subst e
        refine ⟨e1, _, _, _, _, _, _, _, rfl, K1.bag, by simp; omega, fun x hx => ?_, okB_last (by simp), B9, T9⟩
        rcases List.mem_append.mp hx with h | h
        · rw [(List.mem_replicate.mp h).2]; omega
        · rw [List.mem_singleton.mp h]; omega
      · subst e
        refine ⟨e2, _, _, _, _, _, _, _, rfl, K2.bag, by simp; omega, fun x hx => ?_, okB_last (by simp), B9, T9⟩
        rcases List.mem_append.mp hx with h | h
        · rw [(List.mem_replicate.mp h).2]; omega
        · rw [List.mem_singleton.mp h]; show 0 ≤ 1000; omega
      · subst e
        exact ⟨e3, _, _, _, _, _, _, _, rfl, K3.bag, by decide, by decide, by decide, B9, T9⟩
    · clear hD6 hcs6 B6 T6 hA15 rl sq
      rintro σ H16 ⟨e, ls, x2, x3, x4, x5, x6, x7, rfl, hE0, l7, l9, g7, B, T7⟩
      have nt : ∀ (xs : List V) (ps : Array Value), HO.tup xs ≠ .tbl ps := fun xs ps z => by cases z
      refine ⟨T7, fun H20 e20 T8 => ⟨_, rfl, e, ls, rfl, (hE0.ext e20).lens, l7, l9, fun _ H21 s21 d1 nd1 => ⟨hE, C, D, fI, nv, "BadBox", d1, rfl, cT, rfl, upd_same, fun p1 np1 => ?_⟩, fun z => absurd z (by rw [g7]; decide)⟩⟩
      have sN1 := s21.trans ((same_new (o := .xd (wd "BadBox")) nd1).trans (same_new (o := .tup noV) np1))
      have hE2 := (hE0.ext e20).same sN1
      refine ⟨T8.ext sN1, fun H22 e22 T9 => ⟨_, rfl, e, ls, rfl, (hE2.ext e22).lens, l7, l9, fun _ H23 s23 d2 nd2 => ⟨hE, C, D, fI, nv, "BadBox", d2, rfl, cT, rfl, upd_same, fun p2 np2 => ?_⟩, fun z => absurd z (by rw [g7]; decide)⟩⟩
      have sN2 := s23.trans ((same_new (o := .xd (wd "BadBox")) nd2).trans (same_new (o := .tup noV) np2))
      have hp1 := sN2 _ _ (e22 p1 (.tup noV) upd_same (nt _))
      refine ⟨sz (by show 2 ≤ 1000; decide), fun L nL => ?_⟩
      have sL := same_new (o := .lst [.ref p1, .ref p2]) nL
      refine ⟨sz (by show 2 ≤ 1000; decide), fun u nu => ⟨sz (by show 1 ≤ 1000; decide), fun v nv' => ⟨v, 2, [.ref u], rfl, rfl, upd_same, by decide, by decide, sz (by show 1 * 2 ≤ 1000; decide), fun R nR => ?_⟩⟩⟩
      have su := same_new (o := .tup noV) nu
      have sv := same_new (o := .lst [.ref u]) nv'
      have sR := same_new (o := .lst [.ref u, .ref u]) nR
      have sD := su.trans (sv.trans sR)
      refine ⟨noD, noD, no_dp (sD _ _ upd_same) (sD _ _ (sL _ _ hp1)) (sD _ _ (sL _ _ upd_same)), no_dp upd_same (sR _ _ (sv _ _ upd_same)) (sR _ _ (sv _ _ upd_same)), no_sh, no_sh, _, rfl, if_f (by decide +kernel) ?_⟩
      exact ⟨_, _, _, _, _, _, _, rfl, ((bag_ext ((bag_ext B e20).same sN1) e22).same sN2).same (sL.trans sD), (T9.ext sN2).ext (sL.trans sD)⟩
  · clear B T1
    rintro σ H2 ⟨x2, x3, x4, x5, x6, x7, x8, rfl, B, T2⟩
    refine ⟨Mid Tb a b l ms, ?_, ?_⟩
    · refine ⟨2, rfl, by decide, by decide, for_range (lo := 0) (n := 2) (fun i σ H' => Mid Tb a b l ms σ H') ⟨x2, x3, x4, x5, x6, x7, x8, rfl, B, T2⟩ ?_ (fun σ H h => h)⟩
      clear B T2 x2 x3 x4 x5 x6 x7 x8 H2
      rintro i σ H2 hi ⟨x2, x3, x4, x5, x6, x7, x8, rfl, B, T2⟩
      refine ⟨_, rfl, b, l, ms, rfl, B, fun Tt D n due rs H3 n7 nT hT R hF => ?_⟩
      obtain ⟨bx, hb⟩ := B.at
      have T3 := tabs_but T2 hb R.u
      have B3 := R.B
      have sq := R.s
      have hA := R.N.at (K := K)
      have lr := sq.l
      have bnd : ∀ r ∈ rs, ∀ v ∈ r, -2 ^ 64 < v ∧ v < 2 ^ 64 := fun r hr v hv => by
        have := sq.b r hr v hv
        omega
      have hw : wf rs rs.length (List.range rs.length) = due := (bx_F rs).trans (by rw [lr]; exact hF)
      have g7 := okB_sq sq n7
      have ls7 : (rs.map List.length).length ≤ 1000 := by rw [List.length_map]; omega
      have ls9 : ∀ x ∈ rs.map List.length, x ≤ 1000 := fun x hx => by
        obtain ⟨r, hr, rfl⟩ := List.mem_map.mp hx
        rw [sq.r r hr]
        omega
      refine ⟨Tt, _, rfl, SqT.of hT, rfl, _, _, rfl, _, _, rfl, rfl, ?_⟩
      refine ⟨_, rfl, D, _, rfl, hA.at.lens, ls7, ls9, fun z => absurd g7 (by rw [z]; decide), fun _ => ⟨rs, rfl, hA.at, bnd, fun H4 s4 => ?_⟩⟩
      have hA4 := hA.same s4
      refine ⟨_, rfl, D, _, rfl, hA4.at.lens, ls7, ls9, fun z => absurd g7 (by rw [z]; decide), fun _ => ⟨rs, rfl, hA4.at, bnd, fun H5 s5 => ?_⟩⟩
      rw [hw]
      refine ⟨sz (by show 2 ≤ 1000; decide), fun F0 nF => ?_⟩
      have s6 := same_new (o := .lst [.int due, .int (sgn due)]) nF
      have hF0 : (upd H5 F0 (.lst [.int due, .int (sgn due)])) F0 = some (.lst ([due, sgn due].map V.int)) := upd_same
      generalize upd H5 F0 (.lst [.int due, .int (sgn due)]) = H6 at s6 hF0 ⊢
      refine ⟨_, rfl, _, rfl, due, rfl, fun H7 s7 => ⟨sz (by show 2 ≤ 1000; decide), fun w0 nw0 => ?_⟩⟩
      have s8 := same_new (o := .lst [.int due, .int (sgn due)]) nw0
      refine ⟨.ref F0, .ref w0, .lst ([due, sgn due].map Dt.int), rfl, has_i (s8 _ _ (s7 _ _ hF0)) (by show 2 ≤ 1000; decide), has_i (ns := [due, sgn due]) upd_same (by show 2 ≤ 1000; decide), fun H9 s9 => ⟨true, rfl, if_f rfl ?_⟩⟩
      have sA := s4.trans (s5.trans (s6.trans (s7.trans (s8.trans s9))))
      exact ⟨_, _, _, _, _, _, _, rfl, B3.same sA, T3.ext sA⟩
    · clear B T2 x2 x3 x4 x5 x6 x7 x8 H2
      rintro σ H2 ⟨x2, x3, x4, x5, x6, x7, x8, rfl, B, T2⟩
      refine rows_rng (n := 7) (fun j => (List.range 7).map fun k => if k = j then 1 else 0) (fun R r => r) (by decide) (fun _ => rfl) ?_ ?_
      · intro j H3 R hj s3 k3
        refine ZM.lcm_rng (n := 7) (ys := ((List.range 7).map fun k => if k = j then (1 : Int) else 0).map V.int) (fun R r => r) (by decide) (by simp) (fun _ => rfl) ?_ (fun D2 H4 s4 nD2 hD2 => k3 D2 H4 s4 nD2 hD2)
        intro k y H4 R4 hk hy s4 k4
        rw [List.getElem?_map, List.getElem?_map, List.getElem?_range hk] at hy
        obtain rfl : V.int (if k = j then 1 else 0) = y := Option.some.inj hy
        refine ⟨_, rfl, _, rfl, rfl, .inr ⟨_, rfl, ?_⟩⟩
        have := k4 H4 (Same.refl _)
        by_cases z : k = j
        · subst z
          simpa using this
        · rw [if_neg z] at this
          have e : decide (V.int (0 + (k : Int)) = V.int (0 + (j : Int))) = false := decide_eq_false fun h => z (by injection h; omega)
          rw [if_neg (show ¬ decide (V.int (0 + (k : Int)) = V.int (0 + (j : Int))) = true by rw [e]; decide)]
          exact this
      · intro U H3 s3 nU NU
        have hU := NU.at (K := K)
        refine ⟨Nat.zero_le _, fun p1 np1 => ⟨p1, [], rfl, ⟨[], .inl (SqL.of upd_same), rfl, by simp⟩, by decide, by simp, fun z => (by cases z), fun _ => ⟨[], rfl, ⟨[], .inl (SqL.of upd_same), rfl, by simp⟩, by simp, fun H5 s5 => ?_⟩⟩⟩
        have s4 := same_new (o := .lst []) np1
        have hU5 := (hU.same s4).same s5
        clear s4 s5
        refine ⟨_, rfl, sz (by show 1 ≤ 1000; decide), fun p2 np2 => ⟨sz (by show 1 ≤ 1000; decide), fun p3 np3 => ?_⟩⟩
        have s6 := (same_new (o := .lst [.int (-3)]) np2).trans (same_new (o := .lst [.ref p2]) np3)
        have h2 := same_new (o := .lst [.ref p2]) np3 _ _ (upd_same (H := H5) (a := p2) (o := .lst [.int (-3)]))
        have L1 : LRows K (upd (upd H5 p2 (.lst [.int (-3)])) p3 (.lst [.ref p2])) p3 [[-3]] := ⟨[p2], SqL.of upd_same, rfl, fun i c r e1 e2 => by
          match i, e1, e2 with
          | 0, rfl, rfl => exact SqL.of h2⟩
        generalize upd (upd H5 p2 (.lst [.int (-3)])) p3 (.lst [.ref p2]) = H6 at s6 L1 ⊢
        refine ⟨p3, _, rfl, L1.at.lens, by decide, by decide, fun z => absurd z (by decide), fun _ => ⟨[[-3]], rfl, L1.at, by decide, fun H7 s7 => ?_⟩⟩
        have hU7 := (hU5.same s6).same s7
        refine ⟨_, rfl, U, _, rfl, hU7.at.lens, by simp, by simp, fun z => absurd z (by decide +kernel), fun _ => ⟨_, rfl, hU7.at, by decide +kernel, fun H8 s8 => ?_⟩⟩
        refine ⟨sz (by show 2 ≤ 1000; decide), fun p4 np4 => ⟨sz (by show 2 ≤ 1000; decide), fun p5 np5 => ⟨sz (by show 2 ≤ 1000; decide), fun p6 np6 => ?_⟩⟩⟩
        have h4 := same_new (o := .lst [.ref p4, .ref p5]) np6 _ _ (same_new (o := .lst [.int 1, .int 0]) np5 _ _ (upd_same (H := H8) (a := p4) (o := .lst [.int 0, .int 1])))
        have h5 := same_new (o := .lst [.ref p4, .ref p5]) np6 _ _ (upd_same (H := upd H8 p4 (.lst [.int 0, .int 1])) (a := p5) (o := .lst [.int 1, .int 0]))
        have L2 : LRows K (upd (upd (upd H8 p4 (.lst [.int 0, .int 1])) p5 (.lst [.int 1, .int 0])) p6 (.lst [.ref p4, .ref p5])) p6 [[0, 1], [1, 0]] := ⟨[p4, p5], SqL.of upd_same, rfl, fun i c r e1 e2 => by
          match i, e1, e2 with
          | 0, rfl, rfl => exact SqL.of h4
          | 1, rfl, rfl => exact SqL.of h5⟩
        generalize upd (upd (upd H8 p4 (.lst [.int 0, .int 1])) p5 (.lst [.int 1, .int 0])) p6 (.lst [.ref p4, .ref p5]) = H9 at L2 ⊢
        refine ⟨p6, _, rfl, L2.at.lens, by decide, by decide, fun z => absurd z (by decide), fun _ => ⟨[[0, 1], [1, 0]], rfl, L2.at, by decide, fun H10 s10 => ?_⟩⟩
        have w1 : wf [] 0 (List.range 0) = 1 := rfl
        have w2 : sgn (wf [[-3]] 1 (List.range 1)) = -1 := by decide
        have w3 : wf ((List.range 7).map fun j => (List.range 7).map fun k => if k = j then (1 : Int) else 0) 7 (List.range 7) = 1 := by decide +kernel
        have w4 : wf [[0, 1], [1, 0]] 2 (List.range 2) = -1 := by decide
        have eL : ([V.int (wf [] 0 (List.range 0)), V.int (sgn (wf [[-3]] 1 (List.range 1))), V.int (wf ((List.range 7).map fun j => (List.range 7).map fun k => if k = j then (1 : Int) else 0) 7 (List.range 7)), V.int (wf [[0, 1], [1, 0]] 2 (List.range 2))] : List V) = [V.int 1, V.int (-1), V.int 1, V.int (-1)] := by rw [w1, w2, w3, w4]
        refine ⟨sz (by show 4 ≤ 1000; decide), fun F0 nF => ?_⟩
        refine ⟨_, rfl, _, rfl, _, rfl, sz (by show 4 ≤ 1000; decide), fun w0 nw0 => ?_⟩
        refine ⟨.ref F0, .ref w0, .lst ([1, -1, 1, -1].map Dt.int), rfl, has_i (ns := [1, -1, 1, -1]) ((same_new nw0 _ _ upd_same).trans (congrArg (fun x => some (HO.lst x)) eL)) (by show 4 ≤ 1000; decide), has_i (ns := [1, -1, 1, -1]) upd_same (by show 4 ≤ 1000; decide), fun H12 _ => q H12⟩
end
end K4

set_option maxHeartbeats 4000000
namespace K4
open PySem PySem.Spec PyProof.Rows L2 LamX
theorem exm_of {K : PySem.W.Frag} {S D : Addr} (h1 : PySem.W.subIn K (.ref D) (.type "BaseException") = some true) (h2 : PySem.W.isClsIn K D = true) (h3 : PySem.W.typeIn K (.ref D) = some (.type "type")) (h4 : PySem.W.subIn K (.ref S) (.ref D) = some true) : PySem.W.exmOne K (.ref S) (.ref D) = some true := by
  have h2' : (PySem.W.clsIn K D).isSome = true := h2
  have e1 : (PySem.W.subIn K (.ref D) (.type "BaseException") == some true) = true := by
    rw [h1]; rfl
  have e2 : ((PySem.W.clsIn K D).isSome && PySem.W.typeIn K (.ref D) == some (.type "type")) = true := by
    rw [h2', h3]; rfl
  show (if _ = true then (if _ = true then PySem.W.subIn K (.ref S) (.ref D) else none) else none) = some true
  exact (if_pos e1).trans ((if_pos e2).trans h4)
theorem all_mk {l : PySem.W.OpenLaw} {w : World} {K : PySem.W.Frag} {h : Heap} {mg : Str → Option Value} {fa f1 f2 f3 f4 f5 f6 f7 f8 f9 f10 f11 f12 f13 f14 f15 fL fI C D D2 Pt c Td cda cc  : Addr} (X : K.In h) (G : h.Ns mainGlobals mg) (hfa : mg "law" = some (.ref fa))
    {od1 an1 od2 an2 od3 an3 od4 an4 od5 an5 od6 an6 od7 an7 od8 an8 od9 an9 od10 an10 od11 an11 od12 an12 od13 an13 od14 an14 od15 an15 odL anL odI anI odT odA odX dd dd'  : Option Addr} {sl1 sl2 sl3 sl4 sl5 sl6 sl7 sl8 sl9 sl10 sl11 sl12 sl13 sl14 sl15 slL slI slT slA slX  : Array (Option Value)}
    {oc1 kV1 dc1 pm1 ct1 oc2 kV2 dc2 pm2 ct2 oc3 kV3 dc3 pm3 ct3 oc4 kV4 dc4 pm4 ct4 oc5 kV5 dc5 pm5 ct5 oc6 kV6 dc6 pm6 ct6 oc7 kV7 dc7 pm7 ct7 oc8 kV8 dc8 pm8 ct8 oc9 kV9 dc9 pm9 ct9 oc10 kV10 dc10 pm10 ct10 oc11 kV11 dc11 pm11 ct11 oc12 kV12 dc12 pm12 ct12 oc13 kV13 dc13 pm13 ct13 oc14 kV14 dc14 pm14 ct14 oc15 kV15 dc15 pm15 ct15 ocL kVL dcL pmL ctL ocI kVI dcI pmI ctI cd1 cd2 cd3 cd4 cd5 cd6 cd7 cd8 cd9 cd10 cd11 cd12 cd13 cd14 cd15 ocT ocA ocX eT : Value} {vsA : Array Value} {nT : Nat} {file qn nm' q' : Str} {tf : Tok} {N' : Addr} {bs' bm' sub' : List Value} {sn' : List Str} {ab' hd' : Bool} {col' : Option Bool} {m0' m1' m2' m3' m5' : Option Value} {nid' : String} {nm q : Str} {tv : Tok} {N : Addr} {bs bm sub : List Value} {sn : List Str} {ab : Bool} {col : Option Bool} {m0 m1 m3 m5 : Option Value} {tM : Tok}
    (a1 : PySem.W.nsIn K mainGlobals "lots" = some (some (.ref f1)))
    (l1 : K.lookup f1 = some ⟨oc1, od1, .func (PySem.W.fnOf "lots" "lots" (defArgs sLots) (defBody sLots) (defScope sLots) .none kV1 dc1 pm1 an1 cd1 ct1), sl1⟩)
    (c1 : PySem.W.codeIn K cd1 "lots" = true)
    (k1 : PySem.W.keepIn K (.ref f1) = true)
    (a2 : PySem.W.nsIn K mainGlobals "_check_many" = some (some (.ref f2)))
    (l2 : K.lookup f2 = some ⟨oc2, od2, .func (PySem.W.fnOf "_check_many" "_check_many" (defArgs sChk) (defBody sChk) (defScope sChk) .none kV2 dc2 pm2 an2 cd2 ct2), sl2⟩)
    (c2 : PySem.W.codeIn K cd2 "_check_many" = true)
    (k2 : PySem.W.keepIn K (.ref f2) = true)
    (a3 : PySem.W.nsIn K mainGlobals "box" = some (some (.ref f3)))
    (l3 : K.lookup f3 = some ⟨oc3, od3, .func (PySem.W.fnOf "box" "box" (defArgs sBox) (defBody sBox) (defScope sBox) .none kV3 dc3 pm3 an3 cd3 ct3), sl3⟩)
    (c3 : PySem.W.codeIn K cd3 "box" = true)
    (k3 : PySem.W.keepIn K (.ref f3) = true)
    (a4 : PySem.W.nsIn K mainGlobals "box_sign" = some (some (.ref f4)))
    (l4 : K.lookup f4 = some ⟨oc4, od4, .func (PySem.W.fnOf "box_sign" "box_sign" (defArgs sBsg) (defBody sBsg) (defScope sBsg) .none kV4 dc4 pm4 an4 cd4 ct4), sl4⟩)
    (c4 : PySem.W.codeIn K cd4 "box_sign" = true)
    (k4 : PySem.W.keepIn K (.ref f4) = true)
    (a5 : PySem.W.nsIn K mainGlobals "_next_worth" = some (some (.ref f5)))
    (l5 : K.lookup f5 = some ⟨oc5, od5, .func (PySem.W.fnOf "_next_worth" "_next_worth" (defArgs sNw) (defBody sNw) (defScope sNw) .none kV5 dc5 pm5 an5 cd5 ct5), sl5⟩)
    (c5 : PySem.W.codeIn K cd5 "_next_worth" = true)
    (k5 : PySem.W.keepIn K (.ref f5) = true)
    (a6 : PySem.W.nsIn K mainGlobals "_check_box" = some (some (.ref f6)))
    (l6 : K.lookup f6 = some ⟨oc6, od6, .func (PySem.W.fnOf "_check_box" "_check_box" (defArgs sCB) (defBody sCB) (defScope sCB) .none kV6 dc6 pm6 an6 cd6 ct6), sl6⟩)
    (c6 : PySem.W.codeIn K cd6 "_check_box" = true)
    (k6 : PySem.W.keepIn K (.ref f6) = true)
    (a7 : PySem.W.nsIn K mainGlobals "_law_bag" = some (some (.ref f7)))
    (l7 : K.lookup f7 = some ⟨oc7, od7, .func (PySem.W.fnOf "_law_bag" "_law_bag" (defArgs sBag) (defBody sBag) (defScope sBag) .none kV7 dc7 pm7 an7 cd7 ct7), sl7⟩)
    (c7 : PySem.W.codeIn K cd7 "_law_bag" = true)
    (k7 : PySem.W.keepIn K (.ref f7) = true)
    (a8 : PySem.W.nsIn K mainGlobals "_law_pull" = some (some (.ref f8)))
    (l8 : K.lookup f8 = some ⟨oc8, od8, .func (PySem.W.fnOf "_law_pull" "_law_pull" (defArgs sPull) (defBody sPull) (defScope sPull) .none kV8 dc8 pm8 an8 cd8 ct8), sl8⟩)
    (c8 : PySem.W.codeIn K cd8 "_law_pull" = true)
    (k8 : PySem.W.keepIn K (.ref f8) = true)
    (a9 : PySem.W.nsIn K mainGlobals "_law_of" = some (some (.ref f9)))
    (l9 : K.lookup f9 = some ⟨oc9, od9, .func (PySem.W.fnOf "_law_of" "_law_of" (defArgs sOf) (defBody sOf) (defScope sOf) .none kV9 dc9 pm9 an9 cd9 ct9), sl9⟩)
    (c9 : PySem.W.codeIn K cd9 "_law_of" = true)
    (k9 : PySem.W.keepIn K (.ref f9) = true)
    (a10 : PySem.W.nsIn K mainGlobals "_law_same" = some (some (.ref f10)))
    (l10 : K.lookup f10 = some ⟨oc10, od10, .func (PySem.W.fnOf "_law_same" "_law_same" (defArgs sSame) (defBody sSame) (defScope sSame) .none kV10 dc10 pm10 an10 cd10 ct10), sl10⟩)
    (c10 : PySem.W.codeIn K cd10 "_law_same" = true)
    (k10 : PySem.W.keepIn K (.ref f10) = true)
    (a11 : PySem.W.nsIn K mainGlobals "_law_tried" = some (some (.ref f11)))
    (l11 : K.lookup f11 = some ⟨oc11, od11, .func (PySem.W.fnOf "_law_tried" "_law_tried" (defArgs sTried) (defBody sTried) (defScope sTried) .none kV11 dc11 pm11 an11 cd11 ct11), sl11⟩)
    (c11 : PySem.W.codeIn K cd11 "_law_tried" = true)
    (k11 : PySem.W.keepIn K (.ref f11) = true)
    (a12 : PySem.W.nsIn K mainGlobals "_law_sign_of" = some (some (.ref f12)))
    (l12 : K.lookup f12 = some ⟨oc12, od12, .func (PySem.W.fnOf "_law_sign_of" "_law_sign_of" (defArgs sSg) (defBody sSg) (defScope sSg) .none kV12 dc12 pm12 an12 cd12 ct12), sl12⟩)
    (c12 : PySem.W.codeIn K cd12 "_law_sign_of" = true)
    (k12 : PySem.W.keepIn K (.ref f12) = true)
    (a13 : PySem.W.nsIn K mainGlobals "_law_worth" = some (some (.ref f13)))
    (l13 : K.lookup f13 = some ⟨oc13, od13, .func (PySem.W.fnOf "_law_worth" "_law_worth" (defArgs sW) (defBody sW) (defScope sW) .none kV13 dc13 pm13 an13 cd13 ct13), sl13⟩)
    (c13 : PySem.W.codeIn K cd13 "_law_worth" = true)
    (k13 : PySem.W.keepIn K (.ref f13) = true)
    (a14 : PySem.W.nsIn K mainGlobals "_law_box_made" = some (some (.ref f14)))
    (l14 : K.lookup f14 = some ⟨oc14, od14, .func (PySem.W.fnOf "_law_box_made" "_law_box_made" (defArgs sBM) (defBody sBM) (defScope sBM) .none kV14 dc14 pm14 an14 cd14 ct14), sl14⟩)
    (c14 : PySem.W.codeIn K cd14 "_law_box_made" = true)
    (k14 : PySem.W.keepIn K (.ref f14) = true)
    (a15 : PySem.W.nsIn K mainGlobals "_law_box_drawn" = some (some (.ref f15)))
    (l15 : K.lookup f15 = some ⟨oc15, od15, .func (PySem.W.fnOf "_law_box_drawn" "_law_box_drawn" (defArgs sBD) (defBody sBD) (defScope sBD) .none kV15 dc15 pm15 an15 cd15 ct15), sl15⟩)
    (c15 : PySem.W.codeIn K cd15 "_law_box_drawn" = true)
    (k15 : PySem.W.keepIn K (.ref f15) = true)
    (aL : PySem.W.nsIn K mainGlobals "law" = some (some (.ref fL)))
    (lL : K.lookup fL = some ⟨ocL, odL, .func (PySem.W.fnOf "law" "law" (defArgs sLaw) (defBody sLaw) (defScope sLaw) .none kVL dcL pmL anL (.ref c) ctL), slL⟩)
    (cL : PySem.W.codeIn K (.ref c) "law" = true)
    (z1 : PySem.W.nsIn K mainGlobals "isinstance" = some none)
    (z2 : PySem.W.nsIn K mainGlobals "bool" = some none)
    (z3 : PySem.W.nsIn K mainGlobals "int" = some none)
    (z4 : PySem.W.nsIn K mainGlobals "str" = some none)
    (z5 : PySem.W.nsIn K mainGlobals "list" = some none)
    (z6 : PySem.W.nsIn K mainGlobals "tuple" = some none)
    (z7 : PySem.W.nsIn K mainGlobals "len" = some none)
    (z8 : PySem.W.nsIn K mainGlobals "all" = some none)
    (z9 : PySem.W.nsIn K mainGlobals "range" = some none)
    (z10 : PySem.W.nsIn K mainGlobals "super" = some none)
    (z11 : PySem.W.nsIn K mainGlobals "enumerate" = some none)
    (z12 : PySem.W.nsIn K mainGlobals "any" = some none)
    (z13 : PySem.W.nsIn K mainGlobals "zip" = some none)
    (gK : PySem.W.nsIn K mainGlobals "combinations" = some (some (.type "itertools.combinations")))
    (gM : PySem.W.nsIn K mainGlobals "MOST" = some (some (.int 7 tM)))
    (gC : PySem.W.nsIn K mainGlobals "BadBox" = some (some (.ref C)))
    (gD : PySem.W.nsIn K mainGlobals "CleaveError" = some (some (.ref D)))
    (gE : PySem.W.nsIn K mainGlobals "HouseError" = some (some (.ref D2)))
    (xC : K.lookup C = some (excClassObj nm q C N bs bm true sn sub ab col dd m0 m1 (some (.str "BadBox" tv)) m3 m5 "ValueError.__new__"))
    (xB : HandSPX.refsVE bm = true)
    (xD : K.lookup D = some (excClassObj nm' q' D N' bs' bm' hd' sn' sub' ab' col' dd' m0' m1' m2' m3' m5' nid'))
    (iC : PySem.W.findIn K (.ref C) "__init__" = some (some (.ref fI)))
    (tI : PySem.W.typeIn K (.ref fI) = some (.type "function"))
    (lI : K.lookup fI = some ⟨ocI, odI, .func (PySem.W.ksFn "__init__" qn (PySem.CleX.iA ⟨5, 17, 5, 21⟩ ⟨5, 23, 5, 27⟩ ⟨5, 28, 5, 30⟩) (PySem.CleX.iB ⟨6, 8, 6, 13⟩ ⟨6, 8, 6, 15⟩ ⟨6, 8, 6, 24⟩ ⟨6, 25, 6, 29⟩ ⟨6, 8, 6, 30⟩ ⟨6, 8, 6, 30⟩ ⟨7, 8, 7, 12⟩ ⟨7, 8, 7, 17⟩ ⟨7, 20, 7, 24⟩ ⟨7, 20, 7, 34⟩ ⟨7, 20, 7, 43⟩ ⟨7, 8, 7, 43⟩) PySem.CleX.iS (.ref Td) kVI dcI pmI anI (.ref cda) ctI cc), slI⟩)
    (cI : PySem.W.codeIn K (.ref cda) qn = true)
    (lT : K.lookup Td = some ⟨ocT, odT, .seq #[eT] nT, slT⟩)
    (lA : K.lookup cda = some ⟨ocA, odA, .fields vsA, slA⟩)
    (vA : vsA[2]? = some (.str file tf))
    (fA : ((l.prog.main.file : Str) == file) = true)
    (lX : K.lookup cc = some ⟨ocX, odX, .cell (some (.ref D)), slX⟩)
    (nT0 : (l.prog.main.scope.names.lookup ("super" : Str)).isSome = false)
    (noT : PySem.W.nsIn K cStatics "thirdparty.any" = some none)
    (mD : PySem.W.mroIn K C (.ref D) = some true)
    (mO : PySem.W.mroIn K C (.type "object") = some true)
    (sup : PySem.W.ks_superIn K C D "__init__" = some (some (.builtin "ValueError.__init__")))
    (sVE : PySem.W.subIn K (.ref C) (.type "ValueError") = some true)
    (sa : PySem.W.findIn K (.ref C) "__setattr__" = some (some (.builtin "object.__setattr__")))
    (ga : PySem.W.findIn K (.ref C) "__getattribute__" = some (some (.builtin "BaseException.__getattribute__")))
    (gg : PySem.W.findIn K (.ref C) "__getattr__" = some none)
    (nw : PySem.W.findIn K (.ref C) "word" = some none)
    (cC : PySem.W.findIn K (.ref C) "__class__" = some (some (.builtin "object.__class__")))
    (rd : PySem.W.readsIn K C (.type "type") = true)
    (nmC : PySem.W.findCls K (.ref C) (.type "type") "__name__" = some (.get (.builtin "getset_descriptor.__get__") (.builtin "type.__name__") (.ref C) (.type "type")))
    (kC : PySem.W.keepIn K (.ref C) = true)
    (exC : PySem.W.subIn K (.ref C) (.type "BaseException") = some true)
    (tyC : PySem.W.typeIn K (.ref C) = some (.type "type"))
    (hdC : PySem.W.hasDictIn K C = true)
    (isC : PySem.W.isClsIn K C = true)
    (sCD : PySem.W.subIn K (.ref C) (.ref D) = some true)
    (cG : PySem.W.specialIn K (.builtin "object.__class__") "__get__" = some (some (.builtin "getset_descriptor.__get__")))
    (cT : PySem.W.takesIn K (.builtin "object.__class__") = some true)
    (exD : PySem.W.subIn K (.ref D) (.type "BaseException") = some true)
    (isD : PySem.W.isClsIn K D = true)
    (tyD : PySem.W.typeIn K (.ref D) = some (.type "type"))
    (hP : h.get? Pt = some { cls := .none, data := .fields #[] })
    (nP : K.lookup Pt = none)
    (hcP : PySem.W.codeHdIn K c Pt = true) :
    LawAtS l w K CX0 8 63 "_law_script" mg fa h := by
  have e := hfa.symm.trans (PySem.W.mg_of X G aL)
  cases e
  have F1 := fun_mk (st := sLots) l1 c1 k1
  have b1 := F1.binds (ps := ["many", "size"]) fun _ _ _ _ _ _ us hl => match us, hl with | [_, _], _ => rfl
  have g1 := PySem.W.mg_of X G a1
  have F2 := fun_mk (st := sChk) l2 c2 k2
  have b2 := F2.binds (ps := ["many"]) fun _ _ _ _ _ _ us hl => match us, hl with | [_], _ => rfl
  have g2 := PySem.W.mg_of X G a2
  have F3 := fun_mk (st := sBox) l3 c3 k3
  have b3 := F3.binds (ps := ["rows"]) fun _ _ _ _ _ _ us hl => match us, hl with | [_], _ => rfl
  have g3 := PySem.W.mg_of X G a3
  have F4 := fun_mk (st := sBsg) l4 c4 k4
  have b4 := F4.binds (ps := ["rows"]) fun _ _ _ _ _ _ us hl => match us, hl with | [_], _ => rfl
  have g4 := PySem.W.mg_of X G a4
  have F5 := fun_mk (st := sNw) l5 c5 k5
  have b5 := F5.binds (ps := ["row", "lot", "worths"]) fun _ _ _ _ _ _ us hl => match us, hl with | [_, _, _], _ => rfl
  have g5 := PySem.W.mg_of X G a5
  have F6 := fun_mk (st := sCB) l6 c6 k6
  have b6 := F6.binds (ps := ["rows"]) fun _ _ _ _ _ _ us hl => match us, hl with | [_], _ => rfl
  have g6 := PySem.W.mg_of X G a6
  have F7 := fun_mk (st := sBag) l7 c7 k7
  have b7 := F7.binds (ps := ["_law_script"]) fun _ _ _ _ _ _ us hl => match us, hl with | [_], _ => rfl
  have g7 := PySem.W.mg_of X G a7
  have F8 := fun_mk (st := sPull) l8 c8 k8
  have b8 := F8.binds (ps := ["_law_bag_here", "_law_many"]) fun _ _ _ _ _ _ us hl => match us, hl with | [_, _], _ => rfl
  have g8 := PySem.W.mg_of X G a8
  have F9 := fun_mk (st := sOf) l9 c9 k9
  have b9 := F9.binds (ps := ["_law_bag_here", "_law_some"]) fun _ _ _ _ _ _ us hl => match us, hl with | [_, _], _ => rfl
  have g9 := PySem.W.mg_of X G a9
  have F10 := fun_mk (st := sSame) l10 c10 k10
  have b10 := F10.binds (ps := ["_law_found", "_law_due"]) fun _ _ _ _ _ _ us hl => match us, hl with | [_, _], _ => rfl
  have g10 := PySem.W.mg_of X G a10
  have F11 := fun_mk (st := sTried) l11 c11 k11
  have b11 := F11.binds (ps := ["_law_ask"]) fun _ _ _ _ _ _ us hl => match us, hl with | [_], _ => rfl
  have g11 := PySem.W.mg_of X G a11
  have F12 := fun_mk (st := sSg) l12 c12 k12
  have b12 := F12.binds (ps := ["_law_number"]) fun _ _ _ _ _ _ us hl => match us, hl with | [_], _ => rfl
  have g12 := PySem.W.mg_of X G a12
  have F13 := fun_mk (st := sW) l13 c13 k13
  have b13 := F13.binds (ps := ["_law_rows9"]) fun _ _ _ _ _ _ us hl => match us, hl with | [_], _ => rfl
  have g13 := PySem.W.mg_of X G a13
  have F14 := fun_mk (st := sBM) l14 c14 k14
  have b14 := F14.binds (ps := ["_law_bag_here"]) fun _ _ _ _ _ _ us hl => match us, hl with | [_], _ => rfl
  have g14 := PySem.W.mg_of X G a14
  have F15 := fun_mk (st := sBD) l15 c15 k15
  have b15 := F15.binds (ps := ["_law_bag_here", "_law_size"]) fun _ _ _ _ _ _ us hl => match us, hl with | [_, _], _ => rfl
  have g15 := PySem.W.mg_of X G a15
  have n1 := PySem.W.mg_none_of X G z1
  have n2 := PySem.W.mg_none_of X G z2
  have n3 := PySem.W.mg_none_of X G z3
  have n4 := PySem.W.mg_none_of X G z4
  have n5 := PySem.W.mg_none_of X G z5
  have n6 := PySem.W.mg_none_of X G z6
  have n7 := PySem.W.mg_none_of X G z7
  have n8 := PySem.W.mg_none_of X G z8
  have n9 := PySem.W.mg_none_of X G z9
  have n10 := PySem.W.mg_none_of X G z10
  have n11 := PySem.W.mg_none_of X G z11
  have n12 := PySem.W.mg_none_of X G z12
  have n13 := PySem.W.mg_none_of X G z13
  have dD : ∃ cdD, PySem.W.clsIn K D = some cdD := by
    have isD' : (PySem.W.clsIn K D).isSome = true := isD
    exact Option.isSome_iff_exists.mp isD'
  have iT : PySem.CleX.InitTxt l.prog K mg D fI := ⟨n10, nT0, noT, dD, tI, _, _, _, _, _, _, _, _, _, _, _, _, _, _, _, _, _, _, _, _, _, _, _, _, _, _, _, by rfl, lI, cI, ⟨_, _, _, lT, rfl⟩, ⟨_, _, _, _, _, _, lA, vA, fA⟩, ⟨_, _, _, lX⟩⟩
  have isC' : (PySem.W.clsIn K C).isSome = true := isC
  have cls : PySem.CleX.ClsTxt K C D fI (.str "BadBox" tv) :=
    { cls := ⟨nm, q, N, bs, bm, sn, sub, ab, col, dd, m0, m1, m3, m5, xC, xB⟩, nvh := rfl, mD := mD, mO := mO, sup := sup, sVE := sVE, sa := sa, ga := ga, gg := gg, noN := nw, cl := PySem.W.findObj_dataE isC' cC cG cT, rd := rd, nm := nmC, iC := iC, kC := kC, exC := exC, tyC := tyC, hdC := hdC }
  have hE := exm_of exD isD tyD sCD
  have T1 : TS1 mg := ⟨n1, n2, n3, n4, n5, n6, n7, n8, n9⟩
  refine ⟨PySem.W.fnOf "law" "law" (defArgs sLaw) (defBody sLaw) (defScope sLaw) .none kVL dcL pmL anL (.ref c) ctL, [(c, Pt)], spLawT Pt K, fun p hp => by rw [List.mem_singleton.mp hp]; exact hP, fun p hp => by rw [List.mem_singleton.mp hp]; exact nP,
    fun p hp => by rw [List.mem_singleton.mp hp]; exact PySem.W.codeHd_of_K X hcP, fun s u => .of_eq rfl, fun H a ns hl _ hT hS => ⟨a, ns, rfl, hS, hl, hT _ List.mem_cons_self, fun _ => rfl⟩, fun base _ _ hTB => ?_⟩
  have gM' : ∃ u, mg "MOST" = some u ∧ RelV (.int 7) u := ⟨_, PySem.W.mg_of X G gM, ⟨_, rfl⟩⟩
  have TP : TxE l.prog K mg C D fI := ⟨iT, ⟨_, cls, ⟨_, rfl⟩⟩, PySem.W.mg_of X G gC, gM'⟩
  have G1 : FnOk l.prog w K mg base CX0 3 f1 _ ["many", "size"] spLots := ok_lots (k := 1) F1 ⟨n5, n9, n3, PySem.W.mg_of X G gK⟩ (ok_chk (k := 1) F2 gM') g2 F2.kp b2
  have G5 : FnOk l.prog w K mg base CX0 3 f5 _ ["row", "lot", "worths"] (spNw K) := ok_nw F5 n11 n7
  have G6 := ok_cb (w := w) (base := base) F6 TP n7 n12
  have G3 := ok_box (w := w) (base := base) F3 ⟨G6, g6, F6.kp, b6, G1, g1, F1.kp, b1, G5, g5, F5.kp, b5, n7, n11, n6, n9⟩
  have G4 := ok_bsg F4 G3 g3 F3.kp b3
  have GP : FnOk l.prog w K mg base CX0 1 f8 _ ["_law_bag_here", "_law_many"] spPull := ok_pull F8 n7
  have GO : FnOk l.prog w K mg base CX0 2 f9 _ ["_law_bag_here", "_law_some"] (spOf K) := ok_of F9 GP F8.kp b8 g8 n7
  have TLx : TL l.prog w K mg base C f7 f9 f10 f13 f12 f3 f4 f14 f15 f11 D D2 _ _ _ _ _ _ _ _ _ := { toTS1 := T1, B := ok_bag F7 n5, gB := g7, kB := F7.kp, bB := b7, O := GO, gO := g9, kO := F9.kp, bO := b9, S := ok_same F10 T1 b10 g10 3, gS := g10, kS := F10.kp, bS := b10, W := ok_worth F13 n7 n9 g13 b13 6, gW := g13, kW := F13.kp, bW := b13, G := ok_sg F12 n3, gG := g12, kG := F12.kp, bG := b12, X := G3, gX := g3, kX := F3.kp, bX := b3, bXk := kb_box F3, Y := G4, gY := g4, kY := F4.kp, bY := b4, bYk := kb_bsg F4, M := ok_bm F14 n9 n13 GP g8 F8.kp b8 GO g9 F9.kp b9, gM' := g14, kM := F14.kp, bM := b14, Dn := ok_bd F15 n9 GP g8 F8.kp b8 GO g9 F9.kp b9, gD := g15, kD := F15.kp, bD := b15, gT := g11, m1 := PySem.W.mg_of X G gD, m2 := PySem.W.mg_of X G gE }
  exact ok_law lL cL TLx TP hE (hTB _ List.mem_cons_self) F11 b11
end K4
open PySem PySem.W PyProof.Rows
set_option maxRecDepth 100000 in
set_option maxHeartbeats 0 in
theorem PySem.Challenge.cw_signcleave_k04_boxes_reckoned_holds : PySem.Challenge.rw_signcleave_k04_boxes_reckoned.Holds := by
  w_on; o_law; k_head; (case hw => w_witness2)
  k_fill
  refine LamX.walk_ofTs (l := PySem.Challenge.rw_signcleave_k04_boxes_reckoned) (n := 63) (k := 8) (x := "_law_script") (CX := fun _ => L2.CX0) rfl (by decide) rfl ⟨rfl, by decide, by decide⟩ (fun w h Y => PySem.W.km_in_of Y) ?F (fun _ _ _ _ _ h => h)
  case F =>
    intro w mg fa h Y KX G hmg
    refine' K4.all_mk KX G hmg ?a1 ?l1 ?c1 ?k1 ?a2 ?l2 ?c2 ?k2 ?a3 ?l3 ?c3 ?k3 ?a4 ?l4 ?c4 ?k4 ?a5 ?l5 ?c5 ?k5 ?a6 ?l6 ?c6 ?k6 ?a7 ?l7 ?c7 ?k7 ?a8 ?l8 ?c8 ?k8 ?a9 ?l9 ?c9 ?k9 ?a10 ?l10 ?c10 ?k10 ?a11 ?l11 ?c11 ?k11 ?a12 ?l12 ?c12 ?k12 ?a13 ?l13 ?c13 ?k13 ?a14 ?l14 ?c14 ?k14 ?a15 ?l15 ?c15 ?k15 ?aL ?lL ?cL ?z1 ?z2 ?z3 ?z4 ?z5 ?z6 ?z7 ?z8 ?z9 ?z10 ?z11 ?z12 ?z13 ?gK ?gM ?gC ?gD ?gE ?xC ?xB ?xD ?iC ?tI ?lI ?cI ?lT ?lA ?vA ?fA ?lX ?nT0 ?noT ?mD ?mO ?sup ?sVE ?sa ?ga ?gg ?nw ?cC ?rd ?nmC ?kC ?exC ?tyC ?hdC ?isC ?sCD ?cG ?cT ?exD ?isD ?tyD ?hP ?nP ?hcP
    (case a1 => first | k_is | ks_is | kernel_rfl | decide +kernel)
    (case l1 => first | k_is | ks_is | kernel_rfl | decide +kernel)
    (case c1 => first | k_is | ks_is | kernel_rfl | decide +kernel)
    (case k1 => first | k_is | ks_is | kernel_rfl | decide +kernel)
    (case a2 => first | k_is | ks_is | kernel_rfl | decide +kernel)
    (case l2 => first | k_is | ks_is | kernel_rfl | decide +kernel)
    (case c2 => first | k_is | ks_is | kernel_rfl | decide +kernel)
    (case k2 => first | k_is | ks_is | kernel_rfl | decide +kernel)
    (case a3 => first | k_is | ks_is | kernel_rfl | decide +kernel)
    (case l3 => first | k_is | ks_is | kernel_rfl | decide +kernel)
    (case c3 => first | k_is | ks_is | kernel_rfl | decide +kernel)
    (case k3 => first | k_is | ks_is | kernel_rfl | decide +kernel)
    (case a4 => first | k_is | ks_is | kernel_rfl | decide +kernel)
    (case l4 => first | k_is | ks_is | kernel_rfl | decide +kernel)
    (case c4 => first | k_is | ks_is | kernel_rfl | decide +kernel)
    (case k4 => first | k_is | ks_is | kernel_rfl | decide +kernel)
    (case a5 => first | k_is | ks_is | kernel_rfl | decide +kernel)
    (case l5 => first | k_is | ks_is | kernel_rfl | decide +kernel)
    (case c5 => first | k_is | ks_is | kernel_rfl | decide +kernel)
    (case k5 => first | k_is | ks_is | kernel_rfl | decide +kernel)
    (case a6 => first | k_is | ks_is | kernel_rfl | decide +kernel)
    (case l6 => first | k_is | ks_is | kernel_rfl | decide +kernel)
    (case c6 => first | k_is | ks_is | kernel_rfl | decide +kernel)
    (case k6 => first | k_is | ks_is | kernel_rfl | decide +kernel)
    (case a7 => first | k_is | ks_is | kernel_rfl | decide +kernel)
    (case l7 => first | k_is | ks_is | kernel_rfl | decide +kernel)
    (case c7 => first | k_is | ks_is | kernel_rfl | decide +kernel)
    (case k7 => first | k_is | ks_is | kernel_rfl | decide +kernel)
    (case a8 => first | k_is | ks_is | kernel_rfl | decide +kernel)
    (case l8 => first | k_is | ks_is | kernel_rfl | decide +kernel)
    (case c8 => first | k_is | ks_is | kernel_rfl | decide +kernel)
    (case k8 => first | k_is | ks_is | kernel_rfl | decide +kernel)
    (case a9 => first | k_is | ks_is | kernel_rfl | decide +kernel)
    (case l9 => first | k_is | ks_is | kernel_rfl | decide +kernel)
    (case c9 => first | k_is | ks_is | kernel_rfl | decide +kernel)
    (case k9 => first | k_is | ks_is | kernel_rfl | decide +kernel)
    (case a10 => first | k_is | ks_is | kernel_rfl | decide +kernel)
    (case l10 => first | k_is | ks_is | kernel_rfl | decide +kernel)
    (case c10 => first | k_is | ks_is | kernel_rfl | decide +kernel)
    (case k10 => first | k_is | ks_is | kernel_rfl | decide +kernel)
    (case a11 => first | k_is | ks_is | kernel_rfl | decide +kernel)
    (case l11 => first | k_is | ks_is | kernel_rfl | decide +kernel)
    (case c11 => first | k_is | ks_is | kernel_rfl | decide +kernel)
    (case k11 => first | k_is | ks_is | kernel_rfl | decide +kernel)
    (case a12 => first | k_is | ks_is | kernel_rfl | decide +kernel)
    (case l12 => first | k_is | ks_is | kernel_rfl | decide +kernel)
    (case c12 => first | k_is | ks_is | kernel_rfl | decide +kernel)
    (case k12 => first | k_is | ks_is | kernel_rfl | decide +kernel)
    (case a13 => first | k_is | ks_is | kernel_rfl | decide +kernel)
    (case l13 => first | k_is | ks_is | kernel_rfl | decide +kernel)
    (case c13 => first | k_is | ks_is | kernel_rfl | decide +kernel)
    (case k13 => first | k_is | ks_is | kernel_rfl | decide +kernel)
    (case a14 => first | k_is | ks_is | kernel_rfl | decide +kernel)
    (case l14 => first | k_is | ks_is | kernel_rfl | decide +kernel)
    (case c14 => first | k_is | ks_is | kernel_rfl | decide +kernel)
    (case k14 => first | k_is | ks_is | kernel_rfl | decide +kernel)
    (case a15 => first | k_is | ks_is | kernel_rfl | decide +kernel)
    (case l15 => first | k_is | ks_is | kernel_rfl | decide +kernel)
    (case c15 => first | k_is | ks_is | kernel_rfl | decide +kernel)
    (case k15 => first | k_is | ks_is | kernel_rfl | decide +kernel)
    (case aL => first | k_is | ks_is | kernel_rfl | decide +kernel)
    (case lL => first | k_is | ks_is | kernel_rfl | decide +kernel)
    (case cL => first | k_is | ks_is | kernel_rfl | decide +kernel)
    (case z1 => first | k_is | ks_is | kernel_rfl | decide +kernel)
    (case z2 => first | k_is | ks_is | kernel_rfl | decide +kernel)
    (case z3 => first | k_is | ks_is | kernel_rfl | decide +kernel)
    (case z4 => first | k_is | ks_is | kernel_rfl | decide +kernel)
    (case z5 => first | k_is | ks_is | kernel_rfl | decide +kernel)
    (case z6 => first | k_is | ks_is | kernel_rfl | decide +kernel)
    (case z7 => first | k_is | ks_is | kernel_rfl | decide +kernel)
    (case z8 => first | k_is | ks_is | kernel_rfl | decide +kernel)
    (case z9 => first | k_is | ks_is | kernel_rfl | decide +kernel)
    (case z10 => first | k_is | ks_is | kernel_rfl | decide +kernel)
    (case z11 => first | k_is | ks_is | kernel_rfl | decide +kernel)
    (case z12 => first | k_is | ks_is | kernel_rfl | decide +kernel)
    (case z13 => first | k_is | ks_is | kernel_rfl | decide +kernel)
    (case gK => first | k_is | ks_is | kernel_rfl | decide +kernel)
    (case gM => first | k_is | ks_is | kernel_rfl | decide +kernel)
    (case gC => first | k_is | ks_is | kernel_rfl | decide +kernel)
    (case gD => first | k_is | ks_is | kernel_rfl | decide +kernel)
    (case gE => first | k_is | ks_is | kernel_rfl | decide +kernel)
    (case xC => first | k_is | ks_is | kernel_rfl | decide +kernel)
    (case xB => decide +kernel)
    (case xD => first | k_is | ks_is | kernel_rfl | decide +kernel)
    (case iC => first | k_is | ks_is | kernel_rfl | decide +kernel)
    (case tI => first | k_is | ks_is | kernel_rfl | decide +kernel)
    (case lI => first | k_is | ks_is | kernel_rfl | decide +kernel)
    (case cI => first | k_is | ks_is | kernel_rfl | decide +kernel)
    (case lT => first | k_is | ks_is | kernel_rfl | decide +kernel)
    (case lA => first | k_is | ks_is | kernel_rfl | decide +kernel)
    (case vA => rfl)
    (case fA => decide +kernel)
    (case lX => first | k_is | ks_is | kernel_rfl | decide +kernel)
    (case nT0 => decide +kernel)
    (case noT => first | k_is | ks_is | kernel_rfl | decide +kernel)
    (case mD => first | k_is | ks_is | kernel_rfl | decide +kernel)
    (case mO => first | k_is | ks_is | kernel_rfl | decide +kernel)
    (case sup => first | k_is | ks_is | kernel_rfl | decide +kernel)
    (case sVE => first | k_is | ks_is | kernel_rfl | decide +kernel)
    (case sa => first | k_is | ks_is | kernel_rfl | decide +kernel)
    (case ga => first | k_is | ks_is | kernel_rfl | decide +kernel)
    (case gg => first | k_is | ks_is | kernel_rfl | decide +kernel)
    (case nw => first | k_is | ks_is | kernel_rfl | decide +kernel)
    (case cC => first | k_is | ks_is | kernel_rfl | decide +kernel)
    (case rd => first | k_is | ks_is | kernel_rfl | decide +kernel)
    (case nmC => first | k_is | ks_is | kernel_rfl | decide +kernel)
    (case kC => first | k_is | ks_is | kernel_rfl | decide +kernel)
    (case exC => first | k_is | ks_is | kernel_rfl | decide +kernel)
    (case tyC => first | k_is | ks_is | kernel_rfl | decide +kernel)
    (case hdC => first | k_is | ks_is | kernel_rfl | decide +kernel)
    (case isC => first | k_is | ks_is | kernel_rfl | decide +kernel)
    (case sCD => first | k_is | ks_is | kernel_rfl | decide +kernel)
    (case cG => first | k_is | ks_is | kernel_rfl | decide +kernel)
    (case cT => first | k_is | ks_is | kernel_rfl | decide +kernel)
    (case exD => first | k_is | ks_is | kernel_rfl | decide +kernel)
    (case isD => first | k_is | ks_is | kernel_rfl | decide +kernel)
    (case tyD => first | k_is | ks_is | kernel_rfl | decide +kernel)
    (case hP => exact PySem.W.km_tabs_of Y _ (by simp; rfl))
    (case nP => first | k_is | ks_is | kernel_rfl | decide +kernel)
    (case hcP => first | k_is | ks_is | kernel_rfl | decide +kernel)
