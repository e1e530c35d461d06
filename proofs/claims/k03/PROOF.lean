import PyProof.Rows.All
import Wide.All
import OpenK.AllK
import Wide.FinOn
import HandS.ForMost
import HandS.IsInst
import HandS.Codes
import HandS.Conv
import HandS.Style
import KE.GoesEnum
import PySem.Challenge.RW_signcleave_k03_signs_of_orders
set_option Elab.async false
set_option linter.all false
set_option maxRecDepth 100000
namespace ET
open PySem PySem.Spec PyProof.Rows L2
/-! enumerate(t), t a tuple -/
theorem new_enumT {t : Addr} {items : Array Value} :
    Meets (Builtin.«enumerate.__new__» ⟨[.type "enumerate", .ref t], []⟩)
      (fun _ R s => s.heap.IsTuple t items ∧ R (.ok (.ret (.ref (s.heap.objs.size + 1))))
        { s with heap := (s.heap.push { cls := .type "tuple_iterator", data := .fields #[.ref t, .int 0 0] }).push { cls := .type "enumerate", data := .fields #[.none, .bool false, .ref s.heap.objs.size, rawInt 0, .none, .none] } }) :=
  .of_wp fun prog w A R s hyp => by
    obtain ⟨hp, g, d, tk, os⟩ := s
    obtain ⟨isT, rr⟩ := hyp
    have isSub := sub_enumerate
    have it1 : ∀ {A' : Around} {E Q : Value → Shared → Prop}, Q (.ref hp.objs.size) ⟨hp.push { cls := .type "tuple_iterator", data := .fields #[.ref t, .int 0 0] }, g, d, tk, os⟩ → wpAny (model prog w) A' (pyIter (.ref t)) Q E ⟨hp, g, d, tk, os⟩ :=
      fun q => wpAny_pyIter_tuple isT q
    have hz : (hp.push { cls := .type "tuple_iterator", data := .fields #[.ref t, .int 0 0] }).objs.size = hp.objs.size + 1 := Heap.size_push ..
    wp_walk using it1
    refine wpAny_stack_any fun st => wpAny_pure ?_
    split
    · rename_i c _ _ _ _ _
      cases (c == Value.type "enumerate") <;> (wp_walk using it1; rw [hz]; exact ⟨_, rfl, rr⟩)
    · wp_walk using it1
      rw [hz]
      exact ⟨_, rfl, rr⟩
theorem call_enumT {prog : Program} {w : World} {A : Around} {E : Value → Shared → Prop} {s : Shared} {t : Addr} {items : Array Value} {Q : Value → Shared → Prop} (isT : s.heap.IsTuple t items)
    (h : ∀ h', IsEnum h' (s.heap.objs.size + 1) s.heap.objs.size 0 .none → h'.IsTupleIter s.heap.objs.size t 0 →
      (∀ b o, s.heap.get? b = some o → h'.get? b = some o) → Q (.ref (s.heap.objs.size + 1)) { s with heap := h' }) :
    wpAny (model prog w) A (call (.type "enumerate") [.ref t]) Q E s := by
  refine callType_new F.called_enumerate (by decide) (F.typeCall_enumerate_1 _) (F.newCall_enumerate_1 _) (fun obj => F.args_object_init_2 obj _) F.entry_enumerate_new (new_enumT (items := items)) ⟨isT, ?_⟩
  have hz : (s.heap.push { cls := .type "tuple_iterator", data := .fields #[.ref t, .int 0 0] }).objs.size = s.heap.objs.size + 1 := Heap.size_push ..
  have he : ∀ o, o.isFreed = false → ((s.heap.push { cls := .type "tuple_iterator", data := .fields #[.ref t, .int 0 0] }).push o).get? (s.heap.objs.size + 1) = some o := fun o hf => by
    have q := Heap.get?_push_size (s.heap.push { cls := .type "tuple_iterator", data := .fields #[.ref t, .int 0 0] }) (o := o) hf
    rw [hz] at q
    exact q
  exact ⟨⟨_, he _ rfl, rfl⟩, h _ (he _ rfl) ⟨_, Heap.get?_push_of_some _ (Heap.get?_push_size _ rfl), rfl, rfl⟩ fun b o x => Heap.get?_push_of_some _ (Heap.get?_push_of_some _ x)⟩
/-- the tuple at a, item by item, each in a new pair -/
def IteT (K : PySem.W.Frag) (a : Addr) : It where
  go := fun i H => ∃ (xs : List V) (x : V), SqT K H a xs ∧ xs[i]? = some x
  yld := fun i H v H' => ∃ T x, v = .ref T ∧ H T = none ∧ H' = upd H T (.tup [.int (i : Nat), x]) ∧ ∀ xs, SqT K H a xs → xs[i]? = some x
  stop := fun i H => ∃ xs : List V, SqT K H a xs ∧ xs.length ≤ i
theorem turn_enumT {P : Program} {w : World} {K : PySem.W.Frag} {elts : List Expr} {kk : Nat} {tpos : Pos} (a e it : Addr) (hai : a ≠ it) (hae : a ≠ e) (hei : e ≠ it) :
    Turn P w K (.Tuple elts kk tpos) (IteT K a) [e, it] e (fun i h => (∃ old, IsEnum h e it ((i : Nat) : Int) old) ∧ h.IsTupleIter it a i) where
  mem := List.mem_cons_self
  obj := fun i h st b hb => by
    obtain ⟨⟨old, he⟩, o, ho, hc, hd⟩ := st
    rcases List.mem_cons.mp hb with z | z
    · subst z
      exact ⟨_, he, fun v q => nomatch q⟩
    · rw [List.mem_singleton.mp z]
      exact ⟨o, ho, fun v q => by rw [hd] at q; cases q⟩
  keep := fun i h h' st k => by
    obtain ⟨⟨old, he⟩, hi⟩ := st
    exact ⟨⟨old, k e (by simp) _ he⟩, hi.at fun o q => k it (by simp) o q⟩
  item := by
    rintro X rfl rfl rfl hc i pins s σ H E I hf ⟨⟨old, he⟩, hit⟩ ⟨xs, x, hq, hx⟩
    obtain ⟨its, rv, p, hz⟩ := I.tuple hq
    obtain ⟨u, hu, ru⟩ := rv.get hx
    have hp : s.heap.IsTuple a its.toArray := p
    have hel : e < s.heap.objs.size := Heap.lt_size he
    have hil : it < s.heap.objs.size := by
      obtain ⟨_, q, _⟩ := hit
      exact Heap.lt_size q
    have hlt : i < its.toArray.size := by
      have q := (List.getElem?_eq_some_iff.mp hu).1
      simpa using q
    refine wpAny_pyNext_enum_itemD (Draws.tuple (A := X.A.in1) (I.ok.hd hc) it a hai its.toArray) he ⟨hit, hp⟩ hlt hei (by simp [hei, Ne.symm hae]) fun y h' tk hy ho hit' hT hsz hk => ?_
    have ey : y = u := by
      have q : its[i]? = some y := by simpa using hy
      rw [hu] at q
      exact (Option.some.inj q).symm
    subst ey
    refine ⟨_, rfl, wpAny_letOwnedTupleGo_enum (s := { s with heap := h', toks := tk + 1 }) ho fun h'' he' sb => ?_⟩
    have hT2 : h''.get? s.heap.objs.size = some { cls := .type "tuple", data := .seq #[.int i tk, y] } := (sb.2 _ (Nat.ne_of_gt hel)).trans hT
    have pairOk : ObjOk X.prog X.w (upd H s.heap.objs.size (.tup [.int (i : Nat), x])) h'' s.heap.objs.size
        (.tup [.int (i : Nat), x]) := ⟨by show 2 ≤ sizeLine; decide, [.int i tk, y], .cons ⟨_, rfl⟩ (.cons ru .nil), _, hT2, rfl, _, rfl⟩
    have stays : ∀ c oc, c ∉ [e, it] → s.heap.get? c = some oc → h''.get? c = some oc := fun c oc hc' z => by
      have n1 : c ≠ e := fun z1 => hc' (by simp [z1])
      have n2 : c ≠ it := fun z1 => hc' (by simp [z1])
      exact (sb.2 c n1).trans (hk c oc n1 n2 z)
    have I1 : Inv X pins σ (upd H s.heap.objs.size (.tup [.int (i : Nat), x])) { s with heap := h'', toks := tk + 1 } :=
      I.turnedNew (ch := [e, it]) stays hf (Nat.le_refl _) pairOk
    have e1 : ((i + 1 : Nat) : Int) = (i : Int) + 1 := by omega
    refine ⟨.ref s.heap.objs.size, _, I1, rfl, ⟨_, x, rfl, I.hok.fresh (Nat.le_refl _), rfl, fun ys hy => by rw [I.tuple_inj hy hq]; exact hx⟩, ⟨⟨y, by rw [e1]; exact he'⟩, hit'.1.at fun o q => (sb.2 it (Ne.symm hei)).trans q⟩, fun b hb => ?_⟩
    have hb' : b < s.heap.objs.size := by
      rcases List.mem_cons.mp hb with z | z
      · rw [z]; exact hel
      · rw [List.mem_singleton.mp z]; exact hil
    rw [upd_ne (Nat.ne_of_lt hb')]
    exact (hf b hb).1
  done := by
    rintro X rfl rfl rfl hc i pins s σ H E I hf ⟨⟨old, he⟩, hit⟩ ⟨xs, hq, hx⟩
    obtain ⟨its, rv, p, hz⟩ := I.tuple hq
    have hp : s.heap.IsTuple a its.toArray := p
    obtain ⟨f0, f1, f2, f3, f4, f5⟩ := hf it (by simp)
    have hl := rv.length
    unfold pyNext
    refine wpAny_bind (wpAny_attempt (wpAny_callSpecial?_slot (name := Str.ofString "__next__") ⟨_, he, rfl⟩ F.slot_enumerate_next (wpAny_call_entry F.slot_enumerate_next ⟨_, he, rfl⟩ F.entry_enumerate_next ?_ (F.args_enumerate_next_1 _))))
    show wpAny _ _ (field (.ref e) 2 >>= _) _ _ _
    refine wpAny_bind (wpAny_field he rfl (x := .ref it) rfl (wpAny_bind (wpAny_nextOf_tuple_end (A := X.A.in1) (I.ok.hd hc) hit hp (by simp; omega) fun h' x eb hx' => ?_)))
    obtain ⟨o, ho, hcl⟩ := hx'
    exact wpAny_bind (wpAny_isInstance (T := "StopIteration") (b := true) ⟨o, ho, hcl⟩ isSubtype_stop (wpAny_pure ⟨rfl, I.turned (t' := s.toks) (fun b o hb q => eb b o hb q) f0 f1 f3 f4 f5⟩))
  self := fun A i s Q E st h => by
    obtain ⟨⟨_, he⟩, _⟩ := st
    exact wpAny_pyIter_enum he h
def iEnumT (K : PySem.W.Frag) (ta : TA) : TI := fun σ H R => ta σ H fun vs H1 => ∃ a xs, vs = [.ref a] ∧ SqT K H1 a xs ∧ R (IteT K a) H1
theorem pi_enumT {X : Cx} {e : Expr} {ta : TA} {p pos tpos : Pos} {elts : List Expr} {kk : Nat} (hg : Gl X "enumerate") (hm : X.mg "enumerate" = none) (ha : PA X [e] ta)
    (hs : starEach [e] X.env = [(false, eval e X.env)] := by rfl) : PI X (.Tuple elts kk tpos) (.Call (.Name "enumerate" p) [e] [] pos) (iEnumT X.K ta) := by
  refine ⟨fun pins s σ H R I h => Call_ (ld_blt I hg hm boot_enumerate (PyProof.Rows.callWith_type1 (thn (ha.run pos pins s σ H _ I h) fun us s1 h1 => ?_) hs rfl))⟩
  obtain ⟨vs, H1, I1, r1, a, xs, rfl, hq, q⟩ := h1
  cases r1 with
  | cons r rr =>
    cases rr
    cases r
    obtain ⟨its, rv, p', hz⟩ := I1.tuple hq
    have hp : s1.heap.IsTuple a its.toArray := p'
    have hlt : a < s1.heap.objs.size := IsTup.lt p'
    refine call_enumT hp fun h' he hit hk => wpAny_pyIter_enum he ?_
    have I2 : Inv X pins σ H1 { s1 with heap := h' } := I1.kept (t' := s1.toks) hk
    refine ⟨s1.heap.objs.size + 1, [s1.heap.objs.size + 1, s1.heap.objs.size], _, _, H1, rfl, I2, turn_enumT a (s1.heap.objs.size + 1) s1.heap.objs.size (Nat.ne_of_lt hlt) (Nat.ne_of_lt (Nat.lt_succ_of_lt hlt)) (Nat.succ_ne_self _), ⟨⟨.none, he⟩, hit⟩, fun b hb => ?_, q⟩
    have hb' : s1.heap.objs.size ≤ b := by
      rcases List.mem_cons.mp hb with z | z
      · rw [z]; exact Nat.le_succ _
      · rw [List.mem_singleton.mp z]; exact Nat.le_refl _
    exact I1.fpOk hb' (I1.hok.fresh hb')
end ET

namespace K3
open PySem PySem.Spec PyProof.Rows L2
def topS (i : Nat) : Stmt := PySem.Challenge.pw_signcleave_k03_signs_of_orders.main.body.getD i (.Pass ⟨0, 0, 0, 0⟩)
abbrev sBag : Stmt := topS 3
abbrev sPull : Stmt := topS 4
abbrev sOf : Stmt := topS 5
theorem scPull : FnScope ["_law_bag_here", "_law_many", "_law_cell", "_law_got", "_law_base", "_law_twice"] ["_law_bag_here", "_law_many"] (defScope sPull) := ⟨rfl, rfl, rfl, by decide +kernel, rfl, by decide +kernel, by decide +kernel⟩
theorem scBag : FnScope ["_law_script", "_law_salt", "_law_cell"] ["_law_script"] (defScope sBag) := ⟨rfl, rfl, rfl, by decide +kernel, rfl, by decide +kernel, by decide +kernel⟩
theorem scOf : FnScope ["_law_bag_here", "_law_some"] ["_law_bag_here", "_law_some"] (defScope sOf) := ⟨rfl, rfl, rfl, by decide +kernel, rfl, by decide +kernel, by decide +kernel⟩

/-! ### the bag -/
def bagv (l : Addr) (i bank salt c : Int) : List V := [.ref l, .int i, .int bank, .int salt, .int c]
structure BagAt (l : Addr) (ns : List Int) (H : Hp) (b : Addr) : Prop where
  ne : l ≠ b
  ls : H l = some (.lst (ns.map V.int))
  ex : ∃ i bank salt c, H b = some (.lst (bagv l i bank salt c)) ∧ 0 ≤ i ∧ 0 ≤ bank ∧ 0 ≤ salt ∧ salt < 2147483629
def spPull : Sp := fun vs H Q _ => ∃ (b l : Addr) (m : Int) (ns : List Int), vs = [.ref b, .int m] ∧ 0 < m ∧ m < 1073741824 ∧ BagAt l ns H b ∧
  ∀ r xs, 0 ≤ r → r < m → BagAt l ns (upd H b (.lst xs)) b → Q (.int r) (upd H b (.lst xs))
theorem BagAt.put {l b : Addr} {ns : List Int} {H : Hp} (B : BagAt l ns H b) {i bank salt c : Int} (h1 : 0 ≤ i) (h2 : 0 ≤ bank) (h3 : 0 ≤ salt) (h4 : salt < 2147483629) : BagAt l ns (upd H b (.lst (bagv l i bank salt c))) b :=
  ⟨B.ne, by rw [upd_ne B.ne]; exact B.ls, i, bank, salt, c, upd_same, h1, h2, h3, h4⟩
theorem upd_self {H : Hp} {a : Addr} {o : HO} (h : H a = some o) : upd H a o = H := by
  funext b
  unfold upd
  split
  · rename_i e
    rw [e, h]
  · rfl
theorem mul_const {j : Int} (h : -(2 ^ 64) < j ∧ j < 2 ^ 64) (i : Int) : CMul i j := .inr h
section
variable {P : Program} {w : World} {K : PySem.W.Frag} {mg : Str → Option Value} {base : Heap}
theorem ok_pull {f : Addr} {fd : FuncData} {k : Nat} (F : Fun K "_law_pull" "_law_pull" sPull f fd) (ml : mg "len" = none) : FnOk P w K mg base CX0 (k + 1) f fd ["_law_bag_here", "_law_many"] spPull := by
  refine F.ok scPull (fun vs H Q E h => ?_) (fun cdv A outer s H vs Q E hr h => ?_)
  · obtain ⟨b, l, m, ns, rfl, _⟩ := h
    rfl
  · obtain ⟨b, l, m, ns, rfl, m0, m1, B, q⟩ := h
    refine ⟨_, C8.pss_cut (ps_if (PW.pt (pw_and (pt_cmpR op_lt (pe_ix ix_list (pv 0) pe_int (fun _ _ => rfl)) pe_int (nomark _))
          (pw_and1 (pt_cmpR op_lt (pe_ix ix_list (pv 0) pe_int (fun _ _ => rfl)) (pe_callB call_len_seq (by rfl) ml PySem.boot_len (pa_cons (pe_ix ix_list (pv 0) pe_int (fun _ _ => rfl)) pa_nil)) (nomark _)))))
        (pss_cons (ps_set (i := 2) scPull.nd rfl (Or.inl rfl) (pe_ix ix_list (pe_ix ix_list (pv 0) pe_int (fun _ _ => rfl)) (pe_ix ix_list (pv 0) pe_int (fun _ _ => rfl)) (fun _ _ => rfl)))
        (pss_cons (ps_asg (pe_op op_add (pe_ix ix_list (pv 0) pe_int (fun _ _ => rfl)) pe_int) (pg_sub (pv 0) pe_int set_list))
        (pss_one (ps_if (pt_cmpR op_ge (pv 2) (pe_op op_pow pe_int pe_int) (nomark _))
          (pss_one (ps_asg (pv 2) (pg_sub (pv 0) pe_int set_list)))
          (pss_one (ps_asg (pe_op op_mod (pe_op op_add (pe_op op_add (pe_op op_mul (pe_ix ix_list (pv 0) pe_int (fun _ _ => rfl)) pe_int) (pe_op op_mod (pv 2) pe_int)) pe_int) pe_int) (pg_sub (pv 0) pe_int set_list)))))))
        pss_nil)
      (pss_cons (ps_if (pt_cmpR op_gt (pe_ix ix_list (pv 0) pe_int (fun _ _ => rfl)) pe_int (nomark _))
        (pss_cons (ps_set (i := 3) scPull.nd rfl (Or.inl rfl) (pe_op op_mod (pe_ix ix_list (pv 0) pe_int (fun _ _ => rfl)) (pv 1)))
        (pss_cons (ps_asg (pe_op op_fdiv (pe_ix ix_list (pv 0) pe_int (fun _ _ => rfl)) (pv 1)) (pg_sub (pv 0) pe_int set_list))
        (pss_one (ps_ret (pv 3)))))
        pss_nil)
      (pss_cons (ps_asg (pe_op op_add (pe_ix ix_list (pv 0) pe_int (fun _ _ => rfl)) pe_int) (pg_sub (pv 0) pe_int set_list))
      (pss_cons (ps_set (i := 4) scPull.nd rfl (Or.inl rfl) (pe_op op_mod (pe_op op_add (pe_ix ix_list (pv 0) pe_int (fun _ _ => rfl)) (pe_op op_mul (pe_ix ix_list (pv 0) pe_int (fun _ _ => rfl)) pe_int)) pe_int))
      (pss_cons (ps_set (i := 5) scPull.nd rfl (Or.inl rfl) (pe_op op_mul (pe_op op_mod (pe_op op_mul (pv 4) (pv 4)) pe_int) (pe_op op_add (pe_op op_mod (pv 4) pe_int) pe_int)))
      (pss_cons (ps_asg (pe_op op_mod (pe_op op_add (pe_op op_add (pv 5) (pe_op op_mul pe_int (pv 4))) pe_int) pe_int) (pg_sub (pv 0) pe_int set_list))
      (pss_one (ps_ret (pe_op op_mod (pe_op op_add (pe_op op_fdiv (pe_ix ix_list (pv 0) pe_int (fun _ _ => rfl)) pe_int) (pe_op op_mul (pe_op op_mod (pe_ix ix_list (pv 0) pe_int (fun _ _ => rfl)) pe_int) pe_int)) (pv 1))))))))), ?_⟩
    obtain ⟨bl, ls, i, bank, salt, c, hB, i0, b0, s0, s1⟩ := id B
    have len5 : ∀ {i bank salt c : Int}, SqL K (upd H b (.lst (bagv l i bank salt c))) b (bagv l i bank salt c) := SqL.of upd_same
    have lsU : ∀ {xs : List V}, SqL K (upd H b (.lst xs)) l (ns.map V.int) := SqL.of (by rw [upd_ne bl]; exact ls)
    refine ⟨fun σ' H' => ∃ x2 i bank salt c, σ' = [some (.ref b), some (.int m), x2, none, none, none] ∧ H' = upd H b (.lst (bagv l i bank salt c)) ∧ 0 ≤ i ∧ 0 ≤ bank ∧ 0 ≤ salt ∧ salt < 2147483629, ?_, ?_⟩
    · have hself : upd H b (.lst (bagv l i bank salt c)) = H := upd_self hB
      refine ⟨_, rfl, b, _, 2, _, rfl, rfl, SqL.of hB, rfl, _, _, rfl, rfl, _, rfl, ite2 (fun h1 => ?_) (fun h1 => ?_)⟩
      · refine ⟨_, rfl, b, _, 1, _, rfl, rfl, SqL.of hB, rfl, _, rfl, b, _, 0, _, rfl, rfl, SqL.of hB, rfl, l, _, rfl, .inl (SqL.of ls), _, _, rfl, rfl, _, rfl, ite2 (fun h2 => ?_) (fun h2 => ?_)⟩
        · have hi : i < (ns.length : Int) := by
            have q := of_decide_eq_true h2
            rw [List.length_map] at q
            exact q
          obtain ⟨j, rfl⟩ : ∃ j : Nat, i = (j : Int) := ⟨i.toNat, by omega⟩
          have hj : j < ns.length := by omega
          refine ⟨_, rfl, b, _, 0, _, rfl, rfl, SqL.of hB, rfl, _, rfl, b, _, 1, _, rfl, rfl, SqL.of hB, rfl, l, _, _, .int ns[j], rfl, rfl, SqL.of ls, atI_nat (by rw [List.getElem?_map, List.getElem?_eq_getElem hj]; rfl), ?_⟩
          refine ⟨_, rfl, b, _, 1, _, rfl, rfl, SqL.of hB, rfl, _, _, rfl, rfl, _, rfl, b, _, 1, 1, rfl, rfl, hB, rfl, ?_⟩
          refine ⟨_, rfl, _, _, rfl, rfl, (by show (0:Int) ≤ 18 ∧ (18:Int) ≤ 1000000 ∧ (10 : Int).natAbs < 2 ^ 64; decide), _, _, rfl, rfl, _, rfl, ite2 (fun h3 => ?_) (fun h3 => ?_)⟩
          · have h3' : (10 : Int) ^ 18 ≤ ns[j] := of_decide_eq_true h3
            refine ⟨_, rfl, _, rfl, b, _, 2, 2, rfl, rfl, upd_same, rfl, ?_⟩
            refine ⟨_, (j : Int) + 1, ns[j], salt, c, rfl, upd_upd, by omega, by omega, s0, s1⟩
          · refine ⟨_, rfl, b, _, 3, _, rfl, rfl, SqL.of upd_same, rfl, _, _, rfl, rfl, mul_const (by decide) _, _, rfl, _, _, rfl, rfl, (by show (0 : Int) < 2147483587; decide), _, _, rfl, rfl, _, _, rfl, rfl, _, _, rfl, rfl, (by show (0 : Int) < 2147483629; decide), _, rfl, b, _, 3, 3, rfl, rfl, upd_same, rfl, ?_⟩
            refine ⟨_, (j : Int) + 1, bank, _, c, rfl, upd_upd, by omega, b0, Int.emod_nonneg _ (by decide), Int.emod_lt_of_pos _ (by decide)⟩
        · exact ⟨none, i, bank, salt, c, rfl, hself.symm, i0, b0, s0, s1⟩
      · exact iteF ⟨none, i, bank, salt, c, rfl, hself.symm, i0, b0, s0, s1⟩
    · clear hB i0 b0 s0 s1 i bank salt c
      rintro σ' H' ⟨x2, i, bank, salt, c, rfl, rfl, i0, b0, s0, s1⟩
      refine ⟨_, rfl, b, _, 2, _, rfl, rfl, len5, rfl, _, _, rfl, rfl, _, rfl, ite2 (fun h1 => ?_) (fun h1 => ?_)⟩
      · refine ⟨_, rfl, b, _, 2, _, rfl, rfl, len5, rfl, _, rfl, _, _, rfl, rfl, m0, ?_⟩
        refine ⟨_, rfl, b, _, 2, _, rfl, rfl, len5, rfl, _, rfl, _, _, rfl, rfl, ⟨m0, m1⟩, _, rfl, b, _, 2, 2, rfl, rfl, upd_same, rfl, ?_⟩
        refine ⟨_, rfl, ?_⟩
        rw [upd_upd]
        exact q _ _ (Int.emod_nonneg _ (by omega)) (Int.emod_lt_of_pos _ m0) (B.put i0 (Int.ediv_nonneg b0 (by omega)) s0 s1)
      · refine ⟨_, rfl, b, _, 4, _, rfl, rfl, len5, rfl, _, _, rfl, rfl, _, rfl, b, _, 4, 4, rfl, rfl, upd_same, rfl, ?_⟩
        rw [upd_upd]
        refine ⟨_, rfl, b, _, 3, _, rfl, rfl, len5, rfl, _, rfl, b, _, 4, _, rfl, rfl, len5, rfl, _, _, rfl, rfl, mul_const (by decide) _, _, _, rfl, rfl, _, _, rfl, rfl, (by show (0 : Int) < 2147483629; decide), ?_⟩
        have e0 := Int.emod_nonneg (salt + (c + 1) * 6151) (show (2147483629 : Int) ≠ 0 by decide)
        have e1 := Int.emod_lt_of_pos (salt + (c + 1) * 6151) (show (0 : Int) < 2147483629 by decide)
        generalize (salt + (c + 1) * 6151) % 2147483629 = ba at e0 e1 ⊢
        refine ⟨_, rfl, _, rfl, _, _, rfl, rfl, .inl (by omega), _, _, rfl, rfl, (by show (0 : Int) < 2147483587; decide), _, rfl, _, _, rfl, rfl, (by show (0 : Int) < 40009; decide), _, _, rfl, rfl, _, _, rfl, rfl, .inl ?_, ?_⟩
        · have a0 := Int.emod_nonneg (ba * ba) (show (2147483587 : Int) ≠ 0 by decide)
          have a1 := Int.emod_lt_of_pos (ba * ba) (show (0 : Int) < 2147483587 by decide)
          omega
        refine ⟨_, rfl, _, rfl, _, _, rfl, rfl, .inl (by decide), _, _, rfl, rfl, _, _, rfl, rfl, _, _, rfl, rfl, (by show (0 : Int) < 2147483629; decide), _, rfl, b, _, 3, 3, rfl, rfl, upd_same, rfl, ?_⟩
        rw [upd_upd]
        refine ⟨_, rfl, b, _, 3, _, rfl, rfl, len5, rfl, _, _, rfl, rfl, (by show (0:Int) < 67 ∧ (67:Int) < 1073741824; decide), _, rfl, b, _, 3, _, rfl, rfl, len5, rfl, _, _, rfl, rfl, (by show (0 : Int) < 8209; decide), _, _, rfl, rfl, mul_const (by decide) _, _, _, rfl, rfl, _, rfl, _, _, rfl, rfl, m0, ?_⟩
        exact q _ _ (Int.emod_nonneg _ (by omega)) (Int.emod_lt_of_pos _ m0) (B.put i0 b0 (Int.emod_nonneg _ (by decide)) (Int.emod_lt_of_pos _ (by decide)))
end
end K3

namespace K3
open PySem PySem.Spec PyProof.Rows L2
/-! ### f(k = e, ..) without written places -/
theorem pe_callKw {X : Cx} {CX : CXT} {k : Nat} {f : Addr} {fd : FuncData} {ps ks : List Str} {sp : Sp} {g : List Value → List Value → List Value} {gV : List V → List V → List V} {E : XK} {tk : TA} {x : Str} {kws : List Keyword} {p pos : Pos}
    (F : FnOk X.prog X.w X.K X.mg X.base CX k f fd ps sp) (hr : Room k X.A) (hg : Gl X x) (hm : X.mg x = some (.ref f)) (hk : PySem.W.keepIn X.K (.ref f) = true) (hb : KBinds X.K fd ps ks g gV) (hx : Passes CX X E)
    (hkw : PK X kws tk) (hall : (backToKw pos (keywordEach kws X.env)).all (·.1.isSome) = true := by rfl) (hks : (backToKw pos (keywordEach kws X.env)).filterMap (·.1) = ks := by rfl)
    (hdb : (x == ("__debug__" : Str)) = false := by decide) (hpl : ((backTo pos (starEach [] X.env)).any (·.1) || (backToKw pos (keywordEach kws X.env)).any (·.1.isNone)) = false := by rfl) :
    PE X (.Call (.Name x p) [] kws pos) (tCallK sp gV E tNil tk) := by
  refine ⟨fun pins s σ H Q I h => wpAny_Call_Name_kw (ld_glob I hg hm ?_ hdb)⟩
  refine PySem.W.callWith_KW0 (h₀ := X.base) I.ok.mod.kin hk hall (thn (hkw.run pos pins s σ H _ I h) fun ws s2 hh => ?_) hpl
  obtain ⟨zs, H2, I2, rz, q2⟩ := hh
  refine ⟨I2.kIn, ?_⟩
  rw [hks]
  exact run_fnk F hr hb hx I2 .nil rz q2
/-! ### lists cut -/
theorem cutTo (xs : List V) (k : Nat) : cutV xs none (some (k : Int)) = xs.take k := by
  unfold cutV
  rw [HT.sIx_none, HT.sIx_nat, List.drop_zero, Nat.sub_zero]
  by_cases h : k ≤ xs.length
  · rw [Nat.min_eq_left h]
  · rw [Nat.min_eq_right (by omega), List.take_of_length_le (Nat.le_refl _), List.take_of_length_le (by omega)]
theorem cutFrom (xs : List V) (k : Nat) : cutV xs (some (k : Int)) none = xs.drop k := by
  unfold cutV
  rw [HT.sIx_none, HT.sIx_nat]
  by_cases h : k ≤ xs.length
  · rw [Nat.min_eq_left h]
    exact List.take_of_length_le (by rw [List.length_drop]; exact Nat.le_refl _)
  · rw [Nat.min_eq_right (by omega), List.drop_of_length_le (Nat.le_refl _), List.drop_of_length_le (by omega), List.take_nil]
theorem same_new {H : Hp} {p : Addr} {o : HO} (h : H p = none) : Same H (upd H p o) := fun b x e => by
  rw [upd_ne (ne_of_none e h)]
  exact e
theorem get_ints {ns : List Int} {i : Nat} {x : V} (h : (ns.map V.int)[i]? = some x) : ∃ v, x = .int v ∧ ns[i]? = some v := by
  rw [List.getElem?_map] at h
  cases e : ns[i]? with
  | none => rw [e] at h; cases h
  | some v => rw [e] at h; exact ⟨v, (Option.some.inj h).symm, rfl⟩
theorem ne_new {H : Hp} {p : Addr} {o : HO} {b : Addr} (h : (upd H p o) b = none) : b ≠ p := fun e => by
  rw [e, upd_same] at h
  cases h
theorem old_new {H : Hp} {p : Addr} {o : HO} {b : Addr} (h : (upd H p o) b = none) : H b = none := by
  rw [upd_ne (ne_new h)] at h
  exact h
/-! ### the bag made -/
def spBag (K : PySem.W.Frag) : Sp := fun vs H Q _ => ∃ (a : Addr) (ns : List Int), vs = [.ref a] ∧ SqL K H a (ns.map V.int) ∧
  ∀ H' l b ms, Same H H' → H l = none → H b = none → BagAt l ms H' b → Q (.ref b) H'
section
variable {P : Program} {w : World} {K : PySem.W.Frag} {mg : Str → Option Value} {base : Heap}
theorem ok_bag {f : Addr} {fd : FuncData} {k : Nat} (F : Fun K "_law_bag" "_law_bag" sBag f fd) (ml : mg "list" = none) : FnOk P w K mg base CX0 (k + 1) f fd ["_law_script"] (spBag K) := by
  refine F.ok scBag (fun vs H Q E h => ?_) (fun cdv A outer s H vs Q E hr h => ?_)
  · obtain ⟨a, ns, rfl, _⟩ := h
    rfl
  · obtain ⟨a, ns, rfl, hS, q⟩ := h
    refine ⟨_, pss_cons (ps_set (i := 1) scBag.nd rfl (Or.inl rfl) pe_int)
      (pss_cons (ps_for PassesOwn.never rfl (pi_list (pe_slice sl_list (pv 0) po_none (po_some pe_int))) (pg_name (i := 2) scBag.nd rfl (Or.inl rfl))
        (pss_one (ps_set (i := 1) scBag.nd rfl (Or.inl rfl) (pe_op op_mod (pe_op op_add (pe_op op_add (pe_op op_mul (pv 1) pe_int) (pv 2)) pe_int) pe_int))))
      (pss_one (ps_ret (pe_lst (pa_cons (pe_callTy call_list_of (by rfl) ml (by decide +kernel) (pa_cons (pe_slice sl_list (pv 0) po_none (po_some pe_int)) pa_nil))
        (pa_cons pe_int (pa_cons pe_int (pa_cons (pv 1) (pa_cons pe_int pa_nil))))))))), ?_⟩
    have cutN : cutV (ns.map V.int) none (some 63) = (ns.take 63).map V.int := by
      rw [show (63 : Int) = ((63 : Nat) : Int) from rfl, cutTo, List.map_take]
    refine ⟨_, rfl, 63, rfl, a, ns.map V.int, rfl, hS, fun t nt => ?_⟩
    rw [cutN]
    refine ⟨t, rfl, ⟨_, SqL.of upd_same⟩, for_list (K := K) (a := t) (xs := (ns.take 63).map V.int) (fun i σ H' => ∃ salt y, σ = [some (.ref a), some (.int salt), y] ∧ H' = upd H t (.lst ((ns.take 63).map V.int)) ∧ 0 ≤ salt ∧ salt < 2147483629)
      ⟨977, none, rfl, rfl, by decide, by decide⟩ (fun i σ H' _ ⟨_, _, _, e, _⟩ => by subst e; exact SqL.of upd_same) ?_ ?_⟩
    · rintro i x σ H' hi ⟨salt, y, rfl, rfl, h0, h1⟩
      obtain ⟨v, rfl, _⟩ := get_ints hi
      refine ⟨_, rfl, _, _, rfl, rfl, mul_const (by decide) _, _, rfl, _, _, rfl, rfl, _, _, rfl, rfl, _, _, rfl, rfl, (by show (0 : Int) < 2147483629; decide), ?_⟩
      exact ⟨_, _, rfl, rfl, Int.emod_nonneg _ (by decide), Int.emod_lt_of_pos _ (by decide)⟩
    · rintro σ H' ⟨salt, y, rfl, rfl, h0, h1⟩
      refine ⟨_, rfl, 63, rfl, a, ns.map V.int, rfl, (same_new nt).seq hS, fun u nu => ?_⟩
      rw [cutN]
      refine ⟨u, _, rfl, .inl (SqL.of upd_same), fun l nl => ⟨_, rfl, (by show 5 ≤ sizeLine; decide), fun b nb => ?_⟩⟩
      have s1 := same_new (o := .lst ((ns.take 63).map V.int)) nt
      have s2 := same_new (o := .lst ((ns.take 63).map V.int)) nu
      have s3 := same_new (o := .lst ((ns.take 63).map V.int)) nl
      have s4 := same_new (o := .lst (bagv l 0 0 salt 0)) nb
      have lb : l ≠ b := (ne_new nb).symm
      refine q _ l b (ns.take 63) (s1.trans (s2.trans (s3.trans s4))) (s1.free (s2.free nl)) (s1.free (s2.free (s3.free nb))) ⟨lb, by rw [upd_ne lb]; exact upd_same, 0, 0, salt, 0, upd_same, by decide, by decide, h0, h1⟩
/-! ### one of some -/
def spOf (K : PySem.W.Frag) : Sp := fun vs H Q _ => ∃ (b l c : Addr) (ns : List Int) (xs : List V), vs = [.ref b, .ref c] ∧ BagAt l ns H b ∧ H c = some (.lst xs) ∧ c ≠ b ∧ 0 < xs.length ∧ xs.length < 1073741824 ∧
  ∀ v ys, v ∈ xs → BagAt l ns (upd H b (.lst ys)) b → Q v (upd H b (.lst ys))
theorem ok_of {f g : Addr} {fd gd : FuncData} {k : Nat} (F : Fun K "_law_of" "_law_of" sOf f fd) (G : FnOk P w K mg base CX0 k g gd ["_law_bag_here", "_law_many"] spPull) (kg : PySem.W.keepIn K (.ref g) = true) (bg : Binds K gd ["_law_bag_here", "_law_many"] [])
    (mgG : mg "_law_pull" = some (.ref g)) (ml : mg "len" = none) : FnOk P w K mg base CX0 (k + 1) f fd ["_law_bag_here", "_law_some"] (spOf K) := by
  refine F.ok scOf (fun vs H Q E h => ?_) (fun cdv A outer s H vs Q E hr h => ?_)
  · obtain ⟨b, l, c, ns, xs, rfl, _⟩ := h
    rfl
  · obtain ⟨b, l, c, ns, xs, rfl, B, hc, cb, x0, x1, q⟩ := h
    refine ⟨_, pss_one (ps_ret (pe_ix ix_list (pv 1) (pe_call G hr (by rfl) mgG kg bg .nil pass0 (pa_cons (pv 0) (pa_cons (pe_callB call_len_seq (by rfl) ml PySem.boot_len (pa_cons (pv 1) pa_nil)) pa_nil))) (fun _ _ => rfl))), ?_⟩
    refine ⟨_, rfl, _, rfl, _, rfl, c, xs, rfl, .inl (SqL.of hc), b, l, _, ns, rfl, by omega, by omega, B, fun r ys r0 r1 B' => ?_⟩
    obtain ⟨j, rfl⟩ : ∃ j : Nat, r = (j : Int) := ⟨r.toNat, by omega⟩
    have hj : j < xs.length := by omega
    refine ⟨c, xs, _, xs[j], rfl, rfl, SqL.of (by rw [upd_ne cb]; exact hc), atI_nat (List.getElem?_eq_getElem hj), ?_⟩
    exact q _ _ (List.getElem_mem hj) B'
end
end K3

namespace K3
open PySem PySem.Spec PyProof.Rows L2
/-! ### data -/
inductive Dt where
  | non
  | bl (b : Bool)
  | int (i : Int)
  | str (s : Str)
  | lst (ds : List Dt)
  | tup (ds : List Dt)
inductive Has (H : Hp) : Nat → V → Dt → Prop where
  | non {n : Nat} : Has H (n + 1) .non .non
  | bl {n : Nat} (b : Bool) : Has H (n + 1) (.bl b) (.bl b)
  | int {n : Nat} (i : Int) : Has H (n + 1) (.int i) (.int i)
  | str {n : Nat} (s : Str) : Has H (n + 1) (.str s) (.str s)
  | lst {n : Nat} {a : Addr} {xs : List V} {ds : List Dt} (e : H a = some (.lst xs)) (l : xs.length = ds.length) (z : ds.length ≤ 1000000) (m : ∀ (i : Nat) (x : V) (d : Dt), xs[i]? = some x → ds[i]? = some d → Has H n x d) : Has H (n + 1) (.ref a) (.lst ds)
  | tup {n : Nat} {a : Addr} {xs : List V} {ds : List Dt} (e : H a = some (.tup xs)) (l : xs.length = ds.length) (z : ds.length ≤ 1000000) (m : ∀ (i : Nat) (x : V) (d : Dt), xs[i]? = some x → ds[i]? = some d → Has H n x d) : Has H (n + 1) (.ref a) (.tup ds)
theorem Has.same {H H' : Hp} (s : Same H H') : ∀ {n : Nat} {x : V} {d : Dt}, Has H n x d → Has H' n x d := by
  intro n x d h
  induction h with
  | non => exact .non
  | bl b => exact .bl b
  | int i => exact .int i
  | str z => exact .str z
  | lst e l z m ih => exact .lst (s _ _ e) l z fun i x d h1 h2 => ih i x d h1 h2
  | tup e l z m ih => exact .tup (s _ _ e) l z fun i x d h1 h2 => ih i x d h1 h2
theorem Has.up {H : Hp} : ∀ {n m : Nat} {x : V} {d : Dt}, Has H n x d → n ≤ m → Has H m x d := by
  intro n m x d h
  induction h generalizing m with
  | non => intro q; cases m with | zero => omega | succ m => exact .non
  | bl b => intro q; cases m with | zero => omega | succ m => exact .bl b
  | int i => intro q; cases m with | zero => omega | succ m => exact .int i
  | str z => intro q; cases m with | zero => omega | succ m => exact .str z
  | lst e l z _ ih => intro q; cases m with | zero => omega | succ m => exact .lst e l z fun i x d h1 h2 => ih i x d h1 h2 (by omega)
  | tup e l z _ ih => intro q; cases m with | zero => omega | succ m => exact .tup e l z fun i x d h1 h2 => ih i x d h1 h2 (by omega)
theorem Has.ints {H : Hp} {a : Addr} {ns : List Int} {n : Nat} (e : H a = some (.lst (ns.map V.int))) (z : ns.length ≤ 1000000) : Has H (n + 2) (.ref a) (.lst (ns.map Dt.int)) := by
  refine .lst e (by rw [List.length_map, List.length_map]) (by rw [List.length_map]; exact z) fun i x d h1 h2 => ?_
  rw [List.getElem?_map] at h1 h2
  cases q : ns[i]? with
  | none => rw [q] at h1; cases h1
  | some v =>
    rw [q] at h1 h2
    have e1 : V.int v = x := Option.some.inj h1
    have e2 : Dt.int v = d := Option.some.inj h2
    rw [← e1, ← e2]
    exact .int v
def spSame (n : Nat) : Sp := fun vs H Q _ => ∃ (x y : V) (d : Dt), vs = [x, y] ∧ Has H n x d ∧ Has H n y d ∧ ∀ H', Same H H' → Q (.bl true) H'
abbrev sSame : Stmt := topS 6
theorem scSame : FnScope ["_law_found", "_law_due", "_law_k"] ["_law_found", "_law_due"] (defScope sSame) := ⟨rfl, rfl, rfl, by decide +kernel, rfl, by decide +kernel, by decide +kernel⟩
structure TS1 (mg : Str → Option Value) : Prop where
  isi : mg "isinstance" = none
  bool : mg "bool" = none
  int : mg "int" = none
  str : mg "str" = none
  list : mg "list" = none
  tuple : mg "tuple" = none
  len : mg "len" = none
  all : mg "all" = none
  range : mg "range" = none
section
variable {P : Program} {w : World} {K : PySem.W.Frag} {mg : Str → Option Value} {base : Heap}
theorem all_rep (n : Nat) : (List.replicate n true).all id = true := by
  induction n with
  | zero => rfl
  | succ n ih => rw [List.replicate_succ, List.all_cons, ih]; rfl
theorem same_at {H H' : Hp} {D : Addr} {o : HO} (hD : H D = none) (s : Same H H') : Same H (upd H' D o) := fun b x e => by
  rw [upd_ne (ne_of_none e hD)]
  exact s _ _ e
theorem kit2 {t : String} {r b1 b2 : Bool} (h1 : kitB t "int" = some b1) (h2 : kitB t "str" = some b2) (hr : (b1 || b2) = r) : PySem.W.kitAny K (.type t) [.type "int", .type "str"] = some r := by
  refine kitAny_cons (kit_ty h1) (fun e => kitAny_cons (kit_ty h2) (fun e2 => ?_) fun e2 => ?_) fun e => ?_
  · rw [e, e2] at hr
    rw [← hr]
    exact kitAny_nil
  · rw [e, e2] at hr
    exact hr.symm
  · rw [e] at hr
    exact hr.symm
theorem ok_same {f : Addr} {fd : FuncData} (F : Fun K "_law_same" "_law_same" sSame f fd) (T : TS1 mg) (bS : Binds K fd ["_law_found", "_law_due"] []) (mgS : mg "_law_same" = some (.ref f)) : ∀ n : Nat, FnOk P w K mg base CX0 n f fd ["_law_found", "_law_due"] (spSame n) := by
  intro n
  induction n with
  | zero => exact ⟨fun vs H Q E h => (by obtain ⟨x, y, d, _, h1, _⟩ := h; cases h1), fun A outer s H args us vs Q E hr he hb hv h => (by obtain ⟨x, y, d, _, h1, _⟩ := h; cases h1)⟩
  | succ n G =>
    refine F.ok scSame (fun vs H Q E h => ?_) (fun cdv A outer s H vs Q E hr h => ?_)
    · obtain ⟨x, y, d, rfl, _⟩ := h
      rfl
    · obtain ⟨x, y, d, rfl, hx, hy, q⟩ := h
      refine ⟨_, pss_cons (ps_if (PW.pt (pw_or (pt_cmpR op_isN (pv 1) pe_non (nomark _)) (pw_or1 (pt_cmpR op_isN (pv 0) pe_non (nomark _)))))
          (pss_one (ps_ret (pe_and (pe_cmpR op_isN (pv 0) pe_non (nomark _)) (pe_one (pe_cmpR op_isN (pv 1) pe_non (nomark _)))))) pss_nil)
        (pss_cons (ps_if (PW.pt (pw_or (pt_val (pe_callB call_isi (by rfl) T.isi (by decide +kernel) (pa_cons (pv 1) (pa_cons (pe_bltn (v := .ty "bool") (by rfl) T.bool (by decide +kernel) rfl) pa_nil))))
            (pw_or1 (pt_val (pe_callB call_isi (by rfl) T.isi (by decide +kernel) (pa_cons (pv 0) (pa_cons (pe_bltn (v := .ty "bool") (by rfl) T.bool (by decide +kernel) rfl) pa_nil)))))))
          (pss_one (ps_ret (pe_and (pe_callB call_isi (by rfl) T.isi (by decide +kernel) (pa_cons (pv 1) (pa_cons (pe_bltn (v := .ty "bool") (by rfl) T.bool (by decide +kernel) rfl) pa_nil)))
            (pe_and (pe_callB call_isi (by rfl) T.isi (by decide +kernel) (pa_cons (pv 0) (pa_cons (pe_bltn (v := .ty "bool") (by rfl) T.bool (by decide +kernel) rfl) pa_nil)))
              (pe_one (pe_cmpR op_eq (pv 0) (pv 1) (nomark _))))))) pss_nil)
        (pss_cons (ps_if (pt_val (pe_callB call_isiT (by rfl) T.isi (by decide +kernel) (pa_cons (pv 1) (pa_cons (pe_tup (pa_cons (pe_bltn (v := .ty "int") (by rfl) T.int (by decide +kernel) rfl) (pa_cons (pe_bltn (v := .ty "str") (by rfl) T.str (by decide +kernel) rfl) pa_nil))) pa_nil))))
          (pss_one (ps_ret (pe_and (pe_callB call_isiT (by rfl) T.isi (by decide +kernel) (pa_cons (pv 0) (pa_cons (pe_tup (pa_cons (pe_bltn (v := .ty "int") (by rfl) T.int (by decide +kernel) rfl) (pa_cons (pe_bltn (v := .ty "str") (by rfl) T.str (by decide +kernel) rfl) pa_nil))) pa_nil)))
            (pe_and (pe_cmpR op_eq (pe_callB call_isi (by rfl) T.isi (by decide +kernel) (pa_cons (pv 0) (pa_cons (pe_bltn (v := .ty "int") (by rfl) T.int (by decide +kernel) rfl) pa_nil)))
                (pe_callB call_isi (by rfl) T.isi (by decide +kernel) (pa_cons (pv 1) (pa_cons (pe_bltn (v := .ty "int") (by rfl) T.int (by decide +kernel) rfl) pa_nil))) (nomark _))
              (pe_one (pe_cmpR op_eq (pv 0) (pv 1) (nomark _))))))) pss_nil)
        (pss_cons (ps_if (PW.pt (pw_or (pt_cmpR op_ne (pe_callB call_isi (by rfl) T.isi (by decide +kernel) (pa_cons (pv 0) (pa_cons (pe_bltn (v := .ty "list") (by rfl) T.list (by decide +kernel) rfl) pa_nil)))
                (pe_callB call_isi (by rfl) T.isi (by decide +kernel) (pa_cons (pv 1) (pa_cons (pe_bltn (v := .ty "list") (by rfl) T.list (by decide +kernel) rfl) pa_nil))) (nomark _))
            (pw_or1 (pt_cmpR op_ne (pe_callB call_isi (by rfl) T.isi (by decide +kernel) (pa_cons (pv 0) (pa_cons (pe_bltn (v := .ty "tuple") (by rfl) T.tuple (by decide +kernel) rfl) pa_nil)))
                (pe_callB call_isi (by rfl) T.isi (by decide +kernel) (pa_cons (pv 1) (pa_cons (pe_bltn (v := .ty "tuple") (by rfl) T.tuple (by decide +kernel) rfl) pa_nil))) (nomark _)))))
          (pss_one (ps_ret pe_bl)) pss_nil)
        (pss_one (ps_ret (pe_and (pe_cmpR op_eq (pe_callB call_len_seq (by rfl) T.len PySem.boot_len (pa_cons (pv 0) pa_nil)) (pe_callB call_len_seq (by rfl) T.len PySem.boot_len (pa_cons (pv 1) pa_nil)) (nomark _))
          (pe_one (pe_callB (cr_all rfl) (by rfl) T.all (by decide +kernel) (pa_cons
            (pe_lc (own := [("_law_k", 2)]) (g := gName 2) (tt := tYes) rfl scSame.nd (pi_range1 (by rfl) T.range (pa_cons (pe_callB call_len_seq (by rfl) T.len PySem.boot_len (pa_cons (pv 1) pa_nil)) pa_nil))
              (blkOk_by (N := ["_law_found", "_law_due", "_law_k"]) (sc := defScope sSame) (by decide +kernel))
              (fun _ _ _ _ _ => pg_name (i := 2) scSame.nd rfl (Or.inl rfl)) (fun _ _ _ _ _ => pts_nil)
              (fun _ _ _ _ _ => pe_call G hr (by rfl) mgS F.kp bS .nil pass0 (pa_cons (pe_ix (r := rIx K) ix_seq (pv 0) (pv 2) (fun _ _ => rfl)) (pa_cons (pe_ix (r := rIx K) ix_seq (pv 1) (pv 2) (fun _ _ => rfl)) pa_nil)))) pa_nil))))))))), ?_⟩
      cases d with
      | non =>
        cases hx
        cases hy
        refine ⟨_, rfl, rfl, _, rfl, iteT ?_⟩
        exact ⟨_, rfl, rfl, _, rfl, iteT ⟨_, rfl, rfl, q _ (Same.refl _)⟩⟩
      | bl b =>
        cases hx
        cases hy
        refine ⟨_, rfl, rfl, _, rfl, iteF ⟨_, rfl, rfl, _, rfl, iteF ?_⟩⟩
        refine ⟨_, rfl, _, _, _, _, true, rfl, ClsV.ty _, (.base (.bl b)), kit_ty (by decide +kernel), _, rfl, iteT ?_⟩
        refine ⟨_, rfl, _, _, _, _, true, rfl, ClsV.ty _, (.base (.bl b)), kit_ty (by decide +kernel), _, rfl, iteT ?_⟩
        refine ⟨_, rfl, _, _, _, _, true, rfl, ClsV.ty _, (.base (.bl b)), kit_ty (by decide +kernel), _, rfl, iteT ?_⟩
        refine ⟨_, rfl, _, rfl, rfl, ?_⟩
        rw [decide_eq_true rfl]
        exact q _ (Same.refl _)
      | int i =>
        cases hx
        cases hy
        refine ⟨_, rfl, rfl, _, rfl, iteF ⟨_, rfl, rfl, _, rfl, iteF ?_⟩⟩
        refine ⟨_, rfl, _, _, _, _, false, rfl, ClsV.ty _, (.base (.int i)), kit_ty (by decide +kernel), _, rfl, iteF ?_⟩
        refine ⟨_, rfl, _, _, _, _, false, rfl, ClsV.ty _, (.base (.int i)), kit_ty (by decide +kernel), _, rfl, iteF ?_⟩
        refine ⟨_, rfl, (by show 2 ≤ sizeLine; decide), fun p np => ⟨_, _, _, _, _, true, rfl, upd_same, .cons (ClsV.ty _) (.cons (ClsV.ty _) .nil), (.base (.int i)), kit2 (b1 := true) (b2 := false) (by decide +kernel) (by decide +kernel) rfl, _, rfl, iteT ?_⟩⟩
        refine ⟨_, rfl, (by show 2 ≤ sizeLine; decide), fun p2 np2 => ⟨_, _, _, _, _, true, rfl, upd_same, .cons (ClsV.ty _) (.cons (ClsV.ty _) .nil), (.base (.int i)), kit2 (b1 := true) (b2 := false) (by decide +kernel) (by decide +kernel) rfl, _, rfl, iteT ?_⟩⟩
        refine ⟨_, rfl, _, _, _, _, true, rfl, ClsV.ty _, (.base (.int i)), kit_ty (by decide +kernel), _, rfl, _, _, _, _, true, rfl, ClsV.ty _, (.base (.int i)), kit_ty (by decide +kernel), rfl, _, rfl, iteT ?_⟩
        refine ⟨_, rfl, _, rfl, rfl, ?_⟩
        rw [decide_eq_true rfl]
        exact q _ ((same_new np).trans (same_new np2))
      | str i =>
        cases hx
        cases hy
        refine ⟨_, rfl, rfl, _, rfl, iteF ⟨_, rfl, rfl, _, rfl, iteF ?_⟩⟩
        refine ⟨_, rfl, _, _, _, _, false, rfl, ClsV.ty _, (.base (.str i)), kit_ty (by decide +kernel), _, rfl, iteF ?_⟩
        refine ⟨_, rfl, _, _, _, _, false, rfl, ClsV.ty _, (.base (.str i)), kit_ty (by decide +kernel), _, rfl, iteF ?_⟩
        refine ⟨_, rfl, (by show 2 ≤ sizeLine; decide), fun p np => ⟨_, _, _, _, _, true, rfl, upd_same, .cons (ClsV.ty _) (.cons (ClsV.ty _) .nil), (.base (.str i)), kit2 (b1 := false) (b2 := true) (by decide +kernel) (by decide +kernel) rfl, _, rfl, iteT ?_⟩⟩
        refine ⟨_, rfl, (by show 2 ≤ sizeLine; decide), fun p2 np2 => ⟨_, _, _, _, _, true, rfl, upd_same, .cons (ClsV.ty _) (.cons (ClsV.ty _) .nil), (.base (.str i)), kit2 (b1 := false) (b2 := true) (by decide +kernel) (by decide +kernel) rfl, _, rfl, iteT ?_⟩⟩
        refine ⟨_, rfl, _, _, _, _, false, rfl, ClsV.ty _, (.base (.str i)), kit_ty (by decide +kernel), _, rfl, _, _, _, _, false, rfl, ClsV.ty _, (.base (.str i)), kit_ty (by decide +kernel), rfl, _, rfl, iteT ?_⟩
        refine ⟨_, rfl, _, rfl, rfl, ?_⟩
        rw [decide_eq_true rfl]
        exact q _ ((same_new np).trans (same_new np2))
      | lst ds =>
        cases hx with
        | @lst _ a xs _ ea la za ma =>
        cases hy with
        | @lst _ b ys _ eb lb zb mb =>
        refine ⟨_, rfl, rfl, _, rfl, iteF ⟨_, rfl, rfl, _, rfl, iteF ?_⟩⟩
        refine ⟨_, rfl, _, _, _, _, false, rfl, ClsV.ty _, (.base (.lst eb)), kit_ty (by decide +kernel), _, rfl, iteF ?_⟩
        refine ⟨_, rfl, _, _, _, _, false, rfl, ClsV.ty _, (.base (.lst ea)), kit_ty (by decide +kernel), _, rfl, iteF ?_⟩
        refine ⟨_, rfl, (by show 2 ≤ sizeLine; decide), fun p np => ⟨_, _, _, _, _, false, rfl, upd_same, .cons (ClsV.ty _) (.cons (ClsV.ty _) .nil), (.base (.lst ((same_new np) _ _ eb))), kit2 (b1 := false) (b2 := false) (by decide +kernel) (by decide +kernel) rfl, _, rfl, iteF ?_⟩⟩
        have ea' := (same_new (o := .tup [.ty "int", .ty "str"]) np) _ _ ea
        have eb' := (same_new (o := .tup [.ty "int", .ty "str"]) np) _ _ eb
        refine ⟨_, rfl, _, _, _, _, true, rfl, ClsV.ty _, (.base (.lst ea')), kit_ty (by decide +kernel), _, rfl, _, _, _, _, true, rfl, ClsV.ty _, (.base (.lst eb')), kit_ty (by decide +kernel), rfl, _, rfl, iteF ?_⟩
        refine ⟨_, rfl, _, _, _, _, false, rfl, ClsV.ty _, (.base (.lst ea')), kit_ty (by decide +kernel), _, rfl, _, _, _, _, false, rfl, ClsV.ty _, (.base (.lst eb')), kit_ty (by decide +kernel), rfl, _, rfl, iteF ?_⟩
        refine ⟨_, rfl, a, xs, rfl, .inl (SqL.of ea'), _, rfl, b, ys, rfl, .inl (SqL.of eb'), rfl, _, rfl, ?_⟩
        rw [if_pos (by rw [la, lb]; exact decide_eq_true rfl)]
        have lxy : ys.length ≤ 1000000 := by rw [lb]; exact zb
        refine ⟨_, rfl, b, ys, rfl, .inl (SqL.of eb'), (ys.length : Int), rfl, by omega, by omega, fun D nD => ?_⟩
        have sD := same_new (o := .lst []) nD
        refine lc_range (lo := 0) (n := ys.length) (fun i H' => Same (upd H p (.tup [.ty "int", .ty "str"])) H' ∧ H' D = some (.lst ((List.replicate i true).map V.bl))) ⟨sD, upd_same⟩ ?_ ?_
        · rintro i H' hi ⟨sm, hD⟩
          have hix : i < xs.length := by omega
          have hid : i < ds.length := by omega
          refine ⟨rfl, ?_⟩
          refine ⟨_, rfl, _, rfl, .inl ⟨a, xs, _, xs[i], rfl, rfl, SqL.of (sm _ _ ea'), at_of (Int.zero_add _) (List.getElem?_eq_getElem hix), ?_⟩⟩
          refine ⟨_, rfl, _, rfl, .inl ⟨b, ys, _, ys[i], rfl, rfl, SqL.of (sm _ _ eb'), at_of (Int.zero_add _) (List.getElem?_eq_getElem hi), ?_⟩⟩
          have sH := (same_new (o := .tup [.ty "int", .ty "str"]) np).trans sm
          refine ⟨xs[i], ys[i], ds[i], rfl, (ma i _ _ (List.getElem?_eq_getElem hix) (List.getElem?_eq_getElem hid)).same sH, (mb i _ _ (List.getElem?_eq_getElem hi) (List.getElem?_eq_getElem hid)).same sH, fun H4 s4 => ?_⟩
          refine ⟨_, s4 _ _ hD, ?_, same_at nD (sm.trans s4), ?_⟩
          · rw [List.length_map, List.length_replicate]
            exact Nat.lt_of_lt_of_le (show i < 1000001 by omega) (by rw [sizeLine_eq]; decide)
          · rw [upd_same, List.replicate_succ', List.map_append]
            rfl
        · rintro H' ⟨sm, hD⟩
          refine ⟨D, List.replicate ys.length true, rfl, SqL.of hD, ?_⟩
          rw [all_rep]
          exact q _ ((same_new np).trans sm)
      | tup ds =>
        cases hx with
        | @tup _ a xs _ ea la za ma =>
        cases hy with
        | @tup _ b ys _ eb lb zb mb =>
        refine ⟨_, rfl, rfl, _, rfl, iteF ⟨_, rfl, rfl, _, rfl, iteF ?_⟩⟩
        refine ⟨_, rfl, _, _, _, _, false, rfl, ClsV.ty _, (.base (.tup eb)), kit_ty (by decide +kernel), _, rfl, iteF ?_⟩
        refine ⟨_, rfl, _, _, _, _, false, rfl, ClsV.ty _, (.base (.tup ea)), kit_ty (by decide +kernel), _, rfl, iteF ?_⟩
        refine ⟨_, rfl, (by show 2 ≤ sizeLine; decide), fun p np => ⟨_, _, _, _, _, false, rfl, upd_same, .cons (ClsV.ty _) (.cons (ClsV.ty _) .nil), (.base (.tup ((same_new np) _ _ eb))), kit2 (b1 := false) (b2 := false) (by decide +kernel) (by decide +kernel) rfl, _, rfl, iteF ?_⟩⟩
        have ea' := (same_new (o := .tup [.ty "int", .ty "str"]) np) _ _ ea
        have eb' := (same_new (o := .tup [.ty "int", .ty "str"]) np) _ _ eb
        refine ⟨_, rfl, _, _, _, _, false, rfl, ClsV.ty _, (.base (.tup ea')), kit_ty (by decide +kernel), _, rfl, _, _, _, _, false, rfl, ClsV.ty _, (.base (.tup eb')), kit_ty (by decide +kernel), rfl, _, rfl, iteF ?_⟩
        refine ⟨_, rfl, _, _, _, _, true, rfl, ClsV.ty _, (.base (.tup ea')), kit_ty (by decide +kernel), _, rfl, _, _, _, _, true, rfl, ClsV.ty _, (.base (.tup eb')), kit_ty (by decide +kernel), rfl, _, rfl, iteF ?_⟩
        refine ⟨_, rfl, a, xs, rfl, .inr (SqT.of ea'), _, rfl, b, ys, rfl, .inr (SqT.of eb'), rfl, _, rfl, ?_⟩
        rw [if_pos (by rw [la, lb]; exact decide_eq_true rfl)]
        have lxy : ys.length ≤ 1000000 := by rw [lb]; exact zb
        refine ⟨_, rfl, b, ys, rfl, .inr (SqT.of eb'), (ys.length : Int), rfl, by omega, by omega, fun D nD => ?_⟩
        have sD := same_new (o := .lst []) nD
        refine lc_range (lo := 0) (n := ys.length) (fun i H' => Same (upd H p (.tup [.ty "int", .ty "str"])) H' ∧ H' D = some (.lst ((List.replicate i true).map V.bl))) ⟨sD, upd_same⟩ ?_ ?_
        · rintro i H' hi ⟨sm, hD⟩
          have hix : i < xs.length := by omega
          have hid : i < ds.length := by omega
          refine ⟨rfl, ?_⟩
          refine ⟨_, rfl, _, rfl, .inr (.inl ⟨a, xs, _, xs[i], rfl, rfl, SqT.of (sm _ _ ea'), at_of (Int.zero_add _) (List.getElem?_eq_getElem hix), ?_⟩)⟩
          refine ⟨_, rfl, _, rfl, .inr (.inl ⟨b, ys, _, ys[i], rfl, rfl, SqT.of (sm _ _ eb'), at_of (Int.zero_add _) (List.getElem?_eq_getElem hi), ?_⟩)⟩
          have sH := (same_new (o := .tup [.ty "int", .ty "str"]) np).trans sm
          refine ⟨xs[i], ys[i], ds[i], rfl, (ma i _ _ (List.getElem?_eq_getElem hix) (List.getElem?_eq_getElem hid)).same sH, (mb i _ _ (List.getElem?_eq_getElem hi) (List.getElem?_eq_getElem hid)).same sH, fun H4 s4 => ?_⟩
          refine ⟨_, s4 _ _ hD, ?_, same_at nD (sm.trans s4), ?_⟩
          · rw [List.length_map, List.length_replicate]
            exact Nat.lt_of_lt_of_le (show i < 1000001 by omega) (by rw [sizeLine_eq]; decide)
          · rw [upd_same, List.replicate_succ', List.map_append]
            rfl
        · rintro H' ⟨sm, hD⟩
          refine ⟨D, List.replicate ys.length true, rfl, SqL.of hD, ?_⟩
          rw [all_rep]
          exact q _ ((same_new np).trans sm)
end
end K3

namespace K3
/-! ### the sign of a row of numbers, as a product over its pairs -/
def s2 (x y : Int) : Int := if x = y then 0 else if y < x then -1 else 1
def pr (x : Int) : List Int → Int
  | [] => 1
  | y :: r => s2 x y * pr x r
def sg : List Int → Int
  | [] => 1
  | x :: r => pr x r * sg r
def qr (x : Int) : List Int → Int
  | [] => 1
  | y :: r => s2 y x * qr x r
theorem s2_eq (x : Int) : s2 x x = 0 := if_pos rfl
theorem s2_lt {x y : Int} (h : y < x) : s2 x y = -1 := by
  unfold s2
  rw [if_neg (by omega), if_pos h]
theorem s2_gt {x y : Int} (h : x < y) : s2 x y = 1 := by
  unfold s2
  rw [if_neg (by omega), if_neg (by omega)]
theorem s2_neg (x y : Int) : s2 x y = - s2 y x := by
  unfold s2
  split
  · rename_i h
    subst h
    rw [if_pos rfl]
    rfl
  · split
    · rw [if_neg (by omega), if_neg (by omega)]
    · rw [if_neg (by omega), if_pos (by omega)]
      rfl
theorem pr_append (x : Int) : ∀ A B : List Int, pr x (A ++ B) = pr x A * pr x B
  | [], B => by simp [pr]
  | y :: A, B => by
    have ih := pr_append x A B
    simp only [List.cons_append, pr, ih]
    rw [Int.mul_assoc]
theorem sg_append0 : ∀ A B : List Int, ∃ c, sg (A ++ B) = sg A * c
  | [], B => ⟨sg B, by simp [sg]⟩
  | x :: A, B => by
    obtain ⟨c, hc⟩ := sg_append0 A B
    refine ⟨pr x B * c, ?_⟩
    simp only [List.cons_append, sg, hc, pr_append]
    grind
theorem sg_take0 {l : List Int} {m : Nat} (h : sg (l.take m) = 0) : sg l = 0 := by
  obtain ⟨c, hc⟩ := sg_append0 (l.take m) (l.drop m)
  rw [List.take_append_drop, h, Int.zero_mul] at hc
  exact hc
theorem sg_snoc (x : Int) : ∀ l : List Int, sg (l ++ [x]) = sg l * qr x l
  | [] => by simp [sg, pr, qr]
  | y :: l => by
    have ih := sg_snoc x l
    simp only [List.cons_append, sg, ih, pr_append, qr, pr]
    grind
theorem sg_adj (x y : Int) (C : List Int) : ∀ A : List Int, sg (A ++ x :: y :: C) = - sg (A ++ y :: x :: C)
  | [] => by
    simp only [List.nil_append, sg, pr]
    rw [s2_neg x y]
    grind
  | a :: A => by
    have ih := sg_adj x y C A
    simp only [List.cons_append, sg, ih, pr_append, pr]
    grind
theorem sg_swap (x y : Int) (C : List Int) : ∀ (B A : List Int), sg (A ++ x :: (B ++ y :: C)) = - sg (A ++ y :: (B ++ x :: C))
  | [], A => sg_adj x y C A
  | b :: B, A => by
    have h1 := sg_adj x b (B ++ y :: C) A
    have h2 := sg_swap x y C B (A ++ [b])
    have h3 := sg_adj b y (B ++ x :: C) A
    simp only [List.append_assoc, List.singleton_append, List.cons_append, List.nil_append] at h1 h2 h3 ⊢
    rw [h1, h2, h3, Int.neg_neg]
theorem set_at {α : Type} (v x : α) (R : List α) : ∀ A : List α, (A ++ x :: R).set A.length v = A ++ v :: R
  | [] => rfl
  | a :: A => by
    have ih := set_at v x R A
    simp only [List.cons_append, List.length_cons, List.set_cons_succ, ih]
theorem sg_set {l : List Int} {i j : Nat} (hij : i < j) {x y : Int} (hi : l[i]? = some x) (hj : l[j]? = some y) : sg ((l.set i y).set j x) = - sg l := by
  obtain ⟨hi1, hi2⟩ := List.getElem?_eq_some_iff.mp hi
  obtain ⟨hj1, hj2⟩ := List.getElem?_eq_some_iff.mp hj
  have e1 : l = l.take i ++ x :: l.drop (i + 1) := by
    rw [← hi2, List.getElem_cons_drop, List.take_append_drop]
  have hj3 : (l.drop (i + 1))[j - (i + 1)]? = some y := by
    rw [List.getElem?_drop, show i + 1 + (j - (i + 1)) = j by omega]
    exact hj
  obtain ⟨hk1, hk2⟩ := List.getElem?_eq_some_iff.mp hj3
  have e2 : l.drop (i + 1) = (l.drop (i + 1)).take (j - (i + 1)) ++ y :: (l.drop (i + 1)).drop (j - (i + 1) + 1) := by
    rw [← hk2, List.getElem_cons_drop, List.take_append_drop]
  generalize hA : l.take i = A at e1
  generalize hB : (l.drop (i + 1)).take (j - (i + 1)) = B at e2
  generalize hC : (l.drop (i + 1)).drop (j - (i + 1) + 1) = C at e2
  have lA : A.length = i := by
    rw [← hA, List.length_take]
    omega
  have lB : B.length = j - (i + 1) := by
    rw [← hB, List.length_take, List.length_drop]
    omega
  rw [e2] at e1
  have f1 : l.set i y = A ++ y :: (B ++ y :: C) := by
    rw [e1, ← lA]
    exact set_at _ _ _ _
  have f2 : (A ++ y :: (B ++ y :: C)).set j x = A ++ y :: (B ++ x :: C) := by
    have q := set_at x y C (A ++ y :: B)
    have lq : (A ++ y :: B).length = j := by
      rw [List.length_append, List.length_cons]
      omega
    rw [lq, List.append_assoc, List.append_assoc] at q
    exact q
  rw [f1, f2, e1, sg_swap x y C B A, Int.neg_neg]
theorem sg_set2 {l : List Int} {i j : Nat} (hij : i ≠ j) {x y : Int} (hi : l[i]? = some x) (hj : l[j]? = some y) : sg ((l.set i y).set j x) = - sg l := by
  by_cases h : i < j
  · exact sg_set h hi hj
  · rw [List.set_comm _ _ hij]
    exact sg_set (by omega) hj hi
end K3

namespace K3
open PySem PySem.Spec PyProof.Rows L2 ET
theorem for_enumL {K : PySem.W.Frag} {a : Addr} {xs : List V} {g : TG} {tb : TS} {D : Ends} {σ : L2.St} {H : Hp} (Pv : Nat → L2.St → Hp → Prop) (h0 : Pv 0 σ H) (hl : ∀ i σ H, i ≤ xs.length → Pv i σ H → SqL K H a xs)
    (hs : ∀ (i : Nat) (x : V) (σ : L2.St) (H : Hp) (T : Addr), xs[i]? = some x → Pv i σ H → H T = none → g (.ref T) σ (upd H T (.tup [.int (i : Nat), x])) fun σ2 H2 => tb { D with nx := Pv (i + 1), ct := Pv (i + 1), bk := D.nx } σ2 H2)
    (hd : ∀ σ H, Pv xs.length σ H → D.nx σ H) : ∃ W : Nat → Nat → L2.St → Hp → Prop, (∃ m, W 0 m σ H) ∧ ∀ i m σ H, W i m σ H → ((Ite K a).stop i H ∧ D.nx σ H) ∨
      ((Ite K a).go i H ∧ ∃ N : L2.St → Hp → Prop, (∀ σ' H', N σ' H' → ∃ m', m' < m ∧ W (i + 1) m' σ' H') ∧ ∀ x H', (Ite K a).yld i H x H' → g x σ H' fun σ2 H2 => tb { D with nx := N, ct := N, bk := D.nx } σ2 H2) := by
  refine ⟨fun i m σ H => m = xs.length - i ∧ i ≤ xs.length ∧ Pv i σ H, ⟨xs.length, by simp, Nat.zero_le _, h0⟩, ?_⟩
  rintro i m σ H ⟨rfl, hi, p⟩
  have q := hl i σ H hi p
  by_cases hlt : i < xs.length
  · refine .inr ⟨⟨xs, xs[i], q, List.getElem?_eq_getElem hlt⟩, Pv (i + 1), fun σ' H' p' => ⟨xs.length - (i + 1), by omega, rfl, hlt, p'⟩, ?_⟩
    rintro v H' ⟨T, x, rfl, nT, rfl, hx⟩
    exact hs i x σ H T (hx _ q) p nT
  · obtain rfl : i = xs.length := by omega
    exact .inl ⟨⟨xs, q, Nat.le_refl _⟩, hd σ H p⟩
theorem for_enumT {K : PySem.W.Frag} {a : Addr} {xs : List V} {g : TG} {tb : TS} {D : Ends} {σ : L2.St} {H : Hp} (Pv : Nat → L2.St → Hp → Prop) (h0 : Pv 0 σ H) (hl : ∀ i σ H, i ≤ xs.length → Pv i σ H → SqT K H a xs)
    (hs : ∀ (i : Nat) (x : V) (σ : L2.St) (H : Hp) (T : Addr), xs[i]? = some x → Pv i σ H → H T = none → g (.ref T) σ (upd H T (.tup [.int (i : Nat), x])) fun σ2 H2 => tb { D with nx := Pv (i + 1), ct := Pv (i + 1), bk := D.nx } σ2 H2)
    (hd : ∀ σ H, Pv xs.length σ H → D.nx σ H) : ∃ W : Nat → Nat → L2.St → Hp → Prop, (∃ m, W 0 m σ H) ∧ ∀ i m σ H, W i m σ H → ((IteT K a).stop i H ∧ D.nx σ H) ∨
      ((IteT K a).go i H ∧ ∃ N : L2.St → Hp → Prop, (∀ σ' H', N σ' H' → ∃ m', m' < m ∧ W (i + 1) m' σ' H') ∧ ∀ x H', (IteT K a).yld i H x H' → g x σ H' fun σ2 H2 => tb { D with nx := N, ct := N, bk := D.nx } σ2 H2) := by
  refine ⟨fun i m σ H => m = xs.length - i ∧ i ≤ xs.length ∧ Pv i σ H, ⟨xs.length, by simp, Nat.zero_le _, h0⟩, ?_⟩
  rintro i m σ H ⟨rfl, hi, p⟩
  have q := hl i σ H hi p
  by_cases hlt : i < xs.length
  · refine .inr ⟨⟨xs, xs[i], q, List.getElem?_eq_getElem hlt⟩, Pv (i + 1), fun σ' H' p' => ⟨xs.length - (i + 1), by omega, rfl, hlt, p'⟩, ?_⟩
    rintro v H' ⟨T, x, rfl, nT, rfl, hx⟩
    exact hs i x σ H T (hx _ q) p nT
  · obtain rfl : i = xs.length := by omega
    exact .inl ⟨⟨xs, q, Nat.le_refl _⟩, hd σ H p⟩
abbrev sSign : Stmt := topS 1
abbrev sLOrd : Stmt := topS 7
theorem scSign : FnScope ["row", "sign", "at", "number", "later"] ["row"] (defScope sSign) := ⟨rfl, rfl, rfl, by decide +kernel, rfl, by decide +kernel, by decide +kernel⟩
theorem scLOrd : FnScope ["_law_row9", "_law_found", "_law_k", "_law_j"] ["_law_row9"] (defScope sLOrd) := ⟨rfl, rfl, rfl, by decide +kernel, rfl, by decide +kernel, by decide +kernel⟩
def spSign (K : PySem.W.Frag) : Sp := fun vs H Q _ => ∃ (a : Addr) (ns : List Int), vs = [.ref a] ∧ (SqL K H a (ns.map V.int) ∨ SqT K H a (ns.map V.int)) ∧ ns.length ≤ 1000 ∧ ∀ H', Same H H' → Q (.int (sg ns)) H'
def spLOrd (K : PySem.W.Frag) : Sp := fun vs H Q _ => ∃ (a : Addr) (ns : List Int), vs = [.ref a] ∧ SqL K H a (ns.map V.int) ∧ ns.length ≤ 1000 ∧ Q (.int (sg ns)) H
theorem sqT_same {K : PySem.W.Frag} {H H' : Hp} {a : Addr} {xs : List V} (e : Same H H') (h : SqT K H a xs) : SqT K H' a xs := by
  rcases h with (h | ⟨o, h⟩) | h
  · exact .inl (.inl (e _ _ h))
  · exact .inl (.inr ⟨o, e _ _ h⟩)
  · exact .inr h
theorem drop_at {ns : List Int} {i : Nat} {v : Int} (h : ns[i]? = some v) : ns.drop i = v :: ns.drop (i + 1) := by
  obtain ⟨h1, h2⟩ := List.getElem?_eq_some_iff.mp h
  rw [← h2, List.getElem_cons_drop]
section
variable {P : Program} {w : World} {K : PySem.W.Frag} {mg : Str → Option Value} {base : Heap}
theorem ok_sign {f : Addr} {fd : FuncData} {k : Nat} (F : Fun K "order_sign" "order_sign" sSign f fd) (me : mg "enumerate" = none) : FnOk P w K mg base CX0 (k + 1) f fd ["row"] (spSign K) := by
  refine F.ok scSign (fun vs H Q E h => ?_) (fun cdv A outer s H vs Q E hr h => ?_)
  · obtain ⟨a, ns, rfl, _⟩ := h
    rfl
  · obtain ⟨a, ns, rfl, hS, hlen, q⟩ := h
    rcases hS with hS | hS
    · refine ⟨_, pss_cons (ps_set (i := 1) scSign.nd rfl (Or.inl rfl) pe_int)
        (pss_cons (ps_for PassesOwn.never rfl (pi_enum (by rfl) me (pa_cons (pv 0) pa_nil)) (pg_tup rfl (pgs_cons (pg_name (i := 2) scSign.nd rfl (Or.inl rfl)) (pgs_cons (pg_name (i := 3) scSign.nd rfl (Or.inl rfl)) pgs_nil)))
          (pss_one (ps_for PassesOwn.never rfl (pi_list (pe_slice sl_list (pv 0) (po_some (pe_op op_add (pv 2) pe_int)) po_none)) (pg_name (i := 4) scSign.nd rfl (Or.inl rfl))
            (pss_cons (ps_if (pt_cmpR op_eq (pv 4) (pv 3) (nomark _)) (pss_one (ps_ret pe_int)) pss_nil)
              (pss_one (ps_if (pt_cmpR op_lt (pv 4) (pv 3) (nomark _)) (pss_one (ps_set (i := 1) scSign.nd rfl (Or.inl rfl) (pe_un un_neg (pv 1)))) pss_nil))))))
        (pss_one (ps_ret (pv 1)))), ?_⟩
      refine ⟨_, rfl, a, _, rfl, hS, for_enumL (K := K) (a := a) (xs := ns.map V.int) (fun i σ H' => ∃ z x2 x3 x4, σ = [some (.ref a), some (.int z), x2, x3, x4] ∧ Same H H' ∧ sg ns = z * sg (ns.drop i))
        ⟨1, none, none, none, rfl, Same.refl _, by rw [List.drop_zero, Int.one_mul]⟩ (fun i σ H' _ ⟨_, _, _, _, _, s, _⟩ => s.seq hS) ?_ ?_⟩
      · rintro i x σ H1 T hi ⟨z, x2, x3, x4, rfl, s1, e⟩ nT
        obtain ⟨v, rfl, hv⟩ := get_ints hi
        have s2 := s1.trans (same_new (o := .tup [.int (i : Nat), .int v]) nT)
        refine ⟨T, _, rfl, SqT.of upd_same, rfl, _, _, rfl, _, _, rfl, rfl, ?_⟩
        refine ⟨_, rfl, _, rfl, _, _, rfl, rfl, _, rfl, a, _, rfl, s2.seq hS, fun t nt => ?_⟩
        rw [show ((i : Int) + 1) = ((i + 1 : Nat) : Int) by omega, cutFrom]
        have s3 := s2.trans (same_new (o := .lst ((ns.map V.int).drop (i + 1))) nt)
        rw [drop_at hv] at e
        refine ⟨t, rfl, ⟨_, SqL.of upd_same⟩, for_list (K := K) (a := t) (xs := (ns.map V.int).drop (i + 1)) (fun j σ H' => ∃ z x4, σ = [some (.ref a), some (.int z), some (.int (i : Nat)), some (.int v), x4] ∧
            H' = upd (upd H1 T (.tup [.int (i : Nat), .int v])) t (.lst ((ns.map V.int).drop (i + 1))) ∧ sg ns = z * pr v ((ns.drop (i + 1)).drop j) * sg (ns.drop (i + 1)))
          ⟨z, x4, rfl, rfl, by rw [e, List.drop_zero, sg, Int.mul_assoc]⟩ (fun j σ H' _ ⟨_, _, _, e, _⟩ => by subst e; exact SqL.of upd_same) ?_ ?_⟩
        · rintro j x σ H' hj ⟨z, x4, rfl, rfl, e⟩
          rw [← List.map_drop] at hj
          obtain ⟨u, rfl, hu⟩ := get_ints hj
          rw [drop_at hu, pr] at e
          refine ⟨_, rfl, _, rfl, rfl, _, rfl, ite2 (fun c => ?_) (fun c => ?_)⟩
          · have euv : u = v := V.int.inj (of_decide_eq_true c)
            subst euv
            have e0 : sg ns = 0 := by
              rw [e, s2_eq, Int.zero_mul, Int.mul_zero, Int.zero_mul]
            have q' := q _ s3
            rw [e0] at q'
            exact q'
          · have nuv : ¬ u = v := fun z => c (decide_eq_true (by rw [z]))
            refine ⟨_, rfl, _, rfl, _, _, rfl, rfl, _, rfl, ite2 (fun c2 => ?_) (fun c2 => ?_)⟩
            · have l := of_decide_eq_true c2
              refine ⟨_, rfl, _, rfl, -z, _, rfl, rfl, ?_⟩
              rw [e, s2_lt l, List.drop_drop]
              grind
            · have l : ¬ u < v := fun z => c2 (decide_eq_true z)
              refine ⟨z, _, rfl, rfl, ?_⟩
              rw [e, s2_gt (by omega), List.drop_drop, Int.one_mul]
        · rintro σ H' ⟨z, x4, rfl, rfl, e⟩
          refine ⟨z, _, _, _, rfl, s3, ?_⟩
          rw [List.drop_of_length_le (l := ns.drop (i + 1)) (by rw [← List.map_drop, List.length_map]; exact Nat.le_refl _), pr, Int.mul_one] at e
          exact e
      · rintro σ H1 ⟨z, x2, x3, x4, rfl, s1, e⟩
        refine ⟨_, rfl, ?_⟩
        rw [List.length_map, List.drop_of_length_le (Nat.le_refl _), sg, Int.mul_one] at e
        rw [← e]
        exact q _ s1
    · refine ⟨_, pss_cons (ps_set (i := 1) scSign.nd rfl (Or.inl rfl) pe_int)
        (pss_cons (ps_for PassesOwn.never rfl (pi_enumT (by rfl) me (pa_cons (pv 0) pa_nil)) (pg_tup rfl (pgs_cons (pg_name (i := 2) scSign.nd rfl (Or.inl rfl)) (pgs_cons (pg_name (i := 3) scSign.nd rfl (Or.inl rfl)) pgs_nil)))
          (pss_one (ps_for PassesOwn.never rfl (pi_tup (pe_slice sl_tup (pv 0) (po_some (pe_op op_add (pv 2) pe_int)) po_none)) (pg_name (i := 4) scSign.nd rfl (Or.inl rfl))
            (pss_cons (ps_if (pt_cmpR op_eq (pv 4) (pv 3) (nomark _)) (pss_one (ps_ret pe_int)) pss_nil)
              (pss_one (ps_if (pt_cmpR op_lt (pv 4) (pv 3) (nomark _)) (pss_one (ps_set (i := 1) scSign.nd rfl (Or.inl rfl) (pe_un un_neg (pv 1)))) pss_nil))))))
        (pss_one (ps_ret (pv 1)))), ?_⟩
      refine ⟨_, rfl, a, _, rfl, hS, for_enumT (K := K) (a := a) (xs := ns.map V.int) (fun i σ H' => ∃ z x2 x3 x4, σ = [some (.ref a), some (.int z), x2, x3, x4] ∧ Same H H' ∧ sg ns = z * sg (ns.drop i))
        ⟨1, none, none, none, rfl, Same.refl _, by rw [List.drop_zero, Int.one_mul]⟩ (fun i σ H' _ ⟨_, _, _, _, _, s, _⟩ => sqT_same s hS) ?_ ?_⟩
      · rintro i x σ H1 T hi ⟨z, x2, x3, x4, rfl, s1, e⟩ nT
        obtain ⟨v, rfl, hv⟩ := get_ints hi
        have s2 := s1.trans (same_new (o := .tup [.int (i : Nat), .int v]) nT)
        refine ⟨T, _, rfl, SqT.of upd_same, rfl, _, _, rfl, _, _, rfl, rfl, ?_⟩
        refine ⟨_, rfl, _, rfl, _, _, rfl, rfl, _, rfl, a, _, rfl, sqT_same s2 hS, ?_, fun t nt => ?_⟩
        · have hin := (List.getElem?_eq_some_iff.mp hi).1
          rw [show ((i : Int) + 1) = ((i + 1 : Nat) : Int) by omega, HT.sIx_nat]
          omega
        rw [show ((i : Int) + 1) = ((i + 1 : Nat) : Int) by omega, cutFrom]
        have s3 := s2.trans (same_new (o := .tup ((ns.map V.int).drop (i + 1))) nt)
        rw [drop_at hv] at e
        refine ⟨t, rfl, ⟨_, SqT.of upd_same⟩, for_tup (K := K) (a := t) (xs := (ns.map V.int).drop (i + 1)) (fun j σ H' => ∃ z x4, σ = [some (.ref a), some (.int z), some (.int (i : Nat)), some (.int v), x4] ∧
            H' = upd (upd H1 T (.tup [.int (i : Nat), .int v])) t (.tup ((ns.map V.int).drop (i + 1))) ∧ sg ns = z * pr v ((ns.drop (i + 1)).drop j) * sg (ns.drop (i + 1)))
          ⟨z, x4, rfl, rfl, by rw [e, List.drop_zero, sg, Int.mul_assoc]⟩ (fun j σ H' _ ⟨_, _, _, e, _⟩ => by subst e; exact SqT.of upd_same) ?_ ?_⟩
        · rintro j x σ H' hj ⟨z, x4, rfl, rfl, e⟩
          rw [← List.map_drop] at hj
          obtain ⟨u, rfl, hu⟩ := get_ints hj
          rw [drop_at hu, pr] at e
          refine ⟨_, rfl, _, rfl, rfl, _, rfl, ite2 (fun c => ?_) (fun c => ?_)⟩
          · have euv : u = v := V.int.inj (of_decide_eq_true c)
            subst euv
            have e0 : sg ns = 0 := by
              rw [e, s2_eq, Int.zero_mul, Int.mul_zero, Int.zero_mul]
            have q' := q _ s3
            rw [e0] at q'
            exact q'
          · have nuv : ¬ u = v := fun z => c (decide_eq_true (by rw [z]))
            refine ⟨_, rfl, _, rfl, _, _, rfl, rfl, _, rfl, ite2 (fun c2 => ?_) (fun c2 => ?_)⟩
            · have l := of_decide_eq_true c2
              refine ⟨_, rfl, _, rfl, -z, _, rfl, rfl, ?_⟩
              rw [e, s2_lt l, List.drop_drop]
              grind
            · have l : ¬ u < v := fun z => c2 (decide_eq_true z)
              refine ⟨z, _, rfl, rfl, ?_⟩
              rw [e, s2_gt (by omega), List.drop_drop, Int.one_mul]
        · rintro σ H' ⟨z, x4, rfl, rfl, e⟩
          refine ⟨z, _, _, _, rfl, s3, ?_⟩
          rw [List.drop_of_length_le (l := ns.drop (i + 1)) (by rw [← List.map_drop, List.length_map]; exact Nat.le_refl _), pr, Int.mul_one] at e
          exact e
      · rintro σ H1 ⟨z, x2, x3, x4, rfl, s1, e⟩
        refine ⟨_, rfl, ?_⟩
        rw [List.length_map, List.drop_of_length_le (Nat.le_refl _), sg, Int.mul_one] at e
        rw [← e]
        exact q _ s1
theorem ok_lord {f : Addr} {fd : FuncData} {k : Nat} (F : Fun K "_law_order" "_law_order" sLOrd f fd) (mr : mg "range" = none) (ml : mg "len" = none) : FnOk P w K mg base CX0 (k + 1) f fd ["_law_row9"] (spLOrd K) := by
  refine F.ok scLOrd (fun vs H Q E h => ?_) (fun cdv A outer s H vs Q E hr h => ?_)
  · obtain ⟨a, ns, rfl, _⟩ := h
    rfl
  · obtain ⟨a, ns, rfl, hS, hlen, q⟩ := h
    refine ⟨_, pss_cons (ps_set (i := 1) scLOrd.nd rfl (Or.inl rfl) pe_int)
      (pss_cons (ps_for PassesOwn.never rfl (pi_range1 (by rfl) mr (pa_cons (pe_callB call_len_seq (by rfl) ml PySem.boot_len (pa_cons (pv 0) pa_nil)) pa_nil)) (pg_name (i := 2) scLOrd.nd rfl (Or.inl rfl))
        (pss_one (ps_for PassesOwn.never rfl (pi_range1 (by rfl) mr (pa_cons (pv 2) pa_nil)) (pg_name (i := 3) scLOrd.nd rfl (Or.inl rfl))
          (pss_cons (ps_if (pt_cmpR op_eq (pe_ix ix_list (pv 0) (pv 3) (fun _ _ => rfl)) (pe_ix ix_list (pv 0) (pv 2) (fun _ _ => rfl)) (nomark _)) (pss_one (ps_ret pe_int)) pss_nil)
            (pss_one (ps_if (pt_cmpR op_gt (pe_ix ix_list (pv 0) (pv 3) (fun _ _ => rfl)) (pe_ix ix_list (pv 0) (pv 2) (fun _ _ => rfl)) (nomark _)) (pss_one (ps_set (i := 1) scLOrd.nd rfl (Or.inl rfl) (pe_op op_sub pe_int (pv 1)))) pss_nil))))))
      (pss_one (ps_ret (pv 1)))), ?_⟩
    have itemAt : ∀ {j : Nat} (hj : j < ns.length), (ns.map V.int)[j]? = some (.int ns[j]) := fun {j} hj => by
      rw [List.getElem?_map, List.getElem?_eq_getElem hj]
      rfl
    have lenS : ((ns.map V.int).length : Int) = (ns.length : Int) := by rw [List.length_map]
    refine ⟨_, rfl, a, _, rfl, .inl hS, ((ns.map V.int).length : Int), rfl, by omega, by omega, ?_⟩
    refine for_range (lo := 0) (n := (ns.map V.int).length) (fun i σ H' => ∃ z x2 x3, σ = [some (.ref a), some (.int z), x2, x3] ∧ H' = H ∧ z = sg (ns.take i)) ⟨1, none, none, rfl, rfl, rfl⟩ ?_ ?_
    · rintro i σ H1 hi ⟨z, x2, x3, rfl, rfl, rfl⟩
      have hin : i < ns.length := by rw [List.length_map] at hi; exact hi
      have et : ns.take (i + 1) = ns.take i ++ [ns[i]] := by rw [List.take_add_one, List.getElem?_eq_getElem hin]; rfl
      refine ⟨_, rfl, (0 + (i : Int)), rfl, by omega, by omega, ?_⟩
      refine for_range (lo := 0) (n := (0 + (i : Int)).toNat) (fun j σ H' => ∃ z x3, σ = [some (.ref a), some (.int z), some (.int (0 + (i : Int))), x3] ∧ H' = H1 ∧ sg (ns.take (i + 1)) = z * qr ns[i] ((ns.take i).drop j)) ⟨_, x3, rfl, rfl, by rw [et, sg_snoc, List.drop_zero]⟩ ?_ ?_
      · rintro j σ H' hj ⟨z, x3, rfl, rfl, e⟩
        have hji : j < i := by omega
        have hjn : j < ns.length := by omega
        have hu : (ns.take i)[j]? = some ns[j] := by
          rw [List.getElem?_take, if_pos hji, List.getElem?_eq_getElem hjn]
        rw [drop_at hu, qr] at e
        refine ⟨_, rfl, _, rfl, a, _, _, .int ns[j], rfl, rfl, hS, at_of (Int.zero_add _) (itemAt hjn), _, rfl, _, rfl, a, _, _, .int ns[i], rfl, rfl, hS, at_of (Int.zero_add _) (itemAt hin), rfl, _, rfl, ite2 (fun c => ?_) (fun c => ?_)⟩
        · have euv : ns[j] = ns[i] := V.int.inj (of_decide_eq_true c)
          have e0 : sg ns = 0 := sg_take0 (m := i + 1) (by rw [e, euv, s2_eq, Int.zero_mul, Int.mul_zero])
          rw [e0] at q
          exact q
        · have nuv : ¬ ns[j] = ns[i] := fun z => c (decide_eq_true (by rw [z]))
          refine ⟨_, rfl, _, rfl, a, _, _, .int ns[j], rfl, rfl, hS, at_of (Int.zero_add _) (itemAt hjn), _, rfl, _, rfl, a, _, _, .int ns[i], rfl, rfl, hS, at_of (Int.zero_add _) (itemAt hin), _, _, rfl, rfl, _, rfl, ite2 (fun c2 => ?_) (fun c2 => ?_)⟩
          · have l := of_decide_eq_true c2
            refine ⟨_, rfl, _, _, rfl, rfl, 0 - z, _, rfl, rfl, ?_⟩
            rw [e, s2_lt l]
            grind
          · have l : ¬ ns[i] < ns[j] := fun z => c2 (decide_eq_true z)
            refine ⟨z, _, rfl, rfl, ?_⟩
            rw [e, s2_gt (by omega), Int.one_mul]
      · rintro σ H' ⟨z, x3, rfl, rfl, e⟩
        refine ⟨z, _, _, rfl, rfl, ?_⟩
        rw [List.drop_of_length_le (by rw [List.length_take]; omega), qr, Int.mul_one] at e
        exact e.symm
    · rintro σ H1 ⟨z, x2, x3, rfl, rfl, rfl⟩
      refine ⟨_, rfl, ?_⟩
      rw [List.length_map, List.take_length]
      exact q
end
end K3

namespace K3
open PySem PySem.Spec PyProof.Rows L2 ET
theorem BagAt.same {l b : Addr} {ns : List Int} {H H' : Hp} (B : BagAt l ns H b) (s : Same H H') : BagAt l ns H' b := by
  obtain ⟨i, bank, salt, c, hB, r⟩ := B.ex
  exact ⟨B.ne, s _ _ B.ls, i, bank, salt, c, s _ _ hB, r⟩
theorem BagAt.at {l b : Addr} {ns : List Int} {H : Hp} (B : BagAt l ns H b) : ∃ xs, H b = some (.lst xs) := by
  obtain ⟨i, bank, salt, c, hB, r⟩ := B.ex
  exact ⟨_, hB⟩
theorem BagAt.new {l b p : Addr} {ns : List Int} {H : Hp} {o : HO} (B : BagAt l ns H b) (n : H p = none) : BagAt l ns (upd H p o) b := B.same (same_new n)
/-- a store elsewhere -/
theorem BagAt.off {l b p : Addr} {ns : List Int} {H : Hp} {o : HO} (B : BagAt l ns H b) (h1 : p ≠ b) (h2 : p ≠ l) : BagAt l ns (upd H p o) b := by
  obtain ⟨i, bank, salt, c, hB, r⟩ := B.ex
  exact ⟨B.ne, by rw [upd_ne h2.symm]; exact B.ls, i, bank, salt, c, by rw [upd_ne h1.symm]; exact hB, r⟩
abbrev sLaw : Stmt := topS 8
theorem scLaw : FnScope ["_law_script", "_law_bag_here", "_law_turn", "_law_k", "_law_row9", "_law_handed", "_law_due", "_law_j", "_law_left"] ["_law_script"] (defScope sLaw) := ⟨rfl, rfl, rfl, by decide +kernel, rfl, by decide +kernel, by decide +kernel⟩
def spLaw (K : PySem.W.Frag) : Sp := fun vs H Q _ => ∃ (a : Addr) (ns : List Int), vs = [.ref a] ∧ SqL K H a (ns.map V.int) ∧ ns.length ≤ 63 ∧ ∀ H', Q (.bl true) H'
theorem dp_ints {K : PySem.W.Frag} {H : Hp} : ∀ ns : List Int, DpAll K H (ns.map V.int) (ns.map PyData.int)
  | [] => .nil
  | n :: r => .cons (.int n) (dp_ints r)
theorem depth_ints : ∀ ns : List Int, PyData.depthAll (ns.map PyData.int) ≤ 1
  | [] => by simp [PyData.depthAll]
  | n :: r => by
    have ih := depth_ints r
    simp only [List.map_cons, PyData.depthAll, PyData.depth]
    omega
theorem lay_ints : ∀ ns : List Int, PyData.canLayAll0 (ns.map PyData.int) = true
  | [] => by simp [PyData.canLayAll0]
  | n :: r => by
    have ih := lay_ints r
    simp only [List.map_cons, PyData.canLayAll0, PyData.canLay0, ih, Bool.and_self]
theorem map_erase {α β : Type} (g : α → β) : ∀ (l : List α) (k : Nat), (l.map g).eraseIdx k = (l.eraseIdx k).map g
  | [], _ => rfl
  | _ :: _, 0 => rfl
  | x :: r, k + 1 => by
    have ih := map_erase g r k
    simp only [List.map_cons, List.eraseIdx_cons_succ, ih]
theorem iteFe {c : Bool} {A B : Prop} (h : c = false) (b : B) : if c = true then A else B := by
  rw [h, if_neg Bool.false_ne_true]
  exact b
theorem shaped_ints (ns : List Int) : SeqAt.shaped (.list (ns.map PyData.int)) = true := by
  unfold SeqAt.shaped
  have h1 := lay_ints ns
  have h2 := depth_ints ns
  rw [PyData.canLay0, PyData.depth, h1, Bool.true_and]
  exact decide_eq_true (by omega)
theorem eqv_ints (ns : List Int) : PyData.eqv (.list (ns.map PyData.int)) (.list (ns.map PyData.int)) = true := SeqAt.eqv_refl _ (SeqAt.canLay_of_shaped (shaped_ints ns))
structure TL (K : PySem.W.Frag) (mg : Str → Option Value) (fB fP fO fS fG fR : Addr) : Prop extends TS1 mg where
  gB : mg "_law_bag" = some (.ref fB)
  gP : mg "_law_pull" = some (.ref fP)
  gO : mg "_law_of" = some (.ref fO)
  gS : mg "_law_same" = some (.ref fS)
  gG : mg "order_sign" = some (.ref fG)
  gR : mg "_law_order" = some (.ref fR)
section
variable {P : Program} {w : World} {K : PySem.W.Frag} {mg : Str → Option Value} {base : Heap}
theorem kb_row {f : Addr} {fd : FuncData} (F : Fun K "order_sign" "order_sign" sSign f fd) : KBinds K fd ["row"] ["row"] (fun us ws => us ++ ws) (fun vs zs => vs ++ zs) := by
  obtain ⟨oc, od, kV, doc, pm, an, cdv, ct, osl, rfl, lk, hcd⟩ := F.ex
  refine ⟨fun s us ws _ hl => ?_, fun r1 r2 => r1.append r2⟩
  match us, ws, hl with
  | [], [w1], _ => exact .of_eq rfl
  | [u1], [], _ => exact .of_eq rfl
  | [], [], h => cases h
  | [], _ :: _ :: _, h => cases h
  | [_], _ :: _, h => cases h
  | _ :: _ :: _, _, h => cases h
theorem ok_law {f fB fP fO fS fG fR : Addr} {fd dB dP dO dS dG dR : FuncData} (F : Fun K "law" "law" sLaw f fd) (T : TL K mg fB fP fO fS fG fR)
    (GB : FnOk P w K mg base CX0 1 fB dB ["_law_script"] (spBag K)) (kB : PySem.W.keepIn K (.ref fB) = true) (bB : Binds K dB ["_law_script"] [])
    (GP : FnOk P w K mg base CX0 1 fP dP ["_law_bag_here", "_law_many"] spPull) (kP : PySem.W.keepIn K (.ref fP) = true) (bP : Binds K dP ["_law_bag_here", "_law_many"] [])
    (GO : FnOk P w K mg base CX0 2 fO dO ["_law_bag_here", "_law_some"] (spOf K)) (kO : PySem.W.keepIn K (.ref fO) = true) (bO : Binds K dO ["_law_bag_here", "_law_some"] [])
    (GS : FnOk P w K mg base CX0 2 fS dS ["_law_found", "_law_due"] (spSame 2)) (kS : PySem.W.keepIn K (.ref fS) = true) (bS : Binds K dS ["_law_found", "_law_due"] [])
    (GG : FnOk P w K mg base CX0 1 fG dG ["row"] (spSign K)) (kG : PySem.W.keepIn K (.ref fG) = true) (bG : Binds K dG ["row"] []) (bGk : KBinds K dG ["row"] ["row"] (fun us ws => us ++ ws) (fun vs zs => vs ++ zs))
    (GR : FnOk P w K mg base CX0 1 fR dR ["_law_row9"] (spLOrd K)) (kR : PySem.W.keepIn K (.ref fR) = true) (bR : Binds K dR ["_law_row9"] []) :
    FnOk P w K mg base CX0 3 f fd ["_law_script"] (spLaw K) := by
  refine F.ok scLaw (fun vs H Q E h => ?_) (fun cdv A outer s H vs Q E hr h => ?_)
  · obtain ⟨a, ns, rfl, _⟩ := h
    rfl
  · obtain ⟨a, ns, rfl, hS, hlen, q⟩ := h
    have r1 : Room 1 _ := hr.mono (by decide)
    refine ⟨_, pss_cons (ps_set (i := 1) scLaw.nd rfl (Or.inr rfl) (pe_call GB r1 (by rfl) T.gB kB bB .nil pass0 (pa_cons (pv 0) pa_nil)))
      (pss_cons (ps_for PassesOwn.never rfl (pi_range1 (by rfl) T.range (pa_cons pe_int pa_nil)) (pg_name (i := 2) scLaw.nd rfl (Or.inl rfl))
        (pss_cons (ps_setLc (i := 4) (own := [("_law_k", 3)]) (g := gName 3) (tt := tYes) rfl scLaw.nd rfl rfl (sw_true rfl rfl rfl (by decide +kernel))
            (pi_range1 (by rfl) T.range (pa_cons (pe_call GP r1 (by rfl) T.gP kP bP .nil pass0 (pa_cons (pv 1) (pa_cons pe_int pa_nil))) pa_nil))
            (blkOk_by (N := ["_law_script", "_law_bag_here", "_law_turn", "_law_k", "_law_row9", "_law_handed", "_law_due", "_law_j", "_law_left"]) (sc := defScope sLaw) (by decide +kernel))
            (fun _ _ _ _ _ => pg_name (i := 3) scLaw.nd rfl (Or.inl rfl)) (fun _ _ _ _ _ => pts_nil)
            (fun _ _ _ _ _ => pe_call GO hr (by rfl) T.gO kO bO .nil pass0 (pa_cons (pv 1) (pa_cons (pe_lst (pa_cons (pe_call GP r1 (by rfl) T.gP kP bP .nil pass0 (pa_cons (pv 1) (pa_cons pe_int pa_nil)))
              (pa_cons (pe_op op_sub (pe_call GP r1 (by rfl) T.gP kP bP .nil pass0 (pa_cons (pv 1) (pa_cons (pe_op op_pow pe_int pe_int) pa_nil))) (pe_op op_mul pe_int (pe_op op_pow pe_int pe_int))) pa_nil))) pa_nil))))
        (pss_cons (ps_set (i := 5) scLaw.nd rfl (Or.inl rfl) (pe_callTy call_list_of (by rfl) T.list (by decide +kernel) (pa_cons (pv 4) pa_nil)))
        (pss_cons (ps_set (i := 6) scLaw.nd rfl (Or.inl rfl) (pe_call GR r1 (by rfl) T.gR kR bR .nil pass0 (pa_cons (pv 4) pa_nil)))
        (pss_cons (ps_if (PW.pt (pw_or (pt_not (pt_val (pe_call GS hr (by rfl) T.gS kS bS .nil pass0
              (pa_cons (pe_lst (pa_cons (pe_call GG r1 (by rfl) T.gG kG bG .nil pass0 (pa_cons (pv 5) pa_nil)) (pa_cons (pe_call GG r1 (by rfl) T.gG kG bG .nil pass0 (pa_cons (pe_callTy call_tuple_of (by rfl) T.tuple (by decide +kernel) (pa_cons (pv 4) pa_nil)) pa_nil)) pa_nil)))
              (pa_cons (pe_lst (pa_cons (pv 6) (pa_cons (pv 6) pa_nil))) pa_nil)))))
            (pw_or1 (pt_cmpR (op_neD hr.units) (pv 5) (pv 4) (nomark _))))) (pss_one (ps_ret pe_bl)) pss_nil)
        (pss_one (ps_if (pt_cmpR op_gt (pe_callB call_len_seq (by rfl) T.len PySem.boot_len (pa_cons (pv 4) pa_nil)) pe_int (nomark _))
          (pss_cons (ps_set (i := 3) scLaw.nd rfl (Or.inl rfl) (pe_call GP r1 (by rfl) T.gP kP bP .nil pass0 (pa_cons (pv 1) (pa_cons (pe_callB call_len_seq (by rfl) T.len PySem.boot_len (pa_cons (pv 4) pa_nil)) pa_nil))))
          (pss_cons (ps_set (i := 7) scLaw.nd rfl (Or.inl rfl) (pe_op op_mod (pe_op op_add (pe_op op_add (pv 3) pe_int) (pe_call GP r1 (by rfl) T.gP kP bP .nil pass0 (pa_cons (pv 1) (pa_cons (pe_op op_sub (pe_callB call_len_seq (by rfl) T.len PySem.boot_len (pa_cons (pv 4) pa_nil)) pe_int) pa_nil))))
              (pe_callB call_len_seq (by rfl) T.len PySem.boot_len (pa_cons (pv 4) pa_nil))))
          (pss_cons (ps_asg (pe_tup (pa_cons (pe_ix ix_list (pv 4) (pv 7) (fun _ _ => rfl)) (pa_cons (pe_ix ix_list (pv 4) (pv 3) (fun _ _ => rfl)) pa_nil)))
              (pg_tup rfl (pgs_cons (pg_sub (pv 4) (pv 3) set_list) (pgs_cons (pg_sub (pv 4) (pv 7) set_list) pgs_nil))))
          (pss_one (ps_if (pt_not (pt_val (pe_call GS hr (by rfl) T.gS kS bS .nil pass0 (pa_cons (pe_callKw GG r1 (by rfl) T.gG kG bGk pass0 (pk_cons (pv 4) pk_nil)) (pa_cons (pe_op op_sub pe_int (pv 6)) pa_nil)))))
            (pss_one (ps_ret pe_bl)) pss_nil))))) pss_nil)))))))
      (pss_cons (ps_par (i := 8) (j := 4) rfl scLaw.nd rfl rfl (by decide) rfl rfl (pa_cons (pe_listRg rfl (by rfl) T.list (prg_1 (by rfl) T.range pe_int)) (pa_cons (pe_lst pa_nil) pa_nil)) (by rfl))
      (pss_cons (ps_for PassesOwn.never rfl (pi_range1 (by rfl) T.range (pa_cons pe_int pa_nil)) (pg_name (i := 3) scLaw.nd rfl (Or.inl rfl))
        (pss_one (ps_expr (pe_bm PySem.F.plainAttrs_list PySem.F.slot_list_append PySem.F.type_list_append mt_append (pv 4) (pa_cons
          (pe_bm PySem.F.plainAttrs_list PySem.F.slot_list_pop PySem.F.type_list_pop mt_popAt (pv 8) (pa_cons (pe_call GP r1 (by rfl) T.gP kP bP .nil pass0 (pa_cons (pv 1) (pa_cons (pe_callB call_len_seq (by rfl) T.len PySem.boot_len (pa_cons (pv 8) pa_nil)) pa_nil))) pa_nil)) pa_nil)))))
      (pss_cons (ps_if (pt_not (pt_val (pe_call GS hr (by rfl) T.gS kS bS .nil pass0
            (pa_cons (pe_lst (pa_cons (pe_call GG r1 (by rfl) T.gG kG bG .nil pass0 (pa_cons (pv 4) pa_nil)) (pa_cons (pe_call GG r1 (by rfl) T.gG kG bG .nil pass0 (pa_cons (pe_callTy call_tuple_of (by rfl) T.tuple (by decide +kernel) (pa_cons (pe_revL (pv 4)) pa_nil)) pa_nil)) pa_nil)))
            (pa_cons (pe_lst (pa_cons (pe_call GR r1 (by rfl) T.gR kR bR .nil pass0 (pa_cons (pv 4) pa_nil)) (pa_cons (pe_call GR r1 (by rfl) T.gR kR bR .nil pass0 (pa_cons (pe_revL (pv 4)) pa_nil)) pa_nil))) pa_nil)))))
          (pss_one (ps_ret pe_bl)) pss_nil)
      (pss_one (ps_ret (pe_call GS hr (by rfl) T.gS kS bS .nil pass0
        (pa_cons (pe_lst (pa_cons (pe_call GG r1 (by rfl) T.gG kG bG .nil pass0 (pa_cons (pe_lst pa_nil) pa_nil))
          (pa_cons (pe_call GG r1 (by rfl) T.gG kG bG .nil pass0 (pa_cons (pe_lst (pa_cons pe_int pa_nil)) pa_nil))
          (pa_cons (pe_call GG r1 (by rfl) T.gG kG bG .nil pass0 (pa_cons (pe_lst (pa_cons pe_int (pa_cons pe_int pa_nil))) pa_nil))
          (pa_cons (pe_call GG r1 (by rfl) T.gG kG bG .nil pass0 (pa_cons (pe_lst (pa_cons pe_int (pa_cons pe_int (pa_cons pe_int pa_nil)))) pa_nil)) pa_nil)))))
        (pa_cons (pe_lst (pa_cons pe_int (pa_cons pe_int (pa_cons (pe_un un_neg pe_int) (pa_cons pe_int pa_nil))))) pa_nil))))))))), ?_⟩
    refine ⟨_, rfl, a, ns, rfl, hS, fun H1 l b ms s1 nl nb B => ?_⟩
    refine ⟨10, rfl, by decide, by decide, for_range (lo := 0) (n := 10) (fun i σ H' => ∃ x2 x3 x4 x5 x6 x7, σ = [some (.ref a), some (.ref b), x2, x3, x4, x5, x6, x7, none] ∧ BagAt l ms H' b) ⟨none, none, none, none, none, none, rfl, B⟩ ?_ ?_⟩
    · clear B s1
      rintro i σ H2 hi ⟨x2, x3, x4, x5, x6, x7, rfl, B⟩
      -- the row is drawn
      refine ⟨_, rfl, b, l, 8, ms, rfl, by decide, by decide, B, fun r xs0 r0 r8 B1 => ⟨r, rfl, by omega, by omega, fun D nD => ?_⟩⟩
      have nDb : D ≠ b := ne_new nD
      have nDl : D ≠ l := (ne_of_none B1.ls nD).symm
      refine lc_range (lo := 0) (n := r.toNat) (fun j H' => BagAt l ms H' b ∧ ∃ vs : List Int, H' D = some (.lst (vs.map V.int)) ∧ vs.length = j) ⟨B1.new nD, [], upd_same, rfl⟩ ?_ ?_
      · rintro j H3 hj ⟨B3, vs, hD, hvl⟩
        refine ⟨rfl, ?_⟩
        refine ⟨_, rfl, _, rfl, b, l, 7, ms, rfl, by decide, by decide, B3, fun u1 ys u10 u11 B4 => ?_⟩
        refine ⟨_, rfl, _, _, rfl, rfl, (by show (0:Int) ≤ 9 ∧ (9:Int) ≤ 1000000 ∧ (10 : Int).natAbs < 2 ^ 64; decide), b, l, _, ms, rfl, by decide, by decide, B4, fun u2 ys2 u20 u21 B5 => ?_⟩
        refine ⟨_, _, rfl, rfl, (by show (0:Int) ≤ 8 ∧ (8:Int) ≤ 1000000 ∧ (10 : Int).natAbs < 2 ^ 64; decide), _, _, rfl, rfl, .inl (by decide), _, _, rfl, rfl, (by show 2 ≤ sizeLine; decide), fun p np => ?_⟩
        have hD5 : (upd (upd H3 b (.lst ys)) b (.lst ys2)) D = some (.lst (vs.map V.int)) := by rw [upd_ne nDb, upd_ne nDb]; exact hD
        have nDp : D ≠ p := ne_of_none hD5 np
        obtain ⟨bx, hb5⟩ := B5.at
        have npb : p ≠ b := (ne_of_none hb5 np).symm
        refine ⟨b, l, p, ms, _, rfl, B5.new np, upd_same, npb, (by show 0 < 2; decide), (by show 2 < 1073741824; decide), fun v zs hv B6 => ?_⟩
        obtain ⟨w1, rfl⟩ : ∃ w1, v = V.int w1 := by
          rcases List.mem_cons.mp hv with e | e
          · exact ⟨_, e⟩
          · exact ⟨_, List.mem_singleton.mp e⟩
        refine ⟨vs.map V.int, by rw [upd_ne nDb, upd_ne nDp]; exact hD5, ?_, B6.off nDb nDl, vs ++ [w1], ?_, ?_⟩
        · rw [List.length_map, hvl]
          exact small1000 (by omega)
        · rw [upd_same, List.map_append]
          rfl
        · rw [List.length_append, hvl]
          rfl
      · rintro H3 ⟨B3, vs, hD, hvl⟩
        have hv7 : vs.length ≤ 7 := by omega
        -- handed, due
        refine ⟨_, rfl, D, _, rfl, .inl (SqL.of hD), fun p5 n5 => ?_⟩
        have s4 := same_new (o := .lst (vs.map V.int)) n5
        refine ⟨_, rfl, D, vs, rfl, SqL.of (s4 _ _ hD), by omega, ?_⟩
        -- the first test
        refine ⟨_, rfl, p5, vs, rfl, .inl (SqL.of upd_same), by omega, fun H5 s5 => ?_⟩
        refine ⟨_, rfl, D, _, rfl, .inl ⟨SqL.of (s5 _ _ (s4 _ _ hD)), fun t nt => ?_⟩⟩
        refine ⟨t, vs, rfl, .inr (SqT.of upd_same), by omega, fun H6 s6 => ⟨(by show 2 ≤ sizeLine; decide), fun p nq => ?_⟩⟩
        refine ⟨_, rfl, _, rfl, (by show 2 ≤ sizeLine; decide), fun p2 nq2 => ?_⟩
        have sE := (same_new (o := .lst [.int (sg vs), .int (sg vs)]) nq2)
        refine ⟨.ref p, .ref p2, .lst ([sg vs, sg vs].map Dt.int), rfl, Has.ints (n := 0) (ns := [sg vs, sg vs]) (sE _ _ upd_same) (by show 2 ≤ 1000000; decide), Has.ints (n := 0) (ns := [sg vs, sg vs]) upd_same (by show 2 ≤ 1000000; decide), fun H7 s7 => ?_⟩
        have sA : Same (upd H3 p5 (.lst (vs.map V.int))) H7 := s5.trans ((same_new nt).trans (s6.trans ((same_new nq).trans (sE.trans s7))))
        have hD7 : H7 D = some (.lst (vs.map V.int)) := sA _ _ (s4 _ _ hD)
        have hp7 : H7 p5 = some (.lst (vs.map V.int)) := sA _ _ upd_same
        have B7 : BagAt l ms H7 b := (B3.new n5).same sA
        refine ⟨true, rfl, ?_⟩
        refine ⟨_, rfl, _, rfl, _, _, .lst (SqL.of hp7) (dp_ints vs), .lst (SqL.of hD7) (dp_ints vs), shaped_ints vs, shaped_ints vs, _, rfl, iteFe (by rw [eqv_ints]; rfl) ?_⟩
        refine ⟨_, rfl, D, _, rfl, .inl (SqL.of hD7), _, _, rfl, rfl, _, rfl, ite2 (fun c => ?_) (fun c => ?_)⟩
        · have lv : ((vs.map V.int).length : Int) = (vs.length : Int) := by rw [List.length_map]
          have c1 : (1 : Int) < ((vs.map V.int).length : Int) := of_decide_eq_true c
          have n2 : 2 ≤ vs.length := by omega
          refine ⟨_, rfl, _, rfl, D, _, rfl, .inl (SqL.of hD7), b, l, _, ms, rfl, by omega, by omega, B7, fun kk ks k0 k1 B8 => ?_⟩
          have hD8 : (upd H7 b (.lst ks)) D = some (.lst (vs.map V.int)) := by rw [upd_ne nDb]; exact hD7
          refine ⟨_, rfl, _, _, rfl, rfl, _, rfl, _, rfl, D, _, rfl, .inl (SqL.of hD8), _, _, rfl, rfl, b, l, _, ms, rfl, by omega, by omega, B8, fun jj js j0 j1 B9 => ?_⟩
          have hD9 : (upd (upd H7 b (.lst ks)) b (.lst js)) D = some (.lst (vs.map V.int)) := by rw [upd_ne nDb]; exact hD8
          refine ⟨_, _, rfl, rfl, _, rfl, D, _, rfl, .inl (SqL.of hD9), _, _, rfl, rfl, by omega, ?_⟩
          obtain ⟨kn, rfl⟩ : ∃ kn : Nat, kk = (kn : Int) := ⟨kk.toNat, by omega⟩
          have hkn : kn < vs.length := by omega
          have e0 := Int.emod_nonneg ((kn : Int) + 1 + jj) (show (((vs.map V.int).length : Nat) : Int) ≠ 0 by omega)
          have e1 := Int.emod_lt_of_pos ((kn : Int) + 1 + jj) (show (0 : Int) < (((vs.map V.int).length : Nat) : Int) by omega)
          have ene : ((kn : Int) + 1 + jj) % (((vs.map V.int).length : Nat) : Int) ≠ (kn : Int) := by
            intro z
            by_cases hw : (kn : Int) + 1 + jj < (((vs.map V.int).length : Nat) : Int)
            · rw [Int.emod_eq_of_lt (by omega) hw] at z
              omega
            · rw [← Int.sub_emod_right, Int.emod_eq_of_lt (by omega) (by omega)] at z
              omega
          obtain ⟨jn, hjn⟩ : ∃ jn : Nat, ((kn : Int) + 1 + jj) % (((vs.map V.int).length : Nat) : Int) = (jn : Int) := ⟨(((kn : Int) + 1 + jj) % (((vs.map V.int).length : Nat) : Int)).toNat, by omega⟩
          rw [hjn] at e0 e1 ene
          have hjl : jn < vs.length := by omega
          have itemAt : ∀ {m : Nat} (hm : m < vs.length), (vs.map V.int)[m]? = some (.int vs[m]) := fun {m} hm => by
            rw [List.getElem?_map, List.getElem?_eq_getElem hm]
            rfl
          have ixAt : ∀ {m n : Nat}, m < n → ixN n (m : Int) = some m := fun {m n} hm => by
            unfold ixN
            rw [if_pos (by omega), if_pos (by omega)]
            rfl
          have jxAt : ∀ {n : Nat}, jn < n → ixN n (((kn : Int) + 1 + jj) % (((vs.map V.int).length : Nat) : Int)) = some jn := fun {n} hm => by
            rw [hjn]
            exact ixAt hm
          refine ⟨_, rfl, _, rfl, D, _, _, .int vs[jn], rfl, rfl, SqL.of hD9, at_of hjn (itemAt hjl), _, rfl, _, rfl, D, _, _, .int vs[kn], rfl, rfl, SqL.of hD9, atI_nat (itemAt hkn), (by show 2 ≤ sizeLine; decide), fun T nT => ?_⟩
          have hDT : (upd (upd (upd H7 b (.lst ks)) b (.lst js)) T (.tup [.int vs[jn], .int vs[kn]])) D = some (.lst (vs.map V.int)) := (same_new nT) _ _ hD9
          refine ⟨T, _, rfl, SqT.of upd_same, rfl, _, _, rfl, _, rfl, _, rfl, D, _, _, kn, rfl, rfl, hDT, ixAt (by rw [List.length_map]; exact hkn), ?_⟩
          refine ⟨_, _, rfl, _, rfl, _, rfl, D, _, _, jn, rfl, rfl, upd_same, jxAt (by rw [List.length_set, List.length_map]; exact hjl), rfl, ?_⟩
          have hset : ((vs.map V.int).set kn (.int vs[jn])).set jn (.int vs[kn]) = ((vs.set kn vs[jn]).set jn vs[kn]).map V.int := by rw [List.map_set, List.map_set]
          rw [upd_upd, hset]
          have hsg := sg_set2 (l := vs) (i := kn) (j := jn) (by omega) (List.getElem?_eq_getElem hkn) (List.getElem?_eq_getElem hjl)
          have B10 := (B9.new (o := .tup [.int vs[jn], .int vs[kn]]) nT).off (o := .lst (((vs.set kn vs[jn]).set jn vs[kn]).map V.int)) nDb nDl
          refine ⟨_, rfl, D, _, rfl, .inl (SqL.of upd_same), by rw [List.length_set, List.length_set]; omega, fun H11 s11 => ?_⟩
          refine ⟨_, rfl, _, _, rfl, rfl, _, _, .int (- sg vs), rfl, by rw [hsg]; exact .int _, by show Has _ _ (.int (0 - sg vs)) _; rw [Int.zero_sub]; exact .int _, fun H12 s12 => ⟨true, rfl, ?_⟩⟩
          exact ⟨_, _, _, _, _, _, rfl, (B10.same s11).same s12⟩
        · exact ⟨_, _, _, _, _, _, rfl, B7⟩
    · clear B s1
      rintro σ H2 ⟨x2, x3, x4, x5, x6, x7, rfl, B⟩
      refine ⟨64, rfl, RgOk.of_le (by decide) (by decide) (by decide) (by decide), fun q1 nq => ⟨Nat.zero_le _, fun r1' nr => ⟨_, _, rfl, ?_⟩⟩⟩
      have hrg : rgV 0 64 = ((List.range 64).map fun i : Nat => (0 + (i : Int))).map V.int := by
        unfold rgV
        rw [List.map_map]
        rfl
      rw [hrg] at nr ⊢
      obtain ⟨bx, hb⟩ := B.at
      have nqb : q1 ≠ b := (ne_of_none hb nq).symm
      have nql : q1 ≠ l := (ne_of_none B.ls nq).symm
      have nrq : r1' ≠ q1 := ne_new nr
      have nrb : r1' ≠ b := (ne_of_none hb (old_new nr)).symm
      have nrl : r1' ≠ l := (ne_of_none B.ls (old_new nr)).symm
      refine ⟨64, rfl, by decide, by decide, for_range (lo := 0) (n := 64) (fun i σ H' => ∃ x2 x3 x5 x6 x7, ∃ left row : List Int, σ = [some (.ref a), some (.ref b), x2, x3, some (.ref r1'), x5, x6, x7, some (.ref q1)] ∧
          BagAt l ms H' b ∧ H' q1 = some (.lst (left.map V.int)) ∧ H' r1' = some (.lst (row.map V.int)) ∧ left.length + i = 64 ∧ row.length = i)
        ⟨_, _, _, _, _, _, [], rfl, (B.new nq).new nr, (same_new nr) _ _ upd_same, upd_same, by rw [List.length_map, List.length_range], rfl⟩ ?_ ?_⟩
      · rintro i σ H3 hi ⟨y2, y3, y5, y6, y7, left, row, rfl, B3, hq, hrw, hl1, hl2⟩
        have lv : ((left.map V.int).length : Int) = (left.length : Int) := by rw [List.length_map]
        refine ⟨_, rfl, .inl ⟨rfl, _, SqL.of hrw⟩, _, rfl, .inl ⟨rfl, _, SqL.of hq⟩, _, rfl, _, rfl, q1, _, rfl, .inl (SqL.of hq), b, l, _, ms, rfl, by omega, by omega, B3, fun kk ks k0 k1 B8 => ?_⟩
        obtain ⟨kn, rfl⟩ : ∃ kn : Nat, kk = (kn : Int) := ⟨kk.toNat, by omega⟩
        have hkn : kn < left.length := by omega
        have hq8 : (upd H3 b (.lst ks)) q1 = some (.lst (left.map V.int)) := by rw [upd_ne nqb]; exact hq
        have hr8 : (upd H3 b (.lst ks)) r1' = some (.lst (row.map V.int)) := by rw [upd_ne nrb]; exact hrw
        have hix : ixN (left.map V.int).length (kn : Int) = some kn := by
          unfold ixN
          rw [if_pos (by omega), if_pos (by omega)]
          rfl
        have hit : (left.map V.int)[kn]? = some (.int left[kn]) := by
          rw [List.getElem?_map, List.getElem?_eq_getElem hkn]
          rfl
        refine ⟨q1, _, _, kn, _, rfl, rfl, hq8, by omega, by omega, (ixN_seq hix).1, hit, ?_⟩
        refine ⟨r1', _, _, rfl, rfl, by rw [upd_ne nrq]; exact hr8, by rw [List.length_map]; exact small1000 (by omega), ?_⟩
        refine ⟨_, _, _, _, _, left.eraseIdx kn, row ++ [left[kn]], rfl, (B8.off nqb nql).off nrb nrl, ?_, ?_, ?_, ?_⟩
        · rw [upd_ne nrq.symm, upd_same, map_erase]
        · rw [upd_same, List.map_append]
          rfl
        · rw [List.length_eraseIdx, if_pos hkn]
          omega
        · rw [List.length_append, hl2]
          rfl
      · rintro σ H3 ⟨y2, y3, y5, y6, y7, left, row, rfl, B3, hq, hrw, hl1, hl2⟩
        -- the row of sixty-four
        refine ⟨_, rfl, r1', row, rfl, .inl (SqL.of hrw), by omega, fun H5 s5 => ?_⟩
        refine ⟨_, rfl, r1', _, rfl, SqL.of (s5 _ _ hrw), fun v nv => ?_⟩
        rw [← List.map_reverse] at *
        refine ⟨v, _, rfl, .inl ⟨SqL.of upd_same, fun t nt => ?_⟩⟩
        refine ⟨t, row.reverse, rfl, .inr (SqT.of upd_same), by rw [List.length_reverse]; omega, fun H6 s6 => ⟨(by show 2 ≤ sizeLine; decide), fun p nq2 => ?_⟩⟩
        have sA : Same H3 (upd H6 p (.lst [.int (sg row), .int (sg row.reverse)])) := s5.trans ((same_new nv).trans ((same_new nt).trans (s6.trans (same_new nq2))))
        refine ⟨_, rfl, r1', row, rfl, SqL.of (sA _ _ hrw), by omega, ?_⟩
        refine ⟨_, rfl, r1', _, rfl, SqL.of (sA _ _ hrw), fun v2 nv2 => ?_⟩
        rw [← List.map_reverse] at *
        refine ⟨v2, row.reverse, rfl, SqL.of upd_same, by rw [List.length_reverse]; omega, (by show 2 ≤ sizeLine; decide), fun p2 np2 => ?_⟩
        have sE := (same_new nv2 (o := .lst (row.reverse.map V.int))).trans (same_new (o := .lst [.int (sg row), .int (sg row.reverse)]) np2)
        refine ⟨.ref p, .ref p2, .lst ([sg row, sg row.reverse].map Dt.int), rfl, Has.ints (n := 0) (ns := [sg row, sg row.reverse]) (sE _ _ upd_same) (by show 2 ≤ 1000000; decide), Has.ints (n := 0) (ns := [sg row, sg row.reverse]) upd_same (by show 2 ≤ 1000000; decide), fun H7 s7 => ⟨true, rfl, ?_⟩⟩
        -- the written rows
        refine ⟨Nat.zero_le _, fun a1 na1 => ⟨a1, [], rfl, .inl (SqL.of upd_same), by decide, fun K1 t1 => ?_⟩⟩
        refine ⟨(by show 1 ≤ sizeLine; decide), fun a2 na2 => ⟨a2, [5], rfl, .inl (SqL.of upd_same), by decide, fun K2 t2 => ?_⟩⟩
        refine ⟨(by show 2 ≤ sizeLine; decide), fun a3 na3 => ⟨a3, [2, 1], rfl, .inl (SqL.of upd_same), by decide, fun K3 t3 => ?_⟩⟩
        refine ⟨(by show 3 ≤ sizeLine; decide), fun a4 na4 => ⟨a4, [2, 2, 2], rfl, .inl (SqL.of upd_same), by decide, fun K4 t4 => ?_⟩⟩
        refine ⟨(by show 4 ≤ sizeLine; decide), fun p5 np5 => ?_⟩
        refine ⟨_, rfl, (by show 4 ≤ sizeLine; decide), fun p6 np6 => ?_⟩
        refine ⟨.ref p5, .ref p6, .lst ([1, 1, -1, 0].map Dt.int), rfl, Has.ints (n := 0) (ns := [1, 1, -1, 0]) ((same_new np6) _ _ upd_same) (by show 4 ≤ 1000000; decide), Has.ints (n := 0) (ns := [1, 1, -1, 0]) upd_same (by show 4 ≤ 1000000; decide), fun H8 s8 => q _⟩
end
end K3

namespace K3
open PySem PySem.Spec PyProof.Rows L2 ET
theorem all_mk {l : PySem.W.OpenLaw} {w : World} {K : PySem.W.Frag} {h : Heap} {mg : Str → Option Value} {fa f1 f2 f3 f4 f5 f6 f7 : Addr} (X : K.In h) (G : h.Ns mainGlobals mg) (hfa : mg "law" = some (.ref fa))
    {od1 an1 od2 an2 od3 an3 od4 an4 od5 an5 od6 an6 od7 an7 : Option Addr} {sl1 sl2 sl3 sl4 sl5 sl6 sl7 : Array (Option Value)} {oc1 kV1 dc1 pm1 cd1 ct1 oc2 kV2 dc2 pm2 cd2 ct2 oc3 kV3 dc3 pm3 cd3 ct3 oc4 kV4 dc4 pm4 cd4 ct4 oc5 kV5 dc5 pm5 cd5 ct5 oc6 kV6 dc6 pm6 cd6 ct6 oc7 kV7 dc7 pm7 cd7 ct7 : Value}
    (a1 : PySem.W.nsIn K mainGlobals "order_sign" = some (some (.ref f1)))
    (l1 : K.lookup f1 = some ⟨oc1, od1, .func (PySem.W.fnOf "order_sign" "order_sign" (defArgs sSign) (defBody sSign) (defScope sSign) .none kV1 dc1 pm1 an1 cd1 ct1), sl1⟩)
    (c1 : PySem.W.codeIn K cd1 "order_sign" = true) (k1 : PySem.W.keepIn K (.ref f1) = true)
    (a2 : PySem.W.nsIn K mainGlobals "_law_bag" = some (some (.ref f2)))
    (l2 : K.lookup f2 = some ⟨oc2, od2, .func (PySem.W.fnOf "_law_bag" "_law_bag" (defArgs sBag) (defBody sBag) (defScope sBag) .none kV2 dc2 pm2 an2 cd2 ct2), sl2⟩)
    (c2 : PySem.W.codeIn K cd2 "_law_bag" = true) (k2 : PySem.W.keepIn K (.ref f2) = true)
    (a3 : PySem.W.nsIn K mainGlobals "_law_pull" = some (some (.ref f3)))
    (l3 : K.lookup f3 = some ⟨oc3, od3, .func (PySem.W.fnOf "_law_pull" "_law_pull" (defArgs sPull) (defBody sPull) (defScope sPull) .none kV3 dc3 pm3 an3 cd3 ct3), sl3⟩)
    (c3 : PySem.W.codeIn K cd3 "_law_pull" = true) (k3 : PySem.W.keepIn K (.ref f3) = true)
    (a4 : PySem.W.nsIn K mainGlobals "_law_of" = some (some (.ref f4)))
    (l4 : K.lookup f4 = some ⟨oc4, od4, .func (PySem.W.fnOf "_law_of" "_law_of" (defArgs sOf) (defBody sOf) (defScope sOf) .none kV4 dc4 pm4 an4 cd4 ct4), sl4⟩)
    (c4 : PySem.W.codeIn K cd4 "_law_of" = true) (k4 : PySem.W.keepIn K (.ref f4) = true)
    (a5 : PySem.W.nsIn K mainGlobals "_law_same" = some (some (.ref f5)))
    (l5 : K.lookup f5 = some ⟨oc5, od5, .func (PySem.W.fnOf "_law_same" "_law_same" (defArgs sSame) (defBody sSame) (defScope sSame) .none kV5 dc5 pm5 an5 cd5 ct5), sl5⟩)
    (c5 : PySem.W.codeIn K cd5 "_law_same" = true) (k5 : PySem.W.keepIn K (.ref f5) = true)
    (a6 : PySem.W.nsIn K mainGlobals "_law_order" = some (some (.ref f6)))
    (l6 : K.lookup f6 = some ⟨oc6, od6, .func (PySem.W.fnOf "_law_order" "_law_order" (defArgs sLOrd) (defBody sLOrd) (defScope sLOrd) .none kV6 dc6 pm6 an6 cd6 ct6), sl6⟩)
    (c6 : PySem.W.codeIn K cd6 "_law_order" = true) (k6 : PySem.W.keepIn K (.ref f6) = true)
    (a7 : PySem.W.nsIn K mainGlobals "law" = some (some (.ref f7)))
    (l7 : K.lookup f7 = some ⟨oc7, od7, .func (PySem.W.fnOf "law" "law" (defArgs sLaw) (defBody sLaw) (defScope sLaw) .none kV7 dc7 pm7 an7 cd7 ct7), sl7⟩)
    (c7 : PySem.W.codeIn K cd7 "law" = true) (k7 : PySem.W.keepIn K (.ref f7) = true)
    (z1 : PySem.W.nsIn K mainGlobals "isinstance" = some none)
    (z2 : PySem.W.nsIn K mainGlobals "bool" = some none)
    (z3 : PySem.W.nsIn K mainGlobals "int" = some none)
    (z4 : PySem.W.nsIn K mainGlobals "str" = some none)
    (z5 : PySem.W.nsIn K mainGlobals "list" = some none)
    (z6 : PySem.W.nsIn K mainGlobals "tuple" = some none)
    (z7 : PySem.W.nsIn K mainGlobals "len" = some none)
    (z8 : PySem.W.nsIn K mainGlobals "all" = some none)
    (z9 : PySem.W.nsIn K mainGlobals "range" = some none)
    (z10 : PySem.W.nsIn K mainGlobals "enumerate" = some none) :
    ∃ fd : FuncData, (∀ (s : Shared) (v : Value), BindsTo s fd ⟨[v], []⟩ [("_law_script", v)]) ∧ ∀ base : Heap, K.In base → base.Ns mainGlobals mg → FnOk l.prog w K mg base CX0 3 fa fd ["_law_script"] (spLaw K) := by
  have e := hfa.symm.trans (PySem.W.mg_of X G a7)
  cases e
  have F1 := fun_mk (st := sSign) l1 c1 k1
  have b1 := F1.binds (ps := ["row"]) fun _ _ _ _ _ _ us hl => match us, hl with | [_], _ => rfl
  have g1 := PySem.W.mg_of X G a1
  have F2 := fun_mk (st := sBag) l2 c2 k2
  have b2 := F2.binds (ps := ["_law_script"]) fun _ _ _ _ _ _ us hl => match us, hl with | [_], _ => rfl
  have g2 := PySem.W.mg_of X G a2
  have F3 := fun_mk (st := sPull) l3 c3 k3
  have b3 := F3.binds (ps := ["_law_bag_here", "_law_many"]) fun _ _ _ _ _ _ us hl => match us, hl with | [_, _], _ => rfl
  have g3 := PySem.W.mg_of X G a3
  have F4 := fun_mk (st := sOf) l4 c4 k4
  have b4 := F4.binds (ps := ["_law_bag_here", "_law_some"]) fun _ _ _ _ _ _ us hl => match us, hl with | [_, _], _ => rfl
  have g4 := PySem.W.mg_of X G a4
  have F5 := fun_mk (st := sSame) l5 c5 k5
  have b5 := F5.binds (ps := ["_law_found", "_law_due"]) fun _ _ _ _ _ _ us hl => match us, hl with | [_, _], _ => rfl
  have g5 := PySem.W.mg_of X G a5
  have F6 := fun_mk (st := sLOrd) l6 c6 k6
  have b6 := F6.binds (ps := ["_law_row9"]) fun _ _ _ _ _ _ us hl => match us, hl with | [_], _ => rfl
  have g6 := PySem.W.mg_of X G a6
  have F7 := fun_mk (st := sLaw) l7 c7 k7
  have g7 := PySem.W.mg_of X G a7
  have n1 := PySem.W.mg_none_of X G z1
  have n2 := PySem.W.mg_none_of X G z2
  have n3 := PySem.W.mg_none_of X G z3
  have n4 := PySem.W.mg_none_of X G z4
  have n5 := PySem.W.mg_none_of X G z5
  have n6 := PySem.W.mg_none_of X G z6
  have n7 := PySem.W.mg_none_of X G z7
  have n8 := PySem.W.mg_none_of X G z8
  have n9 := PySem.W.mg_none_of X G z9
  have n10 := PySem.W.mg_none_of X G z10
  refine ⟨PySem.W.fnOf "law" "law" (defArgs sLaw) (defBody sLaw) (defScope sLaw) .none kV7 dc7 pm7 an7 cd7 ct7, fun s v => .of_eq rfl, fun base _ _ => ?_⟩
  have T1 : TS1 mg := ⟨n1, n2, n3, n4, n5, n6, n7, n8, n9⟩
  have GP : FnOk l.prog w K mg base CX0 1 f3 _ ["_law_bag_here", "_law_many"] spPull := ok_pull F3 n7
  exact ok_law F7 ⟨T1, g2, g3, g4, g5, g1, g6⟩ (ok_bag F2 n5) F2.kp b2 GP F3.kp b3 (ok_of F4 GP F3.kp b3 g3 n7) F4.kp b4 (ok_same F5 T1 b5 g5 2) F5.kp b5 (ok_sign F1 n10) F1.kp b1 (kb_row F1) (ok_lord F6 n9 n7) F6.kp b6
end K3
open PySem PySem.W PyProof.Rows
set_option maxRecDepth 100000 in
set_option maxHeartbeats 0 in
theorem PySem.Challenge.cw_signcleave_k03_signs_of_orders_holds : PySem.Challenge.rw_signcleave_k03_signs_of_orders.Holds := by
  w_on; o_law; k_head; (case hw => w_witness2)
  k_fill
  refine L2.walk_of (l := PySem.Challenge.rw_signcleave_k03_signs_of_orders) (n := 63) (k := 3) (x := "_law_script") (CX := fun _ => L2.CX0) (sp := fun w => K3.spLaw _) rfl (by decide) rfl ⟨rfl, by decide, by decide⟩ (fun w h Y => PySem.W.kIn_of Y) ?F (fun _ _ a ns hl _ hS => ⟨a, ns, rfl, hS, hl, fun _ => rfl⟩) (fun _ _ _ _ _ h => h)
  case F =>
    intro w mg fa h KX G hmg
    refine' K3.all_mk KX G hmg ?a1 ?l1 ?c1 ?k1 ?a2 ?l2 ?c2 ?k2 ?a3 ?l3 ?c3 ?k3 ?a4 ?l4 ?c4 ?k4 ?a5 ?l5 ?c5 ?k5 ?a6 ?l6 ?c6 ?k6 ?a7 ?l7 ?c7 ?k7 ?z1 ?z2 ?z3 ?z4 ?z5 ?z6 ?z7 ?z8 ?z9 ?z10
    (case a1 => k_is)
    (case l1 => k_is)
    (case c1 => k_is)
    (case k1 => k_is)
    (case a2 => k_is)
    (case l2 => k_is)
    (case c2 => k_is)
    (case k2 => k_is)
    (case a3 => k_is)
    (case l3 => k_is)
    (case c3 => k_is)
    (case k3 => k_is)
    (case a4 => k_is)
    (case l4 => k_is)
    (case c4 => k_is)
    (case k4 => k_is)
    (case a5 => k_is)
    (case l5 => k_is)
    (case c5 => k_is)
    (case k5 => k_is)
    (case a6 => k_is)
    (case l6 => k_is)
    (case c6 => k_is)
    (case k6 => k_is)
    (case a7 => k_is)
    (case l7 => k_is)
    (case c7 => k_is)
    (case k7 => k_is)
    (case z1 => k_is)
    (case z2 => k_is)
    (case z3 => k_is)
    (case z4 => k_is)
    (case z5 => k_is)
    (case z6 => k_is)
    (case z7 => k_is)
    (case z8 => k_is)
    (case z9 => k_is)
    (case z10 => k_is)

