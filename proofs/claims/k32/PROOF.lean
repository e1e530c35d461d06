import PyProof.Rows.All
import Wide.All
import OpenK.AllK
import Wide.FinOn
import HandS.ForMost
import HandS.IsInst
import HandS.Codes
import HandS.Conv
import HandS.Style
import KE.GoesEnum
import KE.GoesZip
import KE.GoesMore
import KE.KFromBytes
import KE.KExcIs
import KE.KExcSuper
import HandS.Base
import HandS.Call
import HandS.Exc
import HandS.ForSpec
import HandS.FStr
import HandS.More
import HandS.Text
import HandS.Dict
import PyProof.StrBlock2
import HandS.TryMany
import HandS.Lambda
import KE.KDflt
import HandS.Deep
import HandS.EndTab
import PySem.Challenge.RW_signcleave_k32_colours_suited
set_option Elab.async false
set_option linter.all false
set_option maxRecDepth 100000
namespace ET
open PySem PySem.Spec PyProof.Rows L2
/-! enumerate(t), t a tuple -/
theorem new_enumT {t : Addr} {items : Array Value} :
    Meets (Builtin.«enumerate.__new__» ⟨[.type "enumerate", .ref t], []⟩)
      (fun _ R s => s.heap.IsTuple t items ∧ R (.ok (.ret (.ref (s.heap.objs.size + 1))))
        { s with heap := (s.heap.push { cls := .type "tuple_iterator", data := .fields #[.ref t, .int 0 0] }).push { cls := .type "enumerate", data := .fields #[.none, .bool false, .ref s.heap.objs.size, rawInt 0, .none, .none] } }) :=
  .of_wp fun prog w A R s hyp => by
    obtain ⟨hp, g, d, tk, os⟩ := s
    obtain ⟨isT, rr⟩ := hyp
    have isSub := sub_enumerate
    have it1 : ∀ {A' : Around} {E Q : Value → Shared → Prop}, Q (.ref hp.objs.size) ⟨hp.push { cls := .type "tuple_iterator", data := .fields #[.ref t, .int 0 0] }, g, d, tk, os⟩ → wpAny (model prog w) A' (pyIter (.ref t)) Q E ⟨hp, g, d, tk, os⟩ :=
      fun q => wpAny_pyIter_tuple isT q
    have hz : (hp.push { cls := .type "tuple_iterator", data := .fields #[.ref t, .int 0 0] }).objs.size = hp.objs.size + 1 := Heap.size_push ..
    wp_walk using it1
    refine wpAny_stack_any fun st => wpAny_pure ?_
    split
    · rename_i c _ _ _ _ _
      cases (c == Value.type "enumerate") <;> (wp_walk using it1; rw [hz]; exact ⟨_, rfl, rr⟩)
    · wp_walk using it1
      rw [hz]
      exact ⟨_, rfl, rr⟩
theorem call_enumT {prog : Program} {w : World} {A : Around} {E : Value → Shared → Prop} {s : Shared} {t : Addr} {items : Array Value} {Q : Value → Shared → Prop} (isT : s.heap.IsTuple t items)
    (h : ∀ h', IsEnum h' (s.heap.objs.size + 1) s.heap.objs.size 0 .none → h'.IsTupleIter s.heap.objs.size t 0 →
      (∀ b o, s.heap.get? b = some o → h'.get? b = some o) → Q (.ref (s.heap.objs.size + 1)) { s with heap := h' }) :
    wpAny (model prog w) A (call (.type "enumerate") [.ref t]) Q E s := by
  refine callType_new F.called_enumerate (by decide) (F.typeCall_enumerate_1 _) (F.newCall_enumerate_1 _) (fun obj => F.args_object_init_2 obj _) F.entry_enumerate_new (new_enumT (items := items)) ⟨isT, ?_⟩
  have hz : (s.heap.push { cls := .type "tuple_iterator", data := .fields #[.ref t, .int 0 0] }).objs.size = s.heap.objs.size + 1 := Heap.size_push ..
  have he : ∀ o, o.isFreed = false → ((s.heap.push { cls := .type "tuple_iterator", data := .fields #[.ref t, .int 0 0] }).push o).get? (s.heap.objs.size + 1) = some o := fun o hf => by
    have q := Heap.get?_push_size (s.heap.push { cls := .type "tuple_iterator", data := .fields #[.ref t, .int 0 0] }) (o := o) hf
    rw [hz] at q
    exact q
  exact ⟨⟨_, he _ rfl, rfl⟩, h _ (he _ rfl) ⟨_, Heap.get?_push_of_some _ (Heap.get?_push_size _ rfl), rfl, rfl⟩ fun b o x => Heap.get?_push_of_some _ (Heap.get?_push_of_some _ x)⟩
/-- the tuple at a, item by item, each in a new pair -/
def IteT (K : PySem.W.Frag) (a : Addr) : It where
  go := fun i H => ∃ (xs : List V) (x : V), SqT K H a xs ∧ xs[i]? = some x
  yld := fun i H v H' => ∃ T x, v = .ref T ∧ H T = none ∧ H' = upd H T (.tup [.int (i : Nat), x]) ∧ ∀ xs, SqT K H a xs → xs[i]? = some x
  stop := fun i H => ∃ xs : List V, SqT K H a xs ∧ xs.length ≤ i
theorem turn_enumT {P : Program} {w : World} {K : PySem.W.Frag} {elts : List Expr} {kk : Nat} {tpos : Pos} (a e it : Addr) (hai : a ≠ it) (hae : a ≠ e) (hei : e ≠ it) :
    Turn P w K (.Tuple elts kk tpos) (IteT K a) [e, it] e (fun i h => (∃ old, IsEnum h e it ((i : Nat) : Int) old) ∧ h.IsTupleIter it a i) where
  mem := List.mem_cons_self
  obj := fun i h st b hb => by
    obtain ⟨⟨old, he⟩, o, ho, hc, hd⟩ := st
    rcases List.mem_cons.mp hb with z | z
    · subst z
      exact ⟨_, he, fun v q => nomatch q⟩
    · rw [List.mem_singleton.mp z]
      exact ⟨o, ho, fun v q => by rw [hd] at q; cases q⟩
  keep := fun i h h' st k => by
    obtain ⟨⟨old, he⟩, hi⟩ := st
    exact ⟨⟨old, k e (by simp) _ he⟩, hi.at fun o q => k it (by simp) o q⟩
  item := by
    rintro X rfl rfl rfl hc i pins s σ H E I hf ⟨⟨old, he⟩, hit⟩ ⟨xs, x, hq, hx⟩
    obtain ⟨its, rv, p, hz⟩ := I.tuple hq
    obtain ⟨u, hu, ru⟩ := rv.get hx
    have hp : s.heap.IsTuple a its.toArray := p
    have hel : e < s.heap.objs.size := Heap.lt_size he
    have hil : it < s.heap.objs.size := by
      obtain ⟨_, q, _⟩ := hit
      exact Heap.lt_size q
    have hlt : i < its.toArray.size := by
      have q := (List.getElem?_eq_some_iff.mp hu).1
      simpa using q
    refine wpAny_pyNext_enum_itemD (Draws.tuple (A := X.A.in1) (I.ok.hd hc) it a hai its.toArray) he ⟨hit, hp⟩ hlt hei (by simp [hei, Ne.symm hae]) fun y h' tk hy ho hit' hT hsz hk => ?_
    have ey : y = u := by
      have q : its[i]? = some y := by simpa using hy
      rw [hu] at q
      exact (Option.some.inj q).symm
    subst ey
    refine ⟨_, rfl, wpAny_letOwnedTupleGo_enum (s := { s with heap := h', toks := tk + 1 }) ho fun h'' he' sb => ?_⟩
    have hT2 : h''.get? s.heap.objs.size = some { cls := .type "tuple", data := .seq #[.int i tk, y] } := (sb.2 _ (Nat.ne_of_gt hel)).trans hT
    have pairOk : ObjOk X.prog X.w (upd H s.heap.objs.size (.tup [.int (i : Nat), x])) h'' s.heap.objs.size
        (.tup [.int (i : Nat), x]) := ⟨by show 2 ≤ sizeLine; decide, [.int i tk, y], .cons ⟨_, rfl⟩ (.cons ru .nil), _, hT2, rfl, _, rfl⟩
    have stays : ∀ c oc, c ∉ [e, it] → s.heap.get? c = some oc → h''.get? c = some oc := fun c oc hc' z => by
      have n1 : c ≠ e := fun z1 => hc' (by simp [z1])
      have n2 : c ≠ it := fun z1 => hc' (by simp [z1])
      exact (sb.2 c n1).trans (hk c oc n1 n2 z)
    have I1 : Inv X pins σ (upd H s.heap.objs.size (.tup [.int (i : Nat), x])) { s with heap := h'', toks := tk + 1 } :=
      I.turnedNew (ch := [e, it]) stays hf (Nat.le_refl _) pairOk
    have e1 : ((i + 1 : Nat) : Int) = (i : Int) + 1 := by omega
    refine ⟨.ref s.heap.objs.size, _, I1, rfl, ⟨_, x, rfl, I.hok.fresh (Nat.le_refl _), rfl, fun ys hy => by rw [I.tuple_inj hy hq]; exact hx⟩, ⟨⟨y, by rw [e1]; exact he'⟩, hit'.1.at fun o q => (sb.2 it (Ne.symm hei)).trans q⟩, fun b hb => ?_⟩
    have hb' : b < s.heap.objs.size := by
      rcases List.mem_cons.mp hb with z | z
      · rw [z]; exact hel
      · rw [List.mem_singleton.mp z]; exact hil
    rw [upd_ne (Nat.ne_of_lt hb')]
    exact (hf b hb).1
  done := by
    rintro X rfl rfl rfl hc i pins s σ H E I hf ⟨⟨old, he⟩, hit⟩ ⟨xs, hq, hx⟩
    obtain ⟨its, rv, p, hz⟩ := I.tuple hq
    have hp : s.heap.IsTuple a its.toArray := p
    obtain ⟨f0, f1, f2, f3, f4, f5⟩ := hf it (by simp)
    have hl := rv.length
    unfold pyNext
    refine wpAny_bind (wpAny_attempt (wpAny_callSpecial?_slot (name := Str.ofString "__next__") ⟨_, he, rfl⟩ F.slot_enumerate_next (wpAny_call_entry F.slot_enumerate_next ⟨_, he, rfl⟩ F.entry_enumerate_next ?_ (F.args_enumerate_next_1 _))))
    show wpAny _ _ (field (.ref e) 2 >>= _) _ _ _
    refine wpAny_bind (wpAny_field he rfl (x := .ref it) rfl (wpAny_bind (wpAny_nextOf_tuple_end (A := X.A.in1) (I.ok.hd hc) hit hp (by simp; omega) fun h' x eb hx' => ?_)))
    obtain ⟨o, ho, hcl⟩ := hx'
    exact wpAny_bind (wpAny_isInstance (T := "StopIteration") (b := true) ⟨o, ho, hcl⟩ isSubtype_stop (wpAny_pure ⟨rfl, I.turned (t' := s.toks) (fun b o hb q => eb b o hb q) f0 f1 f3 f4 f5⟩))
  self := fun A i s Q E st h => by
    obtain ⟨⟨_, he⟩, _⟩ := st
    exact wpAny_pyIter_enum he h
def iEnumT (K : PySem.W.Frag) (ta : TA) : TI := fun σ H R => ta σ H fun vs H1 => ∃ a xs, vs = [.ref a] ∧ SqT K H1 a xs ∧ R (IteT K a) H1
theorem pi_enumT {X : Cx} {e : Expr} {ta : TA} {p pos tpos : Pos} {elts : List Expr} {kk : Nat} (hg : Gl X "enumerate") (hm : X.mg "enumerate" = none) (ha : PA X [e] ta)
    (hs : starEach [e] X.env = [(false, eval e X.env)] := by rfl) : PI X (.Tuple elts kk tpos) (.Call (.Name "enumerate" p) [e] [] pos) (iEnumT X.K ta) := by
  refine ⟨fun pins s σ H R I h => Call_ (ld_blt I hg hm boot_enumerate (PyProof.Rows.callWith_type1 (thn (ha.run pos pins s σ H _ I h) fun us s1 h1 => ?_) hs rfl))⟩
  obtain ⟨vs, H1, I1, r1, a, xs, rfl, hq, q⟩ := h1
  cases r1 with
  | cons r rr =>
    cases rr
    cases r
    obtain ⟨its, rv, p', hz⟩ := I1.tuple hq
    have hp : s1.heap.IsTuple a its.toArray := p'
    have hlt : a < s1.heap.objs.size := IsTup.lt p'
    refine call_enumT hp fun h' he hit hk => wpAny_pyIter_enum he ?_
    have I2 : Inv X pins σ H1 { s1 with heap := h' } := I1.kept (t' := s1.toks) hk
    refine ⟨s1.heap.objs.size + 1, [s1.heap.objs.size + 1, s1.heap.objs.size], _, _, H1, rfl, I2, turn_enumT a (s1.heap.objs.size + 1) s1.heap.objs.size (Nat.ne_of_lt hlt) (Nat.ne_of_lt (Nat.lt_succ_of_lt hlt)) (Nat.succ_ne_self _), ⟨⟨.none, he⟩, hit⟩, fun b hb => ?_, q⟩
    have hb' : s1.heap.objs.size ≤ b := by
      rcases List.mem_cons.mp hb with z | z
      · rw [z]; exact Nat.le_succ _
      · rw [List.mem_singleton.mp z]; exact Nat.le_refl _
    exact I1.fpOk hb' (I1.hok.fresh hb')
end ET

namespace K32
open PySem PySem.Spec PyProof.Rows L2
def topS (i : Nat) : Stmt := PySem.Challenge.pw_signcleave_k32_colours_suited.main.body.getD i (.Pass ⟨0, 0, 0, 0⟩)
abbrev sBag : Stmt := topS 16
abbrev sPull : Stmt := topS 17
abbrev sOf : Stmt := topS 18
theorem scPull : FnScope ["_law_bag_here", "_law_many", "_law_cell", "_law_got", "_law_base", "_law_twice"] ["_law_bag_here", "_law_many"] (defScope sPull) := ⟨rfl, rfl, rfl, by decide +kernel, rfl, by decide +kernel, by decide +kernel⟩
theorem scBag : FnScope ["_law_script", "_law_salt", "_law_cell"] ["_law_script"] (defScope sBag) := ⟨rfl, rfl, rfl, by decide +kernel, rfl, by decide +kernel, by decide +kernel⟩
theorem scOf : FnScope ["_law_bag_here", "_law_some"] ["_law_bag_here", "_law_some"] (defScope sOf) := ⟨rfl, rfl, rfl, by decide +kernel, rfl, by decide +kernel, by decide +kernel⟩

/-! ### the bag -/
def bagv (l : Addr) (i bank salt c : Int) : List V := [.ref l, .int i, .int bank, .int salt, .int c]
structure BagAt (l : Addr) (ns : List Int) (H : Hp) (b : Addr) : Prop where
  ne : l ≠ b
  ls : H l = some (.lst (ns.map V.int))
  ex : ∃ i bank salt c, H b = some (.lst (bagv l i bank salt c)) ∧ 0 ≤ i ∧ 0 ≤ bank ∧ 0 ≤ salt ∧ salt < 2147483629
def spPull : Sp := fun vs H Q _ => ∃ (b l : Addr) (m : Int) (ns : List Int), vs = [.ref b, .int m] ∧ 0 < m ∧ m < 1073741824 ∧ BagAt l ns H b ∧
  ∀ r xs, 0 ≤ r → r < m → BagAt l ns (upd H b (.lst xs)) b → Q (.int r) (upd H b (.lst xs))
theorem BagAt.put {l b : Addr} {ns : List Int} {H : Hp} (B : BagAt l ns H b) {i bank salt c : Int} (h1 : 0 ≤ i) (h2 : 0 ≤ bank) (h3 : 0 ≤ salt) (h4 : salt < 2147483629) : BagAt l ns (upd H b (.lst (bagv l i bank salt c))) b :=
  ⟨B.ne, by rw [upd_ne B.ne]; exact B.ls, i, bank, salt, c, upd_same, h1, h2, h3, h4⟩
theorem upd_self {H : Hp} {a : Addr} {o : HO} (h : H a = some o) : upd H a o = H := by
  funext b
  unfold upd
  split
  · rename_i e
    rw [e, h]
  · rfl
theorem mul_const {j : Int} (h : -(2 ^ 64) < j ∧ j < 2 ^ 64) (i : Int) : CMul i j := .inr h
section
variable {P : Program} {w : World} {K : PySem.W.Frag} {mg : Str → Option Value} {base : Heap}
theorem ok_pull {f : Addr} {fd : FuncData} {k : Nat} (F : Fun K "_law_pull" "_law_pull" sPull f fd) (ml : mg "len" = none) : FnOk P w K mg base CX0 (k + 1) f fd ["_law_bag_here", "_law_many"] spPull := by
  refine F.ok scPull (fun vs H Q E h => ?_) (fun cdv A outer s H vs Q E hr h => ?_)
  · obtain ⟨b, l, m, ns, rfl, _⟩ := h
    rfl
  · obtain ⟨b, l, m, ns, rfl, m0, m1, B, q⟩ := h
    refine ⟨_, C8.pss_cut (ps_if (PW.pt (pw_and (pt_cmpR op_lt (pe_ix ix_list (pv 0) pe_int (fun _ _ => rfl)) pe_int (nomark _))
          (pw_and1 (pt_cmpR op_lt (pe_ix ix_list (pv 0) pe_int (fun _ _ => rfl)) (pe_callB call_len_seq (by rfl) ml PySem.boot_len (pa_cons (pe_ix ix_list (pv 0) pe_int (fun _ _ => rfl)) pa_nil)) (nomark _)))))
        (pss_cons (ps_set (i := 2) scPull.nd rfl (Or.inl rfl) (pe_ix ix_list (pe_ix ix_list (pv 0) pe_int (fun _ _ => rfl)) (pe_ix ix_list (pv 0) pe_int (fun _ _ => rfl)) (fun _ _ => rfl)))
        (pss_cons (ps_asg (pe_op op_add (pe_ix ix_list (pv 0) pe_int (fun _ _ => rfl)) pe_int) (pg_sub (pv 0) pe_int set_list))
        (pss_one (ps_if (pt_cmpR op_ge (pv 2) (pe_op op_pow pe_int pe_int) (nomark _))
          (pss_one (ps_asg (pv 2) (pg_sub (pv 0) pe_int set_list)))
          (pss_one (ps_asg (pe_op op_mod (pe_op op_add (pe_op op_add (pe_op op_mul (pe_ix ix_list (pv 0) pe_int (fun _ _ => rfl)) pe_int) (pe_op op_mod (pv 2) pe_int)) pe_int) pe_int) (pg_sub (pv 0) pe_int set_list)))))))
        pss_nil)
      (pss_cons (ps_if (pt_cmpR op_gt (pe_ix ix_list (pv 0) pe_int (fun _ _ => rfl)) pe_int (nomark _))
        (pss_cons (ps_set (i := 3) scPull.nd rfl (Or.inl rfl) (pe_op op_mod (pe_ix ix_list (pv 0) pe_int (fun _ _ => rfl)) (pv 1)))
        (pss_cons (ps_asg (pe_op op_fdiv (pe_ix ix_list (pv 0) pe_int (fun _ _ => rfl)) (pv 1)) (pg_sub (pv 0) pe_int set_list))
        (pss_one (ps_ret (pv 3)))))
        pss_nil)
      (pss_cons (ps_asg (pe_op op_add (pe_ix ix_list (pv 0) pe_int (fun _ _ => rfl)) pe_int) (pg_sub (pv 0) pe_int set_list))
      (pss_cons (ps_set (i := 4) scPull.nd rfl (Or.inl rfl) (pe_op op_mod (pe_op op_add (pe_ix ix_list (pv 0) pe_int (fun _ _ => rfl)) (pe_op op_mul (pe_ix ix_list (pv 0) pe_int (fun _ _ => rfl)) pe_int)) pe_int))
      (pss_cons (ps_set (i := 5) scPull.nd rfl (Or.inl rfl) (pe_op op_mul (pe_op op_mod (pe_op op_mul (pv 4) (pv 4)) pe_int) (pe_op op_add (pe_op op_mod (pv 4) pe_int) pe_int)))
      (pss_cons (ps_asg (pe_op op_mod (pe_op op_add (pe_op op_add (pv 5) (pe_op op_mul pe_int (pv 4))) pe_int) pe_int) (pg_sub (pv 0) pe_int set_list))
      (pss_one (ps_ret (pe_op op_mod (pe_op op_add (pe_op op_fdiv (pe_ix ix_list (pv 0) pe_int (fun _ _ => rfl)) pe_int) (pe_op op_mul (pe_op op_mod (pe_ix ix_list (pv 0) pe_int (fun _ _ => rfl)) pe_int) pe_int)) (pv 1))))))))), ?_⟩
    obtain ⟨bl, ls, i, bank, salt, c, hB, i0, b0, s0, s1⟩ := id B
    have len5 : ∀ {i bank salt c : Int}, SqL K (upd H b (.lst (bagv l i bank salt c))) b (bagv l i bank salt c) := SqL.of upd_same
    have lsU : ∀ {xs : List V}, SqL K (upd H b (.lst xs)) l (ns.map V.int) := SqL.of (by rw [upd_ne bl]; exact ls)
    refine ⟨fun σ' H' => ∃ x2 i bank salt c, σ' = [some (.ref b), some (.int m), x2, none, none, none] ∧ H' = upd H b (.lst (bagv l i bank salt c)) ∧ 0 ≤ i ∧ 0 ≤ bank ∧ 0 ≤ salt ∧ salt < 2147483629, ?_, ?_⟩
    · have hself : upd H b (.lst (bagv l i bank salt c)) = H := upd_self hB
      refine ⟨_, rfl, b, _, 2, _, rfl, rfl, SqL.of hB, rfl, _, _, rfl, rfl, _, rfl, ite2 (fun h1 => ?_) (fun h1 => ?_)⟩
      · refine ⟨_, rfl, b, _, 1, _, rfl, rfl, SqL.of hB, rfl, _, rfl, b, _, 0, _, rfl, rfl, SqL.of hB, rfl, l, _, rfl, .inl (SqL.of ls), _, _, rfl, rfl, _, rfl, ite2 (fun h2 => ?_) (fun h2 => ?_)⟩
        · have hi : i < (ns.length : Int) := by
            have q := of_decide_eq_true h2
            rw [List.length_map] at q
            exact q
          obtain ⟨j, rfl⟩ : ∃ j : Nat, i = (j : Int) := ⟨i.toNat, by omega⟩
          have hj : j < ns.length := by omega
          refine ⟨_, rfl, b, _, 0, _, rfl, rfl, SqL.of hB, rfl, _, rfl, b, _, 1, _, rfl, rfl, SqL.of hB, rfl, l, _, _, .int ns[j], rfl, rfl, SqL.of ls, atI_nat (by rw [List.getElem?_map, List.getElem?_eq_getElem hj]; rfl), ?_⟩
          refine ⟨_, rfl, b, _, 1, _, rfl, rfl, SqL.of hB, rfl, _, _, rfl, rfl, _, rfl, b, _, 1, 1, rfl, rfl, hB, rfl, ?_⟩
          refine ⟨_, rfl, _, _, rfl, rfl, (by show (0:Int) ≤ 18 ∧ (18:Int) ≤ 1000000 ∧ (10 : Int).natAbs < 2 ^ 64; decide), _, _, rfl, rfl, _, rfl, ite2 (fun h3 => ?_) (fun h3 => ?_)⟩
          · have h3' : (10 : Int) ^ 18 ≤ ns[j] := of_decide_eq_true h3
            refine ⟨_, rfl, _, rfl, b, _, 2, 2, rfl, rfl, upd_same, rfl, ?_⟩
            refine ⟨_, (j : Int) + 1, ns[j], salt, c, rfl, upd_upd, by omega, by omega, s0, s1⟩
          · refine ⟨_, rfl, b, _, 3, _, rfl, rfl, SqL.of upd_same, rfl, _, _, rfl, rfl, mul_const (by decide) _, _, rfl, _, _, rfl, rfl, (by show (0 : Int) < 2147483587; decide), _, _, rfl, rfl, _, _, rfl, rfl, _, _, rfl, rfl, (by show (0 : Int) < 2147483629; decide), _, rfl, b, _, 3, 3, rfl, rfl, upd_same, rfl, ?_⟩
            refine ⟨_, (j : Int) + 1, bank, _, c, rfl, upd_upd, by omega, b0, Int.emod_nonneg _ (by decide), Int.emod_lt_of_pos _ (by decide)⟩
        · exact ⟨none, i, bank, salt, c, rfl, hself.symm, i0, b0, s0, s1⟩
      · exact iteF ⟨none, i, bank, salt, c, rfl, hself.symm, i0, b0, s0, s1⟩
    · clear hB i0 b0 s0 s1 i bank salt c
      rintro σ' H' ⟨x2, i, bank, salt, c, rfl, rfl, i0, b0, s0, s1⟩
      refine ⟨_, rfl, b, _, 2, _, rfl, rfl, len5, rfl, _, _, rfl, rfl, _, rfl, ite2 (fun h1 => ?_) (fun h1 => ?_)⟩
      · refine ⟨_, rfl, b, _, 2, _, rfl, rfl, len5, rfl, _, rfl, _, _, rfl, rfl, m0, ?_⟩
        refine ⟨_, rfl, b, _, 2, _, rfl, rfl, len5, rfl, _, rfl, _, _, rfl, rfl, ⟨m0, m1⟩, _, rfl, b, _, 2, 2, rfl, rfl, upd_same, rfl, ?_⟩
        refine ⟨_, rfl, ?_⟩
        rw [upd_upd]
        exact q _ _ (Int.emod_nonneg _ (by omega)) (Int.emod_lt_of_pos _ m0) (B.put i0 (Int.ediv_nonneg b0 (by omega)) s0 s1)
      · refine ⟨_, rfl, b, _, 4, _, rfl, rfl, len5, rfl, _, _, rfl, rfl, _, rfl, b, _, 4, 4, rfl, rfl, upd_same, rfl, ?_⟩
        rw [upd_upd]
        refine ⟨_, rfl, b, _, 3, _, rfl, rfl, len5, rfl, _, rfl, b, _, 4, _, rfl, rfl, len5, rfl, _, _, rfl, rfl, mul_const (by decide) _, _, _, rfl, rfl, _, _, rfl, rfl, (by show (0 : Int) < 2147483629; decide), ?_⟩
        have e0 := Int.emod_nonneg (salt + (c + 1) * 6151) (show (2147483629 : Int) ≠ 0 by decide)
        have e1 := Int.emod_lt_of_pos (salt + (c + 1) * 6151) (show (0 : Int) < 2147483629 by decide)
        generalize (salt + (c + 1) * 6151) % 2147483629 = ba at e0 e1 ⊢
        refine ⟨_, rfl, _, rfl, _, _, rfl, rfl, .inl (by omega), _, _, rfl, rfl, (by show (0 : Int) < 2147483587; decide), _, rfl, _, _, rfl, rfl, (by show (0 : Int) < 40009; decide), _, _, rfl, rfl, _, _, rfl, rfl, .inl ?_, ?_⟩
        · have a0 := Int.emod_nonneg (ba * ba) (show (2147483587 : Int) ≠ 0 by decide)
          have a1 := Int.emod_lt_of_pos (ba * ba) (show (0 : Int) < 2147483587 by decide)
          omega
        refine ⟨_, rfl, _, rfl, _, _, rfl, rfl, .inl (by decide), _, _, rfl, rfl, _, _, rfl, rfl, _, _, rfl, rfl, (by show (0 : Int) < 2147483629; decide), _, rfl, b, _, 3, 3, rfl, rfl, upd_same, rfl, ?_⟩
        rw [upd_upd]
        refine ⟨_, rfl, b, _, 3, _, rfl, rfl, len5, rfl, _, _, rfl, rfl, (by show (0:Int) < 67 ∧ (67:Int) < 1073741824; decide), _, rfl, b, _, 3, _, rfl, rfl, len5, rfl, _, _, rfl, rfl, (by show (0 : Int) < 8209; decide), _, _, rfl, rfl, mul_const (by decide) _, _, _, rfl, rfl, _, rfl, _, _, rfl, rfl, m0, ?_⟩
        exact q _ _ (Int.emod_nonneg _ (by omega)) (Int.emod_lt_of_pos _ m0) (B.put i0 b0 (Int.emod_nonneg _ (by decide)) (Int.emod_lt_of_pos _ (by decide)))
end
end K32

namespace K32
open PySem PySem.Spec PyProof.Rows L2
/-! ### f(k = e, ..) without written places -/
theorem pe_callKw {X : Cx} {CX : CXT} {k : Nat} {f : Addr} {fd : FuncData} {ps ks : List Str} {sp : Sp} {g : List Value → List Value → List Value} {gV : List V → List V → List V} {E : XK} {tk : TA} {x : Str} {kws : List Keyword} {p pos : Pos}
    (F : FnOk X.prog X.w X.K X.mg X.base CX k f fd ps sp) (hr : Room k X.A) (hg : Gl X x) (hm : X.mg x = some (.ref f)) (hk : PySem.W.keepIn X.K (.ref f) = true) (hb : KBinds X.K fd ps ks g gV) (hx : Passes CX X E)
    (hkw : PK X kws tk) (hall : (backToKw pos (keywordEach kws X.env)).all (·.1.isSome) = true := by rfl) (hks : (backToKw pos (keywordEach kws X.env)).filterMap (·.1) = ks := by rfl)
    (hdb : (x == ("__debug__" : Str)) = false := by decide) (hpl : ((backTo pos (starEach [] X.env)).any (·.1) || (backToKw pos (keywordEach kws X.env)).any (·.1.isNone)) = false := by rfl) :
    PE X (.Call (.Name x p) [] kws pos) (tCallK sp gV E tNil tk) := by
  refine ⟨fun pins s σ H Q I h => wpAny_Call_Name_kw (ld_glob I hg hm ?_ hdb)⟩
  refine PySem.W.callWith_KW0 (h₀ := X.base) I.ok.mod.kin hk hall (thn (hkw.run pos pins s σ H _ I h) fun ws s2 hh => ?_) hpl
  obtain ⟨zs, H2, I2, rz, q2⟩ := hh
  refine ⟨I2.kIn, ?_⟩
  rw [hks]
  exact run_fnk F hr hb hx I2 .nil rz q2
/-! ### lists cut -/
theorem cutTo (xs : List V) (k : Nat) : cutV xs none (some (k : Int)) = xs.take k := by
  unfold cutV
  rw [HT.sIx_none, HT.sIx_nat, List.drop_zero, Nat.sub_zero]
  by_cases h : k ≤ xs.length
  · rw [Nat.min_eq_left h]
  · rw [Nat.min_eq_right (by omega), List.take_of_length_le (Nat.le_refl _), List.take_of_length_le (by omega)]
theorem cutFrom (xs : List V) (k : Nat) : cutV xs (some (k : Int)) none = xs.drop k := by
  unfold cutV
  rw [HT.sIx_none, HT.sIx_nat]
  by_cases h : k ≤ xs.length
  · rw [Nat.min_eq_left h]
    exact List.take_of_length_le (by rw [List.length_drop]; exact Nat.le_refl _)
  · rw [Nat.min_eq_right (by omega), List.drop_of_length_le (Nat.le_refl _), List.drop_of_length_le (by omega), List.take_nil]
theorem same_new {H : Hp} {p : Addr} {o : HO} (h : H p = none) : Same H (upd H p o) := fun b x e => by
  rw [upd_ne (ne_of_none e h)]
  exact e
theorem get_ints {ns : List Int} {i : Nat} {x : V} (h : (ns.map V.int)[i]? = some x) : ∃ v, x = .int v ∧ ns[i]? = some v := by
  rw [List.getElem?_map] at h
  cases e : ns[i]? with
  | none => rw [e] at h; cases h
  | some v => rw [e] at h; exact ⟨v, (Option.some.inj h).symm, rfl⟩
theorem ne_new {H : Hp} {p : Addr} {o : HO} {b : Addr} (h : (upd H p o) b = none) : b ≠ p := fun e => by
  rw [e, upd_same] at h
  cases h
theorem old_new {H : Hp} {p : Addr} {o : HO} {b : Addr} (h : (upd H p o) b = none) : H b = none := by
  rw [upd_ne (ne_new h)] at h
  exact h
/-! ### the bag made -/
def spBag (K : PySem.W.Frag) : Sp := fun vs H Q _ => ∃ (a : Addr) (ns : List Int), vs = [.ref a] ∧ SqL K H a (ns.map V.int) ∧
  ∀ H' l b ms, Same H H' → H l = none → H b = none → BagAt l ms H' b → Q (.ref b) H'
section
variable {P : Program} {w : World} {K : PySem.W.Frag} {mg : Str → Option Value} {base : Heap}
theorem ok_bag {f : Addr} {fd : FuncData} {k : Nat} (F : Fun K "_law_bag" "_law_bag" sBag f fd) (ml : mg "list" = none) : FnOk P w K mg base CX0 (k + 1) f fd ["_law_script"] (spBag K) := by
  refine F.ok scBag (fun vs H Q E h => ?_) (fun cdv A outer s H vs Q E hr h => ?_)
  · obtain ⟨a, ns, rfl, _⟩ := h
    rfl
  · obtain ⟨a, ns, rfl, hS, q⟩ := h
    refine ⟨_, pss_cons (ps_set (i := 1) scBag.nd rfl (Or.inl rfl) pe_int)
      (pss_cons (ps_for PassesOwn.never rfl (pi_list (pe_slice sl_list (pv 0) po_none (po_some pe_int))) (pg_name (i := 2) scBag.nd rfl (Or.inl rfl))
        (pss_one (ps_set (i := 1) scBag.nd rfl (Or.inl rfl) (pe_op op_mod (pe_op op_add (pe_op op_add (pe_op op_mul (pv 1) pe_int) (pv 2)) pe_int) pe_int))))
      (pss_one (ps_ret (pe_lst (pa_cons (pe_callTy call_list_of (by rfl) ml (by decide +kernel) (pa_cons (pe_slice sl_list (pv 0) po_none (po_some pe_int)) pa_nil))
        (pa_cons pe_int (pa_cons pe_int (pa_cons (pv 1) (pa_cons pe_int pa_nil))))))))), ?_⟩
    have cutN : cutV (ns.map V.int) none (some 63) = (ns.take 63).map V.int := by
      rw [show (63 : Int) = ((63 : Nat) : Int) from rfl, cutTo, List.map_take]
    refine ⟨_, rfl, 63, rfl, a, ns.map V.int, rfl, hS, fun t nt => ?_⟩
    rw [cutN]
    refine ⟨t, rfl, ⟨_, SqL.of upd_same⟩, for_list (K := K) (a := t) (xs := (ns.take 63).map V.int) (fun i σ H' => ∃ salt y, σ = [some (.ref a), some (.int salt), y] ∧ H' = upd H t (.lst ((ns.take 63).map V.int)) ∧ 0 ≤ salt ∧ salt < 2147483629)
      ⟨977, none, rfl, rfl, by decide, by decide⟩ (fun i σ H' _ ⟨_, _, _, e, _⟩ => by subst e; exact SqL.of upd_same) ?_ ?_⟩
    · rintro i x σ H' hi ⟨salt, y, rfl, rfl, h0, h1⟩
      obtain ⟨v, rfl, _⟩ := get_ints hi
      refine ⟨_, rfl, _, _, rfl, rfl, mul_const (by decide) _, _, rfl, _, _, rfl, rfl, _, _, rfl, rfl, _, _, rfl, rfl, (by show (0 : Int) < 2147483629; decide), ?_⟩
      exact ⟨_, _, rfl, rfl, Int.emod_nonneg _ (by decide), Int.emod_lt_of_pos _ (by decide)⟩
    · rintro σ H' ⟨salt, y, rfl, rfl, h0, h1⟩
      refine ⟨_, rfl, 63, rfl, a, ns.map V.int, rfl, (same_new nt).seq hS, fun u nu => ?_⟩
      rw [cutN]
      refine ⟨u, _, rfl, .inl (SqL.of upd_same), fun l nl => ⟨_, rfl, (by show 5 ≤ sizeLine; decide), fun b nb => ?_⟩⟩
      have s1 := same_new (o := .lst ((ns.take 63).map V.int)) nt
      have s2 := same_new (o := .lst ((ns.take 63).map V.int)) nu
      have s3 := same_new (o := .lst ((ns.take 63).map V.int)) nl
      have s4 := same_new (o := .lst (bagv l 0 0 salt 0)) nb
      have lb : l ≠ b := (ne_new nb).symm
      refine q _ l b (ns.take 63) (s1.trans (s2.trans (s3.trans s4))) (s1.free (s2.free nl)) (s1.free (s2.free (s3.free nb))) ⟨lb, by rw [upd_ne lb]; exact upd_same, 0, 0, salt, 0, upd_same, by decide, by decide, h0, h1⟩
/-! ### one of some -/
def spOf (K : PySem.W.Frag) : Sp := fun vs H Q _ => ∃ (b l c : Addr) (ns : List Int) (xs : List V), vs = [.ref b, .ref c] ∧ BagAt l ns H b ∧ H c = some (.lst xs) ∧ c ≠ b ∧ 0 < xs.length ∧ xs.length < 1073741824 ∧
  ∀ v ys, v ∈ xs → BagAt l ns (upd H b (.lst ys)) b → Q v (upd H b (.lst ys))
theorem ok_of {f g : Addr} {fd gd : FuncData} {k : Nat} (F : Fun K "_law_of" "_law_of" sOf f fd) (G : FnOk P w K mg base CX0 k g gd ["_law_bag_here", "_law_many"] spPull) (kg : PySem.W.keepIn K (.ref g) = true) (bg : Binds K gd ["_law_bag_here", "_law_many"] [])
    (mgG : mg "_law_pull" = some (.ref g)) (ml : mg "len" = none) : FnOk P w K mg base CX0 (k + 1) f fd ["_law_bag_here", "_law_some"] (spOf K) := by
  refine F.ok scOf (fun vs H Q E h => ?_) (fun cdv A outer s H vs Q E hr h => ?_)
  · obtain ⟨b, l, c, ns, xs, rfl, _⟩ := h
    rfl
  · obtain ⟨b, l, c, ns, xs, rfl, B, hc, cb, x0, x1, q⟩ := h
    refine ⟨_, pss_one (ps_ret (pe_ix ix_list (pv 1) (pe_call G hr (by rfl) mgG kg bg .nil pass0 (pa_cons (pv 0) (pa_cons (pe_callB call_len_seq (by rfl) ml PySem.boot_len (pa_cons (pv 1) pa_nil)) pa_nil))) (fun _ _ => rfl))), ?_⟩
    refine ⟨_, rfl, _, rfl, _, rfl, c, xs, rfl, .inl (SqL.of hc), b, l, _, ns, rfl, by omega, by omega, B, fun r ys r0 r1 B' => ?_⟩
    obtain ⟨j, rfl⟩ : ∃ j : Nat, r = (j : Int) := ⟨r.toNat, by omega⟩
    have hj : j < xs.length := by omega
    refine ⟨c, xs, _, xs[j], rfl, rfl, SqL.of (by rw [upd_ne cb]; exact hc), atI_nat (List.getElem?_eq_getElem hj), ?_⟩
    exact q _ _ (List.getElem_mem hj) B'
end
end K32

namespace K32
open PySem PySem.Spec PyProof.Rows L2
/-! ### data -/
inductive Dt where
  | non
  | bl (b : Bool)
  | int (i : Int)
  | str (s : Str)
  | lst (ds : List Dt)
  | tup (ds : List Dt)
inductive Has (H : Hp) : Nat → V → Dt → Prop where
  | non {n : Nat} : Has H (n + 1) .non .non
  | bl {n : Nat} (b : Bool) : Has H (n + 1) (.bl b) (.bl b)
  | int {n : Nat} (i : Int) : Has H (n + 1) (.int i) (.int i)
  | str {n : Nat} (s : Str) : Has H (n + 1) (.str s) (.str s)
  | lst {n : Nat} {a : Addr} {xs : List V} {ds : List Dt} (e : H a = some (.lst xs)) (l : xs.length = ds.length) (z : ds.length ≤ 1000000) (m : ∀ (i : Nat) (x : V) (d : Dt), xs[i]? = some x → ds[i]? = some d → Has H n x d) : Has H (n + 1) (.ref a) (.lst ds)
  | tup {n : Nat} {a : Addr} {xs : List V} {ds : List Dt} (e : H a = some (.tup xs)) (l : xs.length = ds.length) (z : ds.length ≤ 1000000) (m : ∀ (i : Nat) (x : V) (d : Dt), xs[i]? = some x → ds[i]? = some d → Has H n x d) : Has H (n + 1) (.ref a) (.tup ds)
theorem Has.same {H H' : Hp} (s : Same H H') : ∀ {n : Nat} {x : V} {d : Dt}, Has H n x d → Has H' n x d := by
  intro n x d h
  induction h with
  | non => exact .non
  | bl b => exact .bl b
  | int i => exact .int i
  | str z => exact .str z
  | lst e l z m ih => exact .lst (s _ _ e) l z fun i x d h1 h2 => ih i x d h1 h2
  | tup e l z m ih => exact .tup (s _ _ e) l z fun i x d h1 h2 => ih i x d h1 h2
theorem Has.up {H : Hp} : ∀ {n m : Nat} {x : V} {d : Dt}, Has H n x d → n ≤ m → Has H m x d := by
  intro n m x d h
  induction h generalizing m with
  | non => intro q; cases m with | zero => omega | succ m => exact .non
  | bl b => intro q; cases m with | zero => omega | succ m => exact .bl b
  | int i => intro q; cases m with | zero => omega | succ m => exact .int i
  | str z => intro q; cases m with | zero => omega | succ m => exact .str z
  | lst e l z _ ih => intro q; cases m with | zero => omega | succ m => exact .lst e l z fun i x d h1 h2 => ih i x d h1 h2 (by omega)
  | tup e l z _ ih => intro q; cases m with | zero => omega | succ m => exact .tup e l z fun i x d h1 h2 => ih i x d h1 h2 (by omega)
theorem Has.ints {H : Hp} {a : Addr} {ns : List Int} {n : Nat} (e : H a = some (.lst (ns.map V.int))) (z : ns.length ≤ 1000000) : Has H (n + 2) (.ref a) (.lst (ns.map Dt.int)) := by
  refine .lst e (by rw [List.length_map, List.length_map]) (by rw [List.length_map]; exact z) fun i x d h1 h2 => ?_
  rw [List.getElem?_map] at h1 h2
  cases q : ns[i]? with
  | none => rw [q] at h1; cases h1
  | some v =>
    rw [q] at h1 h2
    have e1 : V.int v = x := Option.some.inj h1
    have e2 : Dt.int v = d := Option.some.inj h2
    rw [← e1, ← e2]
    exact .int v
def spSame (n : Nat) : Sp := fun vs H Q _ => ∃ (x y : V) (d : Dt), vs = [x, y] ∧ Has H n x d ∧ Has H n y d ∧ ∀ H', Same H H' → Q (.bl true) H'
abbrev sSame : Stmt := topS 19
theorem scSame : FnScope ["_law_found", "_law_due", "_law_k"] ["_law_found", "_law_due"] (defScope sSame) := ⟨rfl, rfl, rfl, by decide +kernel, rfl, by decide +kernel, by decide +kernel⟩
structure TS1 (mg : Str → Option Value) : Prop where
  isi : mg "isinstance" = none
  bool : mg "bool" = none
  int : mg "int" = none
  str : mg "str" = none
  list : mg "list" = none
  tuple : mg "tuple" = none
  len : mg "len" = none
  all : mg "all" = none
  range : mg "range" = none
section
variable {P : Program} {w : World} {K : PySem.W.Frag} {mg : Str → Option Value} {base : Heap}
theorem all_rep (n : Nat) : (List.replicate n true).all id = true := by
  induction n with
  | zero => rfl
  | succ n ih => rw [List.replicate_succ, List.all_cons, ih]; rfl
theorem same_at {H H' : Hp} {D : Addr} {o : HO} (hD : H D = none) (s : Same H H') : Same H (upd H' D o) := fun b x e => by
  rw [upd_ne (ne_of_none e hD)]
  exact s _ _ e
theorem kit2 {t : String} {r b1 b2 : Bool} (h1 : kitB t "int" = some b1) (h2 : kitB t "str" = some b2) (hr : (b1 || b2) = r) : PySem.W.kitAny K (.type t) [.type "int", .type "str"] = some r := by
  refine kitAny_cons (kit_ty h1) (fun e => kitAny_cons (kit_ty h2) (fun e2 => ?_) fun e2 => ?_) fun e => ?_
  · rw [e, e2] at hr
    rw [← hr]
    exact kitAny_nil
  · rw [e, e2] at hr
    exact hr.symm
  · rw [e] at hr
    exact hr.symm
theorem ok_same {f : Addr} {fd : FuncData} (F : Fun K "_law_same" "_law_same" sSame f fd) (T : TS1 mg) (bS : Binds K fd ["_law_found", "_law_due"] []) (mgS : mg "_law_same" = some (.ref f)) : ∀ n : Nat, FnOk P w K mg base CX0 n f fd ["_law_found", "_law_due"] (spSame n) := by
  intro n
  induction n with
  | zero => exact ⟨fun vs H Q E h => (by obtain ⟨x, y, d, _, h1, _⟩ := h; cases h1), fun A outer s H args us vs Q E hr he hb hv h => (by obtain ⟨x, y, d, _, h1, _⟩ := h; cases h1)⟩
  | succ n G =>
    refine F.ok scSame (fun vs H Q E h => ?_) (fun cdv A outer s H vs Q E hr h => ?_)
    · obtain ⟨x, y, d, rfl, _⟩ := h
      rfl
    · obtain ⟨x, y, d, rfl, hx, hy, q⟩ := h
      refine ⟨_, pss_cons (ps_if (PW.pt (pw_or (pt_cmpR op_isN (pv 1) pe_non (nomark _)) (pw_or1 (pt_cmpR op_isN (pv 0) pe_non (nomark _)))))
          (pss_one (ps_ret (pe_and (pe_cmpR op_isN (pv 0) pe_non (nomark _)) (pe_one (pe_cmpR op_isN (pv 1) pe_non (nomark _)))))) pss_nil)
        (pss_cons (ps_if (PW.pt (pw_or (pt_val (pe_callB call_isi (by rfl) T.isi (by decide +kernel) (pa_cons (pv 1) (pa_cons (pe_bltn (v := .ty "bool") (by rfl) T.bool (by decide +kernel) rfl) pa_nil))))
            (pw_or1 (pt_val (pe_callB call_isi (by rfl) T.isi (by decide +kernel) (pa_cons (pv 0) (pa_cons (pe_bltn (v := .ty "bool") (by rfl) T.bool (by decide +kernel) rfl) pa_nil)))))))
          (pss_one (ps_ret (pe_and (pe_callB call_isi (by rfl) T.isi (by decide +kernel) (pa_cons (pv 1) (pa_cons (pe_bltn (v := .ty "bool") (by rfl) T.bool (by decide +kernel) rfl) pa_nil)))
            (pe_and (pe_callB call_isi (by rfl) T.isi (by decide +kernel) (pa_cons (pv 0) (pa_cons (pe_bltn (v := .ty "bool") (by rfl) T.bool (by decide +kernel) rfl) pa_nil)))
              (pe_one (pe_cmpR op_eq (pv 0) (pv 1) (nomark _))))))) pss_nil)
        (pss_cons (ps_if (pt_val (pe_callB call_isiT (by rfl) T.isi (by decide +kernel) (pa_cons (pv 1) (pa_cons (pe_tup (pa_cons (pe_bltn (v := .ty "int") (by rfl) T.int (by decide +kernel) rfl) (pa_cons (pe_bltn (v := .ty "str") (by rfl) T.str (by decide +kernel) rfl) pa_nil))) pa_nil))))
          (pss_one (ps_ret (pe_and (pe_callB call_isiT (by rfl) T.isi (by decide +kernel) (pa_cons (pv 0) (pa_cons (pe_tup (pa_cons (pe_bltn (v := .ty "int") (by rfl) T.int (by decide +kernel) rfl) (pa_cons (pe_bltn (v := .ty "str") (by rfl) T.str (by decide +kernel) rfl) pa_nil))) pa_nil)))
            (pe_and (pe_cmpR op_eq (pe_callB call_isi (by rfl) T.isi (by decide +kernel) (pa_cons (pv 0) (pa_cons (pe_bltn (v := .ty "int") (by rfl) T.int (by decide +kernel) rfl) pa_nil)))
                (pe_callB call_isi (by rfl) T.isi (by decide +kernel) (pa_cons (pv 1) (pa_cons (pe_bltn (v := .ty "int") (by rfl) T.int (by decide +kernel) rfl) pa_nil))) (nomark _))
              (pe_one (pe_cmpR op_eq (pv 0) (pv 1) (nomark _))))))) pss_nil)
        (pss_cons (ps_if (PW.pt (pw_or (pt_cmpR op_ne (pe_callB call_isi (by rfl) T.isi (by decide +kernel) (pa_cons (pv 0) (pa_cons (pe_bltn (v := .ty "list") (by rfl) T.list (by decide +kernel) rfl) pa_nil)))
                (pe_callB call_isi (by rfl) T.isi (by decide +kernel) (pa_cons (pv 1) (pa_cons (pe_bltn (v := .ty "list") (by rfl) T.list (by decide +kernel) rfl) pa_nil))) (nomark _))
            (pw_or1 (pt_cmpR op_ne (pe_callB call_isi (by rfl) T.isi (by decide +kernel) (pa_cons (pv 0) (pa_cons (pe_bltn (v := .ty "tuple") (by rfl) T.tuple (by decide +kernel) rfl) pa_nil)))
                (pe_callB call_isi (by rfl) T.isi (by decide +kernel) (pa_cons (pv 1) (pa_cons (pe_bltn (v := .ty "tuple") (by rfl) T.tuple (by decide +kernel) rfl) pa_nil))) (nomark _)))))
          (pss_one (ps_ret pe_bl)) pss_nil)
        (pss_one (ps_ret (pe_and (pe_cmpR op_eq (pe_callB call_len_seq (by rfl) T.len PySem.boot_len (pa_cons (pv 0) pa_nil)) (pe_callB call_len_seq (by rfl) T.len PySem.boot_len (pa_cons (pv 1) pa_nil)) (nomark _))
          (pe_one (pe_callB (cr_all rfl) (by rfl) T.all (by decide +kernel) (pa_cons
            (pe_lc (own := [("_law_k", 2)]) (g := gName 2) (tt := tYes) rfl scSame.nd (pi_range1 (by rfl) T.range (pa_cons (pe_callB call_len_seq (by rfl) T.len PySem.boot_len (pa_cons (pv 1) pa_nil)) pa_nil))
              (blkOk_by (N := ["_law_found", "_law_due", "_law_k"]) (sc := defScope sSame) (by decide +kernel))
              (fun _ _ _ _ _ => pg_name (i := 2) scSame.nd rfl (Or.inl rfl)) (fun _ _ _ _ _ => pts_nil)
              (fun _ _ _ _ _ => pe_call G hr (by rfl) mgS F.kp bS .nil pass0 (pa_cons (pe_ix (r := rIx K) ix_seq (pv 0) (pv 2) (fun _ _ => rfl)) (pa_cons (pe_ix (r := rIx K) ix_seq (pv 1) (pv 2) (fun _ _ => rfl)) pa_nil)))) pa_nil))))))))), ?_⟩
      cases d with
      | non =>
        cases hx
        cases hy
        refine ⟨_, rfl, rfl, _, rfl, iteT ?_⟩
        exact ⟨_, rfl, rfl, _, rfl, iteT ⟨_, rfl, rfl, q _ (Same.refl _)⟩⟩
      | bl b =>
        cases hx
        cases hy
        refine ⟨_, rfl, rfl, _, rfl, iteF ⟨_, rfl, rfl, _, rfl, iteF ?_⟩⟩
        refine ⟨_, rfl, _, _, _, _, true, rfl, ClsV.ty _, (.base (.bl b)), kit_ty (by decide +kernel), _, rfl, iteT ?_⟩
        refine ⟨_, rfl, _, _, _, _, true, rfl, ClsV.ty _, (.base (.bl b)), kit_ty (by decide +kernel), _, rfl, iteT ?_⟩
        refine ⟨_, rfl, _, _, _, _, true, rfl, ClsV.ty _, (.base (.bl b)), kit_ty (by decide +kernel), _, rfl, iteT ?_⟩
        refine ⟨_, rfl, _, rfl, rfl, ?_⟩
        rw [decide_eq_true rfl]
        exact q _ (Same.refl _)
      | int i =>
        cases hx
        cases hy
        refine ⟨_, rfl, rfl, _, rfl, iteF ⟨_, rfl, rfl, _, rfl, iteF ?_⟩⟩
        refine ⟨_, rfl, _, _, _, _, false, rfl, ClsV.ty _, (.base (.int i)), kit_ty (by decide +kernel), _, rfl, iteF ?_⟩
        refine ⟨_, rfl, _, _, _, _, false, rfl, ClsV.ty _, (.base (.int i)), kit_ty (by decide +kernel), _, rfl, iteF ?_⟩
        refine ⟨_, rfl, (by show 2 ≤ sizeLine; decide), fun p np => ⟨_, _, _, _, _, true, rfl, upd_same, .cons (ClsV.ty _) (.cons (ClsV.ty _) .nil), (.base (.int i)), kit2 (b1 := true) (b2 := false) (by decide +kernel) (by decide +kernel) rfl, _, rfl, iteT ?_⟩⟩
        refine ⟨_, rfl, (by show 2 ≤ sizeLine; decide), fun p2 np2 => ⟨_, _, _, _, _, true, rfl, upd_same, .cons (ClsV.ty _) (.cons (ClsV.ty _) .nil), (.base (.int i)), kit2 (b1 := true) (b2 := false) (by decide +kernel) (by decide +kernel) rfl, _, rfl, iteT ?_⟩⟩
        refine ⟨_, rfl, _, _, _, _, true, rfl, ClsV.ty _, (.base (.int i)), kit_ty (by decide +kernel), _, rfl, _, _, _, _, true, rfl, ClsV.ty _, (.base (.int i)), kit_ty (by decide +kernel), rfl, _, rfl, iteT ?_⟩
        refine ⟨_, rfl, _, rfl, rfl, ?_⟩
        rw [decide_eq_true rfl]
        exact q _ ((same_new np).trans (same_new np2))
      | str i =>
        cases hx
        cases hy
        refine ⟨_, rfl, rfl, _, rfl, iteF ⟨_, rfl, rfl, _, rfl, iteF ?_⟩⟩
        refine ⟨_, rfl, _, _, _, _, false, rfl, ClsV.ty _, (.base (.str i)), kit_ty (by decide +kernel), _, rfl, iteF ?_⟩
        refine ⟨_, rfl, _, _, _, _, false, rfl, ClsV.ty _, (.base (.str i)), kit_ty (by decide +kernel), _, rfl, iteF ?_⟩
        refine ⟨_, rfl, (by show 2 ≤ sizeLine; decide), fun p np => ⟨_, _, _, _, _, true, rfl, upd_same, .cons (ClsV.ty _) (.cons (ClsV.ty _) .nil), (.base (.str i)), kit2 (b1 := false) (b2 := true) (by decide +kernel) (by decide +kernel) rfl, _, rfl, iteT ?_⟩⟩
        refine ⟨_, rfl, (by show 2 ≤ sizeLine; decide), fun p2 np2 => ⟨_, _, _, _, _, true, rfl, upd_same, .cons (ClsV.ty _) (.cons (ClsV.ty _) .nil), (.base (.str i)), kit2 (b1 := false) (b2 := true) (by decide +kernel) (by decide +kernel) rfl, _, rfl, iteT ?_⟩⟩
        refine ⟨_, rfl, _, _, _, _, false, rfl, ClsV.ty _, (.base (.str i)), kit_ty (by decide +kernel), _, rfl, _, _, _, _, false, rfl, ClsV.ty _, (.base (.str i)), kit_ty (by decide +kernel), rfl, _, rfl, iteT ?_⟩
        refine ⟨_, rfl, _, rfl, rfl, ?_⟩
        rw [decide_eq_true rfl]
        exact q _ ((same_new np).trans (same_new np2))
      | lst ds =>
        cases hx with
        | @lst _ a xs _ ea la za ma =>
        cases hy with
        | @lst _ b ys _ eb lb zb mb =>
        refine ⟨_, rfl, rfl, _, rfl, iteF ⟨_, rfl, rfl, _, rfl, iteF ?_⟩⟩
        refine ⟨_, rfl, _, _, _, _, false, rfl, ClsV.ty _, (.base (.lst eb)), kit_ty (by decide +kernel), _, rfl, iteF ?_⟩
        refine ⟨_, rfl, _, _, _, _, false, rfl, ClsV.ty _, (.base (.lst ea)), kit_ty (by decide +kernel), _, rfl, iteF ?_⟩
        refine ⟨_, rfl, (by show 2 ≤ sizeLine; decide), fun p np => ⟨_, _, _, _, _, false, rfl, upd_same, .cons (ClsV.ty _) (.cons (ClsV.ty _) .nil), (.base (.lst ((same_new np) _ _ eb))), kit2 (b1 := false) (b2 := false) (by decide +kernel) (by decide +kernel) rfl, _, rfl, iteF ?_⟩⟩
        have ea' := (same_new (o := .tup [.ty "int", .ty "str"]) np) _ _ ea
        have eb' := (same_new (o := .tup [.ty "int", .ty "str"]) np) _ _ eb
        refine ⟨_, rfl, _, _, _, _, true, rfl, ClsV.ty _, (.base (.lst ea')), kit_ty (by decide +kernel), _, rfl, _, _, _, _, true, rfl, ClsV.ty _, (.base (.lst eb')), kit_ty (by decide +kernel), rfl, _, rfl, iteF ?_⟩
        refine ⟨_, rfl, _, _, _, _, false, rfl, ClsV.ty _, (.base (.lst ea')), kit_ty (by decide +kernel), _, rfl, _, _, _, _, false, rfl, ClsV.ty _, (.base (.lst eb')), kit_ty (by decide +kernel), rfl, _, rfl, iteF ?_⟩
        refine ⟨_, rfl, a, xs, rfl, .inl (SqL.of ea'), _, rfl, b, ys, rfl, .inl (SqL.of eb'), rfl, _, rfl, ?_⟩
        rw [if_pos (by rw [la, lb]; exact decide_eq_true rfl)]
        have lxy : ys.length ≤ 1000000 := by rw [lb]; exact zb
        refine ⟨_, rfl, b, ys, rfl, .inl (SqL.of eb'), (ys.length : Int), rfl, by omega, by omega, fun D nD => ?_⟩
        have sD := same_new (o := .lst []) nD
        refine lc_range (lo := 0) (n := ys.length) (fun i H' => Same (upd H p (.tup [.ty "int", .ty "str"])) H' ∧ H' D = some (.lst ((List.replicate i true).map V.bl))) ⟨sD, upd_same⟩ ?_ ?_
        · rintro i H' hi ⟨sm, hD⟩
          have hix : i < xs.length := by omega
          have hid : i < ds.length := by omega
          refine ⟨rfl, ?_⟩
          refine ⟨_, rfl, _, rfl, .inl ⟨a, xs, _, xs[i], rfl, rfl, SqL.of (sm _ _ ea'), at_of (Int.zero_add _) (List.getElem?_eq_getElem hix), ?_⟩⟩
          refine ⟨_, rfl, _, rfl, .inl ⟨b, ys, _, ys[i], rfl, rfl, SqL.of (sm _ _ eb'), at_of (Int.zero_add _) (List.getElem?_eq_getElem hi), ?_⟩⟩
          have sH := (same_new (o := .tup [.ty "int", .ty "str"]) np).trans sm
          refine ⟨xs[i], ys[i], ds[i], rfl, (ma i _ _ (List.getElem?_eq_getElem hix) (List.getElem?_eq_getElem hid)).same sH, (mb i _ _ (List.getElem?_eq_getElem hi) (List.getElem?_eq_getElem hid)).same sH, fun H4 s4 => ?_⟩
          refine ⟨_, s4 _ _ hD, ?_, same_at nD (sm.trans s4), ?_⟩
          · rw [List.length_map, List.length_replicate]
            exact Nat.lt_of_lt_of_le (show i < 1000001 by omega) (by rw [sizeLine_eq]; decide)
          · rw [upd_same, List.replicate_succ', List.map_append]
            rfl
        · rintro H' ⟨sm, hD⟩
          refine ⟨D, List.replicate ys.length true, rfl, SqL.of hD, ?_⟩
          rw [all_rep]
          exact q _ ((same_new np).trans sm)
      | tup ds =>
        cases hx with
        | @tup _ a xs _ ea la za ma =>
        cases hy with
        | @tup _ b ys _ eb lb zb mb =>
        refine ⟨_, rfl, rfl, _, rfl, iteF ⟨_, rfl, rfl, _, rfl, iteF ?_⟩⟩
        refine ⟨_, rfl, _, _, _, _, false, rfl, ClsV.ty _, (.base (.tup eb)), kit_ty (by decide +kernel), _, rfl, iteF ?_⟩
        refine ⟨_, rfl, _, _, _, _, false, rfl, ClsV.ty _, (.base (.tup ea)), kit_ty (by decide +kernel), _, rfl, iteF ?_⟩
        refine ⟨_, rfl, (by show 2 ≤ sizeLine; decide), fun p np => ⟨_, _, _, _, _, false, rfl, upd_same, .cons (ClsV.ty _) (.cons (ClsV.ty _) .nil), (.base (.tup ((same_new np) _ _ eb))), kit2 (b1 := false) (b2 := false) (by decide +kernel) (by decide +kernel) rfl, _, rfl, iteF ?_⟩⟩
        have ea' := (same_new (o := .tup [.ty "int", .ty "str"]) np) _ _ ea
        have eb' := (same_new (o := .tup [.ty "int", .ty "str"]) np) _ _ eb
        refine ⟨_, rfl, _, _, _, _, false, rfl, ClsV.ty _, (.base (.tup ea')), kit_ty (by decide +kernel), _, rfl, _, _, _, _, false, rfl, ClsV.ty _, (.base (.tup eb')), kit_ty (by decide +kernel), rfl, _, rfl, iteF ?_⟩
        refine ⟨_, rfl, _, _, _, _, true, rfl, ClsV.ty _, (.base (.tup ea')), kit_ty (by decide +kernel), _, rfl, _, _, _, _, true, rfl, ClsV.ty _, (.base (.tup eb')), kit_ty (by decide +kernel), rfl, _, rfl, iteF ?_⟩
        refine ⟨_, rfl, a, xs, rfl, .inr (SqT.of ea'), _, rfl, b, ys, rfl, .inr (SqT.of eb'), rfl, _, rfl, ?_⟩
        rw [if_pos (by rw [la, lb]; exact decide_eq_true rfl)]
        have lxy : ys.length ≤ 1000000 := by rw [lb]; exact zb
        refine ⟨_, rfl, b, ys, rfl, .inr (SqT.of eb'), (ys.length : Int), rfl, by omega, by omega, fun D nD => ?_⟩
        have sD := same_new (o := .lst []) nD
        refine lc_range (lo := 0) (n := ys.length) (fun i H' => Same (upd H p (.tup [.ty "int", .ty "str"])) H' ∧ H' D = some (.lst ((List.replicate i true).map V.bl))) ⟨sD, upd_same⟩ ?_ ?_
        · rintro i H' hi ⟨sm, hD⟩
          have hix : i < xs.length := by omega
          have hid : i < ds.length := by omega
          refine ⟨rfl, ?_⟩
          refine ⟨_, rfl, _, rfl, .inr (.inl ⟨a, xs, _, xs[i], rfl, rfl, SqT.of (sm _ _ ea'), at_of (Int.zero_add _) (List.getElem?_eq_getElem hix), ?_⟩)⟩
          refine ⟨_, rfl, _, rfl, .inr (.inl ⟨b, ys, _, ys[i], rfl, rfl, SqT.of (sm _ _ eb'), at_of (Int.zero_add _) (List.getElem?_eq_getElem hi), ?_⟩)⟩
          have sH := (same_new (o := .tup [.ty "int", .ty "str"]) np).trans sm
          refine ⟨xs[i], ys[i], ds[i], rfl, (ma i _ _ (List.getElem?_eq_getElem hix) (List.getElem?_eq_getElem hid)).same sH, (mb i _ _ (List.getElem?_eq_getElem hi) (List.getElem?_eq_getElem hid)).same sH, fun H4 s4 => ?_⟩
          refine ⟨_, s4 _ _ hD, ?_, same_at nD (sm.trans s4), ?_⟩
          · rw [List.length_map, List.length_replicate]
            exact Nat.lt_of_lt_of_le (show i < 1000001 by omega) (by rw [sizeLine_eq]; decide)
          · rw [upd_same, List.replicate_succ', List.map_append]
            rfl
        · rintro H' ⟨sm, hD⟩
          refine ⟨D, List.replicate ys.length true, rfl, SqL.of hD, ?_⟩
          rw [all_rep]
          exact q _ ((same_new np).trans sm)
end
end K32

namespace K32
open PySem PySem.Spec PyProof.Rows L2
theorem BagAt.same {l b : Addr} {ns : List Int} {H H' : Hp} (B : BagAt l ns H b) (s : Same H H') : BagAt l ns H' b := by
  obtain ⟨i, bank, salt, c, hB, r⟩ := B.ex
  exact ⟨B.ne, s _ _ B.ls, i, bank, salt, c, s _ _ hB, r⟩
theorem BagAt.at {l b : Addr} {ns : List Int} {H : Hp} (B : BagAt l ns H b) : ∃ xs, H b = some (.lst xs) := by
  obtain ⟨i, bank, salt, c, hB, r⟩ := B.ex
  exact ⟨_, hB⟩
theorem BagAt.new {l b p : Addr} {ns : List Int} {H : Hp} {o : HO} (B : BagAt l ns H b) (n : H p = none) : BagAt l ns (upd H p o) b := B.same (same_new n)
/-- a store elsewhere -/
theorem BagAt.off {l b p : Addr} {ns : List Int} {H : Hp} {o : HO} (B : BagAt l ns H b) (h1 : p ≠ b) (h2 : p ≠ l) : BagAt l ns (upd H p o) b := by
  obtain ⟨i, bank, salt, c, hB, r⟩ := B.ex
  exact ⟨B.ne, by rw [upd_ne h2.symm]; exact B.ls, i, bank, salt, c, by rw [upd_ne h1.symm]; exact hB, r⟩
def spLaw (K : PySem.W.Frag) : Sp := fun vs H Q _ => ∃ (a : Addr) (ns : List Int), vs = [.ref a] ∧ SqL K H a (ns.map V.int) ∧ ns.length ≤ 63 ∧ ∀ H', Q (.bl true) H'
end K32

set_option maxHeartbeats 1000000
/-! zip(a, b), each of them a list, a tuple or a text -/
namespace ZM
open PySem PySem.Spec PyProof.Rows L2
/-- what is walked -/
inductive Sk where
  | lst (a : Addr)
  | tup (a : Addr)
  | txt (x : Str)
def Sk.v : Sk → V
  | .lst a => .ref a
  | .tup a => .ref a
  | .txt x => .str x
def Sk.at : Sk → List Addr
  | .lst a => [a]
  | .tup a => [a]
  | .txt _ => []
def signs (x : Str) : List V := x.cps.toList.map fun c => V.str ⟨#[c]⟩
def Src (K : PySem.W.Frag) (H : Hp) : Sk → List V → Prop
  | .lst a, xs => SqL K H a xs
  | .tup a, xs => SqT K H a xs
  | .txt x, xs => xs = signs x
/-- its iterator, at place i -/
def Stands (h : Heap) (it : Addr) (t : Tok) (i : Nat) : Sk → Prop
  | .lst a => h.IsListIter it a i
  | .tup a => h.IsTupleIter it a i
  | .txt x => h.IsStrIter it (strIterType x) x t i
def cells (it : Addr) (k : Sk) : List Addr := it :: k.at
theorem sqT_sm {K : PySem.W.Frag} {H H' : Hp} {a : Addr} {xs : List V} (s : Same H H') (h : SqT K H a xs) : SqT K H' a xs := by
  rcases h with h | h
  · rcases h with h | h
    · exact .inl (.inl (s _ _ h))
    · exact .inl (.inr (h.imp fun o q => s _ _ q))
  · exact .inr h
theorem find_rel {xs : List V} {us : List Value} (r : Vals xs us) {i : Nat} {u : Value} (h : us[i]? = some u) : ∃ x, xs[i]? = some x ∧ RelV x u := by
  have hi := (List.getElem?_eq_some_iff.mp h).1
  have hl := r.length
  have hx := List.getElem?_eq_getElem (show i < xs.length by omega)
  obtain ⟨v, hv, rv⟩ := r.get hx
  rw [h] at hv
  cases hv
  exact ⟨_, hx, rv⟩
theorem ad {a n m : Nat} (h : n ≠ m) : a + n ≠ a + m := by omega
theorem src_same {K : PySem.W.Frag} {H H' : Hp} {k : Sk} {xs : List V} (h : Src K H k xs) (s : Same H H') : Src K H' k xs := by
  cases k with
  | lst a => exact s.seq h
  | tup a => exact sqT_sm s h
  | txt x => exact h
section
variable {X : Cx} {pins : List (Addr × Obj)} {σ : L2.St} {H : Hp} {s : Shared} {k k1 k2 : Sk} {xs ys : List V} {it : Addr} {t t1 t2 : Tok} {i : Nat}
theorem src_inj (I : Inv X pins σ H s) (h1 : Src X.K H k xs) (h2 : Src X.K H k ys) : xs = ys := by
  cases k with
  | lst a => exact I.list_inj h1 h2
  | tup a => exact I.tuple_inj h1 h2
  | txt x => exact (show xs = signs x from h1).trans (show ys = signs x from h2).symm
theorem stands_at {h h' : Heap} (st : Stands h it t i k) (q : ∀ o, h.get? it = some o → h'.get? it = some o) : Stands h' it t i k := by
  cases k with
  | lst a => exact Heap.IsListIter.at (show h.IsListIter it a i from st) q
  | tup a => exact Heap.IsTupleIter.at (show h.IsTupleIter it a i from st) q
  | txt x => exact let ⟨o, ho, r⟩ := (show h.IsStrIter it (strIterType x) x t i from st); ⟨o, q o ho, r⟩
theorem stands_obj {h : Heap} (st : Stands h it t i k) : ∃ o, h.get? it = some o ∧ ∀ v, o.data ≠ .cell v := by
  cases k with
  | lst a => obtain ⟨o, e, _, d⟩ := (show h.IsListIter it a i from st); exact ⟨o, e, fun v q => by rw [d] at q; cases q⟩
  | tup a => obtain ⟨o, e, _, d⟩ := (show h.IsTupleIter it a i from st); exact ⟨o, e, fun v q => by rw [d] at q; cases q⟩
  | txt x => obtain ⟨o, e, _, d⟩ := (show h.IsStrIter it (strIterType x) x t i from st); exact ⟨o, e, fun v q => by rw [d] at q; cases q⟩
/-- what an iterator draws -/
theorem draws (I : Inv X pins σ H s) (hc : X.calm = true) (hq : Src X.K H k xs) (st : Stands s.heap it t i k) (ap : ∀ a ∈ k.at, a ≠ it) :
    ∃ (Pv : Nat → Value → Prop) (St : Nat → Heap → Prop), Draws X.prog X.w X.A.in1 it (cells it k) xs.length Pv St ∧ St i s.heap ∧ (∀ i h, St i h → Stands h it t i k) ∧ ∀ i u, Pv i u → ∃ x, xs[i]? = some x ∧ RelV x u := by
  cases k with
  | lst a =>
    obtain ⟨its, rv, p, _⟩ := I.list hq
    have D := Draws.list (prog := X.prog) (w := X.w) (A := X.A.in1) (I.ok.hd hc) it a (ap a (by simp [Sk.at])) its.toArray
    rw [List.size_toArray, ← rv.length] at D
    exact ⟨_, _, D, ⟨st, p.isList⟩, fun i h q => q.1, fun i u hu => by
      have hu' : its[i]? = some u := by simpa using hu
      exact find_rel rv hu'⟩
  | tup a =>
    obtain ⟨its, rv, p, _⟩ := I.tuple hq
    have D := Draws.tuple (prog := X.prog) (w := X.w) (A := X.A.in1) (I.ok.hd hc) it a (ap a (by simp [Sk.at])) its.toArray
    rw [List.size_toArray, ← rv.length] at D
    exact ⟨_, _, D, ⟨st, p⟩, fun i h q => q.1, fun i u hu => by
      have hu' : its[i]? = some u := by simpa using hu
      exact find_rel rv hu'⟩
  | txt x =>
    have e : xs = signs x := hq
    have D := Draws.text (prog := X.prog) (w := X.w) (A := X.A.in1) (I.ok.hd hc) it x t
    have l : x.cps.size = xs.length := by rw [e, signs, List.length_map, Array.length_toList]
    rw [l] at D
    refine ⟨_, _, D, st, fun i h q => q, fun i u hu => ?_⟩
    obtain ⟨c, tk, h1, rfl⟩ := hu
    refine ⟨.str ⟨#[c]⟩, ?_, _, rfl⟩
    rw [e, signs, List.getElem?_map, Array.getElem?_toList, h1]
    rfl
end
def ItZ (K : PySem.W.Frag) (k1 k2 : Sk) : It where
  go := fun i H => ∃ (xs ys : List V) (x y : V), Src K H k1 xs ∧ Src K H k2 ys ∧ xs[i]? = some x ∧ ys[i]? = some y
  yld := fun i H v H' => ∃ T x y, v = .ref T ∧ H T = none ∧ H' = upd H T (.tup [x, y]) ∧ (∀ xs, Src K H k1 xs → xs[i]? = some x) ∧ ∀ ys, Src K H k2 ys → ys[i]? = some y
  stop := fun i H => ∃ xs ys : List V, Src K H k1 xs ∧ Src K H k2 ys ∧ i ≤ xs.length ∧ i ≤ ys.length ∧ (i = xs.length ∨ i = ys.length)
theorem turn_z {P : Program} {w : World} {K : PySem.W.Frag} {elts : List Expr} {kk : Nat} {tpos : Pos} {k1 k2 : Sk} {t1 t2 : Tok} {z TI TO i1 i2 : Addr} (S : ZipSep2 z TI TO i1 i2 (cells i1 k1) (cells i2 k2)) (nI : i1 ≠ i2) (nd1 : ∀ a ∈ k1.at, a ≠ i1) (nd2 : ∀ a ∈ k2.at, a ≠ i2) :
    Turn P w K (.Tuple elts kk tpos) (ItZ K k1 k2) [z, TI, TO, i1, i2] z (fun i h => IsZip h z TI TO .none ∧ IsTupOf2 h TI (.ref i1) (.ref i2) ∧ (∃ x y, IsTupOf2 h TO x y) ∧ Stands h i1 t1 i k1 ∧ Stands h i2 t2 i k2) where
  mem := List.mem_cons_self
  obj := fun i h st c hc => by
    obtain ⟨hz, hTI, ⟨x, y, hTO⟩, h1, h2⟩ := st
    simp only [List.mem_cons, List.not_mem_nil, or_false] at hc
    rcases hc with rfl | rfl | rfl | rfl | rfl
    · exact ⟨_, hz, fun v q => nomatch q⟩
    · exact ⟨_, hTI, fun v q => nomatch q⟩
    · exact ⟨_, hTO, fun v q => nomatch q⟩
    · exact stands_obj h1
    · exact stands_obj h2
  keep := fun i h h' st k => by
    obtain ⟨hz, hTI, ⟨x, y, hTO⟩, h1, h2⟩ := st
    exact ⟨k _ (by simp) _ hz, k _ (by simp) _ hTI, ⟨x, y, k _ (by simp) _ hTO⟩, stands_at h1 fun o q => k _ (by simp) o q, stands_at h2 fun o q => k _ (by simp) o q⟩
  item := by
    rintro X rfl rfl rfl hc i pins s σ H E I hf ⟨hz, hTI, ⟨x0, y0, hTO⟩, h1, h2⟩ ⟨xs, ys, x, y, hqx, hqy, hx, hy⟩
    obtain ⟨P1, St1, D1, s1, b1, r1⟩ := draws I hc hqx h1 nd1
    obtain ⟨P2, St2, D2, s2, b2, r2⟩ := draws I hc hqy h2 nd2
    have zl : z < s.heap.objs.size := Heap.lt_size hz
    refine wpAny_pyNext_zipD2_item S D1 D2 hz hTI hTO s1 s2 (List.getElem?_eq_some_iff.mp hx).1 (List.getElem?_eq_some_iff.mp hy).1 fun u1 u2 h' tk p1 p2 z' TO' d1 d2 hT hsz hk => ?_
    obtain ⟨x', ex, rx⟩ := r1 _ _ p1
    obtain ⟨y', ey, ry⟩ := r2 _ _ p2
    refine ⟨_, rfl, wpAny_letOwnedTupleGo_zip (s := { s with heap := h', toks := tk }) z' fun h'' z'' sb => ?_⟩
    have hT2 : h''.get? s.heap.objs.size = some { cls := .type "tuple", data := .seq #[u1, u2] } := (sb.2 _ (Nat.ne_of_gt zl)).trans hT
    have pairOk : ObjOk X.prog X.w (upd H s.heap.objs.size (.tup [x', y'])) h'' s.heap.objs.size (.tup [x', y']) :=
      ⟨by show 2 ≤ sizeLine; decide, [u1, u2], .cons rx (.cons ry .nil), _, hT2, rfl, _, rfl⟩
    have stays : ∀ c oc, c ∉ [z, TI, TO, i1, i2] → s.heap.get? c = some oc → h''.get? c = some oc := fun c oc hn q => by
      simp only [List.mem_cons, List.not_mem_nil, or_false, not_or] at hn
      exact (sb.2 c hn.1).trans (hk c oc hn.1 hn.2.2.1 hn.2.2.2.1 hn.2.2.2.2 q)
    have I1 : Inv X pins σ (upd H s.heap.objs.size (.tup [x', y'])) { s with heap := h'', toks := tk } := I.turnedNew stays hf (Nat.le_refl _) pairOk
    refine ⟨.ref s.heap.objs.size, _, I1, rfl, ⟨_, x', y', rfl, I.hok.fresh (Nat.le_refl _), rfl, fun l hl => by rw [src_inj I hl hqx]; exact ex, fun l hl => by rw [src_inj I hl hqy]; exact ey⟩,
      ⟨z'', (sb.2 _ S.TIz).trans (hk _ _ S.TIz S.TITO S.TIi1 S.TIi2 hTI), ⟨u1, u2, (sb.2 _ S.TOz).trans TO'⟩, stands_at (b1 _ _ d1) fun o q => (sb.2 _ S.zi1.symm).trans q, stands_at (b2 _ _ d2) fun o q => (sb.2 _ S.zi2.symm).trans q⟩, fun c hcm => ?_⟩
    have hlt : c < s.heap.objs.size := by
      have hcm' := hcm
      simp only [List.mem_cons, List.not_mem_nil, or_false] at hcm'
      rcases hcm' with rfl | rfl | rfl | rfl | rfl
      · exact zl
      · exact Heap.lt_size hTI
      · exact Heap.lt_size hTO
      · obtain ⟨_, q, _⟩ := stands_obj h1; exact Heap.lt_size q
      · obtain ⟨_, q, _⟩ := stands_obj h2; exact Heap.lt_size q
    rw [upd_ne (Nat.ne_of_lt hlt)]
    exact (hf c hcm).1
  done := by
    rintro X rfl rfl rfl hc i pins s σ H E I hf ⟨hz, hTI, ⟨x0, y0, hTO⟩, h1, h2⟩ ⟨xs, ys, hqx, hqy, l1, l2, hend⟩
    obtain ⟨P1, St1, D1, s1, b1, r1⟩ := draws I hc hqx h1 nd1
    obtain ⟨P2, St2, D2, s2, b2, r2⟩ := draws I hc hqy h2 nd2
    refine wpAny_pyNext_zipD2_end S D1 D2 hz hTI hTO s1 s2 l1 l2 hend fun h' tk hk => ⟨rfl, ?_⟩
    exact I.turnedL (ch := [z, TI, TO, i1, i2]) (fun c o hb q => hk c o (fun e => hb (by simp [e])) (fun e => hb (by simp [e])) (fun e => hb (by simp [e])) (fun e => hb (by simp [e])) q) hf
  self := fun A i s Q E st h => wpAny_pyIter_zip st.1 h
def iZ (K : PySem.W.Frag) (ta : TA) : TI := fun σ H R => ta σ H fun vs H1 => ∃ (k1 k2 : Sk) (xs ys : List V), vs = [k1.v, k2.v] ∧ Src K H1 k1 xs ∧ Src K H1 k2 ys ∧ R (ItZ K k1 k2) H1
/-- how a source's walk begins -/
theorem begins {X : Cx} {pins : List (Addr × Obj)} {σ : L2.St} {H : Hp} {s : Shared} {k : Sk} {xs : List V} {u : Value} (I : Inv X pins σ H s) (hq : Src X.K H k xs) (r : RelV k.v u) :
    ∃ (o : Obj) (Hp : Heap → Prop) (t : Tok), Begins u o Hp ∧ Hp s.heap ∧ (∀ a ∈ k.at, a < s.heap.objs.size) ∧ ∀ (h : Heap) (it : Addr), h.get? it = some o → Stands h it t 0 k := by
  cases k with
  | lst a =>
    cases r
    obtain ⟨its, rv, p, _⟩ := I.list hq
    exact ⟨_, _, 0, begins_list a its.toArray, p.isList, fun b hb => by rw [List.mem_singleton.mp hb]; exact p.lt, fun h it e => ⟨_, e, rfl, rfl⟩⟩
  | tup a =>
    cases r
    obtain ⟨its, rv, p, _⟩ := I.tuple hq
    exact ⟨_, _, 0, begins_tuple a its.toArray, p, fun b hb => by rw [List.mem_singleton.mp hb]; exact IsTup.lt p, fun h it e => ⟨_, e, rfl, rfl⟩⟩
  | txt x =>
    obtain ⟨t, rfl⟩ := r
    exact ⟨_, _, t, begins_text x t, trivial, fun b hb => absurd hb (by simp [Sk.at]), fun h it e => ⟨_, e, rfl, rfl⟩⟩
theorem pi_z {X : Cx} {e e2 : Expr} {ta : TA} {p pos tpos : Pos} {elts : List Expr} {kk : Nat} (hg : Gl X "zip") (hm : X.mg "zip" = none) (ha : PA X [e, e2] ta)
    (hs : starEach [e, e2] X.env = (false, eval e X.env) :: starEach [e2] X.env := by rfl) (hpl : (backTo pos (starEach [e2] X.env)).any (·.1) = false := by rfl) :
    PI X (.Tuple elts kk tpos) (.Call (.Name "zip" p) [e, e2] [] pos) (iZ X.K ta) := by
  refine ⟨fun pins s σ H R I h => Call_ (ld_blt I hg hm PyProof.Rows.boot_zip (PyProof.Rows.callWith_type1 (thn (ha.run pos pins s σ H _ I h) fun us s1 h1 => ?_) hs hpl))⟩
  obtain ⟨vs, H1, I1, r1, k1, k2, xs, ys, rfl, hx, hy, q⟩ := h1
  cases r1 with
  | cons ru rr =>
    cases rr with
    | cons rw rr =>
      cases rr
      obtain ⟨o1, G1, t1, B1, g1, lt1, w1⟩ := begins I1 hx ru
      obtain ⟨o2, G2, t2, B2, g2, lt2, w2⟩ := begins I1 hy rw
      refine zip_begins2 B1 B2 g1 g2 fun h' hz hTI hTO e1 e2 hsz hk => wpAny_pyIter_zip hz ?_
      have I2 : Inv X pins σ H1 { s1 with heap := h' } := I1.kept (t' := s1.toks) hk
      have far : ∀ (k : Sk) (n j : Nat), (∀ a ∈ k.at, a < s1.heap.objs.size) → n ≠ j → s1.heap.objs.size + n ∉ cells (s1.heap.objs.size + j) k := fun k n j hl hn hc => by
        rcases List.mem_cons.mp hc with z | z
        · exact ad hn z
        · exact Nat.not_lt_of_le (Nat.le_add_right _ _) (hl _ z)
      have S : ZipSep2 (s1.heap.objs.size + 4) (s1.heap.objs.size + 2) (s1.heap.objs.size + 3) s1.heap.objs.size (s1.heap.objs.size + 1) (cells s1.heap.objs.size k1) (cells (s1.heap.objs.size + 1) k2) :=
        { TIz := ad (by decide), TOz := ad (by decide), TITO := ad (by decide), TIi1 := ad (n := 2) (m := 0) (by decide), TIi2 := ad (by decide), mem1 := List.mem_cons_self, mem2 := List.mem_cons_self,
          zf1 := far k1 4 0 lt1 (by decide), Tf1 := far k1 3 0 lt1 (by decide), zf2 := far k2 4 1 lt2 (by decide), Tf2 := far k2 3 1 lt2 (by decide), sep1_2 := far k2 0 1 lt2 (by decide), sep2_1 := far k1 1 0 lt1 (by decide) }
      refine ⟨s1.heap.objs.size + 4, [s1.heap.objs.size + 4, s1.heap.objs.size + 2, s1.heap.objs.size + 3, s1.heap.objs.size, s1.heap.objs.size + 1], _, _, H1, rfl, I2,
        turn_z (t1 := t1) (t2 := t2) S (ad (n := 0) (m := 1) (by decide)) (fun a h => Nat.ne_of_lt (lt1 a h)) (fun a h => Nat.ne_of_lt (Nat.lt_succ_of_lt (lt2 a h))), ⟨hz, hTI, ⟨_, _, hTO⟩, w1 _ _ e1, w2 _ _ e2⟩, fun c hc => ?_, q⟩
      have hle : s1.heap.objs.size ≤ c := by
        simp only [List.mem_cons, List.not_mem_nil, or_false] at hc
        rcases hc with e | e | e | e | e
        · rw [e]; exact Nat.le_add_right _ _
        · rw [e]; exact Nat.le_add_right _ _
        · rw [e]; exact Nat.le_add_right _ _
        · rw [e]; exact Nat.le_refl _
        · rw [e]; exact Nat.le_add_right _ _
      exact I1.fpOk hle (I1.hok.fresh hle)
/-- a comprehension over zip of two of one length, that the block leaves as they are -/
theorem lc_z {K : PySem.W.Frag} {k1 k2 : Sk} {xs ys : List V} {g : TG} {tt : TT} {te : TE} {vs : List Nat} {σ : L2.St} {H1 : Hp} {D : Addr} {Qd : Hp → Prop} (hl : xs.length = ys.length) (Pv : Nat → Hp → Prop) (h0 : Pv 0 (upd H1 D (.lst []))) (hq : ∀ i H, Pv i H → Src K H k1 xs ∧ Src K H k2 ys)
    (hs : ∀ i x y T H, xs[i]? = some x → ys[i]? = some y → Pv i H → H T = none → g (.ref T) (wipe σ vs) (upd H T (.tup [x, y])) fun σ2 H2 => wipe σ2 vs = wipe σ vs ∧ tt σ2 H2 fun b H3 =>
      if b = true then te σ2 H3 fun y H4 => ∃ acc, H4 D = some (.lst acc) ∧ acc.length < sizeLine ∧ Pv (i + 1) (upd H4 D (.lst (acc ++ [y]))) else Pv (i + 1) H3) (hd : ∀ H, Pv xs.length H → Qd H) :
    ∃ W : Nat → Nat → Hp → Prop, (∃ m, W 0 m (upd H1 D (.lst []))) ∧ ∀ i m H, W i m H →
      ((ItZ K k1 k2).stop i H ∧ Qd H) ∨ ((ItZ K k1 k2).go i H ∧ ∃ Nx : Hp → Prop, (∀ H', Nx H' → ∃ m', m' < m ∧ W (i + 1) m' H') ∧ ∀ x H', (ItZ K k1 k2).yld i H x H' → g x (wipe σ vs) H' fun σ2 H2 => wipe σ2 vs = wipe σ vs ∧ tt σ2 H2 fun b H3 =>
        if b = true then te σ2 H3 fun y H4 => ∃ acc, H4 D = some (.lst acc) ∧ acc.length < sizeLine ∧ Nx (upd H4 D (.lst (acc ++ [y]))) else Nx H3) := by
  refine ⟨fun i m H => m + i = xs.length ∧ Pv i H, ⟨xs.length, rfl, h0⟩, fun i m H ⟨em, p⟩ => ?_⟩
  obtain ⟨qx, qy⟩ := hq i H p
  by_cases c : i < xs.length
  · have cx := List.getElem?_eq_getElem c
    have cy := List.getElem?_eq_getElem (show i < ys.length by omega)
    refine .inr ⟨⟨xs, ys, _, _, qx, qy, cx, cy⟩, Pv (i + 1), fun H' p' => ⟨m - 1, by omega, by omega, p'⟩, fun v H' hv => ?_⟩
    obtain ⟨T, x, y, rfl, nT, rfl, f1, f2⟩ := hv
    exact hs i x y T H (f1 _ qx) (f2 _ qy) p nT
  · have e : i = xs.length := by omega
    subst e
    exact .inl ⟨⟨xs, ys, qx, qy, Nat.le_refl _, by omega, .inl rfl⟩, hd H p⟩
/-- a list or a tuple walked -/
def iSq (K : PySem.W.Frag) (te : TE) : TI := fun σ H R => te σ H fun v H1 => ∃ (a : Addr) (xs : List V), v = .ref a ∧ ((SqL K H1 a xs ∧ R (Itl K a) H1) ∨ (SqT K H1 a xs ∧ R (Itt K a) H1))
theorem pi_sq {X : Cx} {tg e : Expr} {te : TE} (he : PE X e te) : PI X tg e (iSq X.K te) := by
  refine ⟨fun pins s σ H R I h => thn (he.run pins s σ H _ I h) fun u s1 h1 => ?_⟩
  obtain ⟨v, H1, I1, rv, a, xs, rfl, q⟩ := h1
  have new : ∀ c ∈ [s1.heap.objs.size], FpOk X pins H1 c := fun c hc => by
    rw [List.mem_singleton.mp hc]
    exact I1.fpOk (Nat.le_refl _) (I1.hok.fresh (Nat.le_refl _))
  cases rv
  rcases q with ⟨hq, q⟩ | ⟨hq, q⟩
  · obtain ⟨its, r, p, _⟩ := I1.list hq
    exact wpAny_pyIter_list p.isList ⟨_, [s1.heap.objs.size], _, _, H1, rfl, I1.kept (t' := s1.toks) fun b o x => Heap.get?_push_of_some _ x, turn_list a _, ⟨_, Heap.get?_push_size _ rfl, rfl, rfl⟩, new, q⟩
  · obtain ⟨its, r, p, _⟩ := I1.tuple hq
    exact wpAny_pyIter_tuple (show s1.heap.IsTuple a its.toArray from p) ⟨_, [s1.heap.objs.size], _, _, H1, rfl, I1.kept (t' := s1.toks) fun b o x => Heap.get?_push_of_some _ x, turn_tuple a _, ⟨_, Heap.get?_push_size _ rfl, rfl, rfl⟩, new, q⟩
end ZM

set_option maxHeartbeats 1000000
/-! comprehensions that give one value a turn and change nothing that stood -/
namespace ZM
open PySem PySem.Spec PyProof.Rows L2
theorem sm_new {H : Hp} {p : Addr} {o : HO} (h : H p = none) : Same H (upd H p o) := fun b x e => by
  rw [upd_ne (fun z => by rw [z, h] at e; cases e)]
  exact e
theorem sm_at {H H' : Hp} {D : Addr} {o : HO} (hD : H D = none) (s : Same H H') : Same H (upd H' D o) := fun b x e => by
  rw [upd_ne (fun z => by rw [z, hD] at e; cases e)]
  exact s _ _ e
theorem take_next {ys : List V} {i : Nat} {y : V} (h : ys[i]? = some y) : ys.take i ++ [y] = ys.take (i + 1) := by
  rw [List.take_add_one, h]
  rfl
/-- a reading that is not looked into -/
structure Bx (t : TE) (σ : L2.St) (H : Hp) (Q : VK) : Prop where
  run : t σ H Q
theorem pe_bx {X : Cx} {e : Expr} {t : TE} (h : PE X e t) : PE X e (Bx t) := ⟨fun pins s σ H Q I b => h.run pins s σ H Q I b.run⟩
theorem ps_bx {X : Cx} {st : Stmt} {t : TE} {g : TG} (h : PS X st (tAsg t g)) : PS X st (tAsg (Bx t) g) := ⟨fun pins s σ H D I b => h.run pins s σ H D I (Bx.run b)⟩
/-- the rest of a comprehension -/
def Lc (g : TG) (tt : TT) (te : TE) (vs : List Nat) (σ : L2.St) (Q : VK) : It → Hp → Prop := fun J H1 => ∀ D, H1 D = none → ∃ W : Nat → Nat → Hp → Prop, (∃ m, W 0 m (upd H1 D (.lst []))) ∧ ∀ i m H, W i m H →
  (J.stop i H ∧ Q (.ref D) H) ∨ (J.go i H ∧ ∃ Nx : Hp → Prop, (∀ H', Nx H' → ∃ m', m' < m ∧ W (i + 1) m' H') ∧ ∀ x H', J.yld i H x H' → g x (wipe σ vs) H' fun σ2 H2 => wipe σ2 vs = wipe σ vs ∧ tt σ2 H2 fun b H3 =>
    if b = true then te σ2 H3 fun y H4 => ∃ acc, H4 D = some (.lst acc) ∧ acc.length < sizeLine ∧ Nx (upd H4 D (.lst (acc ++ [y]))) else Nx H3)
theorem acc_ok {ys : List V} {i : Nat} (z : ys.length ≤ 1000000) (h : i < ys.length) : (ys.take i).length < sizeLine := by
  rw [List.length_take, sizeLine_eq]
  omega
section
variable {K : PySem.W.Frag} {te : TE} {vs : List Nat} {σ : L2.St} {H1 : Hp} {Q : VK} {xs ys : List V} {a : Addr} {j j2 : Nat}
theorem map_sq (hq : SqL K H1 a xs ∨ SqT K H1 a xs) (ly : ys.length = xs.length) (z : ys.length ≤ 1000000) (hw : ∀ x, wipe ((wipe σ vs).set j (some x)) vs = wipe σ vs)
    (hs : ∀ (i : Nat) (x y : V) (H : Hp) (R : VK), xs[i]? = some x → ys[i]? = some y → Same H1 H → (∀ H4, Same H H4 → R y H4) → te ((wipe σ vs).set j (some x)) H R) (hd : ∀ D H, Same H1 H → H1 D = none → H D = some (.lst ys) → Q (.ref D) H) :
    (SqL K H1 a xs ∧ Lc (gName j) tYes te vs σ Q (Itl K a) H1) ∨ (SqT K H1 a xs ∧ Lc (gName j) tYes te vs σ Q (Itt K a) H1) := by
  have turn : ∀ (D : Addr), H1 D = none → ∀ (i : Nat) (x : V) (H : Hp), xs[i]? = some x → (Same H1 H ∧ H D = some (.lst (ys.take i))) → (gName j) x (wipe σ vs) H fun σ2 H2 => wipe σ2 vs = wipe σ vs ∧ tYes σ2 H2 fun b H3 =>
      if b = true then te σ2 H3 fun y H4 => ∃ acc, H4 D = some (.lst acc) ∧ acc.length < sizeLine ∧ (Same H1 (upd H4 D (.lst (acc ++ [y]))) ∧ (upd H4 D (.lst (acc ++ [y]))) D = some (.lst (ys.take (i + 1)))) else (Same H1 H3 ∧ H3 D = some (.lst (ys.take (i + 1)))) := by
    intro D nD i x H hx ⟨sm, hD⟩
    have li := (List.getElem?_eq_some_iff.mp hx).1
    have hy := List.getElem?_eq_getElem (show i < ys.length by omega)
    refine ⟨hw x, ?_⟩
    show te _ H _
    refine hs i x _ H _ hx hy sm fun H4 s4 => ⟨_, s4 _ _ hD, acc_ok z (by omega), sm_at nD (sm.trans s4), ?_⟩
    rw [upd_same, take_next hy]
  have start : ∀ D, H1 D = none → Same H1 (upd H1 D (.lst [])) ∧ (upd H1 D (.lst [])) D = some (.lst (ys.take 0)) := fun D nD => ⟨sm_new nD, upd_same⟩
  have fin : ∀ D H, H1 D = none → (Same H1 H ∧ H D = some (.lst (ys.take xs.length))) → Q (.ref D) H := fun D H nD h => by
    refine hd D H h.1 nD ?_
    rw [h.2, ← ly, List.take_length]
  rcases hq with hq | hq
  · exact .inl ⟨hq, fun D nD => lc_list (K := K) (a := a) (xs := xs) (fun i H => Same H1 H ∧ H D = some (.lst (ys.take i))) (start D nD) (fun i H _ p => p.1.seq hq) (turn D nD) (fun H p => fin D H nD p)⟩
  · exact .inr ⟨hq, fun D nD => lc_tup (K := K) (a := a) (xs := xs) (fun i H => Same H1 H ∧ H D = some (.lst (ys.take i))) (start D nD) (fun i H _ p => sqT_sm p.1 hq) (turn D nD) (fun H p => fin D H nD p)⟩
theorem map_rng {lo : Int} {n : Nat} (ly : ys.length = n) (z : ys.length ≤ 1000000) (hw : ∀ x, wipe ((wipe σ vs).set j (some x)) vs = wipe σ vs)
    (hs : ∀ (i : Nat) (y : V) (H : Hp) (R : VK), i < n → ys[i]? = some y → Same H1 H → (∀ H4, Same H H4 → R y H4) → te ((wipe σ vs).set j (some (.int (lo + i)))) H R) (hd : ∀ D H, Same H1 H → H1 D = none → H D = some (.lst ys) → Q (.ref D) H) :
    Lc (gName j) tYes te vs σ Q (Itr lo n) H1 := fun D nD => by
  refine lc_range (lo := lo) (n := n) (fun i H => Same H1 H ∧ H D = some (.lst (ys.take i))) ⟨sm_new nD, upd_same⟩ ?_ ?_
  · intro i H hi ⟨sm, hD⟩
    have hy := List.getElem?_eq_getElem (show i < ys.length by omega)
    refine ⟨hw _, ?_⟩
    show te _ H _
    refine hs i _ H _ hi hy sm fun H4 s4 => ⟨_, s4 _ _ hD, acc_ok z (by omega), sm_at nD (sm.trans s4), ?_⟩
    rw [upd_same, take_next hy]
  · intro H h
    refine hd D H h.1 nD ?_
    rw [h.2, ← ly, List.take_length]
theorem map_z {k1 k2 : Sk} {us : List V} (q1 : Src K H1 k1 xs) (q2 : Src K H1 k2 us) (lu : us.length = xs.length) (ly : ys.length = xs.length) (z : ys.length ≤ 1000000) (hw : ∀ x u, wipe (((wipe σ vs).set j (some x)).set j2 (some u)) vs = wipe σ vs)
    (hs : ∀ (i : Nat) (x u y : V) (H : Hp) (R : VK), xs[i]? = some x → us[i]? = some u → ys[i]? = some y → Same H1 H → (∀ H4, Same H H4 → R y H4) → te (((wipe σ vs).set j (some x)).set j2 (some u)) H R) (hd : ∀ D H, Same H1 H → H1 D = none → H D = some (.lst ys) → Q (.ref D) H) :
    Lc (gTup K 2 (gCons (gName j) (gCons (gName j2) gNil))) tYes te vs σ Q (ItZ K k1 k2) H1 := fun D nD => by
  refine lc_z (K := K) (k1 := k1) (k2 := k2) (xs := xs) (ys := us) lu.symm (fun i H => Same H1 H ∧ H D = some (.lst (ys.take i))) ⟨sm_new nD, upd_same⟩ (fun i H p => ⟨src_same q1 p.1, src_same q2 p.1⟩) ?_ ?_
  · intro i x u T H hx hu ⟨sm, hD⟩ nT
    have li := (List.getElem?_eq_some_iff.mp hx).1
    have hy := List.getElem?_eq_getElem (show i < ys.length by omega)
    have s2 := sm_new (o := .tup [x, u]) nT
    refine ⟨T, [x, u], rfl, SqT.of upd_same, rfl, _, _, rfl, _, _, rfl, rfl, hw x u, ?_⟩
    show te _ _ _
    refine hs i x u _ _ _ hx hu hy (sm.trans s2) fun H4 s4 => ⟨_, s4 _ _ (s2 _ _ hD), acc_ok z (by omega), sm_at nD (sm.trans (s2.trans s4)), ?_⟩
    rw [upd_same, take_next hy]
  · intro H h
    refine hd D H h.1 nD ?_
    rw [h.2, ← ly, List.take_length]
/-! the same, of the whole comprehension -/
variable {H : Hp}
theorem lcm_sq {t0 : TE} (h0 : ∀ R : VK, R (.ref a) H1 → t0 σ H R) (hq : SqL K H1 a xs ∨ SqT K H1 a xs) (ly : ys.length = xs.length) (z : ys.length ≤ 1000000) (hw : ∀ x, wipe ((wipe σ vs).set j (some x)) vs = wipe σ vs)
    (hs : ∀ (i : Nat) (x y : V) (H : Hp) (R : VK), xs[i]? = some x → ys[i]? = some y → Same H1 H → (∀ H4, Same H H4 → R y H4) → te ((wipe σ vs).set j (some x)) H R) (hd : ∀ D H, Same H1 H → H1 D = none → H D = some (.lst ys) → Q (.ref D) H) :
    Bx (tLc (iSq K t0) (gName j) tYes te vs) σ H Q := ⟨h0 _ ⟨a, xs, rfl, map_sq hq ly z hw hs hd⟩⟩
theorem lcm_rng {ta : TA} {n : Nat} (h0 : ∀ R : List V → Hp → Prop, R [.int (n : Int)] H1 → ta σ H R) (hn : n ≤ 1000000) (ly : ys.length = n) (hw : ∀ x, wipe ((wipe σ vs).set j (some x)) vs = wipe σ vs)
    (hs : ∀ (i : Nat) (y : V) (H : Hp) (R : VK), i < n → ys[i]? = some y → Same H1 H → (∀ H4, Same H H4 → R y H4) → te ((wipe σ vs).set j (some (.int (0 + (i : Int))))) H R) (hd : ∀ D H, Same H1 H → H1 D = none → H D = some (.lst ys) → Q (.ref D) H) :
    Bx (tLc (iRng1 ta) (gName j) tYes te vs) σ H Q := ⟨h0 _ ⟨n, rfl, by omega, by omega, by
      rw [Int.toNat_natCast]
      exact map_rng (lo := 0) ly (by omega) hw hs hd⟩⟩
theorem lcm_z {ta : TA} {k1 k2 : Sk} {us : List V} (h0 : ∀ R : List V → Hp → Prop, R [k1.v, k2.v] H1 → ta σ H R) (q1 : Src K H1 k1 xs) (q2 : Src K H1 k2 us) (lu : us.length = xs.length) (ly : ys.length = xs.length) (z : ys.length ≤ 1000000) (hw : ∀ x u, wipe (((wipe σ vs).set j (some x)).set j2 (some u)) vs = wipe σ vs)
    (hs : ∀ (i : Nat) (x u y : V) (H : Hp) (R : VK), xs[i]? = some x → us[i]? = some u → ys[i]? = some y → Same H1 H → (∀ H4, Same H H4 → R y H4) → te (((wipe σ vs).set j (some x)).set j2 (some u)) H R) (hd : ∀ D H, Same H1 H → H1 D = none → H D = some (.lst ys) → Q (.ref D) H) :
    Bx (tLc (iZ K ta) (gTup K 2 (gCons (gName j) (gCons (gName j2) gNil))) tYes te vs) σ H Q := ⟨h0 _ ⟨k1, k2, xs, us, rfl, q1, q2, map_z q1 q2 lu ly z hw hs hd⟩⟩
/-! the same with a word of one's own -/
theorem own_rng {ta : TA} {n : Nat} (Pv : Addr → Nat → Hp → Prop) (h0 : ∀ R : List V → Hp → Prop, R [.int (n : Int)] H1 → ta σ H R) (hn : n ≤ 1000000) (hw : ∀ x, wipe ((wipe σ vs).set j (some x)) vs = wipe σ vs) (start : ∀ D, H1 D = none → Pv D 0 (upd H1 D (.lst [])))
    (hs : ∀ (D : Addr) (i : Nat) (H : Hp), H1 D = none → i < n → Pv D i H → te ((wipe σ vs).set j (some (.int (0 + (i : Int))))) H fun y H4 => ∃ acc, H4 D = some (.lst acc) ∧ acc.length < sizeLine ∧ Pv D (i + 1) (upd H4 D (.lst (acc ++ [y])))) (hd : ∀ D H, H1 D = none → Pv D n H → Q (.ref D) H) :
    Bx (tLc (iRng1 ta) (gName j) tYes te vs) σ H Q := ⟨h0 _ ⟨n, rfl, by omega, by omega, by
      rw [Int.toNat_natCast]
      exact fun D nD => lc_range (lo := 0) (n := n) (Pv D) (start D nD) (fun i H hi p => ⟨hw _, hs D i H nD hi p⟩) (fun H p => hd D H nD p)⟩⟩
theorem own_lst {t0 : TE} (Pv : Addr → Nat → Hp → Prop) (h0 : ∀ R : VK, R (.ref a) H1 → t0 σ H R) (hq : SqL K H1 a xs) (hl : ∀ D i H, H1 D = none → Pv D i H → SqL K H a xs) (hw : ∀ x, wipe ((wipe σ vs).set j (some x)) vs = wipe σ vs) (start : ∀ D, H1 D = none → Pv D 0 (upd H1 D (.lst [])))
    (hs : ∀ (D : Addr) (i : Nat) (x : V) (H : Hp), H1 D = none → xs[i]? = some x → Pv D i H → te ((wipe σ vs).set j (some x)) H fun y H4 => ∃ acc, H4 D = some (.lst acc) ∧ acc.length < sizeLine ∧ Pv D (i + 1) (upd H4 D (.lst (acc ++ [y])))) (hd : ∀ D H, H1 D = none → Pv D xs.length H → Q (.ref D) H) :
    Bx (tLc (iList K t0) (gName j) tYes te vs) σ H Q := ⟨h0 _ ⟨a, rfl, ⟨xs, hq⟩, fun D nD => lc_list (K := K) (a := a) (xs := xs) (Pv D) (start D nD) (fun i H _ p => hl D i H nD p) (fun i x H hx p => ⟨hw _, hs D i x H nD hx p⟩) (fun H p => hd D H nD p)⟩⟩
end
/-- a text walked, sign by sign -/
theorem lcm_str {K : PySem.W.Frag} {te t0 : TE} {vs : List Nat} {σ : L2.St} {H H1 : Hp} {Q : VK} {x : Str} {ys : List V} {j : Nat} (h0 : ∀ R : VK, R (.str x) H1 → t0 σ H R) (ly : ys.length = x.cps.size) (z : ys.length ≤ 1000000) (hw : ∀ x, wipe ((wipe σ vs).set j (some x)) vs = wipe σ vs)
    (hs : ∀ (i c : Nat) (y : V) (H : Hp) (R : VK), x.cps[i]? = some c → ys[i]? = some y → Same H1 H → (∀ H4, Same H H4 → R y H4) → te ((wipe σ vs).set j (some (.str ⟨#[c]⟩))) H R) (hd : ∀ D H, Same H1 H → H1 D = none → H D = some (.lst ys) → Q (.ref D) H) :
    Bx (tLc (iStr t0) (gName j) tYes te vs) σ H Q := ⟨h0 _ ⟨x, rfl, fun D nD => by
  refine ⟨fun i m H => m + i = x.cps.size ∧ Same H1 H ∧ H D = some (.lst (ys.take i)), ⟨x.cps.size, rfl, sm_new nD, upd_same⟩, ?_⟩
  rintro i m H ⟨em, sm, hD⟩
  by_cases c : i < x.cps.size
  · refine .inr ⟨c, fun H => Same H1 H ∧ H D = some (.lst (ys.take (i + 1))), fun H' p' => ⟨m - 1, by omega, by omega, p'⟩, fun v H' hv => ?_⟩
    obtain ⟨rfl, cc, hc, rfl⟩ := hv
    have hy := List.getElem?_eq_getElem (show i < ys.length by omega)
    refine ⟨hw _, ?_⟩
    show te _ _ _
    refine hs i cc _ _ _ hc hy sm fun H4 s4 => ⟨_, s4 _ _ hD, acc_ok z (by omega), sm_at nD (sm.trans s4), ?_⟩
    rw [upd_same, take_next hy]
  · refine .inl ⟨Nat.le_of_not_lt c, hd D H sm nD ?_⟩
    rw [hD, show i = ys.length by omega, List.take_length]⟩⟩
theorem if_by {t : TT} {ta tb : TE} {σ : L2.St} {H : Hp} {Q : VK} (G : V → Hp → Prop) (h : ∀ R : VK, (∀ v H', G v H' → R v H') → tIf t ta tb σ H R) (k : ∀ v H', G v H' → Q v H') : Bx (tIf t ta tb) σ H Q := ⟨h Q k⟩
end ZM

set_option maxHeartbeats 2000000
/-! An own error whose class, or one above it, makes it by super().__init__(text) and then keeps its class's name under word. -/
namespace PySem
namespace CleX
open PySem.W PySem.Calls PyProof.Rows PySem.HandSPX
/-- the name of an own class whose name is kept in its slot -/
theorem ent_name : entryFor table "type.__name__" = some Builtin.«type.__name__» := entryFor_of_tree (by kernel_rfl)
theorem typ_name : typeOf (.builtin "type.__name__") = pure (.type "getset_descriptor") := by show builtinType _ = _; rw [builtinType_eq_fast]; kernel_rfl
section
open Builtin Builtin.ObjectAttr Builtin.Getset_descriptor
theorem own_name : descrOwnerAndName "type.__name__" = ("type", "__name__") := by decide +kernel
variable {prog : Program} {w : World} {A : Around} {E : Value → Shared → Prop} {R : Result → Shared → Prop} {s : Shared} {K : Frag} {x C : Addr}
theorem name_get {v : Value} {oC : Obj} (X : K.In s.heap) (hC : s.heap.get? C = some oC) (h2 : (oC.slots[2]?).join = some v) (ht : Looks (model prog w) s.heap (typeOf (.ref C)) (.type "type")) (hs : Looks (model prog w) s.heap (isSubtype (.type "type") (.type "type")) true)
    (h : R (.ok (.ret v)) s) : codeAny (model prog w) A (.call (.builtin "getset_descriptor.__get__") ⟨[.builtin "type.__name__", .ref C, .type "type"], []⟩) R s := by
  obtain ⟨hh, g, dr, t, os⟩ := s
  refine codeAny_call_builtin KF.slot_gs.plain KF.entry_gs (KF.slot_gs.check _ _ _ _ _ _ _ _ typ_name (KF.args_gs _ _ _) ?_)
  unfold Builtin.«getset_descriptor.__get__» descrGet
  rw [dga_obj]
  refine wpAny_bind (wpAny_pure ?_)
  unfold descrGetter descrCheckInstance descrNameAndClass isInstance
  simp only [own_name]
  repeat lk
  refine ⟨Code.quiet_builtin _ (by decide +kernel), codeAny_builtin ent_name ?_⟩
  unfold Builtin.«type.__name__» keptObject slotAt
  repeat (first | lk | (refine wpAny_loadPart_at hC ?_) | wp_step)
  rw [h2]
  exact wpAny_pure h
/-- C.__name__ -/
theorem name_of {v : Value} {oC : Obj} {expr : Bool} {Q : Value → Shared → Prop} (X : K.In s.heap) (hC : K.lookup C = some oC) (h2 : (oC.slots[2]?).join = some v) (hh : handedIn v = true) (hr : readsIn K C (.type "type") = true)
    (e : findCls K (.ref C) (.type "type") "__name__" = some (.get (.builtin "getset_descriptor.__get__") (.builtin "type.__name__") (.ref C) (.type "type")))
    (h : Q v { s with toks := s.toks + 1 }) : wpAny (model prog w) A (getAttr (.ref C) "__name__" expr) Q E s := by
  have ht : Looks (model prog w) s.heap (typeOf (.ref C)) (.type "type") := by
    simp only [readsIn, Bool.and_eq_true, beq_iff_eq] at hr
    exact looks_typeIn X hr.1.1.1.2
  exact cls_bind X hr e (wpAny_call (name_get (s := { s with toks := s.toks + 1 }) X (X _ _ hC) h2 ht (Looks.of_pure (by rw [isSubtype_type]; kernel_rfl)) (handed_on hh h)))
/-- x.__class__, x an error of an own class -/
theorem class_of {ox : Obj} {od : Option Obj} {gt : Option Value} {Q : Value → Shared → Prop} (X : K.In s.heap) (I : InstAt s.heap x ox C od) (hga : findIn K (.ref C) "__getattribute__" = some (some (.builtin "BaseException.__getattribute__"))) (hgt : findIn K (.ref C) "__getattr__" = some gt)
    (hsub : subIn K (.ref C) (.type "BaseException") = some true) (hf : findObj K C od "__class__" = some (.bind (.builtin "getset_descriptor.__get__") (.builtin "object.__class__"))) (hm : mroIn K C (.type "object") = some true)
    (h : Q (.ref C) { s with toks := s.toks + 1 }) : wpAny (model prog w) A (getAttr (.ref x) "__class__" true) Q E s := by
  obtain ⟨hp, g, d, t, os⟩ := s
  have L0 := I.type (M := model prog w)
  have L1 := looks_findIn (M := model prog w) X hga
  have L2 := looks_findIn (M := model prog w) X hgt
  have L3 := looks_find (M := model prog w) X I hf
  have sub : Looks (model prog w) hp (isInstance (.ref x) (.type "BaseException")) true := L0.andThen (looks_subIn X hsub)
  have n0 : (true && onTheHeap (Value.builtin "BaseException.__getattribute__")) = false := rfl
  have n2 : (Value.builtin "BaseException.__getattribute__" == Value.builtin "object.__getattribute__") = false := by decide +kernel
  have n1 : (onTheHeap (Value.ref C) && Value.builtin "BaseException.__getattribute__" == Value.builtin "object.__getattribute__") = false := by rw [n2]; rfl
  unfold getAttr getAttrBy
  refine wpAny_bind (wpAny_mkText (wpAny_holding (wpAny_bind (L0.at (wpAny_bind (L1.at ?_))))))
  show wpAny _ _ (if (onTheHeap (Value.ref C) && Value.builtin "BaseException.__getattribute__" == Value.builtin "object.__getattribute__") = true then _ else _) _ _ _
  rw [n1, if_neg Bool.false_ne_true]
  unfold getAttrByItsOwn hookBefore
  refine wpAny_bind ?_
  rw [if_pos (show onTheHeap (Value.ref C) = true from rfl)]
  refine L2.at ?_
  refine wpAny_bind (wpAny_attempt (wpAny_holding ?_))
  unfold callGetattribute
  rw [n0, if_neg Bool.false_ne_true]
  unfold boundAndCalled
  rw [PySem.F.excAttr_ValueError.ga.bind (.ref x)]
  refine wpAny_bind (wpAny_pure ?_)
  show wpAny _ _ (call (.builtin "BaseException.__getattribute__") [.ref x, .str "__class__" t]) _ _ _
  refine wpAny_call (codeAny_call_builtin PySem.F.excAttr_ValueError.ga.plain PySem.F.entry_bexc_ga ?_)
  refine @PySem.W.check_slot (model prog w) _ _ ⟨hp, g, d, t + 1, os⟩ "BaseException.__getattribute__" "BaseException" "__getattribute__" (.ref x) [.str "__class__" t] [] _ (by decide +kernel) (by decide +kernel) sub (PySem.F.args_bexc_ga (.ref x) (.str "__class__" t)) ?_
  unfold Builtin.«object.__getattribute__»
  refine wpAny_bind (wpAny_of_eq (a := ((Value.ref x : Value), [Value.str "__class__" t])) (by first | rfl | (simp only [slotArgs]; rfl)) ?_)
  refine wpAny_bind (wpAny_pure (wpAny_bind (L0.at (wpAny_bind (L3.at ?_)))))
  refine wpAny_bind (wpAny_holding (wpAny_call (class_get (s := ⟨hp, g, d, t + 1, os⟩) (ox := ox) (od := od) X I hm ?_)))
  refine wpAny_pure ?_
  show wpAny _ _ (handedOut (.ref C)) _ _ _
  rw [handedOut_of (show handedIn (.ref C) = true from rfl)]
  first | exact wpAny_pure h | exact wpAny_pure (wpAny_pure h)
end
end CleX
end PySem

set_option maxHeartbeats 2000000
namespace PySem
namespace CleX
open PySem.W PySem.Calls PyProof.Rows PySem.HandSPX
/-! ### the text of __init__ -/
def iA (p1 p2 p3 : Pos) : Arguments := { posonlyargs := [], args := [{ arg := "self", annotation := none, pos := p1 }, { arg := "text", annotation := none, pos := p2 }], vararg := none, kwonlyargs := [], kw_defaults := [], kwarg := none, defaults := [.Constant (.str "") 0 p3] }
def iB (q1 q2 q3 q4 q5 q6 q7 q8 q9 qa qb qc : Pos) : List Stmt :=
  [.Expr (.Call (.Attribute (.Call (.Name "super" q1) [] [] q2) "__init__" q3) [.Name "text" q4] [] q5) q6,
   .Assign [.Attribute (.Name "self" q7) "word" q8] (.Attribute (.Attribute (.Name "self" q9) "__class__" qa) "__name__" qb) qc]
def iS : Scope := { kind := .function, names := [(PySem.Str.ofString "self", .local), (PySem.Str.ofString "text", .local), (PySem.Str.ofString "__class__", .free), (PySem.Str.ofString "super", .globalImplicit)], isGenerator := false, isCoroutine := false, more := [] }
/-- what the written part says of __init__ at fI, of the class D -/
structure InitTxt (prog : Program) (K : Frag) (mg : Str → Option Value) (D fI : Addr) : Prop where
  nG : mg "super" = none
  nT : (prog.main.scope.names.lookup ("super" : Str)).isSome = false
  noT : nsIn K cStatics "thirdparty.any" = some none
  dD : ∃ cdD, clsIn K D = some cdD
  tC : typeIn K (.ref fI) = some (.type "function")
  fn : ∃ (qn : Str) (oc : Value) (od : Option Addr) (T : Addr) (kV doc pm : Value) (an : Option Addr) (cda : Addr) (ct : Value) (cc : Addr) (osl : Array (Option Value)) (p1 p2 p3 q1 q2 q3 q4 q5 q6 q7 q8 q9 qa qb qc : Pos),
    (q3.endLine == q5.line) = true ∧ K.lookup fI = some ⟨oc, od, .func (ksFn "__init__" qn (iA p1 p2 p3) (iB q1 q2 q3 q4 q5 q6 q7 q8 q9 qa qb qc) iS (.ref T) kV doc pm an (.ref cda) ct cc), osl⟩ ∧ codeIn K (.ref cda) qn = true ∧
    (∃ (oT : Obj) (e : Value) (n : Nat), K.lookup T = some oT ∧ oT.data = .seq #[e] n) ∧
    (∃ (ccl : Value) (cdd : Option Addr) (vs : Array Value) (ccs : Array (Option Value)) (file : Str) (tf : Tok), K.lookup cda = some ⟨ccl, cdd, .fields vs, ccs⟩ ∧ vs[2]? = some (.str file tf) ∧ ((prog.main.file : Str) == file) = true) ∧
    (∃ (cl : Value) (cld : Option Addr) (csl : Array (Option Value)), K.lookup cc = some ⟨cl, cld, .cell (some (.ref D)), csl⟩)
/-- what the written part says of an error's class at C, whose name is nv -/
structure ClsTxt (K : Frag) (C D fI : Addr) (nv : Value) : Prop where
  cls : ∃ nm q N bs bm sn sub ab col dd k0 k1 k3 k5, K.lookup C = some (excClassObj nm q C N bs bm true sn sub ab col dd k0 k1 (some nv) k3 k5 "ValueError.__new__") ∧ refsVE bm = true
  nvh : handedIn nv = true
  mD : mroIn K C (.ref D) = some true
  mO : mroIn K C (.type "object") = some true
  sup : ks_superIn K C D "__init__" = some (some (.builtin "ValueError.__init__"))
  sVE : subIn K (.ref C) (.type "ValueError") = some true
  sa : findIn K (.ref C) "__setattr__" = some (some (.builtin "object.__setattr__"))
  ga : findIn K (.ref C) "__getattribute__" = some (some (.builtin "BaseException.__getattribute__"))
  gg : findIn K (.ref C) "__getattr__" = some none
  noN : findIn K (.ref C) "word" = some none
  cl : findObj K C none "__class__" = some (.bind (.builtin "getset_descriptor.__get__") (.builtin "object.__class__"))
  rd : readsIn K C (.type "type") = true
  nm : findCls K (.ref C) (.type "type") "__name__" = some (.get (.builtin "getset_descriptor.__get__") (.builtin "type.__name__") (.ref C) (.type "type"))
  iC : findIn K (.ref C) "__init__" = some (some (.ref fI))
  kC : keepIn K (.ref C) = true
  exC : subIn K (.ref C) (.type "BaseException") = some true
  tyC : typeIn K (.ref C) = some (.type "type")
  hdC : hasDictIn K C = true
theorem kept_but {K : Frag} {h h' : Heap} {x : Addr} (X : K.In h) (hx : K.lookup x = none) (k : ∀ b o, b ≠ x → h.get? b = some o → h'.get? b = some o) : K.In h' := fun a o e =>
  k a o (fun z => by rw [z, hx] at e; cases e) (X a o e)
/-- the built-in __init__, bound to a fresh error at e, called -/
theorem call_mw {prog : Program} {w : World} {A : Around} {E : Value → Shared → Prop} {h : Heap} {g : Array GenState} {d : Drawn} {t : Nat} {os : OsState} {nm q : Str} {C N : Addr} {bs bm bmB : List Value} {hdct : Bool} {sn : List Str} {sub : List Value} {ab : Bool} {col : Option Bool} {dd : Option Addr} {k0 k1 k2 k3 k5 : Option Value} {B newId i : String}
    (FB : ExcBaseFacts B newId i bmB) {u e t0 : Addr} {rest : List Value} {Q : Value → Shared → Prop}
    (hC : h.get? C = some (excClassObj nm q C N bs bm hdct sn sub ab col dd k0 k1 k2 k3 k5 newId)) (he : h.get? e = some (excO C t0)) (hu : h.get? u = some (kxs_mw i e)) (hrest : rest.length ≤ sizeLine)
    (hq : ∀ h' t1, (∀ b o, b ≠ e → h.get? b = some o → h'.get? b = some o) → h'.get? e = some (excO C t1) → Q .none ⟨h', g, d, t, os⟩) :
    wpAny (model prog w) A (call (.ref u) rest) Q E ⟨h, g, d, t, os⟩ := by
  refine wpAny_call (codeAny_of_tree ?_)
  show wpAny _ A.in1 (callAny (.ref u) ⟨rest, []⟩) _ _ _
  simp only [callAny]
  refine wpAny_bind (wpAny_load hu ?_)
  simp only [kxs_mw, show (Value.type "method-wrapper" == Value.type "method" || Value.type "method-wrapper" == Value.type "builtin_function_or_method" || Value.type "method-wrapper" == Value.type "method-wrapper") = true by decide, if_true]
  refine KFB.if_so (by decide) ?_
  refine wpAny_bind (check_bound_init FB.toExcCallFacts hC he rfl ?_)
  refine wpAny_bind (wpAny_pure (wpAny_pure ?_))
  refine ⟨plainId_quiet FB.init.plain _, codeAny_builtin FB.initEntry ?_⟩
  exact exc_init_tree (cls := .ref C) (t0 := t0) (dv := none) (c2 := .none) (c3 := .none) (b4 := .bool false) he hrest fun h' k e' _ => hq h' _ k e'
/-- what __init__ leaves of a fresh error at x -/
structure InitEnd (h h' : Heap) (x C dx : Addr) (nv : Value) : Prop where
  keep : ∀ b o, b ≠ x → h.get? b = some o → h'.get? b = some o
  obj : ∃ t1 : Addr, h'.get? x = some { cls := .ref C, dict := some dx, data := .fields #[.ref t1, .none, .none, .none, .bool false, .none] }
  dbig : h.objs.size ≤ dx
  dne : dx ≠ x
  ns : h'.Ns1 dx (fun y => if y = "word" then some nv else none)
theorem ldC {M : Model} {s : Shared} {env : Env} {m : Str → Option Value} {x : Str} {pos : Pos} {v : Value} {Q : Value → Shared → Prop} {A : Around} {E : Value → Shared → Prop} (hn : s.heap.Ns env.locals m) (hv : m x = some v) (h : Q v s)
    (hk : env.scope.kind = .function := by rfl) (hl : env.kindOf x = some .local := by rfl) (hd : (x == ("__debug__" : Str)) = false := by decide) :
    wpAny M A (eval (.Name x pos) env) Q E s := wpAny_Name (wpAny_loadName_local hk hl hn hv h) hd
theorem method_he {o : Expr} {name : Str} {apos pos : Pos} {args : List Expr} {env : Env} (hline : (apos.endLine == pos.line) = true) (hform : methodCallForm (args.length + ([] : List Keyword).length) (backTo pos (starEach args env)) (backToKw pos (keywordEach [] env)) = true) :
    eval (.Call (.Attribute o name apos) args [] pos) env = (do
      let ov ← attributeBase o name env (eval o env)
      standAt apos.atName
      let (f, first) ← holding [ov] (getMethod ov name (do return (← importBound o env).getD true))
      callWith pos f first (backTo pos (starEach args env)) []) := by
  rw [arm_eval_Call]
  have hp : methodCallPos true o env apos pos = pure pos := by unfold methodCallPos; simp [hline]
  unfold methodCall
  rw [hform]
  simp only [hp, pure_bind]
  rfl
end CleX
end PySem

set_option maxHeartbeats 2000000
namespace PySem
namespace CleX
open PySem.W PySem.Calls PyProof.Rows PySem.HandSPX
section
variable {prog : Program} {w : World} {A : Around} {E : Value → Shared → Prop} {R : Result → Shared → Prop} {s : Shared} {K : Frag} {mg : Str → Option Value} {C D fI : Addr} {nv : Value}
theorem cle_init (T : InitTxt prog K mg D fI) (T2 : ClsTxt K C D fI nv) {x t0 : Addr} {v : Value} (X : K.In s.heap) (G : s.heap.Ns mainGlobals mg) (Bn : ∃ mb, s.heap.Ns builtinsNs mb ∧ ∀ x : Str, x ≠ "__name__" → mb x = bootBuiltins x) (hlim : s.heap.NoLimit)
    (hx : s.heap.get? x = some (excO C t0)) (hnx : K.lookup x = none) (hroom : A.depth < recursionLimit)
    (hq : ∀ h' tk dx, InitEnd s.heap h' x C dx nv → R (.ok (.ret .none)) { s with heap := h', toks := tk }) :
    codeAny (model prog w) A (.call (.ref fI) ⟨[.ref x, v], []⟩) R s := by
  obtain ⟨qn, oc, od, Td, kV, doc, pm, an, cda, ct, cc, osl, p1, p2, p3, q1, q2, q3, q4, q5, q6, q7, q8, q9, qa, qb, qc, hline, ho, hcd, ⟨oT, dv, n, hT, hTd⟩, ⟨ccl, cdd, vs, ccs, file, tf, hcode, hvs, hfile⟩, ⟨cl, cld, csl, hcell⟩⟩ := T.fn
  obtain ⟨nm, q, N, bs, bm, sn, sub, ab, col, dd, k0, k1, k3, k5, hC, hbm⟩ := T2.cls
  obtain ⟨cdD, hD⟩ := T.dD
  obtain ⟨mb, hb1, hb2⟩ := Bn
  have hcl : clsIn K C = some { name := nm, bases := bs, mro := .ref C :: bm, ns := N, qualname := q, hasDict := true, slotNames := sn, subclasses := sub, abstract := ab, collection := col, hasDel := false } := by unfold clsIn; rw [hC] <;> rfl
  refine ks_codeAny_call_defAt (fd := ksFn "__init__" qn (iA p1 p2 p3) (iB q1 q2 q3 q4 q5 q6 q7 q8 q9 qa qb qc) iS (.ref Td) kV doc pm an (.ref cda) ct cc) (body := iB q1 q2 q3 q4 q5 q6 q7 q8 q9 qa qb qc) (binds := [("self", .ref x), ("text", v)]) hroom (X _ _ ho) rfl hlim (codeRec_of X hcd) rfl
    (binds_K X rfl hT hTd (by first | rfl | with_unfolding_all rfl) (by first | rfl | with_unfolding_all rfl)) (by show ∀ y ∈ iS.names, y.2 ≠ .cell; decide) (locs rfl) (fun h₁ hn k => ?_) rfl rfl rfl
  have X₁ : K.In h₁ := X.keeps k
  have hx₁ := k _ _ hx
  have hxL : s.heap.objs.size ≠ x := Nat.ne_of_gt (Heap.lt_size hx)
  have zn : s.heap.objs.size < h₁.objs.size := hn.lt
  obtain ⟨hp, g, dr, tk, os⟩ := s
  dsimp only at hn X G hlim hx k zn hxL hq hb1 ⊢
  -- super().__init__(text)
  refine ks_wpAt_execs_cons (ks_wpAt_Expr_any (ks_wpAt_MethodCall (he := method_he hline (by rfl)) ?_))
  obtain ⟨oD, hD1, hD2⟩ : ∃ oD, h₁.get? D = some oD ∧ oD.data = .cls cdD := by
    unfold clsIn at hD
    split at hD
    · rename_i c d cd' sl ho
      cases hD
      exact ⟨_, X₁ _ _ ho, rfl⟩
    · cases hD
  have hio : ∀ c, (excO C t0).data ≠ .cls c := fun c e => by cases e
  refine ks_wpAt_super_base rfl rfl (by decide) rfl (X₁ _ _ ho) rfl rfl rfl (X₁ _ _ hcode) rfl hvs hfile T.nT ?_
  refine ks_loadName_global rfl rfl (loadGlobal_builtin (G.keeps k) T.nG (hb1.keeps k) ((hb2 _ (by decide)).trans (by first | boot_by_name | rfl | kernel_rfl)) ⟨rfl, ?_⟩)
  refine wpAny_loadName_free rfl rfl rfl ⟨_, X₁ _ _ hcell, rfl⟩ ?_
  refine wpAny_loadName_local rfl rfl hn (by first | rfl | with_unfolding_all rfl | kernel_rfl) ?_
  refine ks_wpAny_isType_cls hD1 hD2 ⟨rfl, ?_⟩
  refine ks_wpAny_call_super hD1 hD2 hx₁ rfl hio (looks_mroIn X₁ T2.mD) (fun h₂ e k₂ => ?_)
  have X₂ : K.In h₂ := X₁.keeps k₂
  have hx₂ := k₂ _ _ hx₁
  have I₂ : InstAt h₂ x (excO C t0) C none := ⟨hx₂, rfl, rfl, trivial⟩
  have hsup := T2.sup
  unfold ks_superIn at hsup
  rw [hcl] at hsup
  refine kxs_getMethod kxs_ValueError (l₀ := .ref C :: bm) e (looks_opaque X₂ T.noT) ((looks_clsIn X₂ hcl).andThen .now) rfl X₂ hsup (I₂.type.andThen (looks_subIn X₂ T2.sVE)) (ks_ne X₂ I₂ hcl) (by decide) ?_
  have hus : (h₂.push (kxs_mw "ValueError.__init__" x)).get? h₂.objs.size = some (kxs_mw "ValueError.__init__" x) := Heap.get?_push_at rfl rfl
  have k₃ : ∀ b o, h₂.get? b = some o → (h₂.push (kxs_mw "ValueError.__init__" x)).get? b = some o := fun b o q => Heap.get?_push_of_some _ q
  have hn₃ := (hn.keeps k₂).keeps k₃
  refine kxs_callWith (i := "ValueError.__init__") (x := x) (by rfl) (evalArgs_plain (spliced_more (ldC (v := v) hn₃ (by first | rfl | with_unfolding_all rfl | kernel_rfl) (spliced_none ⟨hus, ?_⟩)) rfl))
  refine call_mw F.excBase_ValueError (k₃ _ _ (X₂ _ _ hC)) (k₃ _ _ hx₂) hus (by show 1 ≤ sizeLine; rw [sizeLine_eq]; exact (by decide : 1 ≤ 16777216)) (fun h₄ t1 k₄ hx₄ => ?_)
  have X₄ : K.In h₄ := kept_but (X₂.keeps k₃) hnx k₄
  have hn₄ : h₄.Ns hp.objs.size (fun y => ([(("self" : Str), Value.ref x), (("text" : Str), v)] : List (Str × Value)).reverse.lookup y) := by
    obtain ⟨oL, es, ep, hL, r⟩ := hn₃
    exact ⟨oL, es, ep, k₄ _ _ hxL hL, r⟩
  have I₄ : InstAt h₄ x (excO C t1) C none := ⟨hx₄, rfl, rfl, trivial⟩
  -- self.word = self.__class__.__name__
  show _root_.PySem.wpAt _ _ _ (execs _ _) _ _ _
  refine ks_wpAt_execs_cons (wpAt_of_wpAny (plainObj_wpAny_Assign_Attribute ?_))
  refine L2.attr_of rfl (L2.attr_of rfl (ldC (v := .ref x) hn₄ (by first | rfl | with_unfolding_all rfl | kernel_rfl) ?_))
  refine class_of X₄ I₄ T2.ga T2.gg T2.exC T2.cl T2.mO ?_
  refine name_of X₄ hC rfl T2.nvh T2.rd T2.nm ?_
  refine ldC (v := .ref x) hn₄ (by first | rfl | with_unfolding_all rfl | kernel_rfl) ?_
  refine set_plain X₄ (ox := excO C t1) (od := none) ⟨hx₄, rfl, rfl, trivial⟩ T2.sa ?_
  refine exc_osa X₄ hx₄ hcl (show refsVE (.ref C :: bm) = true from hbm) rfl T2.noN (fun h₅ tk₅ dx k₅ dn dne hx₅ hn₅ => ?_)
  have big : hp.objs.size ≤ dx := by
    have z : hp.objs.size < h₄.objs.size := hn₄.lt
    exact Nat.le_of_lt (Nat.lt_of_lt_of_le z dn)
  exact wpAt_of_wpAny (wpAny_execs_nil (hq h₅ tk₅ dx ⟨fun b o hb q => k₅ b o hb (k₄ b o hb (k₃ b o (k₂ b o (k b o q)))), ⟨t1, hx₅⟩, big, dne, hn₅⟩))
/-- a made error -/
structure Made (h h' : Heap) (e C d : Addr) (nv : Value) : Prop where
  keep : ∀ b o, h.get? b = some o → h'.get? b = some o
  new : h.objs.size ≤ e
  obj : ∃ oe vs, h'.get? e = some oe ∧ oe.cls = .ref C ∧ oe.dict = some d ∧ oe.data = .fields vs ∧ vs[1]? = some .none
  dbig : h.objs.size ≤ d
  dne : d ≠ e
  ns : h'.Ns1 d (fun y => if y = "word" then some nv else none)
theorem one_size (v : Value) : [v].length ≤ sizeLine := by
  rw [sizeLine_eq]
  exact (by decide : 1 ≤ 16777216)
/-- C(text) -/
theorem cle_made (T : InitTxt prog K mg D fI) (T2 : ClsTxt K C D fI nv) {v : Value} (X : K.In s.heap) (G : s.heap.Ns mainGlobals mg) (Bn : ∃ mb, s.heap.Ns builtinsNs mb ∧ ∀ x : Str, x ≠ "__name__" → mb x = bootBuiltins x) (hlim : s.heap.NoLimit) (hroom : A.depth + 1 < recursionLimit)
    (hq : ∀ h' tk e d, Made s.heap h' e C d nv → R (.ok (.ret (.ref e))) { s with heap := h', toks := tk }) :
    codeAny (model prog w) A (.call (.ref C) ⟨[v], []⟩) R s := by
  obtain ⟨nm, q, N, bs, bm, sn, sub, ab, col, dd, k0, k1, k3, k5, hC, hbm⟩ := T2.cls
  obtain ⟨mb, hb1, hb2⟩ := Bn
  obtain ⟨hp, g, dr, tk, os⟩ := s
  have k : ∀ b o, hp.get? b = some o → ((hp.push (kdv_tup [v])).push (excO C hp.objs.size)).get? b = some o := fun b o e => Heap.get?_push_of_some _ (Heap.get?_push_of_some _ e)
  have hget : ((hp.push (kdv_tup [v])).push (excO C hp.objs.size)).get? (hp.objs.size + 1) = some (excO C hp.objs.size) := by heap_get
  have hnx : K.lookup (hp.objs.size + 1) = none := by
    cases e : K.lookup (hp.objs.size + 1) with
    | none => rfl
    | some o =>
      have z : hp.get? (hp.objs.size + 1) = some o := X _ _ e
      exact absurd (Nat.lt_of_succ_lt (Heap.lt_size z)) (Nat.lt_irrefl _)
  refine call_own F.excBase_ValueError (fun X => refsVE_contains X bm hbm) (X _ _ hC) (looks_findIn X T2.iC) (fun self => bind_fn X self T.tC) (one_size v) ?_
  refine cle_init (s := ⟨(hp.push (kdv_tup [v])).push (excO C hp.objs.size), g, dr, tk, os⟩) T T2 (X.keeps k) (G.keeps k) ⟨mb, hb1.keeps k, hb2⟩ (hlim.keeps k) hget hnx ?_ fun h' tk' dx ⟨k', ⟨t1, hx⟩, dn, dne, hns⟩ => ?_
  · show A.depth + 1 < recursionLimit
    exact hroom
  · have old : ∀ b o, hp.get? b = some o → h'.get? b = some o := fun b o e => k' b o (Nat.ne_of_lt (Nat.lt_succ_of_lt (Heap.lt_size e))) (k b o e)
    have z : hp.objs.size + 1 + 1 ≤ dx := by
      first
        | (simpa only [Heap.size_push] using dn)
        | exact dn
        | (have q := dn; rw [Heap.size_push, Heap.size_push] at q; exact q)
    exact ⟨rfl, hq h' tk' (hp.objs.size + 1) dx ⟨old, Nat.le_succ _, ⟨_, _, hx, rfl, rfl, rfl, rfl⟩, Nat.le_trans (Nat.le_trans (Nat.le_succ _) (Nat.le_succ _)) z, dne, hns⟩⟩
end
end CleX
end PySem

set_option maxHeartbeats 2000000
namespace CX4
open PySem PySem.Spec PyProof.Rows L2
/-- the word of an error: its class's name -/
def wd (c : Str) : List (Str × V) := [(("word" : Str), .str c)]
theorem relO_word {c : Str} {v' : Value} (r : RelV (.str c) v') (f : Str) : RelO (List.lookup f (wd c)) (if f = "word" then some v' else none) := by
  by_cases hw : f = "word"
  · subst hw
    rw [if_pos rfl]
    have q : List.lookup ("word" : Str) (wd c) = some (.str c) := by simp [wd, List.lookup]
    rw [q]
    exact r
  · rw [if_neg hw]
    have qw : (f == ("word" : Str)) = false := by simpa using hw
    have q2 : List.lookup f (wd c) = none := by simp [wd, List.lookup, qw]
    rw [q2]
    trivial
section
variable {X : Cx} {C D fI : Addr} {nv : Value} {c : Str}
/-- C(text) -/
def tMk (C : Addr) (c : Str) (ta : TA) : L2.St → Hp → XK → Prop := fun σ H Q => ta σ H fun vs H1 => ∃ v, vs = [v] ∧ ∀ d, H1 d = none → Q (.ref C) (some d) (upd H1 d (.xd (wd c)))
theorem pmk_cle {x : Str} {a : Expr} {ta : TA} {p pos : Pos} {k : Nat} (T : PySem.CleX.InitTxt X.prog X.K X.mg D fI) (T2 : PySem.CleX.ClsTxt X.K C D fI nv) (rw : RelV (.str c) nv) (gC : X.mg x = some (.ref C)) (hr : Room k X.A) (ha : PA X [a] ta) (hg : Gl X x := by rfl)
    (he : starEach (a :: []) X.env = (false, eval a X.env) :: starEach [] X.env := by rfl) (hpl : (backTo pos (starEach [] X.env)).any (·.1) = false := by rfl) (hdb : (x == ("__debug__" : Str)) = false := by decide) :
    PMk X (.Call (.Name x p) [a] [] pos) (tMk C c ta) := by
  intro pins s σ H Q I h
  refine wpAny_Call_Name_kw (ld_glob I hg gC ?_ hdb)
  refine PySem.W.callWith_K (h₀ := X.base) I.ok.mod.kin T2.kC (thn (ha.run pos pins s σ H _ I h) fun us s1 hh => ?_) he hpl
  obtain ⟨vs, H1, I1, r1, v, ev, q1⟩ := hh
  subst ev
  refine ⟨I1.kIn, ?_⟩
  cases r1 with
  | cons rv rn =>
    rename_i v' us'
    cases rn
    show wpAny _ _ (call (.ref C) [v']) _ _ _
    have hlim := I1.nolimit
    have hmod := I1.mod
    obtain ⟨mb, hb1, hb2⟩ := hmod.blt
    have hG := hmod.glob.keeps I1.bk
    have hB := hb1.keeps I1.bk
    obtain ⟨hp, g, dr, tk, os⟩ := s1
    refine wpAny_call (PySem.CleX.cle_made T T2 I1.kIn hG ⟨mb, hB, hb2⟩ hlim (by have := hr.dp; omega) fun h' tk' e d M => ?_)
    show MkP X pins σ Q (.ref e) ⟨h', g, dr, tk', os⟩
    obtain ⟨oe, fv, hoe, hc, hd, hdat, h1⟩ := M.obj
    have hns := M.ns
    obtain ⟨G', g1, g2⟩ := restrict h' fun b => decide (b ≠ e)
    have gk : ∀ b, b ≠ e → G'.get? b = h'.get? b := fun b hb => g1 b (decide_eq_true hb)
    have ge : G'.get? e = none := g2 e (by simp)
    have old : ∀ b o, hp.get? b = some o → G'.get? b = some o := fun b o q => (gk b (Nat.ne_of_lt (Nat.lt_of_lt_of_le (Heap.lt_size q) M.new))).trans (M.keep b o q)
    have ob : ObjOk X.prog X.w (upd H1 d (.xd (wd c))) G' d (.xd (wd c)) :=
      ⟨_, hns.at (fun o q => (gk d M.dne).trans q), fun f => relO_word rw f⟩
    have J : Inv X pins σ (upd H1 d (.xd (wd c))) ⟨G', g, dr, tk', os⟩ := I1.laid (t' := tk') old M.dbig ob
    refine ⟨e, oe, fv, ⟨G', g, dr, tk', os⟩, _, .ref C, some d, rfl, J, fun b o q => ?_, ge, hoe, ⟨hc, hd⟩, hdat, h1, ?_, rfl, I1.bare, raises_own T2.exC T2.tyC, q1 d (I1.hok.fresh M.dbig)⟩
    · by_cases hb : b = e
      · have q' : G'.get? b = some o := q
        rw [hb, ge] at q'; cases q'
      · exact (gk b hb).symm.trans q
    · rw [upd_ne (Ne.symm M.dne)]
      exact I1.hok.fresh M.new
/-- raise C(text) -/
def tRs (C : Addr) (c : Str) (W : WX) (ta : TA) : TS := fun _ σ H => tMk C c ta σ H fun cls d H' => W cls d σ H'
theorem ps_cle {x : Str} {a : Expr} {ta : TA} {W : WX} {p pos pos2 : Pos} {k : Nat} (hc : X.calm = true) (T : PySem.CleX.InitTxt X.prog X.K X.mg D fI) (T2 : PySem.CleX.ClsTxt X.K C D fI nv) (rw : RelV (.str c) nv) (gC : X.mg x = some (.ref C)) (hr : Room k X.A) (tk : Takes X W) (ha : PA X [a] ta) (hg : Gl X x := by rfl)
    (he : starEach (a :: []) X.env = (false, eval a X.env) :: starEach [] X.env := by rfl) (hpl : (backTo pos (starEach [] X.env)).any (·.1) = false := by rfl) (hdb : (x == ("__debug__" : Str)) = false := by decide) :
    PS X (.Raise (some (.Call (.Name x p) [a] [] pos)) none pos2) (tRs C c W ta) := ps_raise hc tk (pmk_cle T T2 rw gC hr ha hg he hpl hdb)
/-- e.word, e the error that the suite holds (at a; its class cls, its dict d) -/
def tWord (K : PySem.W.Frag) (a : Addr) (cls : Value) (d : Option Addr) (te : TE) : TE := fun σ H Q => te σ H fun x H1 => x = .ref a ∧ ∃ (C D fI : Addr) (nv : Value) (c : Str) (dd : Addr), cls = .ref C ∧ PySem.CleX.ClsTxt K C D fI nv ∧ d = some dd ∧ H1 dd = some (.xd (wd c)) ∧ Q (.str c) H1
theorem pe_word {a : Addr} {oe : Obj} {cls : Value} {d : Option Addr} {pn : List (Addr × Obj)} {e : Expr} {te : TE} {pos : Pos} (hz : Zc cls d oe) (hf : ∃ vs, oe.data = .fields vs) (he : PE (X.suite a ((a, oe) :: pn)) e te)
    (hb : attributeBase e "word" X.env (eval e X.env) = eval e X.env := by rfl) :
    PE (X.suite a ((a, oe) :: pn)) (.Attribute e "word" pos) (tWord X.K a cls d te) := by
  refine ⟨fun pins s σ H Q I h => ?_⟩
  refine attr_of hb (thn (he.run pins s σ H _ I h) fun u s1 hh => ?_)
  obtain ⟨x, H1, I1, rx, ex, C, D, fI, nv, c, dd, ec, T2, ed, ea, q⟩ := hh
  subst ex
  obtain rfl : u = Value.ref a := rx
  subst ec
  subst ed
  obtain ⟨ha, _⟩ := I1.pin (a, oe) (List.mem_append_left _ List.mem_cons_self)
  obtain ⟨vs, hd⟩ := hf
  have hx : ObjOk X.prog X.w H1 s1.heap dd (.xd (wd c)) := I1.hok dd _ ea
  obtain ⟨mA, hns, hr⟩ := hx
  obtain ⟨od, ho, hl⟩ := lookIn_ns hns
  have l : List.lookup ("word" : Str) (wd c) = some (.str c) := by simp [wd, List.lookup]
  obtain ⟨u, hu, ru⟩ := RelO.some_of (v := .str c) (o := mA "word") (by rw [← l]; exact hr "word")
  have J : PySem.W.InstAt s1.heap a oe C (some od) := ⟨ha, hz.1, by unfold PySem.W.notCls; rw [hd] <;> rfl, by rw [hz.2]; exact ho⟩
  exact HandSPX.exc_get I1.kIn J T2.ga T2.gg T2.exC (PySem.W.findObj_own T2.hdC T2.noN rfl (by rw [hl, hu])) (handed_of ru) ⟨.str c, H1, I1.tok _, ru, q⟩
end
end CX4

set_option maxHeartbeats 2000000
/-! Rows of signs: what the program asks of them. -/
namespace K32
open PySem PySem.Spec PyProof.Rows L2 CX4
abbrev sAre : Stmt := topS 7
abbrev sRow : Stmt := topS 8
theorem scAre : FnScope ["row", "sign"] ["row"] (defScope sAre) := ⟨rfl, rfl, rfl, by decide +kernel, rfl, by decide +kernel, by decide +kernel⟩
theorem scRow : FnScope ["row", "many"] ["row", "many"] (defScope sRow) := ⟨rfl, rfl, rfl, by decide +kernel, rfl, by decide +kernel, by decide +kernel⟩
theorem log_ok {i : Int} (h : i.natAbs < 10 ^ 30) : i.natAbs.log2 < 1920 := by
  by_cases z : i.natAbs = 0
  · rw [z]; decide
  · exact Nat.lt_trans ((Nat.log2_lt z).mpr (Nat.lt_of_lt_of_le h (by decide : 10 ^ 30 ≤ 2 ^ 100))) (by decide)
theorem len_ok {i : Int} (h : i.natAbs < 10 ^ 30) : (Str.ofString (toString i)).length ≤ 31 := by
  rw [PySem.ofString_length]
  exact int_text_length_le10 (by decide) h
theorem lit_ok {x : String} (h : x.length ≤ 100 := by decide) : (Str.ofString x).length ≤ 100 := by
  rw [PySem.ofString_length]
  exact h
theorem j2 {a b : Str} {n m : Nat} (ha : a.length ≤ n) (hb : b.length ≤ m) : (a ++ b).length ≤ n + m := by
  rw [Str.length_append]
  omega
theorem fits {a : Str} {n : Nat} (h : a.length ≤ n) (hn : n ≤ 16777216 := by decide) : a.length ≤ sizeLine := by
  rw [sizeLine_eq]
  omega
theorem e0 : Str.empty.length ≤ 0 := by decide
theorem if_t {c : Bool} {A B : Prop} (hc : c = true) (h : A) : if c = true then A else B := (if_pos hc).mpr h
theorem if_f {c : Bool} {A B : Prop} (hc : c = false) (h : B) : if c = true then A else B := (if_neg (by rw [hc]; decide)).mpr h
/-- ints in a list or a tuple -/
def SqI (K : PySem.W.Frag) (H : Hp) (a : Addr) (ns : List Int) : Prop := SqL K H a (ns.map V.int) ∨ SqT K H a (ns.map V.int)
theorem SqI.same {K : PySem.W.Frag} {H H' : Hp} {a : Addr} {ns : List Int} (h : SqI K H a ns) (s : Same H H') : SqI K H' a ns := h.imp (fun h => s.seq h) (fun h => ZM.sqT_sm s h)
/-- a number that is a sign, as `in` tells it -/
def isS (n : Int) : Bool := inV (.int n) [.int (-1), .int 0, .int 1]
/-- a refusal by the class at C of the name c -/
def Refuses (C : Addr) (c : Str) (H : Hp) (E : XK) : Prop := ∀ d : Addr, H d = none → E (.ref C) (some d) (upd H d (.xd (wd c)))
/-- the program's error and its signs, as the top has written them -/
structure TxS (P : Program) (K : PySem.W.Frag) (mg : Str → Option Value) (C D fI aS : Addr) : Prop where
  iT : PySem.CleX.InitTxt P K mg D fI
  cT : ∃ nv, PySem.CleX.ClsTxt K C D fI nv ∧ RelV (.str "BadRow") nv
  gC : mg "BadRow" = some (.ref C)
  gS : mg "SIGNS" = some (.ref aS)
  hS : ∀ H, SqT K H aS [.int (-1), .int 0, .int 1]
  all : mg "all" = none
  len : mg "len" = none
section
variable {P : Program} {w : World} {K : PySem.W.Frag} {mg : Str → Option Value} {base : Heap} {C D fI aS : Addr}
def spAre (K : PySem.W.Frag) : Sp := fun vs H Q _ => ∃ (a : Addr) (ns : List Int), vs = [.ref a] ∧ SqI K H a ns ∧ ns.length ≤ 1000 ∧ ∀ H', Same H H' → Q (.bl (ns.all isS)) H'
theorem ok_are {f : Addr} {fd : FuncData} {k : Nat} (F : Fun K "are_signs" "are_signs" sAre f fd) (T : TxS P K mg C D fI aS) : FnOk P w K mg base CX0 (k + 1) f fd ["row"] (spAre K) := by
  refine F.ok scAre (fun vs H Q E ⟨a, ns, e, _⟩ => by rw [e]; rfl) (fun cdv A outer s H vs Q E hr h => ?_)
  obtain ⟨a, ns, rfl, hq, z, q⟩ := h
  refine ⟨_, pss_one (ps_ret (pe_callB (cr_all rfl) (by rfl) T.all (by decide +kernel) (pa_cons
    (ZM.pe_bx (pe_lc (own := [("sign", 1)]) (g := gName 1) (tt := tYes) rfl scAre.nd (ZM.pi_sq (pv 0)) (blkOk_by (N := ["row", "sign"]) (sc := defScope sAre) (by decide +kernel))
      (fun _ _ _ _ _ => pg_name (i := 1) scAre.nd rfl (Or.inl rfl)) (fun _ _ _ _ _ => pts_nil) (fun _ _ _ _ _ => pe_cmpR (r := rIn K false) op_in_seq (pv 1) (pe_glob (v := .ref aS) rfl T.gS rfl) (by with_unfolding_all rfl)))) pa_nil))), ?_⟩
  refine ZM.lcm_sq (ys := ns.map fun n => V.bl (isS n)) (fun R r => ⟨_, rfl, r⟩) hq (by simp) (by simp; omega) (fun _ => rfl) ?_ ?_
  · intro i x y H2 R hx hy _ hR
    obtain ⟨v, rfl, hv⟩ := get_ints hx
    rw [List.getElem?_map, hv] at hy
    cases hy
    exact ⟨_, rfl, aS, _, rfl, .inr (T.hS _), rfl, rfl, hR _ (Same.refl _)⟩
  · intro D H2 sm _ hD
    refine ⟨D, ns.map isS, rfl, SqL.of (by rw [hD, List.map_map]; rfl), ?_⟩
    rw [List.all_map]
    exact q _ sm
def spRow (K : PySem.W.Frag) (C : Addr) : Sp := fun vs H Q E => ∃ (a : Addr) (ns : List Int) (m : Int), vs = [.ref a, .int m] ∧ SqI K H a ns ∧ ns.length ≤ 1000 ∧ m.natAbs < 10 ^ 30 ∧
  (¬ ((ns.length : Int) = m ∧ ns.all isS = true) → ∀ H', Same H H' → Refuses C "BadRow" H' E) ∧ ((ns.length : Int) = m → ns.all isS = true → ∀ H', Same H H' → Q .non H')
theorem ok_row {f g : Addr} {fd gd : FuncData} (F : Fun K "check_row" "check_row" sRow f fd) (T : TxS P K mg C D fI aS) (G : FnOk P w K mg base CX0 2 g gd ["row"] (spAre K)) (gG : mg "are_signs" = some (.ref g)) (kG : PySem.W.keepIn K (.ref g) = true) (bG : Binds K gd ["row"] []) :
    FnOk P w K mg base (L2.CX P w) 3 f fd ["row", "many"] (spRow K C) := by
  obtain ⟨nv, cT, rw⟩ := T.cT
  refine F.okX scRow (fun vs H Q E ⟨a, ns, m, e, _⟩ => by rw [e]; rfl) (fun cdv A outer s H vs Q E hr h => ⟨_,
    pss_cons (ps_if (pt_cmpR op_ne (pe_callB call_len_seq (by rfl) T.len PySem.boot_len (pa_cons (pv 0) pa_nil)) (pv 1) (nomark _))
      (pss_one (ps_cle rfl T.iT cT rw T.gC hr (takes_of rfl rfl rfl rfl) (by exact (pa_cons (pe_joined (.cons pe_str (.cons (pe_fmt (pv 1)) (.cons pe_str (.cons (pe_fmt (pe_callB call_len_seq (by rfl) T.len PySem.boot_len (pa_cons (pv 0) pa_nil))) .nil))))) pa_nil)))) pss_nil)
    (pss_one (ps_if (pt_not (pt_val (pe_call G hr (by rfl) gG kG bG .nil pass0 (pa_cons (pv 0) pa_nil))))
      (pss_one (ps_cle rfl T.iT cT rw T.gC hr (takes_of rfl rfl rfl rfl) (by exact (pa_cons pe_str pa_nil)))) pss_nil)), ?_⟩)
  obtain ⟨a, ns, m, rfl, hq, z, hm, hN, hY⟩ := h
  have l1 : (Str.ofString "a row of ").length ≤ 100 := lit_ok
  have l2 : (Str.ofString " signs is wanted, not of ").length ≤ 100 := lit_ok
  have hs : SqL K H a (ns.map V.int) ∨ SqT K H a (ns.map V.int) := hq
  have hn : ((ns.map V.int).length : Int).natAbs < 10 ^ 30 := by
    rw [List.length_map, Int.natAbs_natCast]
    exact Nat.lt_of_le_of_lt z (by decide)
  refine ⟨_, rfl, a, _, rfl, hs, _, rfl, rfl, _, rfl, ?_⟩
  by_cases c : (ns.length : Int) = m
  · refine if_f (by simp [c]) ?_
    refine ⟨_, rfl, a, ns, rfl, hq, z, fun H' s' => ⟨_, rfl, ?_⟩⟩
    cases b : ns.all isS with
    | true => exact if_f rfl (hY c b H' s')
    | false => exact if_t rfl ⟨_, rfl, hN (fun q => by rw [b] at q; cases q.2) H' s'⟩
  · refine if_t (by simpa using c) ?_
    exact ⟨_, rfl, fits (j2 e0 l1), _, rfl, .inr ⟨m, rfl, log_ok hm, _, rfl, fits (j2 (j2 e0 l1) (len_ok hm)), _, rfl, fits (j2 (j2 (j2 e0 l1) (len_ok hm)) l2), _, rfl, a, _, rfl, hs, .inr ⟨_, rfl, log_ok hn, _, rfl, fits (j2 (j2 (j2 (j2 e0 l1) (len_ok hm)) l2) (len_ok hn)), _, rfl, hN (fun q => c q.1) H (Same.refl _)⟩⟩⟩
end
end K32

set_option maxHeartbeats 2000000
/-! Colours: what the program asks of them. -/
namespace K32
open PySem PySem.Spec PyProof.Rows L2 CX4
abbrev tx (cs : List Nat) : Str := ⟨cs.toArray⟩
def isC (c : Nat) : Bool := c == 43 || c == 45 || c == 42 || c == 48
def isCx (c : Nat) : Bool := isC c || c == 120
def menR (c : Nat) : List Int := if c = 43 then [0, 1] else if c = 45 then [-1, 0] else if c = 42 then [-1, 0, 1] else [0]
def menC (c : Nat) : List Int := if c = 43 then [0, 1] else if c = 45 then [-1, 0] else if c = 42 then [0] else [-1, 0, 1]
/-- a dict of the module's, from colours to signs -/
structure Menu (K : PySem.W.Frag) (w : World) (d : Addr) (men : Nat → List Int) : Prop where
  D : ∃ es n, KDict K w d es n
  at_ : ∀ c, isC c = true → ∃ r : Addr, PySem.W.nsIn K d ⟨#[c]⟩ = some (some (.ref r)) ∧ ∀ H, SqT K H r ((men c).map V.int)
  no : PySem.W.nsIn K d ⟨#[120]⟩ = some none
abbrev sRing : Stmt := topS 12
abbrev sCut : Stmt := topS 13
abbrev sCol : Stmt := topS 14
theorem scRing : FnScope ["row", "colours", "sign", "colour"] ["row", "colours"] (defScope sRing) := ⟨rfl, rfl, rfl, by decide +kernel, rfl, by decide +kernel, by decide +kernel⟩
theorem scCut : FnScope ["row", "colours", "sign", "colour"] ["row", "colours"] (defScope sCut) := ⟨rfl, rfl, rfl, by decide +kernel, rfl, by decide +kernel, by decide +kernel⟩
theorem scCol : FnScope ["colours", "many", "colour"] ["colours", "many"] (defScope sCol) := ⟨rfl, rfl, rfl, by decide +kernel, rfl, by decide +kernel, by decide +kernel⟩
section
variable {P : Program} {w : World} {K : PySem.W.Frag} {mg : Str → Option Value} {base : Heap} {C C2 D fI aS dR dC : Addr}
def spCol (C2 : Addr) : Sp := fun vs H Q E => ∃ (cs : List Nat) (m : Int), vs = [.str (tx cs), .int m] ∧ cs.length ≤ 1000 ∧ (∀ c ∈ cs, isCx c = true) ∧ m.natAbs < 10 ^ 30 ∧
  (¬ ((cs.length : Int) = m ∧ cs.all isC = true) → ∀ H', Same H H' → Refuses C2 "BadColours" H' E) ∧ ((cs.length : Int) = m → cs.all isC = true → ∀ H', Same H H' → Q .non H')
theorem ok_col {f : Addr} {fd : FuncData} {nv2 : Value} (F : Fun K "_check_colours" "_check_colours" sCol f fd) (T : TxS P K mg C D fI aS) (cT2 : PySem.CleX.ClsTxt K C2 D fI nv2) (rw2 : RelV (.str "BadColours") nv2) (gC2 : mg "BadColours" = some (.ref C2))
    (M : Menu K w dR menR) (gR : mg "RING_SIGNS" = some (.ref dR)) (na : mg "any" = none) : FnOk P w K mg base (L2.CX P w) 3 f fd ["colours", "many"] (spCol C2) := by
  obtain ⟨es, nd, KD⟩ := M.D
  refine F.okX scCol (fun vs H Q E ⟨cs, m, e, _⟩ => by rw [e]; rfl) (fun cdv A outer s H vs Q E hr h => ⟨_,
    pss_cons (ps_if (pt_cmpR op_ne (pe_callB call_len_str (by rfl) T.len PySem.boot_len (pa_cons (pv 0) pa_nil)) (pv 1) (nomark _))
      (pss_one (ps_cle rfl T.iT cT2 rw2 gC2 hr (takes_of rfl rfl rfl rfl) (by exact (pa_cons (pe_joined (.cons (pe_fmt (pv 1)) (.cons pe_str (.cons (pe_fmt (pe_callB call_len_str (by rfl) T.len PySem.boot_len (pa_cons (pv 0) pa_nil))) .nil)))) pa_nil)))) pss_nil)
    (pss_one (ps_if (pt_val (pe_callB (cr_any rfl) (by rfl) na (by decide +kernel) (pa_cons (ZM.pe_bx (pe_lc (own := [("colour", 2)]) (g := gName 2) (tt := tYes) rfl scCol.nd (pi_str (pv 0)) (blkOk_by (N := ["colours", "many", "colour"]) (sc := defScope sCol) (by decide +kernel))
        (fun _ _ _ _ _ => pg_name (i := 2) scCol.nd rfl (Or.inl rfl)) (fun _ _ _ _ _ => pts_nil) (fun _ _ _ _ _ => pe_cmpR (r := fun x y H Q => ∃ (z : Str) (r : Option Value), x = .str z ∧ y = .ref dR ∧ PySem.W.nsIn K dR z = some r ∧ Q (.bl (!r.isSome)) H) (op_notIn_kd KD) (pv 2) (pe_glob (v := .ref dR) rfl gR rfl) (by with_unfolding_all rfl)))) pa_nil)))
      (pss_one (ps_cle rfl T.iT cT2 rw2 gC2 hr (takes_of rfl rfl rfl rfl) (by exact (pa_cons pe_str pa_nil)))) pss_nil)), ?_⟩)
  obtain ⟨cs, m, rfl, z, hx, hm, hN, hY⟩ := h
  have sl : (tx cs).length = cs.length := by simp [Str.length]
  have zl : (tx cs).length ≤ sizeLine := by rw [sl, sizeLine_eq]; omega
  have l2 : (Str.ofString " colours are wanted, not ").length ≤ 100 := lit_ok
  have hn : ((tx cs).length : Int).natAbs < 10 ^ 30 := by
    rw [sl, Int.natAbs_natCast]
    exact Nat.lt_of_le_of_lt z (by decide)
  refine ⟨_, rfl, _, rfl, zl, _, rfl, rfl, _, rfl, ?_⟩
  by_cases c : (cs.length : Int) = m
  · refine if_f (by rw [sl]; simp [c]) ?_
    refine ZM.lcm_str (K := K) (ys := cs.map fun c => V.bl (!isC c)) (fun R r => ⟨_, rfl, r⟩) (by simp) (by rw [List.length_map]; omega) (fun _ => rfl) ?_ ?_
    · intro i cc y H2 R hc hy _ hR
      have hc' : cs[i]? = some cc := by simpa using hc
      rw [List.getElem?_map, hc'] at hy
      cases hy
      have hcx := hx cc (List.mem_of_getElem? hc')
      by_cases k : isC cc = true
      · obtain ⟨r, e, _⟩ := M.at_ cc k
        refine ⟨_, rfl, _, _, rfl, rfl, e, ?_⟩
        have hR : ∀ H4, Same H2 H4 → R (V.bl (!isC cc)) H4 := hR
        rw [k] at hR
        exact hR _ (Same.refl _)
      · have k' : cc = 120 := by
          have k2 : isC cc = false := by simpa using k
          unfold isCx at hcx
          rw [k2] at hcx
          simpa using hcx
        subst k'
        exact ⟨_, rfl, _, _, rfl, rfl, M.no, hR _ (Same.refl _)⟩
    · intro Dd H2 sm _ hD
      refine ⟨Dd, cs.map fun c => !isC c, rfl, SqL.of (by rw [hD, List.map_map]; rfl), _, rfl, ?_⟩
      by_cases k : cs.all isC = true
      · refine if_f ?_ (hY c k H2 sm)
        rw [List.any_map]
        apply Bool.eq_false_iff.mpr
        intro z
        obtain ⟨x, hx1, hx2⟩ := List.any_eq_true.mp z
        have := List.all_eq_true.mp k x hx1
        simp [this] at hx2
      · refine if_t ?_ ⟨_, rfl, hN (fun q => k q.2) H2 sm⟩
        rw [List.any_map]
        apply Classical.byContradiction
        intro z
        refine k (List.all_eq_true.mpr fun x hx1 => ?_)
        apply Classical.byContradiction
        intro z2
        exact z (List.any_eq_true.mpr ⟨x, hx1, by simpa using z2⟩)
  · refine if_t (by rw [sl]; simpa using c) ?_
    exact ⟨_, rfl, .inr ⟨m, rfl, log_ok hm, _, rfl, fits (j2 e0 (len_ok hm)), _, rfl, fits (j2 (j2 e0 (len_ok hm)) l2), _, rfl, _, rfl, zl, .inr ⟨_, rfl, log_ok hn, _, rfl, fits (j2 (j2 (j2 e0 (len_ok hm)) l2) (len_ok hn)), _, rfl, hN (fun q => c q.1) H (Same.refl _)⟩⟩⟩
/-- whether a row suits, by a menu -/
def suit (men : Nat → List Int) (ns : List Int) (cs : List Nat) : List Bool := List.zipWith (fun n c => inV (.int n) ((men c).map V.int)) ns cs
def spSuit (K : PySem.W.Frag) (C C2 : Addr) (men : Nat → List Int) : Sp := fun vs H Q E => ∃ (a : Addr) (ns : List Int) (cs : List Nat), vs = [.ref a, .str (tx cs)] ∧ SqI K H a ns ∧ ns.length ≤ 1000 ∧ cs.length ≤ 1000 ∧ (∀ c ∈ cs, isCx c = true) ∧
  (¬ ns.all isS = true → ∀ H', Same H H' → Refuses C "BadRow" H' E) ∧ (ns.all isS = true → ¬ (cs.length = ns.length ∧ cs.all isC = true) → ∀ H', Same H H' → Refuses C2 "BadColours" H' E) ∧
  (ns.all isS = true → cs.length = ns.length → cs.all isC = true → ∀ H', Same H H' → Q (.bl ((suit men ns cs).all id)) H')
theorem flat_ints (ns : List Int) : (ns.map V.int).all flatV = true := by
  induction ns with
  | nil => rfl
  | cons n r ih => rw [List.map_cons, List.all_cons, ih]; rfl
theorem SqI.src {K : PySem.W.Frag} {H : Hp} {a : Addr} {ns : List Int} (h : SqI K H a ns) : ∃ k : ZM.Sk, k.v = .ref a ∧ ZM.Src K H k (ns.map V.int) := by
  rcases h with h | h
  · exact ⟨.lst a, rfl, h⟩
  · exact ⟨.tup a, rfl, h⟩
theorem ok_ring {f g g2 : Addr} {fd gd gd2 : FuncData} (F : Fun K "suits_ring" "suits_ring" sRing f fd) (T : TxS P K mg C D fI aS) (M : Menu K w dR menR) (gR : mg "RING_SIGNS" = some (.ref dR)) (mz : mg "zip" = none)
    (G : FnOk P w K mg base (L2.CX P w) 3 g gd ["row", "many"] (spRow K C)) (gG : mg "check_row" = some (.ref g)) (kG : PySem.W.keepIn K (.ref g) = true) (bG : Binds K gd ["row", "many"] [])
    (G2 : FnOk P w K mg base (L2.CX P w) 3 g2 gd2 ["colours", "many"] (spCol C2)) (gG2 : mg "_check_colours" = some (.ref g2)) (kG2 : PySem.W.keepIn K (.ref g2) = true) (bG2 : Binds K gd2 ["colours", "many"] []) :
    FnOk P w K mg base (L2.CX P w) 5 f fd ["row", "colours"] (spSuit K C C2 menR) := by
  refine F.okX scRing (fun vs H Q E ⟨a, ns, cs, e, _⟩ => by rw [e]; rfl) (fun cdv A outer s H vs Q E hr h => ⟨_,
    pss_cons (ps_expr (by exact (pe_callS (E := WE fun cls d _ H => E cls d H) G (hr.mono (by decide)) rfl gG kG bG (fun σ => passAt (takes_of rfl rfl rfl rfl) σ) (by exact (pa_cons (pv 0) (pa_cons (pe_callB call_len_seq (by rfl) T.len PySem.boot_len (pa_cons (pv 0) pa_nil)) pa_nil))))))
    (pss_cons (ps_expr (by exact (pe_callS (E := WE fun cls d _ H => E cls d H) G2 (hr.mono (by decide)) rfl gG2 kG2 bG2 (fun σ => passAt (takes_of rfl rfl rfl rfl) σ) (by exact (pa_cons (pv 1) (pa_cons (pe_callB call_len_seq (by rfl) T.len PySem.boot_len (pa_cons (pv 0) pa_nil)) pa_nil))))))
    (pss_one (ps_ret (pe_callB (cr_all rfl) (by rfl) T.all (by decide +kernel) (pa_cons (ZM.pe_bx (pe_lc (own := [("sign", 2), ("colour", 3)]) (g := gTup K 2 (gCons (gName 2) (gCons (gName 3) gNil))) (tt := tYes) rfl scRing.nd (ZM.pi_z (by rfl) mz (pa_cons (pv 0) (pa_cons (pv 1) pa_nil)))
      (blkOk_by (N := ["row", "colours", "sign", "colour"]) (sc := defScope sRing) (by decide +kernel)) (fun _ _ _ _ _ => pg_tup rfl (pgs_cons (pg_name (i := 2) scRing.nd rfl (Or.inl rfl)) (pgs_cons (pg_name (i := 3) scRing.nd rfl (Or.inl rfl)) pgs_nil))) (fun _ _ _ _ _ => pts_nil)
      (fun _ _ _ _ _ => pe_cmpR (r := rIn K false) op_in_seq (pv 2) (pe_ix (r := rIxD K w) ix_kdict (pe_glob (v := .ref dR) rfl gR rfl) (pv 3) (fun _ _ => rfl)) (by with_unfolding_all rfl)))) pa_nil))))), ?_⟩)
  obtain ⟨a, ns, cs, rfl, h1, z1, z2, hx, hN, hN2, hY⟩ := h
  have hq : SqL K H a (ns.map V.int) ∨ SqT K H a (ns.map V.int) := h1
  have hn : ((ns.map V.int).length : Int).natAbs < 10 ^ 30 := by
    rw [List.length_map, Int.natAbs_natCast]
    exact Nat.lt_of_le_of_lt z1 (by decide)
  refine ⟨_, rfl, _, rfl, a, _, rfl, hq, a, ns, _, rfl, h1, z1, hn, fun c => hN (fun q => c ⟨by rw [List.length_map], q⟩), fun _ c1 H2 s2 => ?_⟩
  have hq2 : SqL K H2 a (ns.map V.int) ∨ SqT K H2 a (ns.map V.int) := h1.same s2
  refine ⟨_, rfl, _, rfl, a, _, rfl, hq2, cs, _, rfl, z2, hx, hn, fun c H3 s3 => hN2 c1 (fun q => c ⟨by rw [List.length_map]; omega, q.2⟩) H3 (s2.trans s3), fun c2 c3 H3 s3 => ?_⟩
  rw [List.length_map] at c2
  have hl : cs.length = ns.length := by omega
  obtain ⟨k1, e1, q1⟩ := ((h1.same s2).same s3).src
  have lp : (suit menR ns cs).length = ns.length := by simp [suit, hl]
  refine ZM.lcm_z (k1 := k1) (k2 := .txt (tx cs)) (us := ZM.signs (tx cs)) (ys := (suit menR ns cs).map V.bl) (fun R r => by rw [e1] at r; exact ⟨_, rfl, _, rfl, r⟩) q1 rfl (by simp [ZM.signs, hl]) (by rw [List.length_map, List.length_map, lp]) (by rw [List.length_map, lp]; omega) (fun _ _ => rfl) ?_ ?_
  · intro i x u y H4 R hx4 hu hy _ hR
    obtain ⟨v, rfl, hv⟩ := get_ints hx4
    obtain ⟨cc, hc, rfl⟩ : ∃ cc, cs[i]? = some cc ∧ u = V.str ⟨#[cc]⟩ := by
      have hu' : (cs.map fun c => V.str ⟨#[c]⟩)[i]? = some u := hu
      rw [List.getElem?_map] at hu'
      cases q : cs[i]? with
      | none => rw [q] at hu'; cases hu'
      | some cc => rw [q] at hu'; exact ⟨cc, rfl, (Option.some.inj hu').symm⟩
    have e : y = .bl (inV (.int v) ((menR cc).map V.int)) := by
      have : (suit menR ns cs)[i]? = some (inV (.int v) ((menR cc).map V.int)) := by simp [suit, List.getElem?_zipWith, hv, hc]
      rw [List.getElem?_map, this] at hy
      exact (Option.some.inj hy).symm
    subst e
    obtain ⟨r, er, hr2⟩ := M.at_ cc (List.all_eq_true.mp c3 cc (List.mem_of_getElem? hc))
    obtain ⟨es, nd, KD⟩ := M.D
    exact ⟨_, rfl, _, rfl, _, _, .ref r, rfl, rfl, ⟨es, nd, _, KD.at_, KD.lit, er, rfl⟩, r, _, rfl, .inr (hr2 _), rfl, flat_ints _, hR _ (Same.refl _)⟩
  · intro Dd H4 sm _ hD
    exact ⟨Dd, _, rfl, SqL.of hD, hY c1 hl c3 _ (s2.trans (s3.trans sm))⟩
theorem ok_cut {f g g2 : Addr} {fd gd gd2 : FuncData} (F : Fun K "suits_cut" "suits_cut" sCut f fd) (T : TxS P K mg C D fI aS) (M : Menu K w dC menC) (gR : mg "CUT_SIGNS" = some (.ref dC)) (mz : mg "zip" = none)
    (G : FnOk P w K mg base (L2.CX P w) 3 g gd ["row", "many"] (spRow K C)) (gG : mg "check_row" = some (.ref g)) (kG : PySem.W.keepIn K (.ref g) = true) (bG : Binds K gd ["row", "many"] [])
    (G2 : FnOk P w K mg base (L2.CX P w) 3 g2 gd2 ["colours", "many"] (spCol C2)) (gG2 : mg "_check_colours" = some (.ref g2)) (kG2 : PySem.W.keepIn K (.ref g2) = true) (bG2 : Binds K gd2 ["colours", "many"] []) :
    FnOk P w K mg base (L2.CX P w) 5 f fd ["row", "colours"] (spSuit K C C2 menC) := by
  refine F.okX scCut (fun vs H Q E ⟨a, ns, cs, e, _⟩ => by rw [e]; rfl) (fun cdv A outer s H vs Q E hr h => ⟨_,
    pss_cons (ps_expr (by exact (pe_callS (E := WE fun cls d _ H => E cls d H) G (hr.mono (by decide)) rfl gG kG bG (fun σ => passAt (takes_of rfl rfl rfl rfl) σ) (by exact (pa_cons (pv 0) (pa_cons (pe_callB call_len_seq (by rfl) T.len PySem.boot_len (pa_cons (pv 0) pa_nil)) pa_nil))))))
    (pss_cons (ps_expr (by exact (pe_callS (E := WE fun cls d _ H => E cls d H) G2 (hr.mono (by decide)) rfl gG2 kG2 bG2 (fun σ => passAt (takes_of rfl rfl rfl rfl) σ) (by exact (pa_cons (pv 1) (pa_cons (pe_callB call_len_seq (by rfl) T.len PySem.boot_len (pa_cons (pv 0) pa_nil)) pa_nil))))))
    (pss_one (ps_ret (pe_callB (cr_all rfl) (by rfl) T.all (by decide +kernel) (pa_cons (ZM.pe_bx (pe_lc (own := [("sign", 2), ("colour", 3)]) (g := gTup K 2 (gCons (gName 2) (gCons (gName 3) gNil))) (tt := tYes) rfl scCut.nd (ZM.pi_z (by rfl) mz (pa_cons (pv 0) (pa_cons (pv 1) pa_nil)))
      (blkOk_by (N := ["row", "colours", "sign", "colour"]) (sc := defScope sCut) (by decide +kernel)) (fun _ _ _ _ _ => pg_tup rfl (pgs_cons (pg_name (i := 2) scCut.nd rfl (Or.inl rfl)) (pgs_cons (pg_name (i := 3) scCut.nd rfl (Or.inl rfl)) pgs_nil))) (fun _ _ _ _ _ => pts_nil)
      (fun _ _ _ _ _ => pe_cmpR (r := rIn K false) op_in_seq (pv 2) (pe_ix (r := rIxD K w) ix_kdict (pe_glob (v := .ref dC) rfl gR rfl) (pv 3) (fun _ _ => rfl)) (by with_unfolding_all rfl)))) pa_nil))))), ?_⟩)
  obtain ⟨a, ns, cs, rfl, h1, z1, z2, hx, hN, hN2, hY⟩ := h
  have hq : SqL K H a (ns.map V.int) ∨ SqT K H a (ns.map V.int) := h1
  have hn : ((ns.map V.int).length : Int).natAbs < 10 ^ 30 := by
    rw [List.length_map, Int.natAbs_natCast]
    exact Nat.lt_of_le_of_lt z1 (by decide)
  refine ⟨_, rfl, _, rfl, a, _, rfl, hq, a, ns, _, rfl, h1, z1, hn, fun c => hN (fun q => c ⟨by rw [List.length_map], q⟩), fun _ c1 H2 s2 => ?_⟩
  have hq2 : SqL K H2 a (ns.map V.int) ∨ SqT K H2 a (ns.map V.int) := h1.same s2
  refine ⟨_, rfl, _, rfl, a, _, rfl, hq2, cs, _, rfl, z2, hx, hn, fun c H3 s3 => hN2 c1 (fun q => c ⟨by rw [List.length_map]; omega, q.2⟩) H3 (s2.trans s3), fun c2 c3 H3 s3 => ?_⟩
  rw [List.length_map] at c2
  have hl : cs.length = ns.length := by omega
  obtain ⟨k1, e1, q1⟩ := ((h1.same s2).same s3).src
  have lp : (suit menC ns cs).length = ns.length := by simp [suit, hl]
  refine ZM.lcm_z (k1 := k1) (k2 := .txt (tx cs)) (us := ZM.signs (tx cs)) (ys := (suit menC ns cs).map V.bl) (fun R r => by rw [e1] at r; exact ⟨_, rfl, _, rfl, r⟩) q1 rfl (by simp [ZM.signs, hl]) (by rw [List.length_map, List.length_map, lp]) (by rw [List.length_map, lp]; omega) (fun _ _ => rfl) ?_ ?_
  · intro i x u y H4 R hx4 hu hy _ hR
    obtain ⟨v, rfl, hv⟩ := get_ints hx4
    obtain ⟨cc, hc, rfl⟩ : ∃ cc, cs[i]? = some cc ∧ u = V.str ⟨#[cc]⟩ := by
      have hu' : (cs.map fun c => V.str ⟨#[c]⟩)[i]? = some u := hu
      rw [List.getElem?_map] at hu'
      cases q : cs[i]? with
      | none => rw [q] at hu'; cases hu'
      | some cc => rw [q] at hu'; exact ⟨cc, rfl, (Option.some.inj hu').symm⟩
    have e : y = .bl (inV (.int v) ((menC cc).map V.int)) := by
      have : (suit menC ns cs)[i]? = some (inV (.int v) ((menC cc).map V.int)) := by simp [suit, List.getElem?_zipWith, hv, hc]
      rw [List.getElem?_map, this] at hy
      exact (Option.some.inj hy).symm
    subst e
    obtain ⟨r, er, hr2⟩ := M.at_ cc (List.all_eq_true.mp c3 cc (List.mem_of_getElem? hc))
    obtain ⟨es, nd, KD⟩ := M.D
    exact ⟨_, rfl, _, rfl, _, _, .ref r, rfl, rfl, ⟨es, nd, _, KD.at_, KD.lit, er, rfl⟩, r, _, rfl, .inr (hr2 _), rfl, flat_ints _, hR _ (Same.refl _)⟩
  · intro Dd H4 sm _ hD
    exact ⟨Dd, _, rfl, SqL.of hD, hY c1 hl c3 _ (s2.trans (s3.trans sm))⟩
end
end K32

set_option maxHeartbeats 2000000
/-! Texts of colours; what the law draws and asks of them. -/
namespace K32
open PySem PySem.Spec PyProof.Rows L2 CX4
theorem tx_app (a b : List Nat) : tx a ++ tx b = tx (a ++ b) := by
  show (⟨a.toArray ++ b.toArray⟩ : Str) = _
  simp
theorem tx_len (a : List Nat) : (tx a).length = a.length := by simp [Str.length]
theorem join_tx : ∀ cs : List Nat, Str.join Str.empty (cs.map fun c => (⟨#[c]⟩ : Str)) = tx cs
  | [] => rfl
  | [c] => rfl
  | c :: d :: r => by
    have ih := join_tx (d :: r)
    show (⟨#[c]⟩ : Str) ++ Str.empty ++ Str.join Str.empty ((d :: r).map fun c => (⟨#[c]⟩ : Str)) = _
    rw [ih]
    show (⟨#[c] ++ #[] ++ (d :: r).toArray⟩ : Str) = _
    simp
theorem sum_ones : ∀ cs : List Nat, ((cs.map fun c => (⟨#[c]⟩ : Str)).map (·.length)).sum = cs.length
  | [] => rfl
  | c :: r => by
    rw [List.map_cons, List.map_cons, List.sum_cons, sum_ones r, List.length_cons]
    show 1 + _ = _
    omega
/-- 'x' * k, k 0 or 1 -/
theorem op_mulS {X : Cx} : OpR X (binaryOp .Mult) (fun x y H Q => ∃ (z : Str) (k : Int), x = .str z ∧ y = .int k ∧ (k = 0 ∨ k = 1) ∧ Q (.str (if k = 1 then z else Str.empty)) H) := by
  intro pins s σ H x y v u Q I rx ry h
  obtain ⟨z, k, rfl, rfl, hk, q⟩ := h
  obtain ⟨t, rfl⟩ := rx
  obtain ⟨t', rfl⟩ := ry
  refine PySem.SB.mul (x := z) (t := t) (u := t') (n := k) ?_ fun t2 tk => ?_
  · rcases hk with rfl | rfl
    · exact ⟨by decide, fun h => absurd (by decide) h, fun h => absurd (by decide) h⟩
    · exact ⟨by decide, fun _ h => by simp at h, fun _ h => by simp at h⟩
  · have e : PySem.Txt.mul z k = if k = 1 then z else Str.empty := by
      rcases hk with rfl | rfl
      · rfl
      · unfold PySem.Txt.mul
        rw [if_neg (by decide), if_pos (by simp), if_pos rfl]
    rw [e]
    exact ⟨.str (if k = 1 then z else Str.empty), H, I.tok _, ⟨_, rfl⟩, q⟩
abbrev sDrawn : Stmt := topS 21
theorem scDrawn : FnScope ["_law_bag_here", "_law_many", "_law_k"] ["_law_bag_here", "_law_many"] (defScope sDrawn) := ⟨rfl, rfl, rfl, by decide +kernel, rfl, by decide +kernel, by decide +kernel⟩
def isD (n : Int) : Prop := n = -1 ∨ n = 0 ∨ n = 1
/-- all that stood stands, but what the bag holds -/
def But (b : Addr) (H H' : Hp) : Prop := ∀ c o, c ≠ b → H c = some o → H' c = some o
theorem But.refl {b : Addr} {H : Hp} : But b H H := fun _ _ _ h => h
theorem But.trans {b : Addr} {H H' H2 : Hp} (h : But b H H') (h2 : But b H' H2) : But b H H2 := fun c o n e => h2 c o n (h c o n e)
theorem But.new {b p : Addr} {H : Hp} {o : HO} (np : H p = none) : But b H (upd H p o) := fun c o' _ e => by
  rw [upd_ne (fun z => by rw [z, np] at e; cases e)]
  exact e
theorem But.bag {b : Addr} {H : Hp} {o : HO} : But b H (upd H b o) := fun c o' n e => by
  rw [upd_ne n]
  exact e
theorem But.at {b D : Addr} {H H' : Hp} {o : HO} (h : But b H H') (nD : H D = none) : But b H (upd H' D o) := fun c o' n e => by
  rw [upd_ne (fun z => by rw [z, nD] at e; cases e)]
  exact h c o' n e
theorem But.none {b D l : Addr} {H H' : Hp} (h : But b H H') {xs : List V} (hb : H b = some (.lst xs)) (nD : H' D = none) (hb' : ∃ ys, H' b = some (.lst ys)) : H D = none := by
  cases e : H D with
  | none => rfl
  | some o =>
    by_cases c : D = b
    · obtain ⟨ys, hy⟩ := hb'
      rw [c, hy] at nD
      cases nD
    · rw [h D o c e] at nD
      cases nD
def spDrawn : Sp := fun vs H Q _ => ∃ (b l : Addr) (n : Nat) (bs : List Int), vs = [.ref b, .int n] ∧ n ≤ 1000 ∧ BagAt l bs H b ∧
  ∀ (D : Addr) (ns : List Int) (H' : Hp), ns.length = n → (∀ m ∈ ns, isD m) → H D = none → H' D = some (.lst (ns.map V.int)) → BagAt l bs H' b → But b H H' → Q (.ref D) H'
section
variable {P : Program} {w : World} {K : PySem.W.Frag} {mg : Str → Option Value} {base : Heap}
theorem ok_drawn {f g : Addr} {fd gd : FuncData} (F : Fun K "_law_signs_drawn" "_law_signs_drawn" sDrawn f fd) (mr : mg "range" = none) (G : FnOk P w K mg base CX0 2 g gd ["_law_bag_here", "_law_some"] (spOf K)) (gG : mg "_law_of" = some (.ref g)) (kG : PySem.W.keepIn K (.ref g) = true) (bG : Binds K gd ["_law_bag_here", "_law_some"] []) :
    FnOk P w K mg base CX0 3 f fd ["_law_bag_here", "_law_many"] spDrawn := by
  refine F.ok scDrawn (fun vs H Q E ⟨b, l, n, bs, e, _⟩ => by rw [e]; rfl) (fun cdv A outer s H vs Q E hr h => ?_)
  obtain ⟨b, l, n, bs, rfl, hn, B, q⟩ := h
  refine ⟨_, pss_one (ps_ret (ZM.pe_bx (pe_lc (own := [("_law_k", 2)]) (g := gName 2) (tt := tYes) rfl scDrawn.nd (pi_range1 (by rfl) mr (pa_cons (pv 1) pa_nil)) (blkOk_by (N := ["_law_bag_here", "_law_many", "_law_k"]) (sc := defScope sDrawn) (by decide +kernel))
      (fun _ _ _ _ _ => pg_name (i := 2) scDrawn.nd rfl (Or.inl rfl)) (fun _ _ _ _ _ => pts_nil) (fun _ _ _ _ _ => pe_call G hr (by rfl) gG kG bG .nil pass0 (pa_cons (pv 0) (pa_cons (pe_lst (pa_cons (pe_un un_neg pe_int) (pa_cons pe_int (pa_cons pe_int pa_nil)))) pa_nil)))))), ?_⟩
  refine ZM.own_rng (n := n) (fun D i H' => ∃ ns : List Int, ns.length = i ∧ (∀ m ∈ ns, isD m) ∧ H' D = some (.lst (ns.map V.int)) ∧ BagAt l bs H' b ∧ But b H H') (fun R r => ⟨_, rfl, r⟩) (by omega) (fun _ => rfl) (fun D nD => ⟨[], rfl, by simp, upd_same, B.new nD, .new nD⟩) ?_ ?_
  · rintro D i H2 nD hi ⟨ns, hl, hm, hD, B2, bu⟩
    obtain ⟨bx, hb⟩ := B.at
    have Db : D ≠ b := fun z => by rw [z, hb] at nD; cases nD
    have Dl : D ≠ l := fun z => by rw [z, B.ls] at nD; cases nD
    refine ⟨_, rfl, _, rfl, (by show 3 ≤ sizeLine; rw [sizeLine_eq]; omega), fun p np => ?_⟩
    obtain ⟨bx2, hb2⟩ := B2.at
    have pb : p ≠ b := fun z => by rw [z, hb2] at np; cases np
    have pD : D ≠ p := fun z => by rw [← z, hD] at np; cases np
    refine ⟨b, l, p, bs, _, rfl, B2.new np, upd_same, pb, (by show 0 < 3; decide), (by show 3 < 1073741824; decide), fun v zs hv B3 => ?_⟩
    have : ∃ m : Int, v = .int m ∧ isD m := by
      simp only [List.mem_cons, List.not_mem_nil, or_false] at hv
      rcases hv with e | e | e
      · exact ⟨-1, e, .inl rfl⟩
      · exact ⟨0, e, .inr (.inl rfl)⟩
      · exact ⟨1, e, .inr (.inr rfl)⟩
    obtain ⟨m, rfl, hmd⟩ := this
    refine ⟨ns.map V.int, by rw [upd_ne Db, upd_ne pD]; exact hD, by rw [List.length_map, sizeLine_eq]; omega, ns ++ [m], by simp [hl], ?_, by rw [upd_same, List.map_append]; rfl, B3.off Db Dl, ?_⟩
    · intro x hx
      rcases List.mem_append.mp hx with h | h
      · exact hm x h
      · rw [List.mem_singleton.mp h]; exact hmd
    · exact ((bu.trans (.new np)).trans .bag).at nD
  · rintro D H2 nD ⟨ns, hl, hm, hD, B2, bu⟩
    exact q D ns H2 hl hm nD hD B2 bu
end
abbrev sCols : Stmt := topS 22
theorem scCols : FnScope ["_law_bag_here", "_law_many", "_law_menu", "_law_k"] ["_law_bag_here", "_law_many"] (defScope sCols) := ⟨rfl, rfl, rfl, by decide +kernel, rfl, by decide +kernel, by decide +kernel⟩
section
variable {P : Program} {w : World} {K : PySem.W.Frag} {mg : Str → Option Value} {base : Heap}
/-- one sign of a text -/
def spOfT : Sp := fun vs H Q _ => ∃ (b l : Addr) (bs : List Int) (cs : List Nat), vs = [.ref b, .str (tx cs)] ∧ BagAt l bs H b ∧ 0 < cs.length ∧ cs.length ≤ 1000 ∧
  ∀ c ys, c ∈ cs → BagAt l bs (upd H b (.lst ys)) b → Q (.str ⟨#[c]⟩) (upd H b (.lst ys))
theorem ok_ofT {f g : Addr} {fd gd : FuncData} {k : Nat} (F : Fun K "_law_of" "_law_of" sOf f fd) (G : FnOk P w K mg base CX0 k g gd ["_law_bag_here", "_law_many"] spPull) (kg : PySem.W.keepIn K (.ref g) = true) (bg : Binds K gd ["_law_bag_here", "_law_many"] [])
    (mgG : mg "_law_pull" = some (.ref g)) (ml : mg "len" = none) : FnOk P w K mg base CX0 (k + 1) f fd ["_law_bag_here", "_law_some"] spOfT := by
  refine F.ok scOf (fun vs H Q E ⟨b, l, bs, cs, e, _⟩ => by rw [e]; rfl) (fun cdv A outer s H vs Q E hr h => ?_)
  obtain ⟨b, l, bs, cs, rfl, B, x0, x1, q⟩ := h
  refine ⟨_, pss_one (ps_ret (pe_ix ix_str (pv 1) (pe_call G hr (by rfl) mgG kg bg .nil pass0 (pa_cons (pv 0) (pa_cons (pe_callB call_len_str (by rfl) ml PySem.boot_len (pa_cons (pv 1) pa_nil)) pa_nil))) (fun _ _ => rfl))), ?_⟩
  have zl : (tx cs).length ≤ sizeLine := by rw [tx_len, sizeLine_eq]; omega
  refine ⟨_, rfl, _, rfl, _, rfl, _, rfl, zl, b, l, _, bs, rfl, by rw [tx_len]; omega, by rw [tx_len]; omega, B, fun r ys r0 r1 B' => ?_⟩
  rw [tx_len] at r1
  obtain ⟨j, rfl⟩ : ∃ j : Nat, r = (j : Int) := ⟨r.toNat, by omega⟩
  have hj : j < cs.length := by omega
  exact ⟨tx cs, j, cs[j], rfl, rfl, zl, atI_nat (List.getElem?_eq_getElem hj), q _ _ (List.getElem_mem hj) B'⟩
/-- drawn colours -/
def spDC : Sp := fun vs H Q _ => ∃ (b l : Addr) (n : Nat) (bs : List Int), vs = [.ref b, .int n] ∧ n ≤ 1000 ∧ BagAt l bs H b ∧
  ∀ (cs : List Nat) (H' : Hp), cs.length = n → (∀ c ∈ cs, isC c = true) → BagAt l bs H' b → But b H H' → Q (.str (tx cs)) H'
theorem ok_cols {f g : Addr} {fd gd : FuncData} (F : Fun K "_law_colours" "_law_colours" sCols f fd) (mr : mg "range" = none) (G : FnOk P w K mg base CX0 2 g gd ["_law_bag_here", "_law_some"] (spOf K)) (GT : FnOk P w K mg base CX0 2 g gd ["_law_bag_here", "_law_some"] spOfT) (gG : mg "_law_of" = some (.ref g)) (kG : PySem.W.keepIn K (.ref g) = true) (bG : Binds K gd ["_law_bag_here", "_law_some"] []) :
    FnOk P w K mg base CX0 3 f fd ["_law_bag_here", "_law_many"] spDC := by
  refine F.ok scCols (fun vs H Q E ⟨b, l, n, bs, e, _⟩ => by rw [e]; rfl) (fun cdv A outer s H vs Q E hr h => ?_)
  obtain ⟨b, l, n, bs, rfl, hn, B, q⟩ := h
  refine ⟨_, pss_cons (ps_set (i := 2) scCols.nd rfl (Or.inr rfl) (pe_call G hr (by rfl) gG kG bG .nil pass0 (pa_cons (pv 0) (pa_cons (pe_lst (pa_cons pe_str (pa_cons pe_str (pa_cons pe_str (pa_cons pe_str (pa_cons pe_str (pa_cons pe_str pa_nil))))))) pa_nil))))
    (pss_one (ps_ret (pe_join pe_str (ZM.pe_bx (pe_lc (own := [("_law_k", 3)]) (g := gName 3) (tt := tYes) rfl scCols.nd (pi_range1 (by rfl) mr (pa_cons (pv 1) pa_nil)) (blkOk_by (N := ["_law_bag_here", "_law_many", "_law_menu", "_law_k"]) (sc := defScope sCols) (by decide +kernel))
      (fun _ _ _ _ _ => pg_name (i := 3) scCols.nd rfl (Or.inl rfl)) (fun _ _ _ _ _ => pts_nil) (fun _ _ _ _ _ => pe_call GT hr (by rfl) gG kG bG .nil pass0 (pa_cons (pv 0) (pa_cons (pv 2) pa_nil)))))))), ?_⟩
  refine ⟨_, rfl, (by show 6 ≤ sizeLine; rw [sizeLine_eq]; omega), fun p np => ?_⟩
  obtain ⟨bx, hb⟩ := B.at
  have pb : p ≠ b := fun z => by rw [z, hb] at np; cases np
  refine ⟨b, l, p, bs, _, rfl, B.new np, upd_same, pb, (by show 0 < 6; decide), (by show 6 < 1073741824; decide), fun v zs hv B1 => ?_⟩
  have bu0 : But b H (upd (upd H p (.lst [.str "+-*0", .str "+", .str "+-", .str "+*", .str "+0", .str "+-*0"])) b (.lst zs)) := (But.new np).trans .bag
  generalize upd (upd H p (.lst [.str "+-*0", .str "+", .str "+-", .str "+*", .str "+0", .str "+-*0"])) b (.lst zs) = H1 at B1 bu0 ⊢
  obtain ⟨ms, rfl, m0, mc⟩ : ∃ ms : List Nat, v = .str (tx ms) ∧ (0 < ms.length ∧ ms.length ≤ 1000) ∧ ∀ c ∈ ms, isC c = true := by
    simp only [List.mem_cons, List.not_mem_nil, or_false] at hv
    rcases hv with e | e | e | e | e | e
    · exact ⟨[43, 45, 42, 48], e, by decide, by decide⟩
    · exact ⟨[43], e, by decide, by decide⟩
    · exact ⟨[43, 45], e, by decide, by decide⟩
    · exact ⟨[43, 42], e, by decide, by decide⟩
    · exact ⟨[43, 48], e, by decide, by decide⟩
    · exact ⟨[43, 45, 42, 48], e, by decide, by decide⟩
  refine ⟨⟨_, rfl⟩, ?_⟩
  refine ZM.own_rng (n := n) (fun D i H' => ∃ cs : List Nat, cs.length = i ∧ (∀ c ∈ cs, isC c = true) ∧ H' D = some (.lst (cs.map fun c => V.str ⟨#[c]⟩)) ∧ BagAt l bs H' b ∧ But b H1 H') (fun R r => ⟨_, rfl, r⟩) (by omega) (fun _ => rfl) (fun D nD => ⟨[], rfl, by simp, upd_same, B1.new nD, .new nD⟩) ?_ ?_
  · rintro D i H2 nD hi ⟨cs, hl, hm, hD, B2, bu⟩
    obtain ⟨bx1, hb1⟩ := B1.at
    have Db : D ≠ b := fun z => by rw [z, hb1] at nD; cases nD
    have Dl : D ≠ l := fun z => by rw [z, B1.ls] at nD; cases nD
    refine ⟨_, rfl, _, rfl, b, l, bs, ms, rfl, B2, m0.1, m0.2, fun c ys hc B3 => ?_⟩
    refine ⟨cs.map fun c => V.str ⟨#[c]⟩, (upd_ne Db).trans hD, by rw [List.length_map, sizeLine_eq]; omega, cs ++ [c], by simp [hl], fun x hx => ?_, by rw [upd_same, List.map_append]; rfl, B3.off Db Dl, (bu.trans .bag).at nD⟩
    rcases List.mem_append.mp hx with h | h
    · exact hm x h
    · rw [List.mem_singleton.mp h]; exact mc c hc
  · rintro D H2 nD ⟨cs, hl, hm, hD, B2, bu⟩
    refine ⟨_, D, cs.map fun c => ⟨#[c]⟩, rfl, rfl, .inl (SqL.of (by rw [hD, List.map_map]; rfl)), ?_, ?_⟩
    · rw [sum_ones, List.length_map]
      show cs.length + cs.length * 0 ≤ _
      omega
    · rw [TL.join_eq, show (Str.ofString "") = Str.empty from rfl, join_tx]
      exact q cs H2 hl hm B2 (bu0.trans bu)
end
end K32

set_option maxHeartbeats 4000000
/-! The law's own suiting. -/
namespace K32
open PySem PySem.Spec PyProof.Rows L2 CX4
def lmR (c : Nat) : List Int := if c = 43 then [0, 1] else if c = 45 then [0, -1] else if c = 42 then [0, 1, -1] else [0]
def lmC (c : Nat) : List Int := if c = 43 then [0, 1] else if c = 45 then [0, -1] else if c = 48 then [0, 1, -1] else [0]
theorem isC_or {c : Nat} (h : isC c = true) : c = 43 ∨ c = 45 ∨ c = 42 ∨ c = 48 := by
  simp only [isC, Bool.or_eq_true, beq_iff_eq] at h
  omega
theorem in3 (n a b c : Int) : inV (.int n) [.int a, .int b, .int c] = (eqV (.int a) (.int n) || (eqV (.int b) (.int n) || eqV (.int c) (.int n))) := by simp [inV]
theorem in2 (n a b : Int) : inV (.int n) [.int a, .int b] = (eqV (.int a) (.int n) || eqV (.int b) (.int n)) := by simp [inV]
theorem lmR_eq (n : Int) {c : Nat} (h : isC c = true) : inV (.int n) ((lmR c).map V.int) = inV (.int n) ((menR c).map V.int) := by
  rcases isC_or h with rfl | rfl | rfl | rfl
  · rfl
  · show inV (.int n) [.int 0, .int (-1)] = inV (.int n) [.int (-1), .int 0]
    rw [in2, in2, Bool.or_comm]
  · show inV (.int n) [.int 0, .int 1, .int (-1)] = inV (.int n) [.int (-1), .int 0, .int 1]
    rw [in3, in3]
    cases eqV (.int 0) (.int n) <;> cases eqV (.int 1) (.int n) <;> cases eqV (.int (-1)) (.int n) <;> rfl
  · rfl
theorem lmC_eq (n : Int) {c : Nat} (h : isC c = true) : inV (.int n) ((lmC c).map V.int) = inV (.int n) ((menC c).map V.int) := by
  rcases isC_or h with rfl | rfl | rfl | rfl
  · rfl
  · show inV (.int n) [.int 0, .int (-1)] = inV (.int n) [.int (-1), .int 0]
    rw [in2, in2, Bool.or_comm]
  · rfl
  · show inV (.int n) [.int 0, .int 1, .int (-1)] = inV (.int n) [.int (-1), .int 0, .int 1]
    rw [in3, in3]
    cases eqV (.int 0) (.int n) <;> cases eqV (.int 1) (.int n) <;> cases eqV (.int (-1)) (.int n) <;> rfl
theorem szb {n : Nat} (h : n ≤ 1000) : n ≤ sizeLine := by
  rw [sizeLine_eq]
  omega
def spLaws (men : Nat → List Int) : Sp := fun vs H Q _ => ∃ (a : Addr) (ns : List Int) (cs : List Nat), vs = [.ref a, .str (tx cs)] ∧ H a = some (.lst (ns.map V.int)) ∧ ns.length ≤ 1000 ∧ cs.length = ns.length ∧ (∀ c ∈ cs, isC c = true) ∧
  ∀ H', Same H H' → Q (.bl ((suit men ns cs).all id)) H'
/-- a dict from the four colours to lists of signs -/
def kv4 (k1 k2 k3 k4 : Str) (l1 l2 l3 l4 : Addr) : List (Key × V) := [(.inr k1, .ref l1), (.inr k2, .ref l2), (.inr k3, .ref l3), (.inr k4, .ref l4)]
section
variable {P : Program} {w : World} {K : PySem.W.Frag} {mg : Str → Option Value} {base : Heap}
abbrev sLR : Stmt := topS 23
theorem scLR : FnScope ["_law_row9", "_law_colours9", "_law_menus", "_law_k"] ["_law_row9", "_law_colours9"] (defScope sLR) := ⟨rfl, rfl, rfl, by decide +kernel, rfl, by decide +kernel, by decide +kernel⟩
theorem ok_lr {f : Addr} {fd : FuncData} (F : Fun K "_law_ring_suits" "_law_ring_suits" sLR f fd) (T1 : TS1 mg) : FnOk P w K mg base CX0 1 f fd ["_law_row9", "_law_colours9"] (spLaws lmR) := by
  refine F.ok scLR (fun vs H Q E ⟨a, ns, cs, e, _⟩ => by rw [e]; rfl) (fun cdv A outer s H vs Q E hr h => ?_)
  have u1 : (A.deeper (envOfC "_law_ring_suits" (defScope sLR) s.heap.objs.size f cdv)).units + 1 < cLine := by
    have := hr.un
    omega
  refine ⟨_, pss_cons (ps_set (i := 2) scLR.nd rfl (Or.inr rfl) (pe_disp (pps_cons pe_str (pe_lst (pa_cons pe_int (pa_cons pe_int pa_nil))) (pps_cons pe_str (pe_lst (pa_cons pe_int (pa_cons (pe_un un_neg pe_int) pa_nil))) (pps_cons pe_str (pe_lst (pa_cons pe_int (pa_cons pe_int (pa_cons (pe_un un_neg pe_int) pa_nil)))) (pps_cons pe_str (pe_lst (pa_cons pe_int pa_nil)) pps_nil)))) (by rfl) (by rfl) (fun z => by cases z) (by decide)))
    (pss_one (ps_ret (pe_callB (cr_all rfl) (by rfl) T1.all (by decide +kernel) (pa_cons (ZM.pe_bx (pe_lc (own := [("_law_k", 3)]) (g := gName 3) (tt := tYes) rfl scLR.nd (pi_range1 (by rfl) T1.range (pa_cons (pe_callB call_len_seq (by rfl) T1.len PySem.boot_len (pa_cons (pv 0) pa_nil)) pa_nil)) (blkOk_by (N := ["_law_row9", "_law_colours9", "_law_menus", "_law_k"]) (sc := defScope sLR) (by decide +kernel))
      (fun _ _ _ _ _ => pg_name (i := 3) scLR.nd rfl (Or.inl rfl)) (fun _ _ _ _ _ => pts_nil)
      (fun _ _ _ _ _ => pe_cmpR (r := rIn K false) op_in_seq (pe_ix (r := rIx K) ix_seq (pv 0) (pv 3) (fun _ _ => rfl)) (pe_dget (hu := u1) (hs := fun _ _ => rfl) (pv 2) (pe_ix ix_str (pv 1) (pv 3) (fun _ _ => rfl))) (by with_unfolding_all rfl)))) pa_nil)))), ?_⟩
  obtain ⟨a, ns, cs, rfl, ha, z1, hl, hc, q⟩ := h
  intro p np
  have s0 := same_new (o := .dK []) np
  refine ⟨szb (by show 2 ≤ 1000; decide), fun l1 n1 => ?_⟩
  have s1 := same_new (o := .lst [V.int 0, V.int 1]) n1
  refine ⟨_, rfl, szb (by show 2 ≤ 1000; decide), fun l2 n2 => ?_⟩
  have s2 := same_new (o := .lst [V.int 0, V.int (-1)]) n2
  refine ⟨_, rfl, szb (by show 3 ≤ 1000; decide), fun l3 n3 => ?_⟩
  have s3 := same_new (o := .lst [V.int 0, V.int 1, V.int (-1)]) n3
  refine ⟨szb (by show 1 ≤ 1000; decide), fun l4 n4 => ?_⟩
  have s4 := same_new (o := .lst [V.int 0]) n4
  have g1 := s4 _ _ (s3 _ _ (s2 _ _ (upd_same (H := upd H p (.dK [])) (a := l1) (o := .lst [V.int 0, V.int 1]))))
  have g2 := s4 _ _ (s3 _ _ (upd_same (H := upd (upd H p (.dK [])) l1 (.lst [V.int 0, V.int 1])) (a := l2) (o := .lst [V.int 0, V.int (-1)])))
  have g3 := s4 _ _ (upd_same (H := upd (upd (upd H p (.dK [])) l1 (.lst [V.int 0, V.int 1])) l2 (.lst [V.int 0, V.int (-1)])) (a := l3) (o := .lst [V.int 0, V.int 1, V.int (-1)]))
  have g4 := upd_same (H := upd (upd (upd (upd H p (.dK [])) l1 (.lst [V.int 0, V.int 1])) l2 (.lst [V.int 0, V.int (-1)])) l3 (.lst [V.int 0, V.int 1, V.int (-1)])) (a := l4) (o := .lst [V.int 0])
  have sA := s1.trans (s2.trans (s3.trans s4))
  have gp := sA _ _ (upd_same (H := H) (a := p) (o := .dK []))
  have ga := sA _ _ (s0 _ _ ha)
  refine ⟨gp, kv4 "+" "-" "*" "0" l1 l2 l3 l4, rfl, (show 4 ≤ 15 by decide), ?_⟩
  have nk : ∀ (e : Addr) (xs : List V), (upd (upd (upd (upd (upd H p (.dK [])) l1 (.lst [V.int 0, V.int 1])) l2 (.lst [V.int 0, V.int (-1)])) l3 (.lst [V.int 0, V.int 1, V.int (-1)])) l4 (.lst [V.int 0])) e = some (HO.lst xs) → e ≠ p := fun e xs g => ne_of g gp fun z => by cases z
  have sF : Same H (upd (upd (upd (upd (upd (upd H p (.dK [])) l1 (.lst [V.int 0, V.int 1])) l2 (.lst [V.int 0, V.int (-1)])) l3 (.lst [V.int 0, V.int 1, V.int (-1)])) l4 (.lst [V.int 0])) p (.dK (mergeK [] (kv4 "+" "-" "*" "0" l1 l2 l3 l4)))) := fun b o e => (upd_ne (fun z => by rw [z, np] at e; cases e)).trans (sA _ _ (s0 _ _ e))
  have k1 := (upd_ne (o := .dK (mergeK [] (kv4 "+" "-" "*" "0" l1 l2 l3 l4))) (nk _ _ g1)).trans g1
  have k2 := (upd_ne (o := .dK (mergeK [] (kv4 "+" "-" "*" "0" l1 l2 l3 l4))) (nk _ _ g2)).trans g2
  have k3 := (upd_ne (o := .dK (mergeK [] (kv4 "+" "-" "*" "0" l1 l2 l3 l4))) (nk _ _ g3)).trans g3
  have k4 := (upd_ne (o := .dK (mergeK [] (kv4 "+" "-" "*" "0" l1 l2 l3 l4))) (nk _ _ g4)).trans g4
  have ka := (upd_ne (o := .dK (mergeK [] (kv4 "+" "-" "*" "0" l1 l2 l3 l4))) (nk _ _ ga)).trans ga
  have kp := upd_same (H := upd (upd (upd (upd (upd H p (.dK [])) l1 (.lst [V.int 0, V.int 1])) l2 (.lst [V.int 0, V.int (-1)])) l3 (.lst [V.int 0, V.int 1, V.int (-1)])) l4 (.lst [V.int 0])) (a := p) (o := .dK (mergeK [] (kv4 "+" "-" "*" "0" l1 l2 l3 l4)))
  clear s0 s1 s2 s3 s4 sA g1 g2 g3 g4 gp ga nk
  -- what the dict tells
  have get : ∀ c, isC c = true → ∃ l : Addr, DGet (upd (upd (upd (upd (upd (upd H p (.dK [])) l1 (.lst [V.int 0, V.int 1])) l2 (.lst [V.int 0, V.int (-1)])) l3 (.lst [V.int 0, V.int 1, V.int (-1)])) l4 (.lst [V.int 0])) p (.dK (mergeK [] (kv4 "+" "-" "*" "0" l1 l2 l3 l4)))) p (.str ⟨#[c]⟩) (some (.ref l)) ∧ (upd (upd (upd (upd (upd (upd H p (.dK [])) l1 (.lst [V.int 0, V.int 1])) l2 (.lst [V.int 0, V.int (-1)])) l3 (.lst [V.int 0, V.int 1, V.int (-1)])) l4 (.lst [V.int 0])) p (.dK (mergeK [] (kv4 "+" "-" "*" "0" l1 l2 l3 l4)))) l = some (.lst ((lmR c).map V.int)) := fun c hcc => by
    rcases isC_or hcc with rfl | rfl | rfl | rfl
    · exact ⟨l1, .inl ⟨_, .inr ⟨#[43]⟩, .inl kp, rfl, by rfl⟩, k1⟩
    · exact ⟨l2, .inl ⟨_, .inr ⟨#[45]⟩, .inl kp, rfl, by rfl⟩, k2⟩
    · exact ⟨l3, .inl ⟨_, .inr ⟨#[42]⟩, .inl kp, rfl, by rfl⟩, k3⟩
    · exact ⟨l4, .inl ⟨_, .inr ⟨#[48]⟩, .inl kp, rfl, by rfl⟩, k4⟩
  have ls : (suit lmR ns cs).length = ns.length := by simp [suit, hl]
  refine ZM.lcm_rng (n := ns.length) (ys := (suit lmR ns cs).map V.bl) (fun R r => ⟨_, rfl, a, _, rfl, .inl (SqL.of ka), by rw [List.length_map]; exact r⟩) (by omega) (by rw [List.length_map, ls]) (fun _ => rfl) ?_ ?_
  · intro i y H3 R hi hy sm hR
    have e1 := List.getElem?_eq_getElem hi
    have e2 := List.getElem?_eq_getElem (show i < cs.length by omega)
    have e : y = .bl (inV (.int ns[i]) ((lmR (cs[i]'(by omega))).map V.int)) := by
      have : (suit lmR ns cs)[i]? = some (inV (.int ns[i]) ((lmR (cs[i]'(by omega))).map V.int)) := by simp [suit, List.getElem?_zipWith, e1, e2]
      rw [List.getElem?_map, this] at hy
      exact (Option.some.inj hy).symm
    subst e
    obtain ⟨l, dg, hlst⟩ := get _ (hc _ (List.getElem_mem (show i < cs.length by omega)))
    have dg' : DGet H3 p (.str ⟨#[cs[i]'(by omega)]⟩) (some (.ref l)) := by
      rcases dg with ⟨kvs, k, hr, r⟩ | ⟨kvs, k, bb, hr, r1, r2, r3⟩
      · exact .inl ⟨kvs, k, hr.imp (sm _ _) (fun ⟨o, e⟩ => ⟨o, sm _ _ e⟩), r⟩
      · exact .inr ⟨kvs, k, bb, hr.imp (sm _ _) (fun ⟨o, e⟩ => ⟨o, sm _ _ e⟩), r1, sm _ _ r2, r3⟩
    refine ⟨_, rfl, _, rfl, .inl ⟨a, _, _, .int ns[i], rfl, rfl, SqL.of (sm _ _ ka), at_of (Int.zero_add _) (by rw [List.getElem?_map, e1]; rfl), ?_⟩⟩
    refine ⟨_, rfl, _, rfl, _, rfl, tx cs, _, cs[i]'(by omega), rfl, rfl, szb (by rw [tx_len]; omega), (by rw [Int.zero_add]; exact atI_nat e2), p, .ref l, rfl, dg', ?_⟩
    exact ⟨l, _, rfl, .inl (SqL.of (sm _ _ hlst)), rfl, flat_ints _, hR _ (Same.refl _)⟩
  · intro D H3 sm _ hD
    exact ⟨D, _, rfl, SqL.of hD, q _ (sF.trans sm)⟩
abbrev sLC : Stmt := topS 24
theorem scLC : FnScope ["_law_row9", "_law_colours9", "_law_menus", "_law_k"] ["_law_row9", "_law_colours9"] (defScope sLC) := ⟨rfl, rfl, rfl, by decide +kernel, rfl, by decide +kernel, by decide +kernel⟩
theorem ok_lc {f : Addr} {fd : FuncData} (F : Fun K "_law_cut_suits" "_law_cut_suits" sLC f fd) (T1 : TS1 mg) : FnOk P w K mg base CX0 1 f fd ["_law_row9", "_law_colours9"] (spLaws lmC) := by
  refine F.ok scLC (fun vs H Q E ⟨a, ns, cs, e, _⟩ => by rw [e]; rfl) (fun cdv A outer s H vs Q E hr h => ?_)
  have u1 : (A.deeper (envOfC "_law_cut_suits" (defScope sLC) s.heap.objs.size f cdv)).units + 1 < cLine := by
    have := hr.un
    omega
  refine ⟨_, pss_cons (ps_set (i := 2) scLC.nd rfl (Or.inr rfl) (pe_disp (pps_cons pe_str (pe_lst (pa_cons pe_int (pa_cons pe_int pa_nil))) (pps_cons pe_str (pe_lst (pa_cons pe_int (pa_cons (pe_un un_neg pe_int) pa_nil))) (pps_cons pe_str (pe_lst (pa_cons pe_int (pa_cons pe_int (pa_cons (pe_un un_neg pe_int) pa_nil)))) (pps_cons pe_str (pe_lst (pa_cons pe_int pa_nil)) pps_nil)))) (by rfl) (by rfl) (fun z => by cases z) (by decide)))
    (pss_one (ps_ret (pe_callB (cr_all rfl) (by rfl) T1.all (by decide +kernel) (pa_cons (ZM.pe_bx (pe_lc (own := [("_law_k", 3)]) (g := gName 3) (tt := tYes) rfl scLC.nd (pi_range1 (by rfl) T1.range (pa_cons (pe_callB call_len_seq (by rfl) T1.len PySem.boot_len (pa_cons (pv 0) pa_nil)) pa_nil)) (blkOk_by (N := ["_law_row9", "_law_colours9", "_law_menus", "_law_k"]) (sc := defScope sLC) (by decide +kernel))
      (fun _ _ _ _ _ => pg_name (i := 3) scLC.nd rfl (Or.inl rfl)) (fun _ _ _ _ _ => pts_nil)
      (fun _ _ _ _ _ => pe_cmpR (r := rIn K false) op_in_seq (pe_ix (r := rIx K) ix_seq (pv 0) (pv 3) (fun _ _ => rfl)) (pe_dget (hu := u1) (hs := fun _ _ => rfl) (pv 2) (pe_ix ix_str (pv 1) (pv 3) (fun _ _ => rfl))) (by with_unfolding_all rfl)))) pa_nil)))), ?_⟩
  obtain ⟨a, ns, cs, rfl, ha, z1, hl, hc, q⟩ := h
  intro p np
  have s0 := same_new (o := .dK []) np
  refine ⟨szb (by show 2 ≤ 1000; decide), fun l1 n1 => ?_⟩
  have s1 := same_new (o := .lst [V.int 0, V.int 1]) n1
  refine ⟨_, rfl, szb (by show 2 ≤ 1000; decide), fun l2 n2 => ?_⟩
  have s2 := same_new (o := .lst [V.int 0, V.int (-1)]) n2
  refine ⟨_, rfl, szb (by show 3 ≤ 1000; decide), fun l3 n3 => ?_⟩
  have s3 := same_new (o := .lst [V.int 0, V.int 1, V.int (-1)]) n3
  refine ⟨szb (by show 1 ≤ 1000; decide), fun l4 n4 => ?_⟩
  have s4 := same_new (o := .lst [V.int 0]) n4
  have g1 := s4 _ _ (s3 _ _ (s2 _ _ (upd_same (H := upd H p (.dK [])) (a := l1) (o := .lst [V.int 0, V.int 1]))))
  have g2 := s4 _ _ (s3 _ _ (upd_same (H := upd (upd H p (.dK [])) l1 (.lst [V.int 0, V.int 1])) (a := l2) (o := .lst [V.int 0, V.int (-1)])))
  have g3 := s4 _ _ (upd_same (H := upd (upd (upd H p (.dK [])) l1 (.lst [V.int 0, V.int 1])) l2 (.lst [V.int 0, V.int (-1)])) (a := l3) (o := .lst [V.int 0, V.int 1, V.int (-1)]))
  have g4 := upd_same (H := upd (upd (upd (upd H p (.dK [])) l1 (.lst [V.int 0, V.int 1])) l2 (.lst [V.int 0, V.int (-1)])) l3 (.lst [V.int 0, V.int 1, V.int (-1)])) (a := l4) (o := .lst [V.int 0])
  have sA := s1.trans (s2.trans (s3.trans s4))
  have gp := sA _ _ (upd_same (H := H) (a := p) (o := .dK []))
  have ga := sA _ _ (s0 _ _ ha)
  refine ⟨gp, kv4 "+" "-" "0" "*" l1 l2 l3 l4, rfl, (show 4 ≤ 15 by decide), ?_⟩
  have nk : ∀ (e : Addr) (xs : List V), (upd (upd (upd (upd (upd H p (.dK [])) l1 (.lst [V.int 0, V.int 1])) l2 (.lst [V.int 0, V.int (-1)])) l3 (.lst [V.int 0, V.int 1, V.int (-1)])) l4 (.lst [V.int 0])) e = some (HO.lst xs) → e ≠ p := fun e xs g => ne_of g gp fun z => by cases z
  have sF : Same H (upd (upd (upd (upd (upd (upd H p (.dK [])) l1 (.lst [V.int 0, V.int 1])) l2 (.lst [V.int 0, V.int (-1)])) l3 (.lst [V.int 0, V.int 1, V.int (-1)])) l4 (.lst [V.int 0])) p (.dK (mergeK [] (kv4 "+" "-" "0" "*" l1 l2 l3 l4)))) := fun b o e => (upd_ne (fun z => by rw [z, np] at e; cases e)).trans (sA _ _ (s0 _ _ e))
  have k1 := (upd_ne (o := .dK (mergeK [] (kv4 "+" "-" "0" "*" l1 l2 l3 l4))) (nk _ _ g1)).trans g1
  have k2 := (upd_ne (o := .dK (mergeK [] (kv4 "+" "-" "0" "*" l1 l2 l3 l4))) (nk _ _ g2)).trans g2
  have k3 := (upd_ne (o := .dK (mergeK [] (kv4 "+" "-" "0" "*" l1 l2 l3 l4))) (nk _ _ g3)).trans g3
  have k4 := (upd_ne (o := .dK (mergeK [] (kv4 "+" "-" "0" "*" l1 l2 l3 l4))) (nk _ _ g4)).trans g4
  have ka := (upd_ne (o := .dK (mergeK [] (kv4 "+" "-" "0" "*" l1 l2 l3 l4))) (nk _ _ ga)).trans ga
  have kp := upd_same (H := upd (upd (upd (upd (upd H p (.dK [])) l1 (.lst [V.int 0, V.int 1])) l2 (.lst [V.int 0, V.int (-1)])) l3 (.lst [V.int 0, V.int 1, V.int (-1)])) l4 (.lst [V.int 0])) (a := p) (o := .dK (mergeK [] (kv4 "+" "-" "0" "*" l1 l2 l3 l4)))
  clear s0 s1 s2 s3 s4 sA g1 g2 g3 g4 gp ga nk
  -- what the dict tells
  have get : ∀ c, isC c = true → ∃ l : Addr, DGet (upd (upd (upd (upd (upd (upd H p (.dK [])) l1 (.lst [V.int 0, V.int 1])) l2 (.lst [V.int 0, V.int (-1)])) l3 (.lst [V.int 0, V.int 1, V.int (-1)])) l4 (.lst [V.int 0])) p (.dK (mergeK [] (kv4 "+" "-" "0" "*" l1 l2 l3 l4)))) p (.str ⟨#[c]⟩) (some (.ref l)) ∧ (upd (upd (upd (upd (upd (upd H p (.dK [])) l1 (.lst [V.int 0, V.int 1])) l2 (.lst [V.int 0, V.int (-1)])) l3 (.lst [V.int 0, V.int 1, V.int (-1)])) l4 (.lst [V.int 0])) p (.dK (mergeK [] (kv4 "+" "-" "0" "*" l1 l2 l3 l4)))) l = some (.lst ((lmC c).map V.int)) := fun c hcc => by
    rcases isC_or hcc with rfl | rfl | rfl | rfl
    · exact ⟨l1, .inl ⟨_, .inr ⟨#[43]⟩, .inl kp, rfl, by rfl⟩, k1⟩
    · exact ⟨l2, .inl ⟨_, .inr ⟨#[45]⟩, .inl kp, rfl, by rfl⟩, k2⟩
    · exact ⟨l4, .inl ⟨_, .inr ⟨#[42]⟩, .inl kp, rfl, by rfl⟩, k4⟩
    · exact ⟨l3, .inl ⟨_, .inr ⟨#[48]⟩, .inl kp, rfl, by rfl⟩, k3⟩
  have ls : (suit lmC ns cs).length = ns.length := by simp [suit, hl]
  refine ZM.lcm_rng (n := ns.length) (ys := (suit lmC ns cs).map V.bl) (fun R r => ⟨_, rfl, a, _, rfl, .inl (SqL.of ka), by rw [List.length_map]; exact r⟩) (by omega) (by rw [List.length_map, ls]) (fun _ => rfl) ?_ ?_
  · intro i y H3 R hi hy sm hR
    have e1 := List.getElem?_eq_getElem hi
    have e2 := List.getElem?_eq_getElem (show i < cs.length by omega)
    have e : y = .bl (inV (.int ns[i]) ((lmC (cs[i]'(by omega))).map V.int)) := by
      have : (suit lmC ns cs)[i]? = some (inV (.int ns[i]) ((lmC (cs[i]'(by omega))).map V.int)) := by simp [suit, List.getElem?_zipWith, e1, e2]
      rw [List.getElem?_map, this] at hy
      exact (Option.some.inj hy).symm
    subst e
    obtain ⟨l, dg, hlst⟩ := get _ (hc _ (List.getElem_mem (show i < cs.length by omega)))
    have dg' : DGet H3 p (.str ⟨#[cs[i]'(by omega)]⟩) (some (.ref l)) := by
      rcases dg with ⟨kvs, k, hr, r⟩ | ⟨kvs, k, bb, hr, r1, r2, r3⟩
      · exact .inl ⟨kvs, k, hr.imp (sm _ _) (fun ⟨o, e⟩ => ⟨o, sm _ _ e⟩), r⟩
      · exact .inr ⟨kvs, k, bb, hr.imp (sm _ _) (fun ⟨o, e⟩ => ⟨o, sm _ _ e⟩), r1, sm _ _ r2, r3⟩
    refine ⟨_, rfl, _, rfl, .inl ⟨a, _, _, .int ns[i], rfl, rfl, SqL.of (sm _ _ ka), at_of (Int.zero_add _) (by rw [List.getElem?_map, e1]; rfl), ?_⟩⟩
    refine ⟨_, rfl, _, rfl, _, rfl, tx cs, _, cs[i]'(by omega), rfl, rfl, szb (by rw [tx_len]; omega), (by rw [Int.zero_add]; exact atI_nat e2), p, .ref l, rfl, dg', ?_⟩
    exact ⟨l, _, rfl, .inl (SqL.of (sm _ _ hlst)), rfl, flat_ints _, hR _ (Same.refl _)⟩
  · intro D H3 sm _ hD
    exact ⟨D, _, rfl, SqL.of hD, q _ (sF.trans sm)⟩
end
end K32

set_option maxHeartbeats 2000000
/-! Several except clauses, each of which gives its error a name. -/
namespace TA
open PySem PySem.Spec PyProof.Rows L2
/-- D behind a suite: the name's slot i is empty -/
def gone (i : Nat) (D : Ends) : Ends := { nx := fun σ H => D.nx (σ.set i none) H, rt := D.rt, bk := fun σ H => D.bk (σ.set i none) H, ct := fun σ H => D.ct (σ.set i none) H }
/-- a clause: its class, its name's slot, its suite's reading -/
abbrev Cl := Value × Nat × (Addr → Value → Option Addr → TS)
def wAll (K : PySem.W.Frag) (n : Nat) (Wout : WX) (D : Ends) : List Cl → WX
  | [] => Wout
  | (c, i, ts) :: r => fun cls d σ H => ∃ b, PySem.W.exmOne K cls c = some b ∧ (b = true → ∀ a, H a = none → σ.length = n → ts a cls d (gone i D) (σ.set i (some (.ref a))) H) ∧ (b = false → wAll K n Wout D r cls d σ H)
inductive Cls (X : Cx) : List ExceptHandler → List Cl → Prop
  | nil : Cls X [] []
  | cons {x n : Str} {i : Nat} {c : Value} {ts : Addr → Value → Option Addr → TS} {b₀ : Stmt} {su : List Stmt} {p1 p2 : Pos} {hds : List ExceptHandler} {l : List Cl} (hc : Names X x c) (hi : X.N[i]? = some n) (hln : X.env.kindOf n = some .local)
      (hsu : ∀ (a : Addr) (oe : Obj) (cls : Value) (d : Option Addr) (pn : List (Addr × Obj)), Zc cls d oe → (∃ vs, oe.data = .fields vs) → PSs (X.suite a ((a, oe) :: pn)) (b₀ :: su) (ts a cls d)) (r : Cls X hds l) :
      Cls X (.ExceptHandler (some (.Name x p1)) (some n) (b₀ :: su) p2 :: hds) ((c, i, ts) :: l)
section
variable {X : Cx} {body : List Stmt} {h₀ : ExceptHandler} {hds : List ExceptHandler} {l : List Cl} {pos : Pos} {tb : WX → TS} {Wout : WX}
theorem ps_try_all (hs : X.stack = X.env :: X.outer) (hf : X.env.frame = some X.env.locals) (hN : X.N.Nodup) (tk : Takes X Wout)
    (hb : ∀ (W : WX) (pn : List (Addr × Obj)) (xe : Value → Shared → Prop), Takes (X.tr pn xe) W → PassesOwn (model X.prog X.w) X.A X.env xe → PSs (X.tr pn xe) body (tb W))
    (hh : Cls X (h₀ :: hds) l) : PS X (.Try body (h₀ :: hds) [] [] pos) (fun D σ H => tb (wAll X.K X.N.length Wout D l) D σ H) := by
  constructor
  intro pins s σ H D I h
  have ok := I.ok
  have frs' : X.A.frames = some (X.env :: X.outer) := hs ▸ ok.frames
  refine wpAny_Try_except (wpAny_mono ((hb (wAll X.K X.N.length Wout D l) (X.pn ++ pins) (fun e s₁ => wpAny (model X.prog X.w) X.A (noteFrame e X.env) (fun _ s₂ => wpAny (model X.prog X.w) X.A (setFlight e none) (fun _ s₃ => wpAny (model X.prog X.w) X.A (handleBy e X.env (h₀ :: hds)) (SP X pins D) X.xe s₃) X.xe s₂) X.xe s₁) ?C PassesOwn.looking).run [] s σ H D (I.toTry _) h) ?N fun _ _ q => q)
  case C =>
    rintro u s' ⟨a, B, sI, pins', σ', H', cls, d, rfl, J', nb, up, sky, na, os, ag, w⟩
    have J : Inv X pins σ' H' sI := J'.ofTry ok
    show wpAny _ X.A (noteFrame (.ref a) X.env) _ _ _
    refine Sky.land Zc.steady frs' hf (hs ▸ sky) fun h3 fl3 up3 => ?_
    have J3 : Inv X pins σ' H' { s' with heap := h3 } := J.landed nb fl3.1 (up.trans up3) os ag
    obtain ⟨o3, v3, e3, z3, d3⟩ := fl3.there
    have nfr : a ∉ frs (X.env :: X.outer) := fun hm => by
      obtain ⟨_, o', e', q⟩ := fl3.2.2.1.mem hm
      exact q _ (Option.some.inj (e'.symm.trans e3) ▸ d3)
    have nL : a ≠ X.env.locals := fun z => nfr (List.mem_filterMap.mpr ⟨X.env, List.mem_cons_self, z ▸ hf⟩)
    have nF : a ∉ X.fs := fun hm => (List.mem_filterMap.mp hm).elim fun e q => nfr (List.mem_filterMap.mpr ⟨e, List.mem_cons_of_mem _ q.1, q.2⟩)
    have S3 := J3.suite e3 d3 na nL nF
    suffices go : ∀ {hk : List ExceptHandler} {lk : List Cl}, Cls X hk lk → wAll X.K X.N.length Wout D lk cls d σ' H' → wpAny (model X.prog X.w) X.A (handleBy (.ref a) X.env hk) (SP X pins D) X.xe { s' with heap := h3 } from go hh w
    intro hk lk C
    induction C with
    | nil =>
      intro w
      obtain ⟨_, _, _, oe, vs, T, oT, _, he, _, hd, h1, _⟩ := id fl3
      refine wpAny_handleBy_nil ?_
      unfold PySem.passOn
      refine wpAny_bind (wpAny_field he hd h1 ?_)
      rw [if_neg (by simp)]
      have fin : wpAny (model X.prog X.w) X.A (setFlight (.ref a) X.env.frame) (fun _ s4 => wpAny (model X.prog X.w) X.A (throw (.ref a) : Sem Flow) (SP X pins D) X.xe s4) X.xe { s' with heap := h3 } :=
        hf ▸ HandSPX.setFlight_upZ fl3 fun h4 hh4 up4 => wpAny_throw (tk _ _ ⟨a, B, sI, pins, σ', H', cls, d, rfl, J, nb, (up.trans up3).trans up4, .inr (.inr (hs ▸ hh4)), na, os, ag, w⟩)
      first | exact wpAny_bind (wpAny_pure (wpAny_bind fin)) | exact wpAny_bind fin
    | @cons x n i c ts b₀ su p1 p2 hds2 l2 hc hi hln hsu r ih =>
      rintro ⟨b, hb1, hyes, hno⟩
      refine wpAny_handleBy_cons (codeAny_handlers_test ?_) (fun q => nomatch q)
      have LM := PySem.W.exm_one (M := model X.prog X.w) J3.kIn (fun A Q E s k q => wpAny_typeOf_ref (k _ _ e3) (z3.1.symm ▸ q)) hb1
      have named : ∀ {Q : Value → Shared → Prop} {E : Value → Shared → Prop}, Q c { s' with heap := h3 } → wpAny (model X.prog X.w) (X.A.mark (some (.ref a))) (eval (.Name x p1) X.env) Q E { s' with heap := h3 } := fun {Q E} q =>
        hc.2.2.elim (fun hm => ld_glob (X := X.suite a ((a, o3) :: (X.pn ++ pins))) S3 hc.1 hm q hc.2.1) fun hm => ld_blt (X := X.suite a ((a, o3) :: (X.pn ++ pins))) S3 hc.1 hm.1 hm.2.1 q hm.2.2 hc.2.1
      refine named (LM.here ?_)
      cases b with
      | true =>
        refine codeAny_handlers_suite_as (HandSPX.lands_againZ fl3 fun h4 fl4 up4 => ?_)
        have J4 : Inv X pins σ' H' { s' with heap := h4 } := J.landed nb fl4.1 ((up.trans up3).trans up4) os ag
        obtain ⟨o4, v4, e4, z4, d4⟩ := fl4.there
        refine store_ok (X := X.suite a ((a, o4) :: (X.pn ++ pins))) (v := .ref a) (J4.suite e4 d4 na nL nF) hN hi (.inl hln) rfl (fun s5 S5 => wpAny_mono ((hsu a o4 cls d (X.pn ++ pins) z4 ⟨_, d4⟩).run [] s5 _ H' _ S5 (hyes rfl a na J.len)) (fun f s6 hsp => ?_) (fun _ _ z => z.elim)) (.inr hln)
        have last : ∀ {σ6 : L2.St} {H6 : Hp} {Q : Shared → Prop}, Inv (X.suite a ((a, o4) :: (X.pn ++ pins))) [] σ6 H6 s6 → (∀ s7, Inv X pins (σ6.set i none) H6 s7 → Q s7) → wpAny (model X.prog X.w) X.A (do bindName X.env n .none; unbindBehindTheSuite X.env n p2) (fun _ s7 => Q s7) X.xe s6 :=
          fun {σ6 H6 Q} S6 hq => gone_ok (S6.unsuite ok) hN hi hln hq
        cases f with
        | ret u => exact hsp.elim fun v6 q => q.elim fun σ6 q => q.elim fun H6 q => last q.1 fun s7 J7 => ⟨_, _, _, J7, q.2.1, q.2.2⟩
        | next => exact hsp.elim fun σ6 q => q.elim fun H6 q => last q.1 fun s7 J7 => ⟨_, _, J7, q.2⟩
        | brk => exact hsp.elim fun σ6 q => q.elim fun H6 q => last q.1 fun s7 J7 => ⟨_, _, J7, q.2⟩
        | cont => exact hsp.elim fun σ6 q => q.elim fun H6 q => last q.1 fun s7 J7 => ⟨_, _, J7, q.2⟩
      | false => exact ih (hno rfl)
  case N =>
    intro f s1 hsp
    cases f with
    | ret u => exact hsp.elim fun v q => q.elim fun σ' q => q.elim fun H' q => ⟨v, σ', H', q.1.ofTry ok, q.2⟩
    | next => exact hsp.elim fun σ' q => q.elim fun H' q => wpAny_execs_nil ⟨σ', H', q.1.ofTry ok, q.2⟩
    | brk => exact hsp.elim fun σ' q => q.elim fun H' q => ⟨σ', H', q.1.ofTry ok, q.2⟩
    | cont => exact hsp.elim fun σ' q => q.elim fun H' q => ⟨σ', H', q.1.ofTry ok, q.2⟩
end
end TA

set_option maxHeartbeats 2000000
/-! The asking that a law tries: told or refused. -/
namespace TD
open PySem PySem.Spec PyProof.Rows L2 LamX TA CX4
/-- what is made of the asking's reading: ("told", v), or ("no", the word of the error's class) -/
def TT2 (K : PySem.W.Frag) (D1 : Addr) : (XK → Hp → VK → Prop) → Hp → VK → Prop := fun tl H Q =>
  tl (fun cls d H' => PySem.W.exmOne K cls (.ref D1) = some true ∧ (∃ (C D fI : Addr) (nv : Value) (c : Str) (dd : Addr), cls = .ref C ∧ PySem.CleX.ClsTxt K C D fI nv ∧ d = some dd ∧ H' dd = some (.xd (wd c)) ∧ ∀ p, H' p = none → Q (.ref p) (upd H' p (.tup [.str "no", .str c]))))
    H (fun v H1 => ([.str "told", v] : List V).length ≤ sizeLine ∧ ∀ p, H1 p = none → Q (.ref p) (upd H1 p (.tup [.str "told", v])))
abbrev suit (j k : Nat) (p1 p2 p3 p4 p5 : Pos) : List Stmt := [.Return (some (.Tuple [.Constant (.str "no") j p1, .Attribute (.Name "e" p2) "word" p3] k p4)) p5]
section
variable {X : Cx} {sg : Scope} {g D1 D2 : Addr} {cdg : Value} {a q x : Str} {j1 k1 j2 k2 j3 k3 : Nat} {p1 p2 p3 p4 p5 p6 p7 p8 p9 q1 q2 q3 q4 q5 r1 r2 r3 r4 r5 r6 : Pos}
/-- ("no", e.word) -/
def tNo (K : PySem.W.Frag) : Addr → Value → Option Addr → TS := fun ad cls d => tRet (tTup (tCons (tC (.str "no")) (tCons (tWord K ad cls d (tVar 1)) tNil)))
theorem pss_no {Y : Cx} (hY : Y.N[1]? = some ("e" : Str)) (hv : Vis Y.env.scope "e") {ad : Addr} {oe : Obj} {cls : Value} {d : Option Addr} {pn : List (Addr × Obj)} (hz : Zc cls d oe) (hf : ∃ vs, oe.data = .fields vs) :
    PSs (Y.suite ad ((ad, oe) :: pn)) (suit j2 k2 q1 q2 q3 q4 q5) (tNo Y.K ad cls d) :=
  pss_one (ps_ret (pe_tup (pa_cons pe_str (pa_cons (pe_word hz hf (pe_var (i := 1) hY hv)) pa_nil))))
theorem told2 (hD1 : sg.names.lookup ("CleaveError" : Str) = some .globalImplicit) (hD2 : sg.names.lookup ("HouseError" : Str) = some .globalImplicit) (he : sg.names.lookup ("e" : Str) = some .local) (ha : a ≠ "e")
    (m1 : X.mg "CleaveError" = some (.ref D1)) (m2 : X.mg "HouseError" = some (.ref D2)) :
    GivesTo X [a, "e"] x sg g cdg [.Try [.Return (some (.Tuple [.Constant (.str "told") j1 p1, .Call (.Name a p2) [] [] p3] k1 p4)) p5]
      [.ExceptHandler (some (.Name "CleaveError" p6)) (some "e") (suit j2 k2 q1 q2 q3 q4 q5) p7, .ExceptHandler (some (.Name "HouseError" p8)) (some "e") (suit j3 k3 r1 r2 r3 r4 r5) p9] [] [] r6] a q (TT2 X.K D1) := by
  intro f c' s H Q tl act hc h
  let Y := (cxOf C8.CX0 X.prog X.w X.K X.mg X.base [a, "e"] x sg g cdg X.A X.stack s H C8.E0).nox
  have hnd : ([a, "e"] : List Str).Nodup := by simp [ha]
  have ve : Vis Y.env.scope ("e" : Str) := .inl he
  refine ⟨_, pss_one (ps_try_all (X := Y) (Wout := fun _ _ _ _ => False)
      (tb := fun W D σ H => ∃ Ech : XK, (∀ cls d σ' H', Ech cls d H' → W cls d σ' H') ∧ σ[0]? = some (some (.ref f)) ∧ H c' = some (CodeO c' q) ∧ tl Ech H fun v H1 => ([.str "told", v] : List V).length ≤ sizeLine ∧ ∀ p, H1 p = none → D.rt (.ref p) (upd H1 p (.tup [.str "told", v])))
      rfl rfl hnd L2.takes0 (fun W pn xe tk _ => ?_) (.cons (i := 1) ⟨hD1, by decide, .inl m1⟩ rfl he (fun ad oe cls d pn hz hf => pss_no rfl ve hz hf) (.cons (i := 1) ⟨hD2, by decide, .inl m2⟩ rfl he (fun ad oe cls d pn hz hf => pss_no rfl ve hz hf) .nil))), ?_⟩
  · refine ⟨fun pins s' σ H' D I h' => ?_⟩
    obtain ⟨Ech, hW, h1, h2, h3⟩ := h'
    have hp := act W pn xe Ech p2 p3 tk hW
    have hq := pss_one (ps_ret (pos := p5) (pe_tup (pos := p4) (x1 := k1) (pa_cons (pe_str (pos := p1) (j := j1) (x := "told")) (pa_cons hp pa_nil))))
    exact hq.run pins s' σ H' D I ⟨h1, h2, h3⟩
  · refine ⟨_, fun cls d σ' H' hE => ?_, rfl, hc, h⟩
    obtain ⟨h1, C, D, fI, nv, c, dd, e1, T2, e2, e3, k⟩ := hE
    exact ⟨true, h1, fun _ ad _ hl => ⟨_, by
      rw [List.getElem?_set_self (by rw [hl]; exact (by decide : 1 < 2))], rfl, C, D, fI, nv, c, dd, e1, T2, e2, e3, (by show 2 ≤ sizeLine; rw [sizeLine_eq]; omega), k⟩, fun z => nomatch z⟩
end
end TD

set_option maxHeartbeats 2000000
/-! A lambda with one parameter that has a default and is never handed in. -/
namespace LD
open PySem PySem.Spec PyProof.Rows L2 LamX
section
variable {X : Cx} {pins : List (Addr × Obj)} {σ : L2.St} {H : Hp} {s : Shared}
/-- the end of a lambda's making, whatever its defaults -/
theorem lam_tail {T : List (Addr × Str)} {c P : Addr} {params : Arguments} {body : Expr} {scope : Scope} {pos : Pos} {dV : Value} {E : Value → Shared → Prop} {Q : Value → Shared → Prop} (I : Inv X pins σ H s) (TB : TabB X.base X.mg c P) (hcode : X.env.code = .ref c)
    (hm : (P, X.env.qual ++ "<lambda>") ∈ T) (hu : ∀ p ∈ T, p.1 = P → p.2 = X.env.qual ++ "<lambda>") (hT : Tabs T H) (hfree : ∀ y ∈ scope.names, y.2 = .free → ∃ c, X.env.cells.lookup y.1 = some c)
    (h : ∀ (f c' : Addr) (doc pm ctv : Value) (H1 : Hp) (s' : Shared), Inv X pins σ H1 s' → ExtN H H1 → Tabs T H1 →
      s'.heap.get? f = some (PySem.W.kdv_obj "<lambda>" (X.env.qual ++ "<lambda>") params (.expr body) scope (cloFrom X.env.cells scope.names []) dV doc pm c' ctv) → H1 f = none → f ∉ frs X.stack → H1 c' = some (CodeO c' (X.env.qual ++ "<lambda>")) →
      (∀ b o, H b = none → s.heap.get? b = some o → s'.heap.get? b = some o ∧ H1 b = none) → Q (.ref f) s') :
    wpAny (model X.prog X.w) X.A (makeTail "<lambda>" (X.env.qual ++ "<lambda>") params (.expr body) scope X.env dV .none none pos pos.line) Q E s := by
  obtain ⟨ps, hP, ht, ha⟩ := hT _ hm
  dsimp only at hP ha
  have bP : s.heap.BuiltinsAt X.mg P := TB.bm.keeps I.bk
  have hP' : s.heap.get? P = some { cls := .none, data := .fields ps } := I.hok P _ hP
  have nofr : ∀ f, s.heap.objs.size ≤ f → f ∉ frs X.stack := fun f hf z => (List.mem_cons.mp (I.stkSub _ z)).elim (fun e => by
    have h1 := I.lt
    exact Nat.lt_irrefl _ (Nat.lt_of_lt_of_le h1 (e ▸ hf))) (I.nofs hf)
  cases hc : codeAmong pos ps.toList with
  | none =>
    refine PySem.W.kdv_makeTail (mg := X.mg) (c := c) (P := P) (ps := ps) (closure_ok hfree) I.ok.glob (I.mod.glob.keeps I.bk) hcode (TB.code.keeps I.bk) hP' ht hc TB.gP bP (fun c' ctv doc h' tk hx hge hlt hrec htb => ?_)
    obtain ⟨c2, oc, vs, t, e2, hoc, hd, hv⟩ := hrec
    cases e2
    have hsz : s.heap.objs.size ≤ h'.objs.size := Nat.le_trans hge (Nat.le_of_lt hlt)
    have nC : H c' = none := I.hok.fresh hge
    let fo : Obj := PySem.W.kdv_obj "<lambda>" (X.env.qual ++ "<lambda>") params (.expr body) scope (cloFrom X.env.cells scope.names []) dV doc ((X.mg "__name__").getD .none) c' ctv
    have I1 := inv_table (t' := tk) (more := #[rawInt pos.line, rawInt pos.col, .ref c']) (h' := h'.push fo) I hP (fun b o hb e => Heap.get?_push_of_some _ (hx b o hb e)) (Heap.get?_push_of_some _ htb) hge ⟨oc, vs, t, Heap.get?_push_of_some _ hoc, hd, hv⟩
    have hE : ExtN H (upd (upd H P (.tbl (ps ++ #[rawInt pos.line, rawInt pos.col, .ref c']))) c' (CodeO c' (X.env.qual ++ "<lambda>"))) := fun b o e n => by
      rw [upd_ne (ne_of_none e nC), upd_ne (fun z : b = P => n ps (Option.some.inj (e.symm.trans (by rw [z]; exact hP))))]
      exact e
    have eL : (ps ++ #[rawInt pos.line, rawInt pos.col, .ref c']).toList = ps.toList ++ [rawInt pos.line, rawInt pos.col, .ref c'] := by simp
    refine h h'.objs.size c' doc ((X.mg "__name__").getD .none) ctv _ _ I1 hE (fun p hp => ?_) (Heap.get?_push_size _ rfl) ?_ (nofr _ hsz) upd_same (fun b o hb e => ?_)
    · by_cases hb : p.1 = P
      · rw [hu p hp hb, hb]
        refine ⟨_, by rw [upd_ne (ne_of_none hP nC), upd_same], by rw [eL]; exact PySem.TriplesOk_snoc _ _ _ _ ht, fun p' cv hcv => ?_⟩
        exact (among_app _ ht (eL ▸ hcv)).elim (fun z => (ha p' cv z).elim fun c0 q => ⟨c0, q.1, hE _ _ q.2 codeO_ne⟩) fun z => ⟨c', z, upd_same⟩
      · obtain ⟨ps', a1, a2, a3⟩ := hT p hp
        exact ⟨ps', by rw [upd_ne (ne_of_none a1 nC), upd_ne hb]; exact a1, a2, fun p' cv hcv => (a3 p' cv hcv).elim fun c0 q => ⟨c0, q.1, hE _ _ q.2 codeO_ne⟩⟩
    · have n1 : h'.objs.size ≠ c' := Nat.ne_of_gt hlt
      have n2 : h'.objs.size ≠ P := Nat.ne_of_gt (Nat.lt_of_lt_of_le (Heap.lt_size hP') hsz)
      rw [upd_ne n1, upd_ne n2]
      exact I.hok.fresh hsz
    · have n1 : b ≠ P := fun z => by rw [z, hP] at hb; cases hb
      have n2 : b ≠ c' := Nat.ne_of_lt (Nat.lt_of_lt_of_le (Heap.lt_size e) hge)
      exact ⟨Heap.get?_push_of_some _ (hx b o n1 e), by rw [upd_ne n2, upd_ne n1]; exact hb⟩
  | some cv =>
    obtain ⟨c', e, hco⟩ := ha pos cv hc
    subst e
    refine PySem.W.kdv_makeTailHit (mg := X.mg) (c := c) (P := P) (ps := ps) (closure_ok hfree) I.ok.glob (I.mod.glob.keeps I.bk) hcode (TB.code.keeps I.bk) hP' ht hc bP (fun ctv doc h' tk hx hsz => ?_)
    have up : ∀ b o, s.heap.get? b = some o → (h'.push (PySem.W.kdv_obj "<lambda>" (X.env.qual ++ "<lambda>") params (.expr body) scope (cloFrom X.env.cells scope.names []) dV doc ((X.mg "__name__").getD .none) c' ctv)).get? b = some o := fun b o e => Heap.get?_push_of_some _ (hx b o e)
    exact h h'.objs.size c' doc ((X.mg "__name__").getD .none) ctv H _ (I.kept (t' := tk) up) (ExtN.refl H) hT (Heap.get?_push_size _ rfl) (I.hok.fresh hsz) (nofr _ hsz) hco fun b o hb e => ⟨up b o e, hb⟩
/-- lambda pn=n: body, made -/
theorem lam_makeD {T : List (Addr × Str)} {c P : Addr} {params : Arguments} {body : Expr} {scope : Scope} {pos : Pos} {n : Int} {j : Nat} {pd : Pos} {E : Value → Shared → Prop} {Q : Value → Shared → Prop} (I : Inv X pins σ H s) (TB : TabB X.base X.mg c P) (hcode : X.env.code = .ref c)
    (hm : (P, X.env.qual ++ "<lambda>") ∈ T) (hu : ∀ p ∈ T, p.1 = P → p.2 = X.env.qual ++ "<lambda>") (hT : Tabs T H) (hd : params.defaults = [.Constant (.int n) j pd]) (hk0 : params.kw_defaults = []) (hfree : ∀ y ∈ scope.names, y.2 = .free → ∃ c, X.env.cells.lookup y.1 = some c)
    (h : ∀ (f c' dt : Addr) (v doc pm ctv : Value) (H1 : Hp) (s' : Shared), Inv X pins σ H1 s' → ExtN H H1 → Tabs T H1 →
      s'.heap.get? f = some (PySem.W.kdv_obj "<lambda>" (X.env.qual ++ "<lambda>") params (.expr body) scope (cloFrom X.env.cells scope.names []) (.ref dt) doc pm c' ctv) → H1 f = none → f ∉ frs X.stack → H1 c' = some (CodeO c' (X.env.qual ++ "<lambda>")) →
      s'.heap.get? dt = some (PySem.W.kdv_tup [v]) → H1 dt = none → dt ∉ frs X.stack → Q (.ref f) s') :
    wpAny (model X.prog X.w) X.A (eval (.Lambda params body scope pos) X.env) Q E s := by
  refine PySem.W.kdv_lam (by rw [hd]; rfl) hk0 ?_
  rw [hd]
  refine PySem.W.kdv_all1 (thn ((pe_int (X := X) (pos := pd) (j := j)).run pins s σ H (fun x H1 => x = .int n ∧ H1 = H) I ⟨rfl, rfl⟩) fun v s1 hh => ?_)
  obtain ⟨x, H1, I1, rv, ex, eH⟩ := hh
  subst ex eH
  refine PySem.W.kdv_all0 ?_
  rw [makeFunction_eq]
  simp only [List.zip_nil_right, List.filterMap_nil, List.isEmpty_nil, if_true, pure_bind, List.isEmpty_cons, Bool.false_eq_true, if_false]
  refine wpAny_bind (wpAny_newTextTuple ?_)
  have up : ∀ b o, s1.heap.get? b = some o → (s1.heap.push (PySem.W.kdv_tup [v])).get? b = some o := fun b o e => Heap.get?_push_of_some _ e
  have nt : H1 s1.heap.objs.size = none := I1.hok.fresh (Nat.le_refl _)
  have nf : s1.heap.objs.size ∉ frs X.stack := fun z => (List.mem_cons.mp (I1.stkSub _ z)).elim (fun e => by
    have h1 := I1.lt
    exact Nat.lt_irrefl _ (e ▸ h1)) (I1.nofs (Nat.le_refl _))
  have I2 : Inv X pins σ H1 { s1 with heap := s1.heap.push (PySem.W.kdv_tup [v]) } := I1.kept (t' := s1.toks) up
  refine lam_tail I2 TB hcode hm hu hT hfree (fun f c' doc pm ctv H2 s' I3 eN T2 hf hfn hfr hco k => ?_)
  obtain ⟨k1, k2⟩ := k _ _ nt (Heap.get?_push_size _ rfl)
  exact h f c' _ v doc pm ctv H2 s' I3 eN T2 hf hfn hfr hco k1 k2 nf
end
end LD

set_option maxHeartbeats 2000000
namespace LD
open PySem PySem.Spec PyProof.Rows L2 LamX
/-- the lambda's names: its parameter pn, captured ones, globals -/
structure LamD (sc scope : Scope) (pn : Str) : Prop where
  kind : scope.kind = .function
  co : scope.isCoroutine = false
  gen : scope.isGenerator = false
  own : ∀ y ∈ scope.names, y.2 ≠ .cell ∧ (y.2 = .local → y.1 = pn) ∧ y.1 ≠ ""
  par : scope.names.lookup pn = some .local
  free : ∀ y ∈ scope.names, y.2 = .free → y.1 ≠ pn ∧ (sc.names.lookup y.1 = some .cell ∨ sc.names.lookup y.1 = some .free)
def lamDB (sc scope : Scope) (pn : Str) : Bool :=
  decide (scope.kind = .function) && !scope.isCoroutine && !scope.isGenerator && (scope.names.all fun y => !decide (y.2 = .cell) && (!decide (y.2 = .local) || decide (y.1 = pn)) && !decide (y.1 = "")) && decide (scope.names.lookup pn = some .local) &&
    (scope.names.all fun y => !decide (y.2 = .free) || (!decide (y.1 = pn) && (decide (sc.names.lookup y.1 = some .cell) || decide (sc.names.lookup y.1 = some .free))))
theorem lamD_by {sc scope : Scope} {pn : Str} (h : lamDB sc scope pn = true) : LamD sc scope pn := by
  unfold lamDB at h
  simp only [Bool.and_eq_true, Bool.or_eq_true, Bool.not_eq_true', decide_eq_true_eq, decide_eq_false_iff_not, List.all_eq_true] at h
  obtain ⟨⟨⟨⟨⟨h1, h2⟩, h3⟩, h4⟩, h5⟩, h6⟩ := h
  refine ⟨h1, h2, h3, fun y hy => ?_, h5, fun y hy e => ?_⟩
  · obtain ⟨⟨a, b⟩, c⟩ := h4 y hy
    exact ⟨a, fun e => b.elim (fun z => absurd e z) id, c⟩
  · exact (h6 y hy).elim (fun z => absurd e z) id
theorem LamD.has {X : Cx} {scope : Scope} {pn : Str} (L : LamD X.env.scope scope pn) (ok : X.Ok) : ∀ y ∈ scope.names, y.2 = .free → ∃ c, X.env.cells.lookup y.1 = some c := fun y hy e =>
  (L.free y hy e).2.elim (fun k => ok.has _ (.inl k)) fun k => ok.has _ (.inr k)
/-- the maker's slot of the parameter's name is not the lambda's -/
def hid (pn y : Str) : Str := if y = pn then "" else y
def lamCxD (X : Cx) (A : Around) (outer : List Env) (s : Shared) (H : Hp) (E : XK) (scope : Scope) (f c' : Addr) (pn : Str) : Cx := { lamCx X A outer s H E scope f c' with N := X.N.map (hid pn) }
section
variable {X : Cx} {pins : List (Addr × Obj)} {σ : L2.St} {H HZ : Hp} {s s1 : Shared}
theorem lam_startD {A : Around} {outer : List Env} {E : XK} {scope : Scope} {f c' : Addr} {pn : Str} {v : Value} {h₁ : Heap} {tk : Nat} (I : Inv X pins σ H s) (L : LamD X.env.scope scope pn) (e0 : Env0 X.prog X.w X.K X.mg X.base A outer s1 HZ) (hd : A.handled = none)
    (un : Un (frs X.stack) [] H HZ s.heap s1.heap) (hns : h₁.Ns s1.heap.objs.size fun y => ([(pn, v)] : List (Str × Value)).reverse.lookup y) (kp : ∀ b o, s1.heap.get? b = some o → h₁.get? b = some o) :
    Inv (lamCxD X A outer s1 HZ E scope f c' pn) [] σ HZ { s1 with heap := h₁, toks := tk } := by
  have hfree := L.has I.ok
  have cm : ∀ {y c}, (cloFrom X.env.cells scope.names []).lookup y = some c → X.env.cells.lookup y = some c := fun {y c} e => by
    rcases cloFrom_mem (PySem.mem_of_lookup e) with hm | ⟨h1, h2⟩
    · cases hm
    · obtain ⟨c1, hc⟩ := hfree _ h1 rfl
      have hc : X.env.cells.lookup y = some c1 := hc
      have e2 : c = c1 := by
        rw [h2, hc] <;> rfl
      exact e2 ▸ hc
  have look : ∀ {y}, scope.names.lookup y = some .free → ∃ c, (cloFrom X.env.cells scope.names []).lookup y = some c := fun {y} hl =>
    mem_lookup (cloFrom_has (cells := X.env.cells) (acc := []) (show (y, NameKind.free) ∈ scope.names from PySem.mem_of_lookup hl))
  have cellK : ∀ {c : Addr} {v : Option Value}, H c = none → s.heap.IsCell c v → h₁.IsCell c v := fun {c v} n ⟨o, ho, hd⟩ =>
    (un.any ho n (by simp)).elim fun sl q => ⟨_, kp _ _ q, hd⟩
  have noA : ∀ b : Addr, b ∉ (lamCxD X A outer s1 HZ E scope f c' pn).ex := fun b z => absurd (show b ∈ ([] : List Addr) from z) (by simp)
  refine ⟨⟨e0.mod, L.kind, rfl, rfl, Nat.le_refl _, fun y z c e1 e2 => I.ok.inj y z c (cm e1) (cm e2), fun y hy => ?_, fun y c z _ => ?_, fun _ => hd, Around.frames_deeper e0.frames, .inr ⟨rfl, rfl⟩, fun b z => absurd z (noA b), e0.bs, e0.bsz, fun b _ _ => noA b,
      fun b z => absurd z (noA b), e0.funs, e0.frf⟩,
    rfl, e0.bare, Un.kept kp, ⟨_, hns, fun i y v e1 e2 e3 => ?_⟩, fun y c e => ?_, e0.hok.fresh (Nat.le_refl _), fun y c e => ?_, fun q hq => absurd (show q ∈ ([] : List (Addr × Obj)) ++ [] from hq) (by simp), e0.hok.kept kp, ?_⟩
  · have hy : scope.names.lookup y = some .cell ∨ scope.names.lookup y = some .free := hy
    exact hy.elim (fun hy => absurd rfl (L.own _ (PySem.mem_of_lookup hy)).1) look
  · have z : false = true := z
    cases z
  · have e3 : Vis scope y := e3
    have e1 : (X.N.map (hid pn))[i]? = some y := e1
    have nz : y ≠ "" := fun z => e3.elim (fun k => (L.own _ (PySem.mem_of_lookup k)).2.2 z) fun k => k.elim (fun k => (L.own _ (PySem.mem_of_lookup k)).2.2 z) fun k => (L.own _ (PySem.mem_of_lookup k)).2.2 z
    rw [List.getElem?_map] at e1
    cases q : X.N[i]? with
    | none => rw [q] at e1; cases e1
    | some y0 =>
      rw [q] at e1
      have e1 : hid pn y0 = y := Option.some.inj e1
      have np : y0 ≠ pn := fun z => nz (by rw [← e1]; exact if_pos z)
      obtain rfl : y0 = y := (if_neg np).symm.trans e1
      rcases e3 with k | k | k
      · exact absurd ((L.own _ (PySem.mem_of_lookup k)).2.1 rfl) np
      · exact absurd rfl (L.own _ (PySem.mem_of_lookup k)).1
      · obtain ⟨m, hn, hl⟩ := I.loc
        have kf := (L.free _ (PySem.mem_of_lookup k) rfl).2
        obtain ⟨w', r, q'⟩ := hl i y0 v q e2 (kf.elim (fun k => .inr (.inl k)) (fun k => .inr (.inr k)))
        obtain ⟨c2, h2⟩ := look k
        refine ⟨w', r, .inr ⟨.inr k, c2, h2, ?_⟩⟩
        have c1 := cm h2
        rcases q' with ⟨k', _⟩ | ⟨_, c3, e', z⟩
        · have k' : X.env.scope.names.lookup y0 = some .local := k'
          rcases kf with k2 | k2 <;> rw [show X.env.scope.names.lookup y0 = _ from k2] at k' <;> cases k'
        · rw [c1] at e'
          cases e'
          exact cellK (I.freeC y0 _ c1) z
  · obtain ⟨w', z⟩ := I.cell y c (cm e)
    exact ⟨w', cellK (I.freeC y c (cm e)) z⟩
  · obtain ⟨v, o, ho, hd⟩ := I.cell y c (cm e)
    exact un.free c o ho (I.freeC y c (cm e)) (by simp)
  · show σ.length = (X.N.map (hid pn)).length
    rw [List.length_map]
    exact I.len
end
end LD

set_option maxHeartbeats 2000000
namespace LD
open PySem PySem.Spec PyProof.Rows L2 LamX
section
variable {X : Cx} {pins : List (Addr × Obj)} {σ : L2.St} {H HZ : Hp} {s s1 : Shared}
/-- x(), in the def that got the lambda -/
theorem pe_actD {CXg : CXT} {Eg : XK} {Ng : List Str} {qg : Str} {sg : Scope} {g f c' dt : Addr} {cdg doc pm ctv v0 : Value} {params : Arguments} {body : Expr} {scope : Scope} {pn : Str} {k i : Nat} {a : Str} {pn' : List (Addr × Obj)} {xe : Value → Shared → Prop} {W : WX} {E : XK} {tb : TE} {p1 p2 : Pos}
    (I : Inv X pins σ H s) (L : LamD X.env.scope scope pn) (hf : s.heap.get? f = some (PySem.W.kdv_obj "<lambda>" (X.env.qual ++ "<lambda>") params (.expr body) scope (cloFrom X.env.cells scope.names []) (.ref dt) doc pm c' ctv)) (hfn : H f = none) (hfr : f ∉ frs X.stack)
    (ht : s.heap.get? dt = some (PySem.W.kdv_tup [v0])) (htn : H dt = none) (htr : dt ∉ frs X.stack)
    (hbind : ∃ kk : Option (Array Value) → Sem (List (Str × Value)), bindArgs (PySem.W.kdv_fn "<lambda>" (X.env.qual ++ "<lambda>") params (.expr body) scope (cloFrom X.env.cells scope.names []) (.ref dt) doc pm (.ref c') ctv) ⟨[], []⟩ = seqItems? (.ref dt) >>= kk ∧ kk (some [v0].toArray) = pure [(pn, v0)])
    (tk : Takes ((cxOf CXg X.prog X.w X.K X.mg X.base Ng qg sg g cdg X.A X.stack s H Eg).tr pn' xe) W) (hW : ∀ cls d σ' H', E cls d H' → W cls d σ' H') (hr : Room (k + 1) (X.A.deeper (envOfC qg sg s.heap.objs.size g cdg)))
    (hbody : ∀ (A : Around) (outer : List Env) (s : Shared) (H : Hp), Room k (A.deeper (lamEnv X scope s.heap.objs.size f c')) → PE (lamCxD X A outer s H E scope f c' pn) body tb)
    (hN : Ng[i]? = some a) (hv : Vis sg a) (hd : (a == ("__debug__" : Str)) = false := by decide) (hcd : (a == ("__classdict__" : Str)) = false := by decide) :
    PE ((cxOf CXg X.prog X.w X.K X.mg X.base Ng qg sg g cdg X.A X.stack s H Eg).tr pn' xe) (.Call (.Name a p1) [] [] p2)
      (fun σZ HZ Q => σZ[i]? = some (some (.ref f)) ∧ HZ c' = some (CodeO c' (X.env.qual ++ "<lambda>")) ∧ tb σ HZ Q) := by
  refine ⟨fun pinsZ sZ σZ HZ Q IZ h => ?_⟩
  obtain ⟨hs, hc, hq⟩ := h
  refine wpAny_Call_Name_kw (thn ((pe_var (pos := p1) (i := i) hN hv hd hcd).run pinsZ sZ σZ HZ (fun v H1 => v = .ref f ∧ H1 = HZ) IZ ⟨.ref f, hs, rfl, rfl⟩) fun u s1 ⟨v, H1, I1, r1, ev, eH⟩ => ?_)
  subst ev
  rw [eH] at I1
  obtain rfl : u = Value.ref f := r1
  have of1 := I1.base.keep f _ hf hfn hfr (fun z => nomatch (show f ∈ ([] : List Addr) from z))
  have ot1 := I1.base.keep dt _ ht htn htr (fun z => nomatch (show dt ∈ ([] : List Addr) from z))
  refine PySem.W.callWith_F0 ⟨_, _, _, _, of1⟩ ?_
  have un : Un (frs X.stack) [] H HZ s.heap s1.heap := I1.base
  obtain ⟨⟨oc, vs, t, hoc, hdc, hvc⟩, _, _⟩ := I1.hok c' _ hc
  obtain ⟨kk, hb1, hb2⟩ := hbind
  have rc : codeAny (model X.prog X.w) (X.A.deeper (envOfC qg sg s.heap.objs.size g cdg)) (.call (.ref f) ⟨[], []⟩) (CR (L2.CX X.prog X.w) (envOfC qg sg s.heap.objs.size g cdg :: X.stack) X.prog X.w HZ s1 Q E) s1 := by
    refine PySem.W.kla_callFunE hr.depth of1 rfl L.co L.gen rfl ⟨c', oc, vs, t, rfl, hoc, hdc, hvc⟩ ?_
    refine (BindsTo.of_defaults (s := s1) (binds := [(pn, v0)]) rfl ot1 rfl hb1 hb2) _ _ _ _ ?_
    refine wpAny_newFunctionEnv (fun y hy => (L.own y hy).1) (fun y hy => by rw [List.mem_singleton.mp hy]; exact L.par) (fun h₁ hns hsb => ⟨I1.nolimit.fresh _ hsb, ?_⟩) L.kind
    show codeAny _ _ (.expr body (lamEnv X scope s1.heap.objs.size f c')) _ _
    have kp : ∀ b o, s1.heap.get? b = some o → h₁.get? b = some o := fun b o e => hsb.extBut b o (Nat.ne_of_lt (Heap.lt_size e)) (Heap.get?_push_of_some _ e)
    have J := lam_startD (E := E) (f := f) (c' := c') (tk := s1.toks + ([(pn, v0)] : List (Str × Value)).length) I L I1.env0 hr.hd un hns kp
    refine PySem.W.kla_codeExpr (wpAny_mono ((hbody _ _ s1 HZ (hr.deeper _)).run [] _ _ HZ Q J hq) (fun v s' hh => ?_) fun e s' hh => hh)
    obtain ⟨w', H', J', rv, z⟩ := hh
    exact ⟨w', H', J'.os, J'.bare, J'.base, J'.hok, rv, z⟩
  have hx : Passes (L2.CX X.prog X.w) ((cxOf CXg X.prog X.w X.K X.mg X.base Ng qg sg g cdg X.A X.stack s H Eg).tr pn' xe) E := passes_call tk hW
  refine wpAny_call (codeAny_mono rc fun r s' hh => ?_)
  cases r with
  | error e => exact hx pinsZ σZ HZ s1 e s' I1 hh
  | ok fl =>
    cases fl with
    | ret u => exact I1.after hh
    | next => exact False.elim hh
    | brk => exact False.elim hh
    | cont => exact False.elim hh
/-- x(lambda pn=n: body) -/
theorem pe_lamcallD {T : List (Addr × Str)} {TT : (XK → Hp → VK → Prop) → Hp → VK → Prop} {x a : Str} {g c P : Addr} {k : Nat} {pg : Arguments} {bg : List Stmt} {sg : Scope} {dV kV doc pm cdv ct oc : Value} {an od : Option Addr} {osl : Array (Option Value)} {Ng : List Str}
    {params : Arguments} {body : Expr} {scope : Scope} {pn : Str} {n : Int} {j : Nat} {pd : Pos} {t : XK → TE} {p lpos pos : Pos} (hg : Gl X x) (hm : X.mg x = some (.ref g)) (hk : PySem.W.keepIn X.K (.ref g) = true)
    (lk : X.K.lookup g = some ⟨oc, od, .func (PySem.W.fnOf x x pg bg sg dV kV doc pm an cdv ct), osl⟩) (hcg : PySem.W.codeIn X.K cdv x = true) (hb : L2.Binds X.K (PySem.W.fnOf x x pg bg sg dV kV doc pm an cdv ct) [a] []) (Sg : FnScope Ng [a] sg) (hNg : Ng[0]? = some a) (hva : Vis sg a)
    (hG : GivesTo X Ng x sg g cdv bg a (X.env.qual ++ "<lambda>") TT)
    (TB : TabB X.base X.mg c P) (hcode : X.env.code = .ref c) (hmT : (P, X.env.qual ++ "<lambda>") ∈ T) (hu : ∀ p ∈ T, p.1 = P → p.2 = X.env.qual ++ "<lambda>") (hr : Room (k + 2) X.A) (L : LamD X.env.scope scope pn) (hd0 : params.defaults = [.Constant (.int n) j pd]) (hk0 : params.kw_defaults = [])
    (hbind : ∀ (q : Str) (cl : List (Str × Addr)) (dt : Addr) (doc pm cv ctv : Value), ∃ kk : Option (Array Value) → Sem (List (Str × Value)), bindArgs (PySem.W.kdv_fn "<lambda>" q params (.expr body) scope cl (.ref dt) doc pm cv ctv) ⟨[], []⟩ = seqItems? (.ref dt) >>= kk ∧ ∀ v0, kk (some [v0].toArray) = pure [(pn, v0)])
    (hbody : ∀ (A : Around) (outer : List Env) (s : Shared) (H : Hp) (E : XK) (f c' : Addr), Room k (A.deeper (lamEnv X scope s.heap.objs.size f c')) → PE (lamCxD X A outer s H E scope f c' pn) body (t E))
    (hdb : (x == ("__debug__" : Str)) = false := by decide) (hd : (a == ("__debug__" : Str)) = false := by decide) (hcd : (a == ("__classdict__" : Str)) = false := by decide) :
    PE X (.Call (.Name x p) [.Lambda params body scope lpos] [] pos) (tLam T TT t) := by
  refine ⟨fun pins s σ H Q I h => ?_⟩
  obtain ⟨hT, h⟩ := h
  refine wpAny_Call_Name_kw (ld_glob I hg hm (PySem.W.callWith_K (h₀ := X.base) I.ok.mod.kin hk ?_ (by rfl) (by rfl)) hdb)
  show wpAny _ _ (spliced ((false, eval (.Lambda params body scope lpos) X.env) :: backTo pos (starEach [] X.env))) _ _ s
  refine Calls.spliced_cons (lam_makeD I TB hcode hmT hu hT hd0 hk0 (L.has I.ok) fun f c' dt v0 doc pm' ctv H1 s' I1 eN T1 hf hfn hfr hco ht htn htr => Calls.spliced_nil ⟨I1.kIn, ?_⟩)
  have rc : codeAny (model X.prog X.w) X.A (.call (.ref g) ⟨[.ref f], []⟩) (CR C8.CX0 X.stack X.prog X.w H1 s' Q C8.E0) s' := by
    refine run_ofS (N := Ng) (ps := [a]) (us := [.ref f]) (vs := [.ref f]) lk hcg Sg hr I1.env0 (hb s' [.ref f] I1.kIn rfl) (.cons rfl .nil) rfl fun hr' => ?_
    obtain ⟨t', ht', hq'⟩ := hG f c' s' H1 Q (fun E H' Q' => t E σ H' Q') (fun W pn' xe E p1 p2 tk hW => pe_actD (i := 0) I1 L hf hfn hfr ht htn htr ((hbind _ _ _ _ _ _ _).elim fun kk q => ⟨kk, q.1, q.2 v0⟩) tk hW hr' (fun A outer s H hr2 => hbody A outer s H E f c' hr2) hNg hva hd hcd) hco (h H1 eN T1)
    exact ⟨t', ht'.nox, hq'⟩
  refine wpAny_call (codeAny_mono rc fun r s2 hq => ?_)
  cases r with
  | error e => exact (show False from hq).elim
  | ok fl =>
    cases fl with
    | ret u => exact I1.after hq
    | next => exact False.elim hq
    | brk => exact False.elim hq
    | cont => exact False.elim hq
end
end LD

set_option maxHeartbeats 2000000
/-! Lambdas as values: made, kept in lists and names, called later by a def that gets them. -/
namespace LV
open PySem PySem.Spec PyProof.Rows L2 LamX LD
/-- an object that stays as it is -/
abbrev FzO (o : Obj) : HO := .frz o (.ext fun _ => True)
theorem fz_ok {P : Program} {w : World} {H : Hp} {h : Heap} {a : Addr} {o : Obj} (e : h.get? a = some o) : ObjOk P w H h a (FzO o) := ⟨e, trivial, ⟨_, e⟩, fun _ _ _ _ => trivial⟩
theorem fz_ne {o : Obj} (ps : Array Value) : FzO o ≠ .tbl ps := fun z => by cases z
/-- the lambda's object -/
abbrev lamO (X : Cx) (params : Arguments) (body : Expr) (scope : Scope) (dV doc pm : Value) (c' : Addr) (ctv : Value) : Obj :=
  PySem.W.kdv_obj "<lambda>" (X.env.qual ++ "<lambda>") params (.expr body) scope (cloFrom X.env.cells scope.names []) dV doc pm c' ctv
abbrev lamF (X : Cx) (params : Arguments) (body : Expr) (scope : Scope) (dV doc pm : Value) (c' : Addr) (ctv : Value) : FuncData :=
  PySem.W.kdv_fn "<lambda>" (X.env.qual ++ "<lambda>") params (.expr body) scope (cloFrom X.env.cells scope.names []) dV doc pm (.ref c') ctv
/-- a lambda of X's at f that, called, does what tl reads -/
inductive LamAt (X : Cx) (k : Nat) (H : Hp) (f : Addr) (tl : XK → TE) : Prop where
  | bare {c' : Addr} {params : Arguments} {body : Expr} {scope : Scope} {doc pm ctv : Value} (hf : H f = some (FzO (lamO X params body scope .none doc pm c' ctv))) (hc : H c' = some (CodeO c' (X.env.qual ++ "<lambda>"))) (L : LamS X.env.scope scope)
      (hb : bindArgs (lamF X params body scope .none doc pm c' ctv) ⟨[], []⟩ = pure [])
      (run : ∀ (A : Around) (outer : List Env) (s : Shared) (H : Hp) (E : XK), Room k (A.deeper (lamEnv X scope s.heap.objs.size f c')) → PE (lamCx X A outer s H E scope f c') body (tl E)) : LamAt X k H f tl
  | dflt {c' dt : Addr} {v0 : Value} {pn : Str} {params : Arguments} {body : Expr} {scope : Scope} {doc pm ctv : Value} (hf : H f = some (FzO (lamO X params body scope (.ref dt) doc pm c' ctv))) (hc : H c' = some (CodeO c' (X.env.qual ++ "<lambda>"))) (L : LamD X.env.scope scope pn)
      (ht : H dt = some (FzO (PySem.W.kdv_tup [v0])))
      (hb : ∃ kk : Option (Array Value) → Sem (List (Str × Value)), bindArgs (lamF X params body scope (.ref dt) doc pm c' ctv) ⟨[], []⟩ = seqItems? (.ref dt) >>= kk ∧ kk (some [v0].toArray) = pure [(pn, v0)])
      (run : ∀ (A : Around) (outer : List Env) (s : Shared) (H : Hp) (E : XK), Room k (A.deeper (lamEnv X scope s.heap.objs.size f c')) → PE (lamCxD X A outer s H E scope f c' pn) body (tl E)) : LamAt X k H f tl
theorem LamAt.ext {X : Cx} {k : Nat} {H H' : Hp} {f : Addr} {tl : XK → TE} (h : LamAt X k H f tl) (e : ExtN H H') : LamAt X k H' f tl := by
  cases h with
  | bare hf hc L hb run => exact .bare (e _ _ hf fz_ne) (e _ _ hc codeO_ne) L hb run
  | dflt hf hc L ht hb run => exact .dflt (e _ _ hf fz_ne) (e _ _ hc codeO_ne) L (e _ _ ht fz_ne) hb run
theorem LamAt.same {X : Cx} {k : Nat} {H H' : Hp} {f : Addr} {tl : XK → TE} (h : LamAt X k H f tl) (e : Same H H') : LamAt X k H' f tl := h.ext (.of e)
section
variable {X : Cx} {pins : List (Addr × Obj)} {σ : L2.St} {H : Hp} {s : Shared}
/-- the end of a lambda's making: its object is known from now on -/
theorem lam_put {T : List (Addr × Str)} {c P : Addr} {params : Arguments} {body : Expr} {scope : Scope} {pos : Pos} {dV : Value} {E : Value → Shared → Prop} {Q : Value → Shared → Prop} (I : Inv X pins σ H s) (TB : TabB X.base X.mg c P) (hcode : X.env.code = .ref c)
    (hm : (P, X.env.qual ++ "<lambda>") ∈ T) (hu : ∀ p ∈ T, p.1 = P → p.2 = X.env.qual ++ "<lambda>") (hT : Tabs T H) (hfree : ∀ y ∈ scope.names, y.2 = .free → ∃ c, X.env.cells.lookup y.1 = some c)
    (h : ∀ (f c' : Addr) (doc pm ctv : Value) (H1 : Hp) (s' : Shared), Inv X pins σ H1 s' → ExtN H H1 → Tabs T H1 → H1 f = some (FzO (lamO X params body scope dV doc pm c' ctv)) → H f = none → H1 c' = some (CodeO c' (X.env.qual ++ "<lambda>")) → Q (.ref f) s') :
    wpAny (model X.prog X.w) X.A (makeTail "<lambda>" (X.env.qual ++ "<lambda>") params (.expr body) scope X.env dV .none none pos pos.line) Q E s := by
  obtain ⟨ps, hP, ht, ha⟩ := hT _ hm
  dsimp only at hP ha
  have bP : s.heap.BuiltinsAt X.mg P := TB.bm.keeps I.bk
  have hP' : s.heap.get? P = some { cls := .none, data := .fields ps } := I.hok P _ hP
  -- the object, put behind all that is there
  have put : ∀ {H1 : Hp} {h' : Heap} {tk tk2 : Nat} {c' : Addr} {doc ctv : Value}, Inv X pins σ H1 { s with heap := h', toks := tk } → ExtN H H1 → Tabs T H1 → H1 c' = some (CodeO c' (X.env.qual ++ "<lambda>")) → s.heap.objs.size ≤ h'.objs.size →
      Q (.ref h'.objs.size) { s with heap := h'.push (lamO X params body scope dV doc ((X.mg "__name__").getD .none) c' ctv), toks := tk2 } := fun {H1 h' tk tk2 c' doc ctv} I1 e1 T1 hc hz => by
    have nf : H1 h'.objs.size = none := I1.hok.fresh (Nat.le_refl _)
    have gf := Heap.get?_push_size h' (o := lamO X params body scope dV doc ((X.mg "__name__").getD .none) c' ctv) rfl
    have I2 := I1.laid (t' := tk2) (a := h'.objs.size) (o := FzO (lamO X params body scope dV doc ((X.mg "__name__").getD .none) c' ctv)) (fun b u e => Heap.get?_push_of_some _ e) (Nat.le_refl _) (fz_ok gf)
    have up : ∀ b o, H1 b = some o → (upd H1 h'.objs.size (FzO (lamO X params body scope dV doc ((X.mg "__name__").getD .none) c' ctv))) b = some o := fun b o e => by
      rw [upd_ne (ne_of_none e nf)]
      exact e
    exact h _ c' doc _ ctv _ _ I2 (e1.trans (.of up)) (T1.ext up) upd_same (I.hok.fresh hz) (up _ _ hc)
  cases hc : codeAmong pos ps.toList with
  | none =>
    refine PySem.W.kdv_makeTail (mg := X.mg) (c := c) (P := P) (ps := ps) (closure_ok hfree) I.ok.glob (I.mod.glob.keeps I.bk) hcode (TB.code.keeps I.bk) hP' ht hc TB.gP bP (fun c' ctv doc h' tk hx hge hlt hrec htb => ?_)
    obtain ⟨c2, oc, vs, t, e2, hoc, hd, hv⟩ := hrec
    cases e2
    have nC : H c' = none := I.hok.fresh hge
    have I1 := inv_table (t' := s.toks) (more := #[rawInt pos.line, rawInt pos.col, .ref c']) (h' := h') I hP (fun b o hb e => hx b o hb e) htb hge ⟨oc, vs, t, hoc, hd, hv⟩
    have hE : ExtN H (upd (upd H P (.tbl (ps ++ #[rawInt pos.line, rawInt pos.col, .ref c']))) c' (CodeO c' (X.env.qual ++ "<lambda>"))) := fun b o e n => by
      rw [upd_ne (ne_of_none e nC), upd_ne (fun z : b = P => n ps (Option.some.inj (e.symm.trans (by rw [z]; exact hP))))]
      exact e
    refine put I1 hE (fun p hp => ?_) upd_same (Nat.le_trans hge (Nat.le_of_lt hlt))
    by_cases hb : p.1 = P
    · have eL : (ps ++ #[rawInt pos.line, rawInt pos.col, .ref c']).toList = ps.toList ++ [rawInt pos.line, rawInt pos.col, .ref c'] := by simp
      rw [hu p hp hb, hb]
      refine ⟨_, (upd_ne (ne_of_none hP nC)).trans upd_same, eL ▸ PySem.TriplesOk_snoc _ _ _ _ ht, fun p' cv hcv => ?_⟩
      exact (among_app _ ht (eL ▸ hcv)).elim (fun z => (ha p' cv z).imp fun c0 q => ⟨q.1, hE _ _ q.2 codeO_ne⟩) fun z => ⟨c', z, upd_same⟩
    · obtain ⟨ps', a1, a2, a3⟩ := hT p hp
      exact ⟨ps', ((upd_ne (ne_of_none a1 nC)).trans (upd_ne hb)).trans a1, a2, fun p' cv hcv => (a3 p' cv hcv).imp fun c0 q => ⟨q.1, hE _ _ q.2 codeO_ne⟩⟩
  | some cv =>
    obtain ⟨c', e, hco⟩ := ha pos cv hc
    subst e
    refine PySem.W.kdv_makeTailHit (mg := X.mg) (c := c) (P := P) (ps := ps) (closure_ok hfree) I.ok.glob (I.mod.glob.keeps I.bk) hcode (TB.code.keeps I.bk) hP' ht hc bP (fun ctv doc h' tk hx hsz => ?_)
    exact put (I.kept (h' := h') (t' := s.toks) hx) (ExtN.refl H) hT hco hsz
/-- what a lambda's making asks, and tells -/
def tLamV (X : Cx) (T : List (Addr × Str)) (k : Nat) (tl : XK → TE) : TE := fun _ H Q => Tabs T H ∧ ∀ (f : Addr) (H1 : Hp), ExtN H H1 → Tabs T H1 → H f = none → LamAt X k H1 f tl → Q (.ref f) H1
/-- lambda: body -/
theorem pe_lamV {T : List (Addr × Str)} {c P : Addr} {k : Nat} {tl : XK → TE} {params : Arguments} {body : Expr} {scope : Scope} {pos : Pos} (TB : TabB X.base X.mg c P) (hcode : X.env.code = .ref c)
    (hm : (P, X.env.qual ++ "<lambda>") ∈ T) (hu : ∀ p ∈ T, p.1 = P → p.2 = X.env.qual ++ "<lambda>") (L : LamS X.env.scope scope) (hd : defaultsOf params X.env = ([], []))
    (hb : ∀ (doc pm : Value) (c' : Addr) (ctv : Value), bindArgs (lamF X params body scope .none doc pm c' ctv) ⟨[], []⟩ = pure [])
    (run : ∀ (A : Around) (outer : List Env) (s : Shared) (H : Hp) (E : XK) (f c' : Addr), Room k (A.deeper (lamEnv X scope s.heap.objs.size f c')) → PE (lamCx X A outer s H E scope f c') body (tl E)) :
    PE X (.Lambda params body scope pos) (tLamV X T k tl) := by
  refine ⟨fun pins s σ H Q I h => ?_⟩
  obtain ⟨hT, h⟩ := h
  refine PySem.W.kla_eval hd ?_
  rw [makeFunction_eq]
  simp only [List.zip_nil_right, List.filterMap_nil, List.isEmpty_nil, if_true, pure_bind]
  exact lam_put I TB hcode hm hu hT (L.has I.ok) fun f c' doc pm ctv H1 s' I1 eN T1 hf nf hc => ⟨.ref f, H1, I1, rfl, h f H1 eN T1 nf (.bare hf hc L (hb _ _ _ _) fun A outer s H E hr => run A outer s H E f c' hr)⟩
/-- lambda pn=n: body -/
theorem pe_lamDV {T : List (Addr × Str)} {c P : Addr} {k : Nat} {tl : XK → TE} {params : Arguments} {body : Expr} {scope : Scope} {pos pd : Pos} {pn : Str} {n : Int} {j : Nat} (TB : TabB X.base X.mg c P) (hcode : X.env.code = .ref c)
    (hm : (P, X.env.qual ++ "<lambda>") ∈ T) (hu : ∀ p ∈ T, p.1 = P → p.2 = X.env.qual ++ "<lambda>") (L : LamD X.env.scope scope pn) (hd : params.defaults = [.Constant (.int n) j pd]) (hk0 : params.kw_defaults = [])
    (hb : ∀ (dt : Addr) (doc pm : Value) (c' : Addr) (ctv : Value), ∃ kk : Option (Array Value) → Sem (List (Str × Value)), bindArgs (lamF X params body scope (.ref dt) doc pm c' ctv) ⟨[], []⟩ = seqItems? (.ref dt) >>= kk ∧ ∀ v0, kk (some [v0].toArray) = pure [(pn, v0)])
    (run : ∀ (A : Around) (outer : List Env) (s : Shared) (H : Hp) (E : XK) (f c' : Addr), Room k (A.deeper (lamEnv X scope s.heap.objs.size f c')) → PE (lamCxD X A outer s H E scope f c' pn) body (tl E)) :
    PE X (.Lambda params body scope pos) (tLamV X T k tl) := by
  refine ⟨fun pins s σ H Q I h => ?_⟩
  obtain ⟨hT, h⟩ := h
  refine PySem.W.kdv_lam (by rw [hd]; rfl) hk0 ?_
  rw [hd]
  refine PySem.W.kdv_all1 (thn ((pe_int (X := X) (pos := pd) (j := j)).run pins s σ H (fun x H1 => x = .int n ∧ H1 = H) I ⟨rfl, rfl⟩) fun v s1 hh => ?_)
  obtain ⟨x, H1, I1, rv, ex, eH⟩ := hh
  subst ex eH
  refine PySem.W.kdv_all0 ?_
  rw [makeFunction_eq]
  simp only [List.zip_nil_right, List.filterMap_nil, List.isEmpty_nil, if_true, pure_bind, List.isEmpty_cons, Bool.false_eq_true, if_false]
  refine wpAny_bind (wpAny_newTextTuple ?_)
  have gt := Heap.get?_push_size s1.heap (o := PySem.W.kdv_tup [v]) rfl
  have nt : H1 s1.heap.objs.size = none := I1.hok.fresh (Nat.le_refl _)
  have I2 := I1.laid (t' := s1.toks) (a := s1.heap.objs.size) (o := FzO (PySem.W.kdv_tup [v])) (fun b u e => Heap.get?_push_of_some _ e) (Nat.le_refl _) (fz_ok gt)
  have up : ∀ b o, H1 b = some o → (upd H1 s1.heap.objs.size (FzO (PySem.W.kdv_tup [v]))) b = some o := fun b o e => by
    rw [upd_ne (ne_of_none e nt)]
    exact e
  refine lam_put I2 TB hcode hm hu (hT.ext up) (L.has I.ok) fun f c' doc pm ctv H2 s' I3 eN T2 hf nf hc => ⟨.ref f, H2, I3, rfl, h f H2 ((ExtN.of up).trans eN) T2 ?_ (.dflt hf hc L (eN _ _ upd_same fz_ne) ((hb _ _ _ _ _).imp fun kk q => ⟨q.1, q.2 v⟩) fun A outer s H E hr => run A outer s H E f c' hr)⟩
  by_cases e : f = s1.heap.objs.size
  · rw [e]; exact nt
  · rw [upd_ne e] at nf; exact nf
end
end LV

set_option maxHeartbeats 2000000
namespace LV
open PySem PySem.Spec PyProof.Rows L2 LamX LD
section
variable {X : Cx} {pins : List (Addr × Obj)} {σ : L2.St} {H : Hp} {s : Shared}
/-- the context of a def at g that is called at s -/
abbrev gCx (X : Cx) (CXg : CXT) (Eg : XK) (Ng : List Str) (qg : Str) (sg : Scope) (g : Addr) (cdg : Value) (s : Shared) (H : Hp) (pn : List (Addr × Obj)) (xe : Value → Shared → Prop) : Cx :=
  (cxOf CXg X.prog X.w X.K X.mg X.base Ng qg sg g cdg X.A X.stack s H Eg).tr pn xe
/-- a(), in a def that got the lambda as a -/
theorem act_of {CXg : CXT} {Eg : XK} {Ng : List Str} {qg : Str} {sg : Scope} {g f : Addr} {cdg : Value} {k i : Nat} {a : Str} {tl : XK → TE} (I : Inv X pins σ H s) (La : LamAt X k H f tl) (hr : Room (k + 1) (X.A.deeper (envOfC qg sg s.heap.objs.size g cdg)))
    (hN : Ng[i]? = some a) (hv : Vis sg a) (hd : (a == ("__debug__" : Str)) = false := by decide) (hcd : (a == ("__classdict__" : Str)) = false := by decide) :
    ∃ c' : Addr, H c' = some (CodeO c' (X.env.qual ++ "<lambda>")) ∧ ∀ (W : WX) (pn : List (Addr × Obj)) (xe : Value → Shared → Prop) (E : XK) (p1 p2 : Pos), Takes (gCx X CXg Eg Ng qg sg g cdg s H pn xe) W → (∀ cls d σ' H', E cls d H' → W cls d σ' H') →
      PE (gCx X CXg Eg Ng qg sg g cdg s H pn xe) (.Call (.Name a p1) [] [] p2) (fun σZ HZ Q => σZ[i]? = some (some (.ref f)) ∧ HZ c' = some (CodeO c' (X.env.qual ++ "<lambda>")) ∧ tl E σ HZ Q) := by
  -- what a call of it comes to, told of the state at the call
  have told : ∀ (c' : Addr) (fo : Obj), H f = some (FzO fo) → (∃ fd, fo.data = .func fd) → (∀ (HZ : Hp) (s1 : Shared) (E : XK) (Q : VK), Un (frs X.stack) [] H HZ s.heap s1.heap → Env0 X.prog X.w X.K X.mg X.base (X.A.deeper (envOfC qg sg s.heap.objs.size g cdg)) (envOfC qg sg s.heap.objs.size g cdg :: X.stack) s1 HZ →
        s1.heap.get? f = some fo → HOk X.prog X.w HZ s1.heap → s1.heap.NoLimit → HZ c' = some (CodeO c' (X.env.qual ++ "<lambda>")) → tl E σ HZ Q → codeAny (model X.prog X.w) (X.A.deeper (envOfC qg sg s.heap.objs.size g cdg)) (.call (.ref f) ⟨[], []⟩) (CR (L2.CX X.prog X.w) (envOfC qg sg s.heap.objs.size g cdg :: X.stack) X.prog X.w HZ s1 Q E) s1) →
      ∀ (W : WX) (pn : List (Addr × Obj)) (xe : Value → Shared → Prop) (E : XK) (p1 p2 : Pos), Takes (gCx X CXg Eg Ng qg sg g cdg s H pn xe) W → (∀ cls d σ' H', E cls d H' → W cls d σ' H') →
      PE (gCx X CXg Eg Ng qg sg g cdg s H pn xe) (.Call (.Name a p1) [] [] p2) (fun σZ HZ Q => σZ[i]? = some (some (.ref f)) ∧ HZ c' = some (CodeO c' (X.env.qual ++ "<lambda>")) ∧ tl E σ HZ Q) := fun c' fo hf hfd runs W pn xe E p1 p2 tk hW => by
    refine ⟨fun pinsZ sZ σZ HZ Q IZ ⟨hs, hc, hq⟩ => wpAny_Call_Name_kw (thn ((pe_var (pos := p1) (i := i) hN hv hd hcd).run pinsZ sZ σZ HZ (fun v H1 => v = .ref f ∧ H1 = HZ) IZ ⟨.ref f, hs, rfl, rfl⟩) fun u s1 ⟨v, H1, I1, r1, ev, eH⟩ => ?_)⟩
    subst ev
    rw [eH] at I1
    obtain rfl : u = Value.ref f := r1
    have of1 : s1.heap.get? f = some fo := (I1.hok f _ (I1.base.frzs f _ _ hf)).1
    obtain ⟨fd, hfd⟩ := hfd
    obtain ⟨oc, od, odata, osl⟩ := fo
    have hfd : odata = .func fd := hfd
    subst hfd
    refine PySem.W.callWith_F0 ⟨_, _, _, _, of1⟩ ?_
    have rc := runs HZ s1 E Q I1.base I1.env0 of1 I1.hok I1.nolimit hc hq
    have hx : Passes (L2.CX X.prog X.w) (gCx X CXg Eg Ng qg sg g cdg s H pn xe) E := passes_call tk hW
    refine wpAny_call (codeAny_mono rc fun r s' hh => ?_)
    cases r with
    | error e => exact hx pinsZ σZ HZ s1 e s' I1 hh
    | ok fl =>
      cases fl with
      | ret u => exact I1.after hh
      | next => exact False.elim hh
      | brk => exact False.elim hh
      | cont => exact False.elim hh
  cases La with
  | @bare c' params body scope doc pm ctv hf hc L hb run =>
    refine ⟨c', hc, told c' _ hf ⟨_, rfl⟩ fun HZ s1 E Q un e0 of1 hok lim hcZ hq => ?_⟩
    obtain ⟨⟨oc, vs, t, hoc, hdc, hvc⟩, _, _⟩ := hok c' _ hcZ
    refine PySem.W.kla_callFunE hr.depth of1 rfl L.co L.gen rfl ⟨c', oc, vs, t, rfl, hoc, hdc, hvc⟩ ?_
    rw [hb]
    refine wpAny_pure (wpAny_newFunctionEnv (fun y hy => (L.own y hy).2) (fun y hy => absurd hy (by simp)) (fun h₁ hns hsb => ⟨lim.fresh _ hsb, ?_⟩) L.kind)
    show codeAny _ _ (.expr body (lamEnv X scope s1.heap.objs.size f c')) _ _
    have kp : ∀ b o, s1.heap.get? b = some o → h₁.get? b = some o := fun b o e => hsb.extBut b o (Nat.ne_of_lt (Heap.lt_size e)) (Heap.get?_push_of_some _ e)
    have J := lam_start2 (E := E) (f := f) (c' := c') (tk := s1.toks + ([] : List (Str × Value)).length) I L e0 hr.hd un hns kp
    exact PySem.W.kla_codeExpr (wpAny_mono ((run _ _ s1 HZ E (hr.deeper _)).run [] _ _ HZ Q J hq) (fun v s' ⟨w', H', J', rv, z⟩ => ⟨w', H', J'.os, J'.bare, J'.base, J'.hok, rv, z⟩) fun e s' hh => hh)
  | @dflt c' dt v0 pn params body scope doc pm ctv hf hc L ht hb run =>
    refine ⟨c', hc, told c' _ hf ⟨_, rfl⟩ fun HZ s1 E Q un e0 of1 hok lim hcZ hq => ?_⟩
    obtain ⟨⟨oc, vs, t, hoc, hdc, hvc⟩, _, _⟩ := hok c' _ hcZ
    have ot1 : s1.heap.get? dt = some (PySem.W.kdv_tup [v0]) := (hok dt _ (un.frzs dt _ _ ht)).1
    obtain ⟨kk, hb1, hb2⟩ := hb
    refine PySem.W.kla_callFunE hr.depth of1 rfl L.co L.gen rfl ⟨c', oc, vs, t, rfl, hoc, hdc, hvc⟩ ?_
    refine (BindsTo.of_defaults (s := s1) (binds := [(pn, v0)]) rfl ot1 rfl hb1 hb2) _ _ _ _ ?_
    refine wpAny_newFunctionEnv (fun y hy => (L.own y hy).1) (fun y hy => by rw [List.mem_singleton.mp hy]; exact L.par) (fun h₁ hns hsb => ⟨lim.fresh _ hsb, ?_⟩) L.kind
    show codeAny _ _ (.expr body (lamEnv X scope s1.heap.objs.size f c')) _ _
    have kp : ∀ b o, s1.heap.get? b = some o → h₁.get? b = some o := fun b o e => hsb.extBut b o (Nat.ne_of_lt (Heap.lt_size e)) (Heap.get?_push_of_some _ e)
    have J := lam_startD (E := E) (f := f) (c' := c') (tk := s1.toks + ([(pn, v0)] : List (Str × Value)).length) I L e0 hr.hd un hns kp
    exact PySem.W.kla_codeExpr (wpAny_mono ((run _ _ s1 HZ E (hr.deeper _)).run [] _ _ HZ Q J hq) (fun v s' ⟨w', H', J', rv, z⟩ => ⟨w', H', J'.os, J'.bare, J'.base, J'.hok, rv, z⟩) fun e s' hh => hh)
/-- what a call of a def with a lambda at hand asks (σ: the slots of the lambda's maker) -/
def tVcall (X : Cx) (k : Nat) (TT : (XK → Hp → VK → Prop) → Hp → VK → Prop) (i : Nat) (σ : L2.St) : TE := fun σY HY Q => ∃ (f : Addr) (tl : XK → TE), σY[i]? = some (some (.ref f)) ∧ LamAt X k HY f tl ∧ TT (fun E H' Q' => tl E σ H' Q') HY Q
/-- where a block's iterator stands, seen from the block's def -/
def BlkFp (X : Cx) (pins : List (Addr × Obj)) (fp : List Addr) : Prop := ∀ b ∈ fp, (b ∈ X.ex ∨ X.s_0.heap.objs.size ≤ b) ∧ b ≠ X.env.locals ∧ (∀ x c, X.env.cells.lookup x = some c → c ≠ b) ∧ ∀ p ∈ X.pn ++ pins, p.1 ≠ b
/-- x(y), within a comprehension of the lambda's maker -/
theorem pe_vcall {TT : (XK → Hp → VK → Prop) → Hp → VK → Prop} {x y a : Str} {g : Addr} {k i : Nat} {pg : Arguments} {bg : List Stmt} {sg scope : Scope} {ce : Env} {fp : List Addr} {dV kV doc pm cdv ct oc : Value} {an od : Option Addr} {osl : Array (Option Value)} {Ng : List Str} {p py pos : Pos}
    (I3 : Inv X pins σ H s) (hch : BlkFp X pins fp) (hg : Gl (X.blk s H scope ce fp) x) (hm : X.mg x = some (.ref g)) (hk : PySem.W.keepIn X.K (.ref g) = true)
    (lk : X.K.lookup g = some ⟨oc, od, .func (PySem.W.fnOf x x pg bg sg dV kV doc pm an cdv ct), osl⟩) (hcg : PySem.W.codeIn X.K cdv x = true) (hb : L2.Binds X.K (PySem.W.fnOf x x pg bg sg dV kV doc pm an cdv ct) [a] []) (Sg : FnScope Ng [a] sg) (hNg : Ng[0]? = some a) (hva : Vis sg a)
    (hG : GivesTo X Ng x sg g cdv bg a (X.env.qual ++ "<lambda>") TT) (hr : Room (k + 2) X.A) (hN : X.N[i]? = some y) (hv : Vis ce.scope y)
    (hs : starEach [.Name y py] (X.blk s H scope ce fp).env = (false, eval (.Name y py) (X.blk s H scope ce fp).env) :: starEach [] (X.blk s H scope ce fp).env := by rfl) (hpl : (backTo pos (starEach [] (X.blk s H scope ce fp).env)).any (·.1) = false := by rfl)
    (hdb : (x == ("__debug__" : Str)) = false := by decide) (hd : (a == ("__debug__" : Str)) = false := by decide) (hcd : (a == ("__classdict__" : Str)) = false := by decide) (hd2 : (y == ("__debug__" : Str)) = false := by decide) (hcd2 : (y == ("__classdict__" : Str)) = false := by decide) :
    PE (X.blk s H scope ce fp) (.Call (.Name x p) [.Name y py] [] pos) (tVcall X k TT i σ) := by
  refine ⟨fun pinsY sY σY HY Q IY ⟨f, tl, hf, La, h⟩ => ?_⟩
  refine wpAny_Call_Name_kw (ld_glob IY hg hm ?_ hdb)
  have hp : PA (X.blk s H scope ce fp) [.Name y py] (tCons (tVar i) tNil) := pa_cons (pe_var (X := X.blk s H scope ce fp) hN hv hd2 hcd2) pa_nil
  refine PySem.W.callWith_K (h₀ := X.base) IY.ok.mod.kin hk (thn (hp.run pos pinsY sY σY HY (fun vs H1 => vs = [.ref f] ∧ H1 = HY) IY ⟨_, hf, rfl, rfl⟩) fun us s1 hh => ?_) hs hpl
  obtain ⟨vs, H1, I1, r1, ev, eH⟩ := hh
  subst ev
  rw [eH] at I1
  refine ⟨I1.kIn, ?_⟩
  cases r1 with
  | cons ru rr =>
    cases rr
    cases ru
    have IX : Inv X pins σ HY s1 := I3.call' (ch := fp) I1.os I1.base I1.hok I1.bare hch
    have rc : codeAny (model X.prog X.w) X.A (.call (.ref g) ⟨[.ref f], []⟩) (CR C8.CX0 X.stack X.prog X.w HY s1 Q C8.E0) s1 := by
      refine run_ofS (N := Ng) (ps := [a]) (us := [.ref f]) (vs := [.ref f]) lk hcg Sg hr I1.env0 (hb s1 [.ref f] I1.kIn rfl) (.cons rfl .nil) rfl fun hr' => ?_
      obtain ⟨c', hc, act⟩ := act_of (CXg := C8.CX0) (Eg := C8.E0) (Ng := Ng) (qg := x) (sg := sg) (g := g) (cdg := cdv) (i := 0) IX La hr' hNg hva hd hcd
      obtain ⟨t', ht', hq'⟩ := hG f c' s1 HY Q (fun E H' Q' => tl E σ H' Q') (fun W pn xe E p1 p2 tk hW => act W pn xe E p1 p2 tk hW) hc h
      exact ⟨t', ht'.nox, hq'⟩
    refine wpAny_call (codeAny_mono rc fun r s2 hq => ?_)
    cases r with
    | error e => exact (show False from hq).elim
    | ok fl =>
      cases fl with
      | ret u => exact I1.after hq
      | next => exact False.elim hq
      | brk => exact False.elim hq
      | cont => exact False.elim hq
end
end LV

set_option maxHeartbeats 2000000
/-! [e for x in ..] whose e may call lambdas of the def. -/
namespace LV
open PySem PySem.Spec PyProof.Rows L2 LamX
section
variable {X : Cx} {pins : List (Addr × Obj)} {σ : L2.St} {H : Hp} {s : Shared}
/-- the comprehension, its element told where the def's own state is known -/
def tLcV (wi : TI) (g : TG) (te : L2.St → TE) (vs : List Nat) : TE := fun σ H Q => tLc wi g tYes (te σ) vs σ H Q
theorem pe_lcV {elt tg iter : Expr} {scope : Scope} {own : List (Str × Nat)} {pos : Pos} {wi : TI} {g : TG} {te : L2.St → TE} (hc : X.calm = true) (hN : X.N.Nodup) (hi : PI X tg iter wi) (ok : BlkOk X.N X.env.scope scope own)
    (hg : ∀ (s : Shared) (H : Hp) (C : Addr) (cl : List (Str × Addr)) (fp : List Addr), PG (X.blk s H scope (compEnvC scope cl C X.env) fp) tg g)
    (he : ∀ (s : Shared) (H : Hp) (C : Addr) (cl : List (Str × Addr)) (fp : List Addr) (pins : List (Addr × Obj)) (σ : L2.St), Inv X pins σ H s → BlkFp X pins fp → PE (X.blk s H scope (compEnvC scope cl C X.env) fp) elt (te σ))
    (hs : ∀ x, foldedSetIterable iter X.env x = pure x := by intro _; rfl) :
    PE X (.ListComp elt [⟨tg, iter, [], 0⟩] scope pos) (tLcV wi g te (own.map (·.2))) := by
  refine ⟨fun pins s σ H Q I h => ?_⟩
  rw [eval_ListComp]
  have clo : ∀ y ∈ scope.names, y.2 = .free → ∃ c, X.env.cells.lookup y.1 = some c := fun y hy e => (ok.free y hy e).elim (fun k => I.ok.has _ (.inl k)) fun k => I.ok.has _ (.inr k)
  have h : tLc wi g tYes (te σ) (own.map (·.2)) σ H Q := h
  refine wpAny_comprehension_free (use := none) rfl hs (closure_ok clo) ok.kind (fun y hy e => (ok.uniq y hy).trans (by rw [e])) (thn (hi.run pins s σ H _ I h) fun xv s1 hx => thn hx fun itv s2 h2 => ?_)
  obtain ⟨it, fp, tn, J, H2, rfl, I2, T, st2, f2, q⟩ := h2
  refine wpAny_newObj_type (newEnv_comp ?_) (by show 0 ≤ sizeLine; decide)
  obtain ⟨D, hD⟩ : ∃ D, s2.heap.objs.size = D := ⟨_, rfl⟩
  rw [hD]
  obtain ⟨W, ⟨m0, w0⟩, turn⟩ := q D (I2.hok.fresh (Nat.le_of_eq hD))
  -- the new list stands
  obtain ⟨s3, e3⟩ : ∃ s3 : Shared, s3 = { s2 with heap := s2.heap.push { cls := .type "list", data := .seq ([] : List Value).toArray } } := ⟨_, rfl⟩
  have I3 : Inv X pins σ (upd H2 D (.lst [])) s3 := by
    rw [e3]
    refine I2.laid (t' := s2.toks) (fun b o e => Heap.get?_push_of_some _ e) (Nat.le_of_eq hD) ⟨Nat.zero_le _, [], 0, .nil, ?_⟩
    rw [← hD]
    exact Heap.get?_push_size _ rfl
  have h3 : s3.heap = s2.heap.push { cls := .type "list", data := .seq ([] : List Value).toArray } := by rw [e3]
  have f3 : ∀ b ∈ fp, FpOk X pins (upd H2 D (.lst [])) b ∧ b < s3.heap.objs.size := fun b hb => by
    obtain ⟨ob, eb, _⟩ := T.obj _ _ st2 b hb
    have lb := Heap.lt_size eb
    exact ⟨⟨(upd_ne (hD ▸ Nat.ne_of_lt lb)).trans (f2 b hb).1, (f2 b hb).2⟩, by rw [h3, Heap.size_push]; exact Nat.lt_succ_of_lt lb⟩
  have fpB : BlkFp X pins fp := fun b hb => ⟨(f3 b hb).1.2.2.2.1, (f3 b hb).1.2.1, (f3 b hb).1.2.2.2.2.1, (f3 b hb).1.2.2.2.2.2⟩
  have st3 : tn 0 s3.heap := T.keep _ _ _ st2 fun b _ o e => by rw [h3]; exact Heap.get?_push_of_some _ e
  have I4 := block_start I3 ok hN f3
  have pg := hg s3 (upd H2 D (.lst [])) s3.heap.objs.size (cellsFrom (s3.heap.objs.size + 1) scope.names (cloFrom X.env.cells scope.names [])) fp
  have pe := he s3 (upd H2 D (.lst [])) s3.heap.objs.size (cellsFrom (s3.heap.objs.size + 1) scope.names (cloFrom X.env.cells scope.names [])) fp pins σ I3 fpB
  rw [← e3]
  show codeAny _ _ (.compStart (.ListComp elt [⟨tg, iter, [], 0⟩] scope pos) 0 (.ref it) (.ref D) (compEnvC scope (cellsFrom (s3.heap.objs.size + 1) scope.names (cloFrom X.env.cells scope.names [])) s3.heap.objs.size X.env)) _ { s3 with heap := pushCells (s3.heap.push { cls := .type "dict", data := .dict #[] }) scope.names }
  have n3 : ∀ b ∈ fp, (upd H2 D (.lst [])) b = none := fun b hb => (f3 b hb).1.1
  generalize hce : compEnvC scope (cellsFrom (s3.heap.objs.size + 1) scope.names (cloFrom X.env.cells scope.names [])) s3.heap.objs.size X.env = ce at I4 pg pe ⊢
  have cL : ce.locals = s3.heap.objs.size := by rw [← hce]; rfl
  generalize upd H2 D (.lst []) = H3 at I3 I4 pg pe w0 n3 f3
  generalize hs4 : ({ s3 with heap := pushCells (s3.heap.push { cls := .type "dict", data := .dict #[] }) scope.names } : Shared) = s4 at I4 ⊢
  have st4 : tn 0 s4.heap := T.keep _ _ _ st3 fun b _ o e => by rw [← hs4]; exact pushCells_keeps _ _ _ _ (Heap.get?_push_of_some _ e)
  -- the iterator's cells, in the block
  have own' : ∀ {σ' : L2.St} {H' : Hp} {s' : Shared}, Inv (X.blk s3 H3 scope ce fp) [] σ' H' s' → (∀ b ∈ fp, H' b = none) → ∀ b ∈ fp, FpOk (X.blk s3 H3 scope ce fp) [] H' b := fun {σ' H' s'} I' n b hb =>
    ⟨n b hb, (I'.ok.exf b hb).1, I'.ok.exfs b hb, .inl hb, (I'.ok.exf b hb).2, fun p hp => absurd hp List.not_mem_nil⟩
  suffices loop : codeAny (model X.prog X.w) X.A (.compLoop (.ListComp elt [⟨tg, iter, [], 0⟩] scope pos) 0 (.ref it) (.ref D) ce) (compPost (model X.prog X.w) X.A X.xe none (EP X pins σ Q) (.ref D) s3.heap.objs.size) s4 from codeAny_compStart_list loop (T.self X.A 0 _ _ _ st4 loop)
  refine compLoop_any (fun n s' => ∃ i H', Inv (X.blk s3 H3 scope ce fp) [] (wipe σ (own.map (·.2))) H' s' ∧ tn i s'.heap ∧ (∀ b ∈ fp, H' b = none) ∧ W i n H') ?_ m0 ⟨0, H3, I4, st4, n3, w0⟩
  rintro n s5 ⟨i, H5, I5, st5, n5, w5⟩
  rcases turn i n H5 w5 with ⟨stop, qq⟩ | ⟨go, Nx, hNx, step⟩
  · refine thnF (T.done (X.blk s3 H3 scope ce fp) rfl rfl rfl hc i [] s5 _ H5 (fun _ _ => False) I5 (own' I5 n5) st5 stop) fun r s6 ⟨hr, I6⟩ => ?_
    rw [hr]
    -- back in the def
    have I7 : Inv X pins σ H5 s6 := I3.call' (ch := fp) I6.os I6.base I6.hok I6.bare fpB
    obtain ⟨m, hn, _⟩ := I6.loc
    have z : H5 ce.locals = none := I6.free
    have hn : s6.heap.Ns ce.locals m := hn
    rw [cL] at hn z
    obtain ⟨f0, f1, f2, f3', f4, f5⟩ := I3.fpOk (H' := H5) (Nat.le_refl _) z
    exact ⟨m, hn, fun h'' sb => ⟨.ref D, H5, I7.turned (t' := s6.toks) (fun b o hb e => (sb.2 b hb).trans e) f0 f1 f3' f4 f5, rfl, qq⟩⟩
  · refine thnF (T.item (X.blk s3 H3 scope ce fp) rfl rfl rfl hc i [] s5 _ H5 (fun _ _ => False) I5 (own' I5 n5) st5 go) fun r s6 ⟨u, hr, h6⟩ => ?_
    rw [hr]
    refine thnF h6 fun _ s7 ⟨x, H7, I7, r7, y7, st7, n7⟩ => ?_
    refine thnF (pg.run _ s7 _ H7 x u _ (I7.pinned (own' I7 n7) (T.obj _ _ st7)) r7 (step x H7 y7)) fun _ s8 ⟨σ8, H8, I8, hw8, q8⟩ => wpAny_tests_nil ?_
    show wpAny _ _ _ _ _ _
    refine thnF (pe.run _ s8 σ8 H8 _ I8 q8) fun zv s10 ⟨yv, H10, I10, r10, acc, hD10, hz10, nx⟩ => app_ok (X := X.blk s3 H3 scope ce fp) I10 hD10 hz10 r10 fun s11 I11 => ?_
    obtain ⟨m', hm, w'⟩ := hNx _ nx
    have pin' : ∀ b ∈ fp, ∀ o, s7.heap.get? b = some o → s11.heap.get? b = some o ∧ (upd H10 D (.lst (acc ++ [yv]))) b = none := fun b hb o e => (I11.pin (b, o) (List.mem_append_right _ (List.mem_append_right _ (mem_pinsAt hb e)))).imp id And.left
    have hl : (wipe σ (own.map (·.2))).length = σ8.length := by rw [← hw8, wipe_length]
    refine ⟨m', hm, i + 1, _, (I11.unpinned (pins := [])).weak hl (fun j v e => (wipe_some (hw8 ▸ e)).1), T.keep _ _ _ st7 fun b hb o e => (pin' b hb o e).1, fun b hb => ?_, w'⟩
    obtain ⟨o, e, _⟩ := T.obj _ _ st7 b hb
    exact (pin' b hb o e).2
end
end LV

set_option maxHeartbeats 2000000
/-! Lists of ints, tuples of texts as data: alike, of bounded depth. -/
namespace DI
open PySem PySem.Spec PyProof.Rows L2
abbrev li (l : List Int) : PyData := .list (l.map PyData.int)
theorem eqvI : ∀ xs ys : List Int, PyData.eqvAll (xs.map PyData.int) (ys.map PyData.int) = decide (xs = ys)
  | [], [] => by simp [PyData.eqvAll]
  | [], _ :: _ => by simp [PyData.eqvAll]
  | _ :: _, [] => by simp [PyData.eqvAll]
  | x :: xs, y :: ys => by
    rw [List.map_cons, List.map_cons, PyData.eqvAll, PyData.eqv, eqvI xs ys]
    by_cases h : x = y <;> by_cases h2 : xs = ys <;> simp [h, h2]
theorem eqv_li (xs ys : List Int) : PyData.eqv (li xs) (li ys) = decide (xs = ys) := by
  rw [PyData.eqv]
  exact eqvI xs ys
theorem layI : ∀ l : List Int, PyData.canLayAll0 (l.map PyData.int) = true
  | [] => by simp [PyData.canLayAll0]
  | n :: r => by simp only [List.map_cons, PyData.canLayAll0, PyData.canLay0, layI r, Bool.and_self]
theorem depI : ∀ l : List Int, PyData.depthAll (l.map PyData.int) ≤ 1
  | [] => by simp [PyData.depthAll]
  | n :: r => by
    have := depI r
    simp only [List.map_cons, PyData.depthAll, PyData.depth]
    omega
theorem sh_li (l : List Int) : SeqAt.shaped (li l) = true := by
  unfold SeqAt.shaped
  have h := depI l
  have h2 : PyData.canLay0 (li l) = true := by
    rw [PyData.canLay0]
    exact layI l
  have h3 : PyData.depth (li l) ≤ 2 := by
    rw [PyData.depth]
    omega
  rw [h2, Bool.true_and]
  exact decide_eq_true (by omega)
theorem dpI {K : PySem.W.Frag} {H : Hp} : ∀ l : List Int, DpAll K H (l.map V.int) (l.map PyData.int)
  | [] => .nil
  | n :: r => .cons (.int n) (dpI r)
theorem dp_li {K : PySem.W.Frag} {H : Hp} {a : Addr} {l : List Int} (h : SqL K H a (l.map V.int)) : Dp K H (.ref a) (li l) := .lst h (dpI l)
end DI

set_option maxHeartbeats 2000000
namespace DI
open PySem PySem.Spec PyProof.Rows L2
theorem dep_li (l : List Int) : PyData.depth (li l) ≤ 2 := by
  have := depI l
  rw [PyData.depth]
  omega
theorem lay_li (l : List Int) : PyData.canLay0 (li l) = true := by
  rw [PyData.canLay0]
  exact layI l
abbrev lli (r : List (List Int)) : PyData := .list (r.map li)
theorem layL : ∀ r : List (List Int), PyData.canLayAll0 (r.map li) = true
  | [] => by simp [PyData.canLayAll0]
  | n :: r => by rw [List.map_cons, PyData.canLayAll0, lay_li n, layL r]; rfl
theorem depL : ∀ r : List (List Int), PyData.depthAll (r.map li) ≤ 2
  | [] => by simp [PyData.depthAll]
  | n :: r => by
    have h1 := depL r
    have h2 := dep_li n
    rw [List.map_cons, PyData.depthAll]
    omega
theorem sh_lli (r : List (List Int)) : SeqAt.shaped (lli r) = true := by
  unfold SeqAt.shaped
  have h := depL r
  rw [PyData.canLay0, PyData.depth, layL r, Bool.true_and]
  exact decide_eq_true (by omega)
theorem eqvL : ∀ xs ys : List (List Int), PyData.eqvAll (xs.map li) (ys.map li) = decide (xs = ys)
  | [], [] => by simp [PyData.eqvAll]
  | [], _ :: _ => by simp [PyData.eqvAll]
  | _ :: _, [] => by simp [PyData.eqvAll]
  | x :: xs, y :: ys => by
    rw [List.map_cons, List.map_cons, PyData.eqvAll, eqv_li, eqvL xs ys]
    by_cases h : x = y <;> by_cases h2 : xs = ys <;> simp [h, h2]
theorem eqv_lli (xs ys : List (List Int)) : PyData.eqv (lli xs) (lli ys) = decide (xs = ys) := by
  rw [PyData.eqv]
  exact eqvL xs ys
end DI

set_option maxHeartbeats 4000000
/-! The law. -/
namespace K32
open PySem PySem.Spec PyProof.Rows L2 LamX CX4
abbrev sTried : Stmt := topS 20
abbrev sLaw : Stmt := topS 25
theorem scTried : FnScope ["_law_ask", "e"] ["_law_ask"] (defScope sTried) := ⟨rfl, rfl, rfl, by decide +kernel, rfl, by decide +kernel, by decide +kernel⟩
abbrev nLaw : List Str := ["_law_script", "_law_bag_here", "_law_turn", "_law_many", "_law_colours9", "_law_handed", "_law_found", "_law_due", "_law_at", "_law_acts", "_law_bad", "_law_odd", "_law_row9", "_law_sign", "_law_act"]
theorem scLaw : FnScope nLaw ["_law_script"] (defScope sLaw) := ⟨rfl, rfl, rfl, by decide +kernel, rfl, by decide +kernel, by decide +kernel⟩
section
variable {P : Program} {w : World} {K : PySem.W.Frag} {mg : Str → Option Value} {base : Heap} {C D fI aS : Addr}
def swp {α : Type} : List α → List α → List α
  | [], [x, y] => [y, x]
  | _, _ => []
theorem vals2 {g : List V → List V → List V} {h : List Value → List Value → List Value} (h2 : ∀ {a b : V} {c d : Value}, RelV a c → RelV b d → Vals (g [] [a, b]) (h [] [c, d])) (n1 : ∀ vs zs, (vs ≠ [] ∨ zs.length ≠ 2) → g vs zs = []) (n2 : ∀ us ws, (us ≠ [] ∨ ws.length ≠ 2) → h us ws = []) {vs zs : List V} {us ws : List Value} (r1 : Vals vs us) (r2 : Vals zs ws) : Vals (g vs zs) (h us ws) := by
  cases r1 with
  | cons a b => rw [n1 _ _ (.inl (by simp)), n2 _ _ (.inl (by simp))]; exact .nil
  | nil => cases r2 with
    | nil => rw [n1 _ _ (.inr (by simp)), n2 _ _ (.inr (by simp))]; exact .nil
    | cons a b => cases b with
      | nil => rw [n1 _ _ (.inr (by simp)), n2 _ _ (.inr (by simp))]; exact .nil
      | cons a2 b2 => cases b2 with
        | nil => exact h2 a a2
        | cons _ _ => rw [n1 _ _ (.inr (by simp)), n2 _ _ (.inr (by simp))]; exact .nil
theorem swp_no {α : Type} : ∀ (vs zs : List α), (vs ≠ [] ∨ zs.length ≠ 2) → swp vs zs = []
  | [], [_, _], h => absurd h (by simp)
  | [], [], _ => rfl
  | [], [_], _ => rfl
  | [], _ :: _ :: _ :: _, _ => rfl
  | _ :: _, _, _ => rfl
theorem kb_cut {f : Addr} {fd : FuncData} (F : Fun K "suits_cut" "suits_cut" sCut f fd) : KBinds K fd ["row", "colours"] ["colours", "row"] swp swp := by
  obtain ⟨oc, od, kV, doc, pm, an, cdv, ct, osl, rfl, lk, hcd⟩ := F.ex
  refine ⟨fun s us ws _ hl => ?_, fun r1 r2 => vals2 (fun a b => .cons b (.cons a .nil)) swp_no swp_no r1 r2⟩
  match us, ws, hl with
  | [], [w1, w2], _ => exact .of_eq rfl
abbrev noV (c : Str) : List V := [.str "no", .str c]
theorem bag_ext {H H' : Hp} {b l : Addr} {ns : List Int} (B : BagAt l ns H b) (e : ExtN H H') : BagAt l ns H' b := by
  obtain ⟨i, bank, salt, c, hB, r⟩ := B.ex
  exact ⟨B.ne, e _ _ B.ls (fun ps z => by cases z), i, bank, salt, c, e _ _ hB (fun ps z => by cases z), r⟩
abbrev noT (c : Str) : PyData := .tuple [.str "no", .str c]
abbrev noD (c : Str) : PyData := .list [noT c, noT c]
theorem dp_no {H : Hp} {p : Addr} {c : Str} (h : H p = some (.tup (noV c))) : Dp K H (.ref p) (noT c) := .tup (SqT.of h) (.cons (.str _) (.cons (.str _) .nil))
theorem no_dp {H : Hp} {L p1 p2 : Addr} {c : Str} (hL : H L = some (.lst [.ref p1, .ref p2])) (h1 : H p1 = some (.tup (noV c))) (h2 : H p2 = some (.tup (noV c))) : Dp K H (.ref L) (noD c) :=
  .lst (SqL.of hL) (.cons (dp_no h1) (.cons (dp_no h2) .nil))
theorem tabs_but {T : List (Addr × Str)} {H H' : Hp} {b : Addr} {xs : List V} (t : Tabs T H) (hb : H b = some (.lst xs)) (k : ∀ c o, c ≠ b → H c = some o → H' c = some o) : Tabs T H' := fun p hp => by
  obtain ⟨ps, h1, h2, h3⟩ := t p hp
  refine ⟨ps, k _ _ (fun z => by rw [z, hb] at h1; cases h1) h1, h2, fun pos cv hc => ?_⟩
  obtain ⟨c, e, hco⟩ := h3 pos cv hc
  exact ⟨c, e, k _ _ (fun z => by rw [z, hb] at hco; cases hco) hco⟩
theorem tabs_off {T : List (Addr × Str)} {H : Hp} {b l : Addr} {ns : List Int} (t : Tabs T H) (B : BagAt l ns H b) {ys : List V} : Tabs T (upd H b (.lst ys)) := by
  obtain ⟨xs, hb⟩ := B.at
  exact tabs_but t hb fun c o hc e => by rw [upd_ne hc]; exact e
/-! ### words for the law -/
theorem ints_ne_bag {H : Hp} {A b l : Addr} {ns ms : List Int} (h : H A = some (.lst (ns.map V.int))) (B : BagAt l ms H b) : A ≠ b := fun z => by
  obtain ⟨i, bank, salt, c, hB, _⟩ := B.ex
  rw [z, hB] at h
  cases ns with
  | nil => cases h
  | cons n r => cases h
/-- where the law stands behind what is drawn -/
def Mid (Tb : List (Addr × Str)) (a b l : Addr) (ms : List Int) (σ : L2.St) (H : Hp) : Prop := ∃ (m : Nat) (A : Addr) (ns : List Int) (cs : List Nat) (x2 x5 x6 x7 x8 x9 x10 x11 x13 x14 : Option V),
  σ = [some (.ref a), some (.ref b), x2, some (.int m), some (.str (tx cs)), x5, x6, x7, x8, x9, x10, x11, some (.ref A), x13, x14] ∧ m ≤ 63 ∧ ns.length = m ∧ cs.length = m ∧ (∀ n ∈ ns, isD n) ∧ (∀ c ∈ cs, isC c = true) ∧
  H A = some (.lst (ns.map V.int)) ∧ BagAt l ms H b ∧ Tabs Tb H
theorem isD_S {n : Int} (h : isD n) : isS n = true := by
  rcases h with rfl | rfl | rfl <;> rfl
theorem all_S {ns : List Int} (h : ∀ n ∈ ns, isD n) : ns.all isS = true := List.all_eq_true.mpr fun n hn => isD_S (h n hn)
theorem isD_b {n : Int} (h : isD n) : -(2 ^ 64) < n ∧ n < 2 ^ 64 := by
  rcases h with rfl | rfl | rfl <;> decide
theorem iteF' {c : Bool} {A B : Prop} (hc : c = false) (h : B) : if c = true then A else B := if_f hc h
theorem sz {n : Nat} (h : n ≤ 1000) : n ≤ sizeLine := by
  rw [sizeLine_eq]
  omega
theorem szl {n : Nat} (h : n ≤ 1000) : n < sizeLine := by
  rw [sizeLine_eq]
  omega
theorem has_bls {H : Hp} {F : Addr} {bs : List Bool} (h : H F = some (.lst (bs.map V.bl))) (z : bs.length ≤ 1000000) : Has H 3 (.ref F) (.lst (bs.map Dt.bl)) := by
  refine .lst h (by simp) (by simpa using z) fun i x d h1 h2 => ?_
  rw [List.getElem?_map] at h1 h2
  cases e : bs[i]? with
  | none => rw [e] at h1; cases h1
  | some v =>
    rw [e] at h1 h2
    obtain rfl : V.bl v = x := Option.some.inj h1
    obtain rfl : Dt.bl v = d := Option.some.inj h2
    exact .bl v
theorem suit_eq {f g : Nat → List Int} (h : ∀ (n : Int) {c : Nat}, isC c = true → inV (.int n) ((f c).map V.int) = inV (.int n) ((g c).map V.int)) : ∀ (ns : List Int) (cs : List Nat), (∀ c ∈ cs, isC c = true) → suit f ns cs = suit g ns cs
  | [], _, _ => by simp [suit]
  | _ :: _, [], _ => by simp [suit]
  | n :: r, c :: s, hc => by
    have ih := suit_eq h r s fun x hx => hc x (List.mem_cons_of_mem _ hx)
    unfold suit at ih ⊢
    rw [List.zipWith_cons_cons, List.zipWith_cons_cons, ih, h n (hc c List.mem_cons_self)]
theorem cut_to (cs : List Nat) (k : Nat) : cutS (tx cs) none (some (k : Int)) = tx (cs.take k) := by
  unfold cutS
  rw [HT.sIx_none, HT.sIx_nat, List.drop_zero, Nat.sub_zero, tx_len]
  show (⟨_⟩ : Str) = ⟨_⟩
  congr 2
  show List.take (min k cs.length) cs = _
  by_cases h : k ≤ cs.length
  · rw [Nat.min_eq_left h]
  · rw [Nat.min_eq_right (by omega), List.take_of_length_le (Nat.le_refl _), List.take_of_length_le (by omega)]
theorem cut_from (cs : List Nat) (k : Nat) : cutS (tx cs) (some (k : Int)) none = tx (cs.drop k) := by
  unfold cutS
  rw [HT.sIx_none, HT.sIx_nat, tx_len]
  show (⟨_⟩ : Str) = ⟨_⟩
  congr 2
  show List.take (cs.length - min k cs.length) (List.drop (min k cs.length) cs) = _
  by_cases h : k ≤ cs.length
  · rw [Nat.min_eq_left h]
    exact List.take_of_length_le (by rw [List.length_drop]; exact Nat.le_refl _)
  · rw [Nat.min_eq_right (by omega), List.drop_of_length_le (Nat.le_refl _), List.drop_of_length_le (by omega), List.take_nil]
structure TL (K : PySem.W.Frag) (mg : Str → Option Value) (fB fP fO fS fQ fL fG fT fC fM fN D D2 : Addr) : Prop extends TS1 mg where
  gB : mg "_law_bag" = some (.ref fB)
  gP : mg "_law_pull" = some (.ref fP)
  gO : mg "_law_of" = some (.ref fO)
  gS : mg "_law_same" = some (.ref fS)
  gQ : mg "suits_ring" = some (.ref fQ)
  gL : mg "suits_cut" = some (.ref fL)
  gC : mg "_law_colours" = some (.ref fC)
  gM : mg "_law_ring_suits" = some (.ref fM)
  gN : mg "_law_cut_suits" = some (.ref fN)
  gG : mg "_law_signs_drawn" = some (.ref fG)
  gT : mg "_law_tried" = some (.ref fT)
  m1 : mg "CleaveError" = some (.ref D)
  m2 : mg "HouseError" = some (.ref D2)
def spLawT (Pt : Addr) (K : PySem.W.Frag) : Sp := fun vs H Q _ => ∃ (a : Addr) (ns : List Int), vs = [.ref a] ∧ SqL K H a (ns.map V.int) ∧ ns.length ≤ 63 ∧ H Pt = some (.tbl #[]) ∧ ∀ H', Q (.bl true) H'
theorem ok_law {f fB fP fO fS fQ fL fG fT fC fM fN D2 C2 c Pt : Addr} {dB dP dO dS dQ dL dG dT dC dM dN : FuncData} {nv2 : Value} {oc kV doc pm ct : Value} {od an : Option Addr} {osl : Array (Option Value)}
    (lk : K.lookup f = some ⟨oc, od, .func (PySem.W.fnOf "law" "law" (defArgs sLaw) (defBody sLaw) (defScope sLaw) .none kV doc pm an (.ref c) ct), osl⟩) (hcd : PySem.W.codeIn K (.ref c) "law" = true) (T : TL K mg fB fP fO fS fQ fL fG fT fC fM fN D D2) (TS : TxS P K mg C D fI aS)
    (hE : PySem.W.exmOne K (.ref C) (.ref D) = some true) (hE2 : PySem.W.exmOne K (.ref C2) (.ref D) = some true) (cT2 : PySem.CleX.ClsTxt K C2 D fI nv2) (TB : TabB base mg c Pt)
    (GB : FnOk P w K mg base CX0 1 fB dB ["_law_script"] (spBag K)) (kB : PySem.W.keepIn K (.ref fB) = true) (bB : Binds K dB ["_law_script"] [])
    (GP : FnOk P w K mg base CX0 1 fP dP ["_law_bag_here", "_law_many"] spPull) (kP : PySem.W.keepIn K (.ref fP) = true) (bP : Binds K dP ["_law_bag_here", "_law_many"] [])
    (GO : FnOk P w K mg base CX0 2 fO dO ["_law_bag_here", "_law_some"] (spOf K)) (kO : PySem.W.keepIn K (.ref fO) = true) (bO : Binds K dO ["_law_bag_here", "_law_some"] [])
    (GS : FnOk P w K mg base CX0 3 fS dS ["_law_found", "_law_due"] (spSame 3)) (kS : PySem.W.keepIn K (.ref fS) = true) (bS : Binds K dS ["_law_found", "_law_due"] [])
    (GOT : FnOk P w K mg base CX0 2 fO dO ["_law_bag_here", "_law_some"] spOfT)
    (GQ : FnOk P w K mg base (L2.CX P w) 5 fQ dQ ["row", "colours"] (spSuit K C C2 menR)) (kQ : PySem.W.keepIn K (.ref fQ) = true) (bQ : Binds K dQ ["row", "colours"] [])
    (GL : FnOk P w K mg base (L2.CX P w) 5 fL dL ["row", "colours"] (spSuit K C C2 menC)) (kL : PySem.W.keepIn K (.ref fL) = true) (bL : Binds K dL ["row", "colours"] []) (bLk : KBinds K dL ["row", "colours"] ["colours", "row"] swp swp)
    (GC : FnOk P w K mg base CX0 3 fC dC ["_law_bag_here", "_law_many"] spDC) (kC : PySem.W.keepIn K (.ref fC) = true) (bC : Binds K dC ["_law_bag_here", "_law_many"] [])
    (GM : FnOk P w K mg base CX0 1 fM dM ["_law_row9", "_law_colours9"] (spLaws lmR)) (kM : PySem.W.keepIn K (.ref fM) = true) (bM : Binds K dM ["_law_row9", "_law_colours9"] [])
    (GN : FnOk P w K mg base CX0 1 fN dN ["_law_row9", "_law_colours9"] (spLaws lmC)) (kN : PySem.W.keepIn K (.ref fN) = true) (bN : Binds K dN ["_law_row9", "_law_colours9"] [])
    (GG : FnOk P w K mg base CX0 3 fG dG ["_law_bag_here", "_law_many"] spDrawn) (kG : PySem.W.keepIn K (.ref fG) = true) (bG : Binds K dG ["_law_bag_here", "_law_many"] [])
    (FT : Fun K "_law_tried" "_law_tried" sTried fT dT) (bT : Binds K dT ["_law_ask"] []) : FnOk P w K mg base CX0 8 f (PySem.W.fnOf "law" "law" (defArgs sLaw) (defBody sLaw) (defScope sLaw) .none kV doc pm an (.ref c) ct) ["_law_script"] (spLawT Pt K) := by
  obtain ⟨nv, cT, rnv⟩ := TS.cT
  obtain ⟨oc2, od2, kV2, doc2, pm2, an2, cdv2, ct2, osl2, rfl, lkT, hcT⟩ := FT.ex
  refine fn_of lk hcd scLaw (fun vs H Q E ⟨a, ns, e, _⟩ => by rw [e]; rfl) (fun A outer s H vs Q E hr h => ?_)
  let X : Cx := (cxOf CX0 P w K mg base nLaw "law" (defScope sLaw) f (.ref c) A outer s H E).nox
  suffices hs : ∃ t, PSs X (defBody sLaw) t ∧ t { nx := fun _ H' => Q .non H', rt := Q } (L2.start nLaw vs) H from hs.elim fun t q => ⟨t, q.1.nox, q.2⟩
  let Tb : List (Addr × Str) := [(Pt, X.env.qual ++ "<lambda>")]
  have hm : (Pt, X.env.qual ++ "<lambda>") ∈ Tb := List.mem_cons_self
  have hu : ∀ p ∈ Tb, p.1 = Pt → p.2 = X.env.qual ++ "<lambda>" := fun p hp _ => by rw [List.mem_singleton.mp hp]
  have r1 : Room 1 X.A := hr.mono (by decide)
  have r2 : Room 2 X.A := hr.mono (by decide)
  have r3 : Room 3 X.A := hr.mono (by decide)
  have r5 : Room 5 X.A := hr.mono (by decide)
  have gv : ∀ q : Str, GivesTo X ["_law_ask", "e"] "_law_tried" (defScope sTried) fT cdv2 (defBody sTried) "_law_ask" q (TD.TT2 X.K D) := fun q => TD.told2 (X := X) rfl rfl rfl (by decide) T.m1 T.m2
  refine ⟨_, pss_cons (ps_set (i := 1) scLaw.nd rfl (Or.inr rfl) (pe_call GB r1 (by rfl) T.gB kB bB .nil pass0 (pa_cons (pv 0) pa_nil)))
    (pss_cons (ps_for PassesOwn.never rfl (pi_range1 (by rfl) T.range (pa_cons pe_int pa_nil)) (pg_name (i := 2) scLaw.nd rfl (Or.inl rfl))
      (pss_cons (ps_set (i := 3) scLaw.nd rfl (Or.inl rfl) (pe_call GO r2 (by rfl) T.gO kO bO .nil pass0 (pa_cons (pv 1) (pa_cons (pe_lst (pa_cons (pe_call GP r1 (by rfl) T.gP kP bP .nil pass0 (pa_cons (pv 1) (pa_cons pe_int pa_nil))) (pa_cons (pe_call GP r1 (by rfl) T.gP kP bP .nil pass0 (pa_cons (pv 1) (pa_cons pe_int pa_nil))) (pa_cons (pe_call GP r1 (by rfl) T.gP kP bP .nil pass0 (pa_cons (pv 1) (pa_cons pe_int pa_nil))) (pa_cons pe_int pa_nil))))) pa_nil))))
      (pss_cons (ps_set (i := 12) scLaw.nd rfl (Or.inr rfl) (pe_call GG r3 (by rfl) T.gG kG bG .nil pass0 (pa_cons (pv 1) (pa_cons (pv 3) pa_nil))))
      (pss_cons (ps_set (i := 4) scLaw.nd rfl (Or.inl rfl) (pe_call GC r3 (by rfl) T.gC kC bC .nil pass0 (pa_cons (pv 1) (pa_cons (pv 3) pa_nil))))
      (C8.pss_cut (ps_if (pt_cmpR op_eq (pe_call GP r1 (by rfl) T.gP kP bP .nil pass0 (pa_cons (pv 1) (pa_cons pe_int pa_nil))) pe_int (nomark _)) (pss_one (ps_set (i := 4) scLaw.nd rfl (Or.inl rfl) (pe_join pe_str (ZM.pe_bx (pe_lc (own := [("_law_sign", 13)]) (g := gName 13) (tt := tYes) rfl scLaw.nd (pi_list (pv 12)) (blkOk_by (N := nLaw) (sc := defScope sLaw) (by decide +kernel)) (fun _ _ _ _ _ => pg_name (i := 13) scLaw.nd rfl (Or.inl rfl)) (fun _ _ _ _ _ => pts_nil) (fun _ _ _ _ _ => pe_call GOT r2 (by rfl) T.gO kO bO .nil pass0 (pa_cons (pv 1) (pa_cons (pe_ix (r := rIx K) ix_seq (pe_lst (pa_cons pe_str (pa_cons pe_str (pa_cons pe_str pa_nil)))) (pe_op op_add (pv 13) pe_int) (fun _ _ => rfl)) pa_nil)))))))) pss_nil)
      (pss_cons (ps_set (i := 5) scLaw.nd rfl (Or.inl rfl) (pe_callTy call_list_of (by rfl) T.list (by decide +kernel) (pa_cons (pv 12) pa_nil)))
      (pss_cons (ps_set (i := 6) scLaw.nd rfl (Or.inl rfl) (pe_lst (pa_cons (pe_callS (E := WE fun _ _ _ _ => False) GQ r5 (by rfl) T.gQ kQ bQ (fun σ => passAt L2.takes0 σ) (pa_cons (pv 5) (pa_cons (pv 4) pa_nil))) (pa_cons (pe_callS (E := WE fun _ _ _ _ => False) GL r5 (by rfl) T.gL kL bL (fun σ => passAt L2.takes0 σ) (pa_cons (pv 5) (pa_cons (pv 4) pa_nil))) (pa_cons (pe_callKw GL r5 (by rfl) T.gL kL bLk (passes_call (E := fun _ _ _ => False) L2.takes0 (fun _ _ _ _ h => h)) (pk_cons (pv 4) (pk_cons (pe_callTy call_tuple_of (by rfl) T.tuple (by decide +kernel) (pa_cons (pv 12) pa_nil)) pk_nil))) pa_nil)))))
      (pss_cons (ps_set (i := 7) scLaw.nd rfl (Or.inl rfl) (pe_lst (pa_cons (pe_call GM r1 (by rfl) T.gM kM bM .nil pass0 (pa_cons (pv 12) (pa_cons (pv 4) pa_nil))) (pa_cons (pe_call GN r1 (by rfl) T.gN kN bN .nil pass0 (pa_cons (pv 12) (pa_cons (pv 4) pa_nil))) (pa_cons (pe_call GN r1 (by rfl) T.gN kN bN .nil pass0 (pa_cons (pv 12) (pa_cons (pv 4) pa_nil))) pa_nil)))))
      (pss_cons (ps_if (pt_not (pt_val (pe_call GS r3 (by rfl) T.gS kS bS .nil pass0 (pa_cons (pe_callS (E := WE fun _ _ _ _ => False) GQ r5 (by rfl) T.gQ kQ bQ (fun σ => passAt L2.takes0 σ) (pa_cons (pe_callTy call_tuple_of (by rfl) T.tuple (by decide +kernel) (pa_cons (pv 12) pa_nil)) (pa_cons (pv 4) pa_nil))) (pa_cons (pe_ix ix_list (pv 7) pe_int (fun _ _ => rfl)) pa_nil))))) (pss_one (ps_ret pe_bl)) pss_nil)
      (pss_cons (ps_if (PW.pt (pw_or (pt_not (pt_val (pe_call GS r3 (by rfl) T.gS kS bS .nil pass0 (pa_cons (pv 6) (pa_cons (pv 7) pa_nil))))) (pw_or1 (pt_cmpR (op_neD hr.units) (pv 5) (pv 12) (nomark _))))) (pss_one (ps_ret pe_bl)) pss_nil)
      (pss_cons (ps_set (i := 8) scLaw.nd rfl (Or.inl rfl) (pe_call GP r1 (by rfl) T.gP kP bP .nil pass0 (pa_cons (pv 1) (pa_cons (pe_op op_add (pv 3) pe_int) pa_nil))))
      (pss_cons (ps_set (i := 10) scLaw.nd rfl (Or.inr rfl) (pe_call GO r2 (by rfl) T.gO kO bO .nil pass0 (pa_cons (pv 1) (pa_cons (pe_lst (pa_cons (pe_op op_add_str (pv 4) pe_str) (pa_cons (pe_op op_add_str (pe_op op_add_str (pe_op op_add_str (pe_slice sl_str (pv 4) po_none (po_some (pv 8))) pe_str) (pe_slice sl_str (pv 4) (po_some (pe_op op_add (pv 8) pe_int)) po_none)) (pe_op op_mulS pe_str (pe_callTy call_int1 (by rfl) T.int (by first | rfl | boot_by_name) (pa_cons (pe_cmpR op_eq (pv 8) (pv 3) (nomark _)) pa_nil)))) (pa_cons (pe_op op_add_str (pv 4) pe_str) pa_nil)))) pa_nil))))
      (pss_cons (ps_set (i := 11) scLaw.nd rfl (Or.inr rfl) (pe_op op_cat (pe_op op_cat (pe_slice sl_list (pv 12) po_none (po_some (pv 8))) (pe_lst (pa_cons (pe_call GO r2 (by rfl) T.gO kO bO .nil pass0 (pa_cons (pv 1) (pa_cons (pe_lst (pa_cons pe_int (pa_cons (pe_un un_neg pe_int) pa_nil))) pa_nil))) pa_nil))) (pe_slice sl_list (pv 12) (po_some (pv 8)) po_none)))
      (pss_cons (ps_set (i := 9) scLaw.nd rfl (Or.inl rfl) (pe_lst (pa_cons (LV.pe_lamV (T := Tb) (P := Pt) (c := c) (k := 5) (tl := fun E => tCallS (spSuit K C C2 menR) (WE fun cls d _ H => E cls d H) (tCons (tVar 12) (tCons (tVar 10) tNil))) TB rfl hm hu (lamS_by (sc := defScope sLaw) (by decide +kernel)) rfl (fun _ _ _ _ => rfl) (fun A outer s H E f c' hr2 => pe_callS GQ hr2 rfl T.gQ kQ bQ (fun σ => passAt (takes_of rfl rfl rfl rfl) σ) (pa_cons (pv 12) (pa_cons (pv 10) pa_nil)))) (pa_cons (LV.pe_lamDV (T := Tb) (P := Pt) (c := c) (k := 5) (pn := "_law_a") (tl := fun E => tCallS (spSuit K C C2 menC) (WE fun cls d _ H => E cls d H) (tCons (tVar 12) (tCons (tVar 10) tNil))) TB rfl hm hu (LD.lamD_by (sc := defScope sLaw) (by decide +kernel)) rfl rfl (fun _ _ _ _ _ => ⟨_, rfl, fun _ => rfl⟩) (fun A outer s H E f c' hr2 => pe_callS GL hr2 rfl T.gL kL bL (fun σ => passAt (takes_of rfl rfl rfl rfl) σ) (pa_cons (pv 12) (pa_cons (pv 10) pa_nil)))) pa_nil))))
      (pss_cons (ps_if (pt_cmpR (op_neD hr.units) (ZM.pe_bx (LV.pe_lcV (own := [("_law_act", 14)]) (g := gName 14) (te := fun σ => LV.tVcall X 5 (TD.TT2 X.K D) 14 σ) rfl scLaw.nd (pi_list (pv 9)) (blkOk_by (N := nLaw) (sc := defScope sLaw) (by decide +kernel)) (fun _ _ _ _ _ => pg_name (i := 14) scLaw.nd rfl (Or.inl rfl)) (fun s H C cl fp pins σ I3 hb => LV.pe_vcall I3 hb (by rfl) T.gT FT.kp lkT hcT bT scTried rfl (Or.inl rfl) (gv _) hr rfl (Or.inl rfl)))) (pe_op op_rep (pe_lst (pa_cons (pe_tup (pa_cons pe_str (pa_cons pe_str pa_nil))) pa_nil)) pe_int) (nomark _)) (pss_one (ps_ret pe_bl)) pss_nil)
      (pss_cons (ps_set (i := 9) scLaw.nd rfl (Or.inl rfl) (pe_lst (pa_cons (LV.pe_lamV (T := Tb) (P := Pt) (c := c) (k := 5) (tl := fun E => tCallS (spSuit K C C2 menR) (WE fun cls d _ H => E cls d H) (tCons (tVar 11) (tCons (tVar 10) tNil))) TB rfl hm hu (lamS_by (sc := defScope sLaw) (by decide +kernel)) rfl (fun _ _ _ _ => rfl) (fun A outer s H E f c' hr2 => pe_callS GQ hr2 rfl T.gQ kQ bQ (fun σ => passAt (takes_of rfl rfl rfl rfl) σ) (pa_cons (pv 11) (pa_cons (pv 10) pa_nil)))) (pa_cons (LV.pe_lamDV (T := Tb) (P := Pt) (c := c) (k := 5) (pn := "_law_a") (tl := fun E => tCallS (spSuit K C C2 menC) (WE fun cls d _ H => E cls d H) (tCons (tVar 11) (tCons (tVar 10) tNil))) TB rfl hm hu (LD.lamD_by (sc := defScope sLaw) (by decide +kernel)) rfl rfl (fun _ _ _ _ _ => ⟨_, rfl, fun _ => rfl⟩) (fun A outer s H E f c' hr2 => pe_callS GL hr2 rfl T.gL kL bL (fun σ => passAt (takes_of rfl rfl rfl rfl) σ) (pa_cons (pv 11) (pa_cons (pv 10) pa_nil)))) pa_nil))))
      (pss_one (ps_if (pt_cmpR (op_neD hr.units) (ZM.pe_bx (LV.pe_lcV (own := [("_law_act", 14)]) (g := gName 14) (te := fun σ => LV.tVcall X 5 (TD.TT2 X.K D) 14 σ) rfl scLaw.nd (pi_list (pv 9)) (blkOk_by (N := nLaw) (sc := defScope sLaw) (by decide +kernel)) (fun _ _ _ _ _ => pg_name (i := 14) scLaw.nd rfl (Or.inl rfl)) (fun s H C cl fp pins σ I3 hb => LV.pe_vcall I3 hb (by rfl) T.gT FT.kp lkT hcT bT scTried rfl (Or.inl rfl) (gv _) hr rfl (Or.inl rfl)))) (pe_op op_rep (pe_lst (pa_cons (pe_tup (pa_cons pe_str (pa_cons pe_str pa_nil))) pa_nil)) pe_int) (nomark _)) (pss_one (ps_ret pe_bl)) pss_nil))))))))))))))))))
    (pss_one (ps_ret (pe_call GS r3 (by rfl) T.gS kS bS .nil pass0 (pa_cons (pe_lst (pa_cons (pe_callS (E := WE fun _ _ _ _ => False) GQ r5 (by rfl) T.gQ kQ bQ (fun σ => passAt L2.takes0 σ) (pa_cons (pe_tup (pa_cons pe_int (pa_cons (pe_un un_neg pe_int) pa_nil))) (pa_cons pe_str pa_nil))) (pa_cons (pe_callS (E := WE fun _ _ _ _ => False) GQ r5 (by rfl) T.gQ kQ bQ (fun σ => passAt L2.takes0 σ) (pa_cons (pe_tup (pa_cons pe_int (pa_cons pe_int pa_nil))) (pa_cons pe_str pa_nil))) (pa_cons (pe_callS (E := WE fun _ _ _ _ => False) GL r5 (by rfl) T.gL kL bL (fun σ => passAt L2.takes0 σ) (pa_cons (pe_tup pa_nil) (pa_cons pe_str pa_nil))) pa_nil)))) (pa_cons (pe_lst (pa_cons pe_bl (pa_cons pe_bl (pa_cons pe_bl pa_nil)))) pa_nil)))))), ?_⟩
  obtain ⟨a, ns0, rfl, hS, hlen, hPt, q⟩ := h
  refine ⟨_, rfl, a, ns0, rfl, hS, fun H1 l b ms s1 nl nb B => ?_⟩
  have T1 : Tabs Tb H1 := fun p hp => by rw [List.mem_singleton.mp hp]; exact TabS.nil (s1 _ _ hPt)
  refine ⟨14, rfl, by decide, by decide, for_range (lo := 0) (n := 14) (fun i σ H' => ∃ x2 x3 x4 x5 x6 x7 x8 x9 x10 x11 x12 x13 x14, σ = [some (.ref a), some (.ref b), x2, x3, x4, x5, x6, x7, x8, x9, x10, x11, x12, x13, x14] ∧ BagAt l ms H' b ∧ Tabs Tb H') ⟨none, none, none, none, none, none, none, none, none, none, none, none, none, rfl, B, T1⟩ ?_ ?_⟩
  · clear B s1
    rintro i σ H2 hi ⟨x2, x3, x4, x5, x6, x7, x8, x9, x10, x11, x12, x13, x14, rfl, B, T2⟩
    refine ⟨_, rfl, _, rfl, b, l, 9, ms, rfl, by decide, by decide, B, fun r1' ys1 h10 h19 B1 => ?_⟩
    refine ⟨_, rfl, b, l, 9, ms, rfl, by decide, by decide, B1, fun r2' ys2 h20 h29 B2 => ?_⟩
    refine ⟨_, rfl, b, l, 9, ms, rfl, by decide, by decide, B2, fun r3' ys3 h30 h39 B3 => ?_⟩
    refine ⟨sz (by show 4 ≤ 1000; decide), fun p np => ?_⟩
    have T3 := (tabs_off (tabs_off (tabs_off T2 B (ys := ys1)) B1 (ys := ys2)) B2 (ys := ys3)).ext (same_new (o := .lst [.int r1', .int r2', .int r3', .int 63]) np)
    obtain ⟨bx, hb⟩ := B3.at
    have pb : p ≠ b := fun z => by rw [z, hb] at np; cases np
    have B3' := B3.new (o := .lst [.int r1', .int r2', .int r3', .int 63]) np
    refine ⟨b, l, p, ms, _, rfl, B3', upd_same, pb, (by show 0 < 4; decide), (by show 4 < 1073741824; decide), fun v zs hv B4 => ?_⟩
    have T4 := tabs_off T3 B3' (ys := zs)
    obtain ⟨m, rfl, hm63⟩ : ∃ m : Nat, v = .int m ∧ m ≤ 63 := by
      simp only [List.mem_cons, List.not_mem_nil, or_false] at hv
      rcases hv with e | e | e | e
      · exact ⟨r1'.toNat, by rw [e, Int.toNat_of_nonneg h10], by omega⟩
      · exact ⟨r2'.toNat, by rw [e, Int.toNat_of_nonneg h20], by omega⟩
      · exact ⟨r3'.toNat, by rw [e, Int.toNat_of_nonneg h30], by omega⟩
      · exact ⟨63, e, by omega⟩
    refine ⟨_, rfl, _, rfl, b, l, m, ms, rfl, by omega, B4, fun A1 ns H3 hn1 hd1 nA1 hA1 B5 bu1 => ?_⟩
    refine ⟨_, rfl, _, rfl, b, l, m, ms, rfl, by omega, B5, fun cs H4 hc1 hcs B6 bu2 => ?_⟩
    obtain ⟨by4, hb4⟩ := B4.at
    obtain ⟨by5, hb5⟩ := B5.at
    have T5 := tabs_but (tabs_but T4 hb4 bu1) hb5 bu2
    have hA1' := bu2 _ _ (ints_ne_bag hA1 B5) hA1
    clear T2 T3 T4 B B1 B2 B3 B3' B4 B5 bu1 bu2 hb hb4 hb5 hA1 nA1
    refine ⟨Mid Tb a b l ms, ?_, ?_⟩
    · refine ⟨_, rfl, b, l, 2, ms, rfl, by decide, by decide, B6, fun r zs4 r0 r4 B8 => ?_⟩
      have T6 := tabs_off T5 B6 (ys := zs4)
      have n1 := ints_ne_bag hA1' B6
      have g1 : (upd _ b (.lst zs4)) A1 = _ := (upd_ne n1).trans hA1'
      refine ⟨rfl, _, rfl, ite2 (fun _ => ?_) (fun _ => ⟨m, A1, ns, cs, _, _, _, _, _, _, _, _, _, _, rfl, hm63, hn1, hc1, hd1, hcs, g1, B8, T6⟩)⟩
      generalize hH5 : upd _ b (.lst zs4) = H5 at g1 B8 T6 ⊢
      refine ⟨⟨_, rfl⟩, ?_⟩
      refine ZM.own_lst (a := A1) (xs := ns.map V.int) (fun D i H' => ∃ ks : List Nat, ks.length = i ∧ (∀ c ∈ ks, isC c = true) ∧ H' D = some (.lst (ks.map fun c => V.str ⟨#[c]⟩)) ∧ BagAt l ms H' b ∧ But b H5 H') (fun R r => ⟨_, rfl, r⟩) (SqL.of g1)
        (fun D i H' _ ⟨_, _, _, _, _, bu⟩ => SqL.of (bu _ _ n1 g1)) (fun _ => rfl) (fun D nD => ⟨[], rfl, by simp, upd_same, B8.new nD, .new nD⟩) ?_ ?_
      · rintro D i x H6 nD hx ⟨ks, hl, hz, hD, B9, bu⟩
        obtain ⟨v, rfl, hv⟩ := get_ints hx
        have hiL := (List.getElem?_eq_some_iff.mp hv).1
        obtain ⟨by8, hb8⟩ := B8.at
        have Db : D ≠ b := fun z => by rw [z, hb8] at nD; cases nD
        have Dl : D ≠ l := fun z => by rw [z, B8.ls] at nD; cases nD
        refine ⟨_, rfl, sz (by show 3 ≤ 1000; decide), fun p np => ?_⟩
        have pD : D ≠ p := fun z => by rw [← z, hD] at np; cases np
        have menu : ∃ mn : List Nat, atI [V.str "-*-", V.str "0+-", V.str "+*+"] (v + 1) = some (V.str (tx mn)) ∧ (0 < mn.length ∧ mn.length ≤ 1000) ∧ ∀ c ∈ mn, isC c = true := by
          rcases hd1 v (List.mem_of_getElem? hv) with rfl | rfl | rfl
          · exact ⟨[45, 42, 45], rfl, by decide, by decide⟩
          · exact ⟨[48, 43, 45], rfl, by decide, by decide⟩
          · exact ⟨[43, 42, 43], rfl, by decide, by decide⟩
        obtain ⟨mn, hmn, m0, mc⟩ := menu
        refine ⟨_, rfl, _, _, rfl, rfl, .inl ⟨p, _, _, .str (tx mn), rfl, rfl, SqL.of upd_same, hmn, ?_⟩⟩
        refine ⟨b, l, ms, mn, rfl, B9.new np, m0.1, m0.2, fun c ys hc B10 => ?_⟩
        refine ⟨ks.map fun c => V.str ⟨#[c]⟩, by rw [upd_ne Db, upd_ne pD]; exact hD, szl (by rw [List.length_map]; omega), ks ++ [c], by simp [hl], fun x hx => ?_, by rw [upd_same, List.map_append]; rfl, B10.off Db Dl, ((bu.trans (.new np)).trans .bag).at nD⟩
        rcases List.mem_append.mp hx with h | h
        · exact hz x h
        · rw [List.mem_singleton.mp h]; exact mc c hc
      · rintro D H6 nD ⟨ks, hl, hz, hD, B9, bu⟩
        obtain ⟨by8, hb8⟩ := B8.at
        refine ⟨_, D, ks.map fun c => ⟨#[c]⟩, rfl, rfl, .inl (SqL.of (by rw [hD, List.map_map]; rfl)), ?_, ?_⟩
        · rw [sum_ones, List.length_map]
          show ks.length + ks.length * 0 ≤ _
          rw [List.length_map] at hl
          omega
        · rw [TL.join_eq, show (Str.ofString "") = Str.empty from rfl, join_tx]
          exact ⟨m, A1, ns, ks, _, _, _, _, _, _, _, _, _, _, rfl, hm63, hn1, by rw [hl, List.length_map, hn1], hd1, hz, bu _ _ n1 g1, B9, tabs_but T6 hb8 bu⟩
    · clear T5 B6 hA1' hn1 hc1 hd1 hcs
      rintro σ' H5 ⟨m, A1, ns, cs, x2, x5, x6, x7, x8, x9, x10, x11, x13, x14, rfl, hm63, hn1, hc1, hd1, hcs, hA1, B, T5⟩
      have aS := all_S hd1
      have aC : cs.all isC = true := List.all_eq_true.mpr hcs
      have cx : ∀ c ∈ cs, isCx c = true := fun c hc => by unfold isCx; rw [hcs c hc]; rfl
      have eR := suit_eq lmR_eq ns cs hcs
      have eC := suit_eq lmC_eq ns cs hcs
      generalize hvR : (suit menR ns cs).all id = vR
      generalize hvC : (suit menC ns cs).all id = vC
      -- handed, found, due
      refine ⟨_, rfl, A1, _, rfl, .inl (SqL.of hA1), fun h1 nh1 => ?_⟩
      have s1 := same_new (o := .lst (ns.map V.int)) nh1
      have gh1 := upd_same (H := H5) (a := h1) (o := .lst (ns.map V.int))
      refine ⟨_, rfl, _, rfl, h1, ns, cs, rfl, .inl (SqL.of gh1), by omega, by omega, cx, fun c => absurd aS c, fun _ c => absurd ⟨by omega, aC⟩ c, fun _ _ _ H6 s6 => ?_⟩
      rw [hvR]
      refine ⟨_, rfl, _, rfl, h1, ns, cs, rfl, .inl (SqL.of (s6 _ _ gh1)), by omega, by omega, cx, fun c => absurd aS c, fun _ c => absurd ⟨by omega, aC⟩ c, fun _ _ _ H7 s7 => ?_⟩
      rw [hvC]
      have s57 := s1.trans (s6.trans s7)
      refine ⟨_, rfl, _, rfl, A1, _, rfl, .inl ⟨SqL.of (s57 _ _ hA1), fun t nt => ?_⟩⟩
      have s8 := same_new (o := .tup (ns.map V.int)) nt
      refine ⟨t, ns, cs, rfl, .inr (SqT.of upd_same), by omega, by omega, cx, fun c => absurd aS c, fun _ c => absurd ⟨by omega, aC⟩ c, fun _ _ _ H9 s9 => ?_⟩
      rw [hvC]
      refine ⟨sz (by show 3 ≤ 1000; decide), fun fnd nfnd => ?_⟩
      have s10 := same_new (o := .lst [.bl vR, .bl vC, .bl vC]) nfnd
      have s5_10 := s57.trans (s8.trans (s9.trans s10))
      have gf := upd_same (H := H9) (a := fnd) (o := .lst [.bl vR, .bl vC, .bl vC])
      have hA10 := s5_10 _ _ hA1
      refine ⟨_, rfl, _, rfl, A1, ns, cs, rfl, hA10, by omega, by omega, hcs, fun H11 s11 => ?_⟩
      rw [eR, hvR]
      refine ⟨_, rfl, _, rfl, A1, ns, cs, rfl, s11 _ _ hA10, by omega, by omega, hcs, fun H12 s12 => ?_⟩
      rw [eC, hvC]
      refine ⟨_, rfl, _, rfl, A1, ns, cs, rfl, s12 _ _ (s11 _ _ hA10), by omega, by omega, hcs, fun H13 s13 => ?_⟩
      rw [eC, hvC]
      refine ⟨sz (by show 3 ≤ 1000; decide), fun du ndu => ?_⟩
      have s14 := same_new (o := .lst [.bl vR, .bl vC, .bl vC]) ndu
      have gdu := upd_same (H := H13) (a := du) (o := .lst [.bl vR, .bl vC, .bl vC])
      have sF := s11.trans (s12.trans (s13.trans s14))
      -- told of a tuple
      refine ⟨_, rfl, A1, _, rfl, .inl ⟨SqL.of (sF _ _ hA10), fun t2 nt2 => ?_⟩⟩
      have s15 := same_new (o := .tup (ns.map V.int)) nt2
      refine ⟨_, rfl, t2, ns, cs, rfl, .inr (SqT.of upd_same), by omega, by omega, cx, fun c => absurd aS c, fun _ c => absurd ⟨by omega, aC⟩ c, fun _ _ _ H16 s16 => ?_⟩
      rw [hvR]
      refine ⟨_, rfl, du, _, 0, _, rfl, rfl, SqL.of (s16 _ _ (s15 _ _ gdu)), rfl, ?_⟩
      refine ⟨.bl vR, .bl vR, .bl vR, rfl, .bl vR, .bl vR, fun H17 s17 => ⟨true, rfl, if_f rfl ?_⟩⟩
      have sG := s15.trans (s16.trans s17)
      have gf' := sG _ _ (sF _ _ gf)
      have gdu' := sG _ _ gdu
      refine ⟨_, rfl, _, rfl, .ref fnd, .ref du, .lst ([vR, vC, vC].map Dt.bl), rfl, has_bls (bs := [vR, vC, vC]) gf' (by show 3 ≤ 1000000; omega), has_bls (bs := [vR, vC, vC]) gdu' (by show 3 ≤ 1000000; omega), fun H18 s18 => ⟨true, rfl, iteF ?_⟩⟩
      have sH := s5_10.trans (sF.trans (sG.trans s18))
      have gh1' := s18 _ _ (sG _ _ (sF _ _ (s10 _ _ (s9 _ _ (s8 _ _ (s7 _ _ (s6 _ _ gh1)))))))
      refine ⟨_, rfl, _, rfl, DI.li ns, DI.li ns, DI.dp_li (SqL.of gh1'), DI.dp_li (SqL.of (sH _ _ hA1)), DI.sh_li _, DI.sh_li _, _, rfl, iteF' (by rw [DI.eqv_li]; simp) ?_⟩
      have hA1 := sH _ _ hA1
      have B := B.same sH
      have T5 := T5.ext sH
      clear s1 s6 s7 s57 s8 s9 s10 s5_10 s11 s12 s13 s14 sF s15 s16 s17 sG s18 sH gh1 gh1' gf gf' gdu gdu' hA10 nh1 nt nfnd ndu nt2
      -- where, and bent colours
      refine ⟨_, rfl, _, rfl, _, _, rfl, rfl, b, l, _, ms, rfl, by omega, by omega, B, fun r zs4 r0 r4 B8 => ?_⟩
      have T6 := tabs_off T5 B (ys := zs4)
      have hA2 := (upd_ne (o := .lst zs4) (ints_ne_bag hA1 B)).trans hA1
      generalize upd H18 b (.lst zs4) = H19 at B8 T6 hA2 ⊢
      obtain ⟨k, rfl⟩ := Int.eq_ofNat_of_zero_le r0
      have hk : k ≤ m := by omega
      have zc : (tx cs).length ≤ sizeLine := by rw [tx_len]; exact sz (by omega)
      have fit : ∀ (u v : List Nat), u.length ≤ 300 → v.length ≤ 300 → (tx u).length + (tx v).length ≤ sizeLine := fun u v h1 h2 => by rw [tx_len, tx_len]; exact sz (by omega)
      have lt : (cs.take k).length ≤ 63 := by rw [List.length_take]; omega
      have ld : (cs.drop (k + 1)).length ≤ 63 := by rw [List.length_drop]; omega
      refine ⟨_, rfl, _, rfl, _, _, rfl, rfl, fit cs [43] (by omega) (by decide), ?_⟩
      refine ⟨_, rfl, _, rfl, _, rfl, _, rfl, zc, ?_⟩
      rw [cut_to]
      refine ⟨_, _, rfl, rfl, fit (cs.take k) [120] (by omega) (by decide), ?_⟩
      refine ⟨_, rfl, _, rfl, _, _, rfl, rfl, _, rfl, _, rfl, zc, ?_⟩
      rw [show ((k : Int) + 1) = ((k + 1 : Nat) : Int) by omega, cut_from]
      have fitx : ∀ (u v : List Nat) (x y : Str), x = tx u → y = tx v → u.length ≤ 300 → v.length ≤ 300 → x.length + y.length ≤ sizeLine := fun u v x y hx hy h1 h2 => by rw [hx, hy]; exact fit u v h1 h2
      have t1 : tx (cs.take k) ++ (Str.ofString "x") = tx (cs.take k ++ [120]) := tx_app (cs.take k) [120]
      have t2 : tx (cs.take k) ++ (Str.ofString "x") ++ tx (cs.drop (k + 1)) = tx (cs.take k ++ [120] ++ cs.drop (k + 1)) := by rw [t1, tx_app]
      refine ⟨_, _, rfl, rfl, fitx _ _ _ _ t1 rfl (by rw [List.length_append]; show _ + 1 ≤ 300; omega) (by omega), ?_⟩
      refine ⟨_, rfl, _, rfl, rfl, .inr ⟨_, rfl, ?_⟩⟩
      obtain ⟨w, hw, hw2⟩ : ∃ w : List Nat, (if (if decide (V.int (k : Int) = V.int (m : Int)) = true then (1 : Int) else 0) = 1 then (Str.ofString "x") else Str.empty) = tx w ∧ (w = [120] ∨ w = []) := by
        by_cases e : decide (V.int (k : Int) = V.int (m : Int)) = true
        · exact ⟨[120], by rw [if_pos e, if_pos rfl]; rfl, .inl rfl⟩
        · exact ⟨[], by rw [if_neg e, if_neg (by decide)]; rfl, .inr rfl⟩
      have lw : w.length ≤ 1 := by
        rcases hw2 with e | e <;> rw [e] <;> decide
      have xw : ∀ c ∈ w, c = 120 := fun c hc => by
        rcases hw2 with e | e
        · rw [e] at hc; exact List.mem_singleton.mp hc
        · rw [e] at hc; cases hc
      refine ⟨_, _, rfl, rfl, by split <;> simp, ?_⟩
      rw [hw]
      have l2 : (cs.take k ++ [120] ++ cs.drop (k + 1)).length ≤ 200 := by
        rw [List.length_append, List.length_append]
        show _ + 1 + _ ≤ 200
        omega
      refine ⟨_, _, rfl, rfl, fitx _ _ _ _ t2 rfl (by omega) (by omega), ?_⟩
      rw [t2, tx_app (cs.take k ++ [120] ++ cs.drop (k + 1)) w]
      refine ⟨_, rfl, _, _, rfl, rfl, fit cs [48] (by omega) (by decide), ?_⟩
      refine ⟨sz (by show 3 ≤ 1000; decide), fun pl npl => ?_⟩
      have s20 := same_new (o := .lst [.str (tx cs ++ "+"), .str (tx (cs.take k ++ [120] ++ cs.drop (k + 1) ++ w)), .str (tx cs ++ "0")]) npl
      have B9 := B8.same s20
      have plb : pl ≠ b := fun z => by
        obtain ⟨by2, hb2⟩ := B8.at
        rw [z, hb2] at npl
        cases npl
      have hA3 := s20 _ _ hA2
      refine ⟨b, l, pl, ms, _, rfl, B9, upd_same, plb, (by show 0 < 3; decide), (by show 3 < 1073741824; decide), fun v zs hv B10 => ?_⟩
      have T7 := tabs_off (T6.ext s20) B9 (ys := zs)
      obtain ⟨bs, rfl, bx, nob, zb⟩ : ∃ bs : List Nat, v = .str (tx bs) ∧ (∀ c ∈ bs, isCx c = true) ∧ ¬ (bs.length = ns.length ∧ bs.all isC = true) ∧ bs.length ≤ 300 := by
        simp only [List.mem_cons, List.not_mem_nil, or_false] at hv
        have app1 : ∀ c0 : Nat, isC c0 = true → (∀ c ∈ cs ++ [c0], isCx c = true) ∧ ¬ ((cs ++ [c0]).length = ns.length ∧ (cs ++ [c0]).all isC = true) ∧ (cs ++ [c0]).length ≤ 300 := fun c0 h0 => by
          refine ⟨fun c hc => ?_, fun z => ?_, by rw [List.length_append]; show _ + 1 ≤ 300; omega⟩
          · rcases List.mem_append.mp hc with h | h
            · exact cx c h
            · rw [List.mem_singleton.mp h]; unfold isCx; rw [h0]; rfl
          · have := z.1
            rw [List.length_append] at this
            have e1 : [c0].length = 1 := rfl
            omega
        rcases hv with e | e | e
        · exact ⟨cs ++ [43], by rw [e]; exact congrArg V.str (tx_app cs [43]), app1 43 rfl⟩
        · refine ⟨_, e, fun c hc => ?_, fun z => ?_, by rw [List.length_append]; omega⟩
          · rcases List.mem_append.mp hc with h | h
            · rcases List.mem_append.mp h with h | h
              · rcases List.mem_append.mp h with h | h
                · exact cx c (List.mem_of_mem_take h)
                · rw [List.mem_singleton.mp h]; rfl
              · exact cx c (List.mem_of_mem_drop h)
            · rw [xw c h]; rfl
          · have := List.all_eq_true.mp z.2 120 (List.mem_append_left _ (List.mem_append_left _ (List.mem_append_right _ (List.mem_singleton.mpr rfl))))
            cases this
        · exact ⟨cs ++ [48], by rw [e]; exact congrArg V.str (tx_app cs [48]), app1 48 rfl⟩
      have hA4 := (upd_ne (o := .lst zs) (ints_ne_bag hA3 B9)).trans hA3
      generalize upd (upd H19 pl (.lst [.str (tx cs ++ "+"), .str (tx (cs.take k ++ [120] ++ cs.drop (k + 1) ++ w)), .str (tx cs ++ "0")])) b (.lst zs) = H20 at B10 T7 hA4 ⊢
      clear T6 hA2 hA3 B8 B9 s20 npl plb B T5
      -- a bent row
      refine ⟨_, rfl, _, rfl, _, rfl, A1, _, rfl, SqL.of hA4, fun q1 nq1 => ?_⟩
      rw [cutTo]
      have s21 := same_new (o := .lst ((ns.map V.int).take k)) nq1
      have B11 := B10.same s21
      have gq1 := upd_same (H := H20) (a := q1) (o := .lst ((ns.map V.int).take k))
      refine ⟨_, rfl, _, rfl, sz (by show 2 ≤ 1000; decide), fun p2 np2 => ?_⟩
      have s22 := same_new (o := .lst [.int 2, .int (-2)]) np2
      have B12 := B11.same s22
      have p2b : p2 ≠ b := fun z => by
        obtain ⟨by2, hb2⟩ := B11.at
        rw [z, hb2] at np2
        cases np2
      refine ⟨b, l, p2, ms, _, rfl, B12, upd_same, p2b, (by show 0 < 2; decide), (by show 2 < 1073741824; decide), fun v2 zs2 hv2 B13 => ?_⟩
      have T8 := tabs_off ((T7.ext s21).ext s22) B12 (ys := zs2)
      obtain ⟨y, rfl, hy⟩ : ∃ y : Int, v2 = .int y ∧ isS y = false := by
        simp only [List.mem_cons, List.not_mem_nil, or_false] at hv2
        rcases hv2 with e | e
        · exact ⟨2, e, rfl⟩
        · exact ⟨-2, e, rfl⟩
      have gq2 := s22 _ _ gq1
      have hA5 := s22 _ _ (s21 _ _ hA4)
      have gq3 := (upd_ne (o := .lst zs2) (ints_ne_bag (ns := ns.take k) (by rw [gq2, List.map_take]) B12)).trans gq2
      have hA6 := (upd_ne (o := .lst zs2) (ints_ne_bag hA5 B12)).trans hA5
      generalize upd (upd (upd H20 q1 (.lst ((ns.map V.int).take k))) p2 (.lst [.int 2, .int (-2)])) b (.lst zs2) = H23 at B13 T8 gq3 hA6 ⊢
      clear T7 B10 B11 B12 s21 s22 gq1 gq2 hA4 hA5 nq1 np2 p2b
      have l63 : (ns.map V.int).length ≤ 63 := by rw [List.length_map]; omega
      refine ⟨sz (by show 1 ≤ 1000; decide), fun q2 nq2 => ⟨q1, q2, _, _, rfl, rfl, same_new nq2 _ _ gq3, upd_same, sz (by rw [List.length_take]; show _ + 1 ≤ 1000; omega), fun q3 nq3 => ?_⟩⟩
      have s24 := (same_new (o := .lst [.int y]) nq2).trans (same_new (o := .lst ((ns.map V.int).take k ++ [.int y])) nq3)
      have gq4 := upd_same (H := upd H23 q2 (.lst [.int y])) (a := q3) (o := .lst ((ns.map V.int).take k ++ [.int y]))
      refine ⟨_, rfl, _, rfl, _, rfl, A1, _, rfl, SqL.of (s24 _ _ hA6), fun q4 nq4 => ?_⟩
      rw [cutFrom]
      have s25 := same_new (o := .lst ((ns.map V.int).drop k)) nq4
      refine ⟨q3, q4, _, _, rfl, rfl, s25 _ _ gq4, upd_same, sz (by rw [List.length_append, List.length_take, List.length_drop]; show _ + 1 + _ ≤ 1000; omega), fun q5 nq5 => ?_⟩
      have s26 := same_new (o := .lst ((ns.map V.int).take k ++ [.int y] ++ (ns.map V.int).drop k)) nq5
      have gO : (upd (upd (upd (upd H23 q2 (.lst [.int y])) q3 (.lst ((ns.map V.int).take k ++ [.int y]))) q4 (.lst ((ns.map V.int).drop k))) q5 (.lst ((ns.map V.int).take k ++ [.int y] ++ (ns.map V.int).drop k))) q5 = some (.lst ((ns.take k ++ [y] ++ ns.drop k).map V.int)) := by
        rw [upd_same, List.map_append, List.map_append, List.map_take, List.map_drop]
        rfl
      have sI := s24.trans (s25.trans s26)
      have hA7 := sI _ _ hA6
      have B14 := B13.same sI
      have T9 := T8.ext sI
      generalize upd (upd (upd (upd H23 q2 (.lst [.int y])) q3 (.lst ((ns.map V.int).take k ++ [.int y]))) q4 (.lst ((ns.map V.int).drop k))) q5 (.lst ((ns.map V.int).take k ++ [.int y] ++ (ns.map V.int).drop k)) = H27 at gO hA7 B14 T9 ⊢
      have notS : ¬ (ns.take k ++ [y] ++ ns.drop k).all isS = true := fun z => by
        have := List.all_eq_true.mp z y (List.mem_append_left _ (List.mem_append_right _ (List.mem_singleton.mpr rfl)))
        rw [hy] at this
        cases this
      have lO : (ns.take k ++ [y] ++ ns.drop k).length ≤ 300 := by
        rw [List.length_append, List.length_append, List.length_take, List.length_drop]
        show _ + 1 + _ ≤ 300
        omega
      generalize ns.take k ++ [y] ++ ns.drop k = od at gO notS lO
      clear T8 B13 s24 s25 s26 sI gq3 gq4 hA6 nq2 nq3 nq4 nq5
      have nl' : ∀ (xs : List V) (ps : Array Value), HO.lst xs ≠ .tbl ps := fun xs ps z => by cases z
      refine ⟨T9, fun f1 Ha1 ea1 Ta1 _ Ma1 => ⟨Ta1, fun f2 Hb1 eb1 Tb1 _ Mb1 => ⟨sz (by show 2 ≤ 1000; decide), fun la1 nla1 => ?_⟩⟩⟩
      have sl1 := same_new (o := .lst [.ref f1, .ref f2]) nla1
      have gl1 := upd_same (H := Hb1) (a := la1) (o := .lst [.ref f1, .ref f2])
      generalize upd Hb1 la1 (.lst [.ref f1, .ref f2]) = Hs1 at sl1 gl1 ⊢
      have xb1 : ExtN Ha1 Hs1 := eb1.trans (.of sl1)
      have x01 : ExtN H27 Hs1 := ea1.trans xb1
      replace Ma1 := Ma1.ext xb1
      replace Mb1 := Mb1.same sl1
      have gO1 := x01 _ _ gO (nl' _)
      have gA1 := x01 _ _ hA7 (nl' _)
      have Bs1 := bag_ext B14 x01
      have Ts1 := Tb1.ext sl1
      refine ⟨(ZM.own_lst (a := la1) (xs := [.ref f1, .ref f2]) (j := 14) (fun Dd i H' => ∃ ps : List Addr, ps.length = i ∧ (∀ p ∈ ps, H' p = some (.tup (noV "BadColours"))) ∧ H' Dd = some (.lst (ps.map V.ref)) ∧ Same Hs1 H') (fun R r => ⟨_, rfl, r⟩) (SqL.of gl1)
        (fun Dd i H' _ ⟨_, _, _, _, sm⟩ => sm.seq (SqL.of gl1)) (fun _ => rfl) (fun Dd nD => ⟨[], rfl, by simp, upd_same, same_new nD⟩) ?_ ?_).run⟩
      · rintro Dd i x H6 nD hx ⟨ps, hl, hp, hD, sm⟩
        have hi4 : i < 2 := (List.getElem?_eq_some_iff.mp hx).1
        have fin : ∀ (pq : Addr) (H7 : Hp), Same H6 H7 → H7 pq = none → ∃ acc, (upd H7 pq (.tup (noV "BadColours"))) Dd = some (.lst acc) ∧ acc.length < sizeLine ∧ ∃ ps' : List Addr, ps'.length = i + 1 ∧ (∀ p ∈ ps', (upd (upd H7 pq (.tup (noV "BadColours"))) Dd (.lst (acc ++ [V.ref pq]))) p = some (.tup (noV "BadColours"))) ∧
            (upd (upd H7 pq (.tup (noV "BadColours"))) Dd (.lst (acc ++ [V.ref pq]))) Dd = some (.lst (ps'.map V.ref)) ∧ Same Hs1 (upd (upd H7 pq (.tup (noV "BadColours"))) Dd (.lst (acc ++ [V.ref pq]))) := fun pq H7 s7 npq => by
          have s8 := s7.trans (same_new (o := .tup (noV "BadColours")) npq)
          have gD := s8 _ _ hD
          have ne : ∀ p, (upd H7 pq (.tup (noV "BadColours"))) p = some (.tup (noV "BadColours")) → p ≠ Dd := fun p h => ne_of h gD fun z => by cases z
          refine ⟨_, gD, szl (by rw [List.length_map]; omega), ps ++ [pq], by simp [hl], fun p hpp => ?_, by rw [upd_same, List.map_append]; rfl, same_at nD (sm.trans s8)⟩
          rcases List.mem_append.mp hpp with h | h
          · have := s8 _ _ (hp p h)
            rw [upd_ne (ne p this)]
            exact this
          · rw [List.mem_singleton.mp h, upd_ne (ne pq upd_same), upd_same]
        have c4 : i = 0 ∨ i = 1 := by omega
        rcases c4 with rfl | rfl
        · cases hx
          exact ⟨f1, _, rfl, Ma1.same sm, _, rfl, _, rfl, A1, ns, bs, rfl, .inl (SqL.of (sm _ _ gA1)), by omega, by omega, bx, fun c => absurd aS c, fun _ _ H7 s7 d nd => ⟨hE2, C2, D, fI, nv2, "BadColours", d, rfl, cT2, rfl, upd_same, fun p np => fin p _ (s7.trans (same_new nd)) np⟩, fun _ h1 h2 => absurd ⟨h1, h2⟩ nob⟩
        · cases hx
          exact ⟨f2, _, rfl, Mb1.same sm, _, rfl, _, rfl, A1, ns, bs, rfl, .inl (SqL.of (sm _ _ gA1)), by omega, by omega, bx, fun c => absurd aS c, fun _ _ H7 s7 d nd => ⟨hE2, C2, D, fI, nv2, "BadColours", d, rfl, cT2, rfl, upd_same, fun p np => fin p _ (s7.trans (same_new nd)) np⟩, fun _ h1 h2 => absurd ⟨h1, h2⟩ nob⟩
      rintro Dd H6 nD ⟨ps, hl, hp, hD, sm1⟩
      obtain ⟨p1, p2, rfl⟩ : ∃ p1 p2, ps = [p1, p2] := by
        match ps, hl with
        | [p1, p2], _ => exact ⟨p1, p2, rfl⟩
      refine ⟨sz (by show 2 ≤ 1000; decide), fun u nu => ⟨sz (by show 1 ≤ 1000; decide), fun v nv' => ⟨v, 2, [.ref u], rfl, rfl, upd_same, by decide, by decide, sz (by show 1 * 2 ≤ 1000; decide), fun R nR => ?_⟩⟩⟩
      have su := same_new (o := .tup (noV "BadColours")) nu
      have sv := same_new (o := .lst [.ref u]) nv'
      have sR := same_new (o := .lst [.ref u, .ref u]) nR
      have sD1 := su.trans (sv.trans sR)
      have gu := sR _ _ (sv _ _ (upd_same (H := H6) (a := u) (o := .tup (noV "BadColours"))))
      refine ⟨noD "BadColours", noD "BadColours", no_dp (sD1 _ _ hD) (sD1 _ _ (hp p1 (by simp))) (sD1 _ _ (hp p2 (by simp))), no_dp upd_same gu gu, by decide +kernel, by decide +kernel, _, rfl, if_f (by decide +kernel) ?_⟩
      replace gO : (upd (upd (upd H6 u (.tup (noV "BadColours"))) v (.lst [.ref u])) R (.lst (List.replicate (Int.toNat 2) [V.ref u]).flatten)) q5 = some (.lst (od.map V.int)) := sD1 _ _ (sm1 _ _ gO1)
      replace hA7 : (upd (upd (upd H6 u (.tup (noV "BadColours"))) v (.lst [.ref u])) R (.lst (List.replicate (Int.toNat 2) [V.ref u]).flatten)) A1 = some (.lst (ns.map V.int)) := sD1 _ _ (sm1 _ _ gA1)
      have B15 : BagAt l ms (upd (upd (upd H6 u (.tup (noV "BadColours"))) v (.lst [.ref u])) R (.lst (List.replicate (Int.toNat 2) [V.ref u]).flatten)) b := (Bs1.same sm1).same sD1
      have T15 : Tabs Tb (upd (upd (upd H6 u (.tup (noV "BadColours"))) v (.lst [.ref u])) R (.lst (List.replicate (Int.toNat 2) [V.ref u]).flatten)) := (Ts1.ext sm1).ext sD1
      generalize upd (upd (upd H6 u (.tup (noV "BadColours"))) v (.lst [.ref u])) R (.lst (List.replicate (Int.toNat 2) [V.ref u]).flatten) = H30 at gO hA7 B15 T15 ⊢
      clear Ma1 Mb1 hp hD nD su sv sR gu sD1 sm1
      refine ⟨T15, fun f1 Ha2 ea2 Ta2 _ Ma2 => ⟨Ta2, fun f2 Hb2 eb2 Tb2 _ Mb2 => ⟨sz (by show 2 ≤ 1000; decide), fun la2 nla2 => ?_⟩⟩⟩
      have sl2 := same_new (o := .lst [.ref f1, .ref f2]) nla2
      have gl2 := upd_same (H := Hb2) (a := la2) (o := .lst [.ref f1, .ref f2])
      generalize upd Hb2 la2 (.lst [.ref f1, .ref f2]) = Hs2 at sl2 gl2 ⊢
      have xb2 : ExtN Ha2 Hs2 := eb2.trans (.of sl2)
      have x02 : ExtN H30 Hs2 := ea2.trans xb2
      replace Ma2 := Ma2.ext xb2
      replace Mb2 := Mb2.same sl2
      have gO2 := x02 _ _ gO (nl' _)
      have gA2 := x02 _ _ hA7 (nl' _)
      have Bs2 := bag_ext B15 x02
      have Ts2 := Tb2.ext sl2
      refine ⟨(ZM.own_lst (a := la2) (xs := [.ref f1, .ref f2]) (j := 14) (fun Dd i H' => ∃ ps : List Addr, ps.length = i ∧ (∀ p ∈ ps, H' p = some (.tup (noV "BadRow"))) ∧ H' Dd = some (.lst (ps.map V.ref)) ∧ Same Hs2 H') (fun R r => ⟨_, rfl, r⟩) (SqL.of gl2)
        (fun Dd i H' _ ⟨_, _, _, _, sm⟩ => sm.seq (SqL.of gl2)) (fun _ => rfl) (fun Dd nD => ⟨[], rfl, by simp, upd_same, same_new nD⟩) ?_ ?_).run⟩
      · rintro Dd i x H6 nD hx ⟨ps, hl, hp, hD, sm⟩
        have hi4 : i < 2 := (List.getElem?_eq_some_iff.mp hx).1
        have fin : ∀ (pq : Addr) (H7 : Hp), Same H6 H7 → H7 pq = none → ∃ acc, (upd H7 pq (.tup (noV "BadRow"))) Dd = some (.lst acc) ∧ acc.length < sizeLine ∧ ∃ ps' : List Addr, ps'.length = i + 1 ∧ (∀ p ∈ ps', (upd (upd H7 pq (.tup (noV "BadRow"))) Dd (.lst (acc ++ [V.ref pq]))) p = some (.tup (noV "BadRow"))) ∧
            (upd (upd H7 pq (.tup (noV "BadRow"))) Dd (.lst (acc ++ [V.ref pq]))) Dd = some (.lst (ps'.map V.ref)) ∧ Same Hs2 (upd (upd H7 pq (.tup (noV "BadRow"))) Dd (.lst (acc ++ [V.ref pq]))) := fun pq H7 s7 npq => by
          have s8 := s7.trans (same_new (o := .tup (noV "BadRow")) npq)
          have gD := s8 _ _ hD
          have ne : ∀ p, (upd H7 pq (.tup (noV "BadRow"))) p = some (.tup (noV "BadRow")) → p ≠ Dd := fun p h => ne_of h gD fun z => by cases z
          refine ⟨_, gD, szl (by rw [List.length_map]; omega), ps ++ [pq], by simp [hl], fun p hpp => ?_, by rw [upd_same, List.map_append]; rfl, same_at nD (sm.trans s8)⟩
          rcases List.mem_append.mp hpp with h | h
          · have := s8 _ _ (hp p h)
            rw [upd_ne (ne p this)]
            exact this
          · rw [List.mem_singleton.mp h, upd_ne (ne pq upd_same), upd_same]
        have c4 : i = 0 ∨ i = 1 := by omega
        rcases c4 with rfl | rfl
        · cases hx
          exact ⟨f1, _, rfl, Ma2.same sm, _, rfl, _, rfl, q5, od, bs, rfl, .inl (SqL.of (sm _ _ gO2)), by omega, by omega, bx, fun _ H7 s7 d nd => ⟨hE, C, D, fI, nv, "BadRow", d, rfl, cT, rfl, upd_same, fun p np => fin p _ (s7.trans (same_new nd)) np⟩, fun h => absurd h notS, fun h => absurd h notS⟩
        · cases hx
          exact ⟨f2, _, rfl, Mb2.same sm, _, rfl, _, rfl, q5, od, bs, rfl, .inl (SqL.of (sm _ _ gO2)), by omega, by omega, bx, fun _ H7 s7 d nd => ⟨hE, C, D, fI, nv, "BadRow", d, rfl, cT, rfl, upd_same, fun p np => fin p _ (s7.trans (same_new nd)) np⟩, fun h => absurd h notS, fun h => absurd h notS⟩
      rintro Dd H6 nD ⟨ps, hl, hp, hD, sm2⟩
      obtain ⟨p1, p2, rfl⟩ : ∃ p1 p2, ps = [p1, p2] := by
        match ps, hl with
        | [p1, p2], _ => exact ⟨p1, p2, rfl⟩
      refine ⟨sz (by show 2 ≤ 1000; decide), fun u nu => ⟨sz (by show 1 ≤ 1000; decide), fun v nv' => ⟨v, 2, [.ref u], rfl, rfl, upd_same, by decide, by decide, sz (by show 1 * 2 ≤ 1000; decide), fun R nR => ?_⟩⟩⟩
      have su := same_new (o := .tup (noV "BadRow")) nu
      have sv := same_new (o := .lst [.ref u]) nv'
      have sR := same_new (o := .lst [.ref u, .ref u]) nR
      have sD2 := su.trans (sv.trans sR)
      have gu := sR _ _ (sv _ _ (upd_same (H := H6) (a := u) (o := .tup (noV "BadRow"))))
      refine ⟨noD "BadRow", noD "BadRow", no_dp (sD2 _ _ hD) (sD2 _ _ (hp p1 (by simp))) (sD2 _ _ (hp p2 (by simp))), no_dp upd_same gu gu, by decide +kernel, by decide +kernel, _, rfl, if_f (by decide +kernel) ?_⟩
      exact ⟨_, _, _, _, _, _, _, _, _, _, _, _, _, rfl, (Bs2.same sm2).same sD2, (Ts2.ext sm2).ext sD2⟩
  · rintro σ H2 ⟨x2, x3, x4, x5, x6, x7, x8, x9, x10, x11, x12, x13, x14, rfl, B, T2⟩
    refine ⟨_, rfl, sz (by show 2 ≤ 1000; decide), fun t1 n1 => ?_⟩
    refine ⟨t1, [1, -1], [43, 45], rfl, .inr (SqT.of upd_same), by decide, by decide, by decide, fun c => absurd rfl c, fun _ c => absurd ⟨rfl, rfl⟩ c, fun _ _ _ H3 s3 => ?_⟩
    refine ⟨sz (by show 2 ≤ 1000; decide), fun t2 n2 => ?_⟩
    refine ⟨t2, [1, 0], [45, 48], rfl, .inr (SqT.of upd_same), by decide, by decide, by decide, fun c => absurd rfl c, fun _ c => absurd ⟨rfl, rfl⟩ c, fun _ _ _ H4 s4 => ?_⟩
    refine ⟨Nat.zero_le _, fun t3 n3 => ?_⟩
    refine ⟨t3, [], [], rfl, .inr (SqT.of upd_same), by decide, by decide, by decide, fun c => absurd rfl c, fun _ c => absurd ⟨rfl, rfl⟩ c, fun _ _ _ H5 s5 => ?_⟩
    have v1 : (suit menR [1, -1] [43, 45]).all id = true := by decide
    have v2 : (suit menR [1, 0] [45, 48]).all id = false := by decide
    have v3 : (suit menC [] []).all id = true := by decide
    rw [v1, v2, v3]
    refine ⟨sz (by show 3 ≤ 1000; decide), fun F nF => ⟨sz (by show 3 ≤ 1000; decide), fun G nG => ?_⟩⟩
    have qG := same_new (o := .lst [.bl true, .bl false, .bl true]) nG
    exact ⟨.ref F, .ref G, .lst ([true, false, true].map Dt.bl), rfl, has_bls (bs := [true, false, true]) (qG _ _ upd_same) (by decide), has_bls (bs := [true, false, true]) upd_same (by decide), fun H6 _ => q H6⟩
end
end K32

set_option maxHeartbeats 4000000
namespace K32
open PySem PySem.Spec PyProof.Rows L2 LamX
theorem exm_of {K : PySem.W.Frag} {S D : Addr} (h1 : PySem.W.subIn K (.ref D) (.type "BaseException") = some true) (h2 : PySem.W.isClsIn K D = true) (h3 : PySem.W.typeIn K (.ref D) = some (.type "type")) (h4 : PySem.W.subIn K (.ref S) (.ref D) = some true) : PySem.W.exmOne K (.ref S) (.ref D) = some true := by
  have h2' : (PySem.W.clsIn K D).isSome = true := h2
  have e1 : (PySem.W.subIn K (.ref D) (.type "BaseException") == some true) = true := by
    rw [h1]; rfl
  have e2 : ((PySem.W.clsIn K D).isSome && PySem.W.typeIn K (.ref D) == some (.type "type")) = true := by
    rw [h2', h3]; rfl
  show (if _ = true then (if _ = true then PySem.W.subIn K (.ref S) (.ref D) else none) else none) = some true
  exact (if_pos e1).trans ((if_pos e2).trans h4)
theorem all_mk {l : PySem.W.OpenLaw} {w : World} {K : PySem.W.Frag} {h : Heap} {mg : Str → Option Value} {fa f1 f2 f3 f4 f5 f6 f7 f8 f9 f10 f11 f12 f13 f14 fL fI C Cu D D2 Pt c Td cda cc aS dR dC rR0 rR1 rR2 rR3 rC0 rC1 rC2 rC3 : Addr} (X : K.In h) (G : h.Ns mainGlobals mg) (hfa : mg "law" = some (.ref fa))
    {od1 an1 od2 an2 od3 an3 od4 an4 od5 an5 od6 an6 od7 an7 od8 an8 od9 an9 od10 an10 od11 an11 od12 an12 od13 an13 od14 an14 odL anL odI anI odT odA odX dd ddu dd' odS odR0 odR1 odR2 odR3 odC0 odC1 odC2 odC3 : Option Addr} {sl1 sl2 sl3 sl4 sl5 sl6 sl7 sl8 sl9 sl10 sl11 sl12 sl13 sl14 slL slI slT slA slX slS slR0 slR1 slR2 slR3 slC0 slC1 slC2 slC3 : Array (Option Value)}
    {oc1 kV1 dc1 pm1 ct1 oc2 kV2 dc2 pm2 ct2 oc3 kV3 dc3 pm3 ct3 oc4 kV4 dc4 pm4 ct4 oc5 kV5 dc5 pm5 ct5 oc6 kV6 dc6 pm6 ct6 oc7 kV7 dc7 pm7 ct7 oc8 kV8 dc8 pm8 ct8 oc9 kV9 dc9 pm9 ct9 oc10 kV10 dc10 pm10 ct10 oc11 kV11 dc11 pm11 ct11 oc12 kV12 dc12 pm12 ct12 oc13 kV13 dc13 pm13 ct13 oc14 kV14 dc14 pm14 ct14 ocL kVL dcL pmL ctL ocI kVI dcI pmI ctI cd1 cd2 cd3 cd4 cd5 cd6 cd7 cd8 cd9 cd10 cd11 cd12 cd13 cd14 ocT ocA ocX eT : Value} {vsA : Array Value} {nT : Nat} {file qn nm' q' : Str} {tf : Tok} {N' : Addr} {bs' bm' sub' : List Value} {sn' : List Str} {ab' hd' : Bool} {col' : Option Bool} {m0' m1' m2' m3' m5' : Option Value} {nid' : String} {nm q : Str} {tv : Tok} {N : Addr} {bs bm sub : List Value} {sn : List Str} {ab : Bool} {col : Option Bool} {m0 m1 m3 m5 : Option Value} {nmu qu : Str} {tvu : Tok} {Nu : Addr} {bsu bmu subu : List Value} {snu : List Str} {abu : Bool} {colu : Option Bool} {m0u m1u m3u m5u : Option Value} {ts1 ts2 ts3 : Tok} {nS : Nat} {esR : Array DictEntry} {neR : Nat} {tR00 tR01 : Tok} {nR0 : Nat} {tR10 tR11 : Tok} {nR1 : Nat} {tR20 tR21 tR22 : Tok} {nR2 : Nat} {tR30 : Tok} {nR3 : Nat} {esC : Array DictEntry} {neC : Nat} {tC00 tC01 : Tok} {nC0 : Nat} {tC10 tC11 : Tok} {nC1 : Nat} {tC20 : Tok} {nC2 : Nat} {tC30 tC31 tC32 : Tok} {nC3 : Nat}
    (a1 : PySem.W.nsIn K mainGlobals "are_signs" = some (some (.ref f1)))
    (l1 : K.lookup f1 = some ⟨oc1, od1, .func (PySem.W.fnOf "are_signs" "are_signs" (defArgs sAre) (defBody sAre) (defScope sAre) .none kV1 dc1 pm1 an1 cd1 ct1), sl1⟩)
    (c1 : PySem.W.codeIn K cd1 "are_signs" = true)
    (k1 : PySem.W.keepIn K (.ref f1) = true)
    (a2 : PySem.W.nsIn K mainGlobals "check_row" = some (some (.ref f2)))
    (l2 : K.lookup f2 = some ⟨oc2, od2, .func (PySem.W.fnOf "check_row" "check_row" (defArgs sRow) (defBody sRow) (defScope sRow) .none kV2 dc2 pm2 an2 cd2 ct2), sl2⟩)
    (c2 : PySem.W.codeIn K cd2 "check_row" = true)
    (k2 : PySem.W.keepIn K (.ref f2) = true)
    (a3 : PySem.W.nsIn K mainGlobals "suits_ring" = some (some (.ref f3)))
    (l3 : K.lookup f3 = some ⟨oc3, od3, .func (PySem.W.fnOf "suits_ring" "suits_ring" (defArgs sRing) (defBody sRing) (defScope sRing) .none kV3 dc3 pm3 an3 cd3 ct3), sl3⟩)
    (c3 : PySem.W.codeIn K cd3 "suits_ring" = true)
    (k3 : PySem.W.keepIn K (.ref f3) = true)
    (a4 : PySem.W.nsIn K mainGlobals "suits_cut" = some (some (.ref f4)))
    (l4 : K.lookup f4 = some ⟨oc4, od4, .func (PySem.W.fnOf "suits_cut" "suits_cut" (defArgs sCut) (defBody sCut) (defScope sCut) .none kV4 dc4 pm4 an4 cd4 ct4), sl4⟩)
    (c4 : PySem.W.codeIn K cd4 "suits_cut" = true)
    (k4 : PySem.W.keepIn K (.ref f4) = true)
    (a5 : PySem.W.nsIn K mainGlobals "_check_colours" = some (some (.ref f5)))
    (l5 : K.lookup f5 = some ⟨oc5, od5, .func (PySem.W.fnOf "_check_colours" "_check_colours" (defArgs sCol) (defBody sCol) (defScope sCol) .none kV5 dc5 pm5 an5 cd5 ct5), sl5⟩)
    (c5 : PySem.W.codeIn K cd5 "_check_colours" = true)
    (k5 : PySem.W.keepIn K (.ref f5) = true)
    (a6 : PySem.W.nsIn K mainGlobals "_law_bag" = some (some (.ref f6)))
    (l6 : K.lookup f6 = some ⟨oc6, od6, .func (PySem.W.fnOf "_law_bag" "_law_bag" (defArgs sBag) (defBody sBag) (defScope sBag) .none kV6 dc6 pm6 an6 cd6 ct6), sl6⟩)
    (c6 : PySem.W.codeIn K cd6 "_law_bag" = true)
    (k6 : PySem.W.keepIn K (.ref f6) = true)
    (a7 : PySem.W.nsIn K mainGlobals "_law_pull" = some (some (.ref f7)))
    (l7 : K.lookup f7 = some ⟨oc7, od7, .func (PySem.W.fnOf "_law_pull" "_law_pull" (defArgs sPull) (defBody sPull) (defScope sPull) .none kV7 dc7 pm7 an7 cd7 ct7), sl7⟩)
    (c7 : PySem.W.codeIn K cd7 "_law_pull" = true)
    (k7 : PySem.W.keepIn K (.ref f7) = true)
    (a8 : PySem.W.nsIn K mainGlobals "_law_of" = some (some (.ref f8)))
    (l8 : K.lookup f8 = some ⟨oc8, od8, .func (PySem.W.fnOf "_law_of" "_law_of" (defArgs sOf) (defBody sOf) (defScope sOf) .none kV8 dc8 pm8 an8 cd8 ct8), sl8⟩)
    (c8 : PySem.W.codeIn K cd8 "_law_of" = true)
    (k8 : PySem.W.keepIn K (.ref f8) = true)
    (a9 : PySem.W.nsIn K mainGlobals "_law_same" = some (some (.ref f9)))
    (l9 : K.lookup f9 = some ⟨oc9, od9, .func (PySem.W.fnOf "_law_same" "_law_same" (defArgs sSame) (defBody sSame) (defScope sSame) .none kV9 dc9 pm9 an9 cd9 ct9), sl9⟩)
    (c9 : PySem.W.codeIn K cd9 "_law_same" = true)
    (k9 : PySem.W.keepIn K (.ref f9) = true)
    (a10 : PySem.W.nsIn K mainGlobals "_law_tried" = some (some (.ref f10)))
    (l10 : K.lookup f10 = some ⟨oc10, od10, .func (PySem.W.fnOf "_law_tried" "_law_tried" (defArgs sTried) (defBody sTried) (defScope sTried) .none kV10 dc10 pm10 an10 cd10 ct10), sl10⟩)
    (c10 : PySem.W.codeIn K cd10 "_law_tried" = true)
    (k10 : PySem.W.keepIn K (.ref f10) = true)
    (a11 : PySem.W.nsIn K mainGlobals "_law_signs_drawn" = some (some (.ref f11)))
    (l11 : K.lookup f11 = some ⟨oc11, od11, .func (PySem.W.fnOf "_law_signs_drawn" "_law_signs_drawn" (defArgs sDrawn) (defBody sDrawn) (defScope sDrawn) .none kV11 dc11 pm11 an11 cd11 ct11), sl11⟩)
    (c11 : PySem.W.codeIn K cd11 "_law_signs_drawn" = true)
    (k11 : PySem.W.keepIn K (.ref f11) = true)
    (a12 : PySem.W.nsIn K mainGlobals "_law_colours" = some (some (.ref f12)))
    (l12 : K.lookup f12 = some ⟨oc12, od12, .func (PySem.W.fnOf "_law_colours" "_law_colours" (defArgs sCols) (defBody sCols) (defScope sCols) .none kV12 dc12 pm12 an12 cd12 ct12), sl12⟩)
    (c12 : PySem.W.codeIn K cd12 "_law_colours" = true)
    (k12 : PySem.W.keepIn K (.ref f12) = true)
    (a13 : PySem.W.nsIn K mainGlobals "_law_ring_suits" = some (some (.ref f13)))
    (l13 : K.lookup f13 = some ⟨oc13, od13, .func (PySem.W.fnOf "_law_ring_suits" "_law_ring_suits" (defArgs sLR) (defBody sLR) (defScope sLR) .none kV13 dc13 pm13 an13 cd13 ct13), sl13⟩)
    (c13 : PySem.W.codeIn K cd13 "_law_ring_suits" = true)
    (k13 : PySem.W.keepIn K (.ref f13) = true)
    (a14 : PySem.W.nsIn K mainGlobals "_law_cut_suits" = some (some (.ref f14)))
    (l14 : K.lookup f14 = some ⟨oc14, od14, .func (PySem.W.fnOf "_law_cut_suits" "_law_cut_suits" (defArgs sLC) (defBody sLC) (defScope sLC) .none kV14 dc14 pm14 an14 cd14 ct14), sl14⟩)
    (c14 : PySem.W.codeIn K cd14 "_law_cut_suits" = true)
    (k14 : PySem.W.keepIn K (.ref f14) = true)
    (aL : PySem.W.nsIn K mainGlobals "law" = some (some (.ref fL)))
    (lL : K.lookup fL = some ⟨ocL, odL, .func (PySem.W.fnOf "law" "law" (defArgs sLaw) (defBody sLaw) (defScope sLaw) .none kVL dcL pmL anL (.ref c) ctL), slL⟩)
    (cL : PySem.W.codeIn K (.ref c) "law" = true)
    (z1 : PySem.W.nsIn K mainGlobals "isinstance" = some none)
    (z2 : PySem.W.nsIn K mainGlobals "bool" = some none)
    (z3 : PySem.W.nsIn K mainGlobals "int" = some none)
    (z4 : PySem.W.nsIn K mainGlobals "str" = some none)
    (z5 : PySem.W.nsIn K mainGlobals "list" = some none)
    (z6 : PySem.W.nsIn K mainGlobals "tuple" = some none)
    (z7 : PySem.W.nsIn K mainGlobals "len" = some none)
    (z8 : PySem.W.nsIn K mainGlobals "all" = some none)
    (z9 : PySem.W.nsIn K mainGlobals "range" = some none)
    (z10 : PySem.W.nsIn K mainGlobals "super" = some none)
    (z11 : PySem.W.nsIn K mainGlobals "zip" = some none)
    (z12 : PySem.W.nsIn K mainGlobals "any" = some none)
    (gS : PySem.W.nsIn K mainGlobals "SIGNS" = some (some (.ref aS)))
    (lS : K.lookup aS = some ⟨.type "tuple", odS, .seq #[.int (-1) ts1, .int 0 ts2, .int 1 ts3] nS, slS⟩)
    (wgR : PySem.W.nsIn K mainGlobals "RING_SIGNS" = some (some (.ref dR)))
    (wlR : K.lookup dR = some ⟨.type "dict", none, .dict esR neR, #[]⟩)
    (wkR : PySem.W.KeysLit w.params esR.toList)
    (woR : (dR == sysModules) = false)
    (wR0 : PySem.W.nsIn K dR "+" = some (some (.ref rR0)))
    (wtR0 : K.lookup rR0 = some ⟨.type "tuple", odR0, .seq #[.int 0 tR00, .int 1 tR01] nR0, slR0⟩)
    (wR1 : PySem.W.nsIn K dR "-" = some (some (.ref rR1)))
    (wtR1 : K.lookup rR1 = some ⟨.type "tuple", odR1, .seq #[.int (-1) tR10, .int 0 tR11] nR1, slR1⟩)
    (wR2 : PySem.W.nsIn K dR "*" = some (some (.ref rR2)))
    (wtR2 : K.lookup rR2 = some ⟨.type "tuple", odR2, .seq #[.int (-1) tR20, .int 0 tR21, .int 1 tR22] nR2, slR2⟩)
    (wR3 : PySem.W.nsIn K dR "0" = some (some (.ref rR3)))
    (wtR3 : K.lookup rR3 = some ⟨.type "tuple", odR3, .seq #[.int 0 tR30] nR3, slR3⟩)
    (wxR : PySem.W.nsIn K dR "x" = some none)
    (wgC : PySem.W.nsIn K mainGlobals "CUT_SIGNS" = some (some (.ref dC)))
    (wlC : K.lookup dC = some ⟨.type "dict", none, .dict esC neC, #[]⟩)
    (wkC : PySem.W.KeysLit w.params esC.toList)
    (woC : (dC == sysModules) = false)
    (wC0 : PySem.W.nsIn K dC "+" = some (some (.ref rC0)))
    (wtC0 : K.lookup rC0 = some ⟨.type "tuple", odC0, .seq #[.int 0 tC00, .int 1 tC01] nC0, slC0⟩)
    (wC1 : PySem.W.nsIn K dC "-" = some (some (.ref rC1)))
    (wtC1 : K.lookup rC1 = some ⟨.type "tuple", odC1, .seq #[.int (-1) tC10, .int 0 tC11] nC1, slC1⟩)
    (wC2 : PySem.W.nsIn K dC "*" = some (some (.ref rC2)))
    (wtC2 : K.lookup rC2 = some ⟨.type "tuple", odC2, .seq #[.int 0 tC20] nC2, slC2⟩)
    (wC3 : PySem.W.nsIn K dC "0" = some (some (.ref rC3)))
    (wtC3 : K.lookup rC3 = some ⟨.type "tuple", odC3, .seq #[.int (-1) tC30, .int 0 tC31, .int 1 tC32] nC3, slC3⟩)
    (wxC : PySem.W.nsIn K dC "x" = some none)
    (gC : PySem.W.nsIn K mainGlobals "BadRow" = some (some (.ref C)))
    (gCu : PySem.W.nsIn K mainGlobals "BadColours" = some (some (.ref Cu)))
    (gD : PySem.W.nsIn K mainGlobals "CleaveError" = some (some (.ref D)))
    (gE : PySem.W.nsIn K mainGlobals "HouseError" = some (some (.ref D2)))
    (xC : K.lookup C = some (excClassObj nm q C N bs bm true sn sub ab col dd m0 m1 (some (.str "BadRow" tv)) m3 m5 "ValueError.__new__"))
    (xB : HandSPX.refsVE bm = true)
    (xCu : K.lookup Cu = some (excClassObj nmu qu Cu Nu bsu bmu true snu subu abu colu ddu m0u m1u (some (.str "BadColours" tvu)) m3u m5u "ValueError.__new__"))
    (xBu : HandSPX.refsVE bmu = true)
    (xD : K.lookup D = some (excClassObj nm' q' D N' bs' bm' hd' sn' sub' ab' col' dd' m0' m1' m2' m3' m5' nid'))
    (iC : PySem.W.findIn K (.ref C) "__init__" = some (some (.ref fI)))
    (iCu : PySem.W.findIn K (.ref Cu) "__init__" = some (some (.ref fI)))
    (tI : PySem.W.typeIn K (.ref fI) = some (.type "function"))
    (lI : K.lookup fI = some ⟨ocI, odI, .func (PySem.W.ksFn "__init__" qn (PySem.CleX.iA ⟨4, 17, 4, 21⟩ ⟨4, 23, 4, 27⟩ ⟨4, 28, 4, 30⟩) (PySem.CleX.iB ⟨5, 8, 5, 13⟩ ⟨5, 8, 5, 15⟩ ⟨5, 8, 5, 24⟩ ⟨5, 25, 5, 29⟩ ⟨5, 8, 5, 30⟩ ⟨5, 8, 5, 30⟩ ⟨6, 8, 6, 12⟩ ⟨6, 8, 6, 17⟩ ⟨6, 20, 6, 24⟩ ⟨6, 20, 6, 34⟩ ⟨6, 20, 6, 43⟩ ⟨6, 8, 6, 43⟩) PySem.CleX.iS (.ref Td) kVI dcI pmI anI (.ref cda) ctI cc), slI⟩)
    (cI : PySem.W.codeIn K (.ref cda) qn = true)
    (lT : K.lookup Td = some ⟨ocT, odT, .seq #[eT] nT, slT⟩)
    (lA : K.lookup cda = some ⟨ocA, odA, .fields vsA, slA⟩)
    (vA : vsA[2]? = some (.str file tf))
    (fA : ((l.prog.main.file : Str) == file) = true)
    (lX : K.lookup cc = some ⟨ocX, odX, .cell (some (.ref D)), slX⟩)
    (nT0 : (l.prog.main.scope.names.lookup ("super" : Str)).isSome = false)
    (noT : PySem.W.nsIn K cStatics "thirdparty.any" = some none)
    (mD : PySem.W.mroIn K C (.ref D) = some true)
    (mO : PySem.W.mroIn K C (.type "object") = some true)
    (sup : PySem.W.ks_superIn K C D "__init__" = some (some (.builtin "ValueError.__init__")))
    (sVE : PySem.W.subIn K (.ref C) (.type "ValueError") = some true)
    (sa : PySem.W.findIn K (.ref C) "__setattr__" = some (some (.builtin "object.__setattr__")))
    (ga : PySem.W.findIn K (.ref C) "__getattribute__" = some (some (.builtin "BaseException.__getattribute__")))
    (gg : PySem.W.findIn K (.ref C) "__getattr__" = some none)
    (nw : PySem.W.findIn K (.ref C) "word" = some none)
    (cC : PySem.W.findIn K (.ref C) "__class__" = some (some (.builtin "object.__class__")))
    (rd : PySem.W.readsIn K C (.type "type") = true)
    (nmC : PySem.W.findCls K (.ref C) (.type "type") "__name__" = some (.get (.builtin "getset_descriptor.__get__") (.builtin "type.__name__") (.ref C) (.type "type")))
    (kC : PySem.W.keepIn K (.ref C) = true)
    (exC : PySem.W.subIn K (.ref C) (.type "BaseException") = some true)
    (tyC : PySem.W.typeIn K (.ref C) = some (.type "type"))
    (hdC : PySem.W.hasDictIn K C = true)
    (isC : PySem.W.isClsIn K C = true)
    (sCD : PySem.W.subIn K (.ref C) (.ref D) = some true)
    (mDu : PySem.W.mroIn K Cu (.ref D) = some true)
    (mOu : PySem.W.mroIn K Cu (.type "object") = some true)
    (supu : PySem.W.ks_superIn K Cu D "__init__" = some (some (.builtin "ValueError.__init__")))
    (sVEu : PySem.W.subIn K (.ref Cu) (.type "ValueError") = some true)
    (sau : PySem.W.findIn K (.ref Cu) "__setattr__" = some (some (.builtin "object.__setattr__")))
    (gau : PySem.W.findIn K (.ref Cu) "__getattribute__" = some (some (.builtin "BaseException.__getattribute__")))
    (ggu : PySem.W.findIn K (.ref Cu) "__getattr__" = some none)
    (nwu : PySem.W.findIn K (.ref Cu) "word" = some none)
    (cCu : PySem.W.findIn K (.ref Cu) "__class__" = some (some (.builtin "object.__class__")))
    (rdu : PySem.W.readsIn K Cu (.type "type") = true)
    (nmCu : PySem.W.findCls K (.ref Cu) (.type "type") "__name__" = some (.get (.builtin "getset_descriptor.__get__") (.builtin "type.__name__") (.ref Cu) (.type "type")))
    (kCu : PySem.W.keepIn K (.ref Cu) = true)
    (exCu : PySem.W.subIn K (.ref Cu) (.type "BaseException") = some true)
    (tyCu : PySem.W.typeIn K (.ref Cu) = some (.type "type"))
    (hdCu : PySem.W.hasDictIn K Cu = true)
    (isCu : PySem.W.isClsIn K Cu = true)
    (sCDu : PySem.W.subIn K (.ref Cu) (.ref D) = some true)
    (cG : PySem.W.specialIn K (.builtin "object.__class__") "__get__" = some (some (.builtin "getset_descriptor.__get__")))
    (cT : PySem.W.takesIn K (.builtin "object.__class__") = some true)
    (exD : PySem.W.subIn K (.ref D) (.type "BaseException") = some true)
    (isD : PySem.W.isClsIn K D = true)
    (tyD : PySem.W.typeIn K (.ref D) = some (.type "type"))
    (hP : h.get? Pt = some { cls := .none, data := .fields #[] })
    (nP : K.lookup Pt = none)
    (hcP : PySem.W.codeHdIn K c Pt = true) :
    LawAtS l w K CX0 8 63 "_law_script" mg fa h := by
  have e := hfa.symm.trans (PySem.W.mg_of X G aL)
  cases e
  have F1 := fun_mk (st := sAre) l1 c1 k1
  have b1 := F1.binds (ps := ["row"]) fun _ _ _ _ _ _ us hl => match us, hl with | [_], _ => rfl
  have g1 := PySem.W.mg_of X G a1
  have F2 := fun_mk (st := sRow) l2 c2 k2
  have b2 := F2.binds (ps := ["row", "many"]) fun _ _ _ _ _ _ us hl => match us, hl with | [_, _], _ => rfl
  have g2 := PySem.W.mg_of X G a2
  have F3 := fun_mk (st := sRing) l3 c3 k3
  have b3 := F3.binds (ps := ["row", "colours"]) fun _ _ _ _ _ _ us hl => match us, hl with | [_, _], _ => rfl
  have g3 := PySem.W.mg_of X G a3
  have F4 := fun_mk (st := sCut) l4 c4 k4
  have b4 := F4.binds (ps := ["row", "colours"]) fun _ _ _ _ _ _ us hl => match us, hl with | [_, _], _ => rfl
  have g4 := PySem.W.mg_of X G a4
  have F5 := fun_mk (st := sCol) l5 c5 k5
  have b5 := F5.binds (ps := ["colours", "many"]) fun _ _ _ _ _ _ us hl => match us, hl with | [_, _], _ => rfl
  have g5 := PySem.W.mg_of X G a5
  have F6 := fun_mk (st := sBag) l6 c6 k6
  have b6 := F6.binds (ps := ["_law_script"]) fun _ _ _ _ _ _ us hl => match us, hl with | [_], _ => rfl
  have g6 := PySem.W.mg_of X G a6
  have F7 := fun_mk (st := sPull) l7 c7 k7
  have b7 := F7.binds (ps := ["_law_bag_here", "_law_many"]) fun _ _ _ _ _ _ us hl => match us, hl with | [_, _], _ => rfl
  have g7 := PySem.W.mg_of X G a7
  have F8 := fun_mk (st := sOf) l8 c8 k8
  have b8 := F8.binds (ps := ["_law_bag_here", "_law_some"]) fun _ _ _ _ _ _ us hl => match us, hl with | [_, _], _ => rfl
  have g8 := PySem.W.mg_of X G a8
  have F9 := fun_mk (st := sSame) l9 c9 k9
  have b9 := F9.binds (ps := ["_law_found", "_law_due"]) fun _ _ _ _ _ _ us hl => match us, hl with | [_, _], _ => rfl
  have g9 := PySem.W.mg_of X G a9
  have F10 := fun_mk (st := sTried) l10 c10 k10
  have b10 := F10.binds (ps := ["_law_ask"]) fun _ _ _ _ _ _ us hl => match us, hl with | [_], _ => rfl
  have g10 := PySem.W.mg_of X G a10
  have F11 := fun_mk (st := sDrawn) l11 c11 k11
  have b11 := F11.binds (ps := ["_law_bag_here", "_law_many"]) fun _ _ _ _ _ _ us hl => match us, hl with | [_, _], _ => rfl
  have g11 := PySem.W.mg_of X G a11
  have F12 := fun_mk (st := sCols) l12 c12 k12
  have b12 := F12.binds (ps := ["_law_bag_here", "_law_many"]) fun _ _ _ _ _ _ us hl => match us, hl with | [_, _], _ => rfl
  have g12 := PySem.W.mg_of X G a12
  have F13 := fun_mk (st := sLR) l13 c13 k13
  have b13 := F13.binds (ps := ["_law_row9", "_law_colours9"]) fun _ _ _ _ _ _ us hl => match us, hl with | [_, _], _ => rfl
  have g13 := PySem.W.mg_of X G a13
  have F14 := fun_mk (st := sLC) l14 c14 k14
  have b14 := F14.binds (ps := ["_law_row9", "_law_colours9"]) fun _ _ _ _ _ _ us hl => match us, hl with | [_, _], _ => rfl
  have g14 := PySem.W.mg_of X G a14
  have n1 := PySem.W.mg_none_of X G z1
  have n2 := PySem.W.mg_none_of X G z2
  have n3 := PySem.W.mg_none_of X G z3
  have n4 := PySem.W.mg_none_of X G z4
  have n5 := PySem.W.mg_none_of X G z5
  have n6 := PySem.W.mg_none_of X G z6
  have n7 := PySem.W.mg_none_of X G z7
  have n8 := PySem.W.mg_none_of X G z8
  have n9 := PySem.W.mg_none_of X G z9
  have n10 := PySem.W.mg_none_of X G z10
  have n11 := PySem.W.mg_none_of X G z11
  have n12 := PySem.W.mg_none_of X G z12
  have dD : ∃ cdD, PySem.W.clsIn K D = some cdD := by
    have isD' : (PySem.W.clsIn K D).isSome = true := isD
    exact Option.isSome_iff_exists.mp isD'
  have iT : PySem.CleX.InitTxt l.prog K mg D fI := ⟨n10, nT0, noT, dD, tI, _, _, _, _, _, _, _, _, _, _, _, _, _, _, _, _, _, _, _, _, _, _, _, _, _, _, _, by rfl, lI, cI, ⟨_, _, _, lT, rfl⟩, ⟨_, _, _, _, _, _, lA, vA, fA⟩, ⟨_, _, _, lX⟩⟩
  have isC' : (PySem.W.clsIn K C).isSome = true := isC
  have cls : PySem.CleX.ClsTxt K C D fI (.str "BadRow" tv) :=
    { cls := ⟨nm, q, N, bs, bm, sn, sub, ab, col, dd, m0, m1, m3, m5, xC, xB⟩, nvh := rfl, mD := mD, mO := mO, sup := sup, sVE := sVE, sa := sa, ga := ga, gg := gg, noN := nw, cl := PySem.W.findObj_dataE isC' cC cG cT, rd := rd, nm := nmC, iC := iC, kC := kC, exC := exC, tyC := tyC, hdC := hdC }
  have hE := exm_of exD isD tyD sCD
  have isCu' : (PySem.W.clsIn K Cu).isSome = true := isCu
  have clsu : PySem.CleX.ClsTxt K Cu D fI (.str "BadColours" tvu) :=
    { cls := ⟨nmu, qu, Nu, bsu, bmu, snu, subu, abu, colu, ddu, m0u, m1u, m3u, m5u, xCu, xBu⟩, nvh := rfl, mD := mDu, mO := mOu, sup := supu, sVE := sVEu, sa := sau, ga := gau, gg := ggu, noN := nwu, cl := PySem.W.findObj_dataE isCu' cCu cG cT, rd := rdu, nm := nmCu, iC := iCu, kC := kCu, exC := exCu, tyC := tyCu, hdC := hdCu }
  have hEu := exm_of exD isD tyD sCDu
  have T1 : TS1 mg := ⟨n1, n2, n3, n4, n5, n6, n7, n8, n9⟩
  refine ⟨PySem.W.fnOf "law" "law" (defArgs sLaw) (defBody sLaw) (defScope sLaw) .none kVL dcL pmL anL (.ref c) ctL, [(c, Pt)], spLawT Pt K, fun p hp => by rw [List.mem_singleton.mp hp]; exact hP, fun p hp => by rw [List.mem_singleton.mp hp]; exact nP,
    fun p hp => by rw [List.mem_singleton.mp hp]; exact PySem.W.codeHd_of_K X hcP, fun s u => .of_eq rfl, fun H a ns hl _ hT hS => ⟨a, ns, rfl, hS, hl, hT _ List.mem_cons_self, fun _ => rfl⟩, fun base _ _ hTB => ?_⟩
  have TP : TxS l.prog K mg C D fI aS := ⟨iT, ⟨_, cls, ⟨_, rfl⟩⟩, PySem.W.mg_of X G gC, PySem.W.mg_of X G gS, fun H => .inr ⟨_, _, _, lS, rfl, rfl, (show 3 ≤ sizeLine by decide), .cons ⟨_, rfl⟩ (.cons ⟨_, rfl⟩ (.cons ⟨_, rfl⟩ .nil))⟩, n8, n7⟩
  have MR : Menu K w dR menR := ⟨⟨_, _, wlR, wkR, woR⟩, fun c hc => by
    rcases isC_or hc with rfl | rfl | rfl | rfl
    · exact ⟨_, wR0, fun H => .inr ⟨_, _, _, wtR0, rfl, rfl, (show 2 ≤ sizeLine by decide), .cons ⟨_, rfl⟩ (.cons ⟨_, rfl⟩ .nil)⟩⟩
    · exact ⟨_, wR1, fun H => .inr ⟨_, _, _, wtR1, rfl, rfl, (show 2 ≤ sizeLine by decide), .cons ⟨_, rfl⟩ (.cons ⟨_, rfl⟩ .nil)⟩⟩
    · exact ⟨_, wR2, fun H => .inr ⟨_, _, _, wtR2, rfl, rfl, (show 3 ≤ sizeLine by decide), .cons ⟨_, rfl⟩ (.cons ⟨_, rfl⟩ (.cons ⟨_, rfl⟩ .nil))⟩⟩
    · exact ⟨_, wR3, fun H => .inr ⟨_, _, _, wtR3, rfl, rfl, (show 1 ≤ sizeLine by decide), .cons ⟨_, rfl⟩ .nil⟩⟩, wxR⟩
  have MC : Menu K w dC menC := ⟨⟨_, _, wlC, wkC, woC⟩, fun c hc => by
    rcases isC_or hc with rfl | rfl | rfl | rfl
    · exact ⟨_, wC0, fun H => .inr ⟨_, _, _, wtC0, rfl, rfl, (show 2 ≤ sizeLine by decide), .cons ⟨_, rfl⟩ (.cons ⟨_, rfl⟩ .nil)⟩⟩
    · exact ⟨_, wC1, fun H => .inr ⟨_, _, _, wtC1, rfl, rfl, (show 2 ≤ sizeLine by decide), .cons ⟨_, rfl⟩ (.cons ⟨_, rfl⟩ .nil)⟩⟩
    · exact ⟨_, wC2, fun H => .inr ⟨_, _, _, wtC2, rfl, rfl, (show 1 ≤ sizeLine by decide), .cons ⟨_, rfl⟩ .nil⟩⟩
    · exact ⟨_, wC3, fun H => .inr ⟨_, _, _, wtC3, rfl, rfl, (show 3 ≤ sizeLine by decide), .cons ⟨_, rfl⟩ (.cons ⟨_, rfl⟩ (.cons ⟨_, rfl⟩ .nil))⟩⟩, wxC⟩
  have TLx : TL K mg f6 f7 f8 f9 f3 f4 f11 f10 f12 f13 f14 D D2 := { toTS1 := T1, gB := g6, gP := g7, gO := g8, gS := g9, gQ := g3, gL := g4, gC := g12, gM := g13, gN := g14, gG := g11, gT := g10, m1 := PySem.W.mg_of X G gD, m2 := PySem.W.mg_of X G gE }
  have GP : FnOk l.prog w K mg base CX0 1 f7 _ ["_law_bag_here", "_law_many"] spPull := ok_pull F7 n7
  have GO := ok_of F8 GP F7.kp b7 g7 n7
  have GOT := ok_ofT F8 GP F7.kp b7 g7 n7
  have G1 : FnOk l.prog w K mg base CX0 2 f1 _ ["row"] (spAre K) := ok_are F1 TP
  have G2 := ok_row F2 TP G1 g1 F1.kp b1
  have G5 := ok_col (w := w) (base := base) F5 TP clsu ⟨_, rfl⟩ (PySem.W.mg_of X G gCu) MR (PySem.W.mg_of X G wgR) n12
  have G3 := ok_ring F3 TP MR (PySem.W.mg_of X G wgR) n11 G2 g2 F2.kp b2 G5 g5 F5.kp b5
  have G4 := ok_cut F4 TP MC (PySem.W.mg_of X G wgC) n11 G2 g2 F2.kp b2 G5 g5 F5.kp b5
  have GG := ok_drawn F11 n9 GO g8 F8.kp b8
  have GC := ok_cols F12 n9 GO GOT g8 F8.kp b8
  exact ok_law lL cL TLx TP hE hEu clsu (hTB _ List.mem_cons_self) (ok_bag F6 n5) F6.kp b6 GP F7.kp b7 GO F8.kp b8 (ok_same F9 T1 b9 g9 3) F9.kp b9 GOT G3 F3.kp b3 G4 F4.kp b4 (kb_cut F4) GC F12.kp b12 (ok_lr F13 T1) F13.kp b13 (ok_lc F14 T1) F14.kp b14 GG F11.kp b11 F10 b10
end K32
open PySem PySem.W PyProof.Rows
set_option maxRecDepth 100000 in
set_option maxHeartbeats 0 in
theorem PySem.Challenge.cw_signcleave_k32_colours_suited_holds : PySem.Challenge.rw_signcleave_k32_colours_suited.Holds := by
  w_on; o_law; k_head; (case hw => w_witness2)
  k_fill
  refine LamX.walk_ofTs (l := PySem.Challenge.rw_signcleave_k32_colours_suited) (n := 63) (k := 8) (x := "_law_script") (CX := fun _ => L2.CX0) rfl (by decide) rfl ⟨rfl, by decide, by decide⟩ (fun w h Y => PySem.W.km_in_of Y) ?F (fun _ _ _ _ _ h => h)
  case F =>
    intro w mg fa h Y KX G hmg
    refine' K32.all_mk KX G hmg ?a1 ?l1 ?c1 ?k1 ?a2 ?l2 ?c2 ?k2 ?a3 ?l3 ?c3 ?k3 ?a4 ?l4 ?c4 ?k4 ?a5 ?l5 ?c5 ?k5 ?a6 ?l6 ?c6 ?k6 ?a7 ?l7 ?c7 ?k7 ?a8 ?l8 ?c8 ?k8 ?a9 ?l9 ?c9 ?k9 ?a10 ?l10 ?c10 ?k10 ?a11 ?l11 ?c11 ?k11 ?a12 ?l12 ?c12 ?k12 ?a13 ?l13 ?c13 ?k13 ?a14 ?l14 ?c14 ?k14 ?aL ?lL ?cL ?z1 ?z2 ?z3 ?z4 ?z5 ?z6 ?z7 ?z8 ?z9 ?z10 ?z11 ?z12 ?gS ?lS ?wgR ?wlR ?wkR ?woR ?wR0 ?wtR0 ?wR1 ?wtR1 ?wR2 ?wtR2 ?wR3 ?wtR3 ?wxR ?wgC ?wlC ?wkC ?woC ?wC0 ?wtC0 ?wC1 ?wtC1 ?wC2 ?wtC2 ?wC3 ?wtC3 ?wxC ?gC ?gCu ?gD ?gE ?xC ?xB ?xCu ?xBu ?xD ?iC ?iCu ?tI ?lI ?cI ?lT ?lA ?vA ?fA ?lX ?nT0 ?noT ?mD ?mO ?sup ?sVE ?sa ?ga ?gg ?nw ?cC ?rd ?nmC ?kC ?exC ?tyC ?hdC ?isC ?sCD ?mDu ?mOu ?supu ?sVEu ?sau ?gau ?ggu ?nwu ?cCu ?rdu ?nmCu ?kCu ?exCu ?tyCu ?hdCu ?isCu ?sCDu ?cG ?cT ?exD ?isD ?tyD ?hP ?nP ?hcP
    (case a1 => first | k_is | ks_is | kernel_rfl | decide +kernel)
    (case l1 => first | k_is | ks_is | kernel_rfl | decide +kernel)
    (case c1 => first | k_is | ks_is | kernel_rfl | decide +kernel)
    (case k1 => first | k_is | ks_is | kernel_rfl | decide +kernel)
    (case a2 => first | k_is | ks_is | kernel_rfl | decide +kernel)
    (case l2 => first | k_is | ks_is | kernel_rfl | decide +kernel)
    (case c2 => first | k_is | ks_is | kernel_rfl | decide +kernel)
    (case k2 => first | k_is | ks_is | kernel_rfl | decide +kernel)
    (case a3 => first | k_is | ks_is | kernel_rfl | decide +kernel)
    (case l3 => first | k_is | ks_is | kernel_rfl | decide +kernel)
    (case c3 => first | k_is | ks_is | kernel_rfl | decide +kernel)
    (case k3 => first | k_is | ks_is | kernel_rfl | decide +kernel)
    (case a4 => first | k_is | ks_is | kernel_rfl | decide +kernel)
    (case l4 => first | k_is | ks_is | kernel_rfl | decide +kernel)
    (case c4 => first | k_is | ks_is | kernel_rfl | decide +kernel)
    (case k4 => first | k_is | ks_is | kernel_rfl | decide +kernel)
    (case a5 => first | k_is | ks_is | kernel_rfl | decide +kernel)
    (case l5 => first | k_is | ks_is | kernel_rfl | decide +kernel)
    (case c5 => first | k_is | ks_is | kernel_rfl | decide +kernel)
    (case k5 => first | k_is | ks_is | kernel_rfl | decide +kernel)
    (case a6 => first | k_is | ks_is | kernel_rfl | decide +kernel)
    (case l6 => first | k_is | ks_is | kernel_rfl | decide +kernel)
    (case c6 => first | k_is | ks_is | kernel_rfl | decide +kernel)
    (case k6 => first | k_is | ks_is | kernel_rfl | decide +kernel)
    (case a7 => first | k_is | ks_is | kernel_rfl | decide +kernel)
    (case l7 => first | k_is | ks_is | kernel_rfl | decide +kernel)
    (case c7 => first | k_is | ks_is | kernel_rfl | decide +kernel)
    (case k7 => first | k_is | ks_is | kernel_rfl | decide +kernel)
    (case a8 => first | k_is | ks_is | kernel_rfl | decide +kernel)
    (case l8 => first | k_is | ks_is | kernel_rfl | decide +kernel)
    (case c8 => first | k_is | ks_is | kernel_rfl | decide +kernel)
    (case k8 => first | k_is | ks_is | kernel_rfl | decide +kernel)
    (case a9 => first | k_is | ks_is | kernel_rfl | decide +kernel)
    (case l9 => first | k_is | ks_is | kernel_rfl | decide +kernel)
    (case c9 => first | k_is | ks_is | kernel_rfl | decide +kernel)
    (case k9 => first | k_is | ks_is | kernel_rfl | decide +kernel)
    (case a10 => first | k_is | ks_is | kernel_rfl | decide +kernel)
    (case l10 => first | k_is | ks_is | kernel_rfl | decide +kernel)
    (case c10 => first | k_is | ks_is | kernel_rfl | decide +kernel)
    (case k10 => first | k_is | ks_is | kernel_rfl | decide +kernel)
    (case a11 => first | k_is | ks_is | kernel_rfl | decide +kernel)
    (case l11 => first | k_is | ks_is | kernel_rfl | decide +kernel)
    (case c11 => first | k_is | ks_is | kernel_rfl | decide +kernel)
    (case k11 => first | k_is | ks_is | kernel_rfl | decide +kernel)
    (case a12 => first | k_is | ks_is | kernel_rfl | decide +kernel)
    (case l12 => first | k_is | ks_is | kernel_rfl | decide +kernel)
    (case c12 => first | k_is | ks_is | kernel_rfl | decide +kernel)
    (case k12 => first | k_is | ks_is | kernel_rfl | decide +kernel)
    (case a13 => first | k_is | ks_is | kernel_rfl | decide +kernel)
    (case l13 => first | k_is | ks_is | kernel_rfl | decide +kernel)
    (case c13 => first | k_is | ks_is | kernel_rfl | decide +kernel)
    (case k13 => first | k_is | ks_is | kernel_rfl | decide +kernel)
    (case a14 => first | k_is | ks_is | kernel_rfl | decide +kernel)
    (case l14 => first | k_is | ks_is | kernel_rfl | decide +kernel)
    (case c14 => first | k_is | ks_is | kernel_rfl | decide +kernel)
    (case k14 => first | k_is | ks_is | kernel_rfl | decide +kernel)
    (case aL => first | k_is | ks_is | kernel_rfl | decide +kernel)
    (case lL => first | k_is | ks_is | kernel_rfl | decide +kernel)
    (case cL => first | k_is | ks_is | kernel_rfl | decide +kernel)
    (case z1 => first | k_is | ks_is | kernel_rfl | decide +kernel)
    (case z2 => first | k_is | ks_is | kernel_rfl | decide +kernel)
    (case z3 => first | k_is | ks_is | kernel_rfl | decide +kernel)
    (case z4 => first | k_is | ks_is | kernel_rfl | decide +kernel)
    (case z5 => first | k_is | ks_is | kernel_rfl | decide +kernel)
    (case z6 => first | k_is | ks_is | kernel_rfl | decide +kernel)
    (case z7 => first | k_is | ks_is | kernel_rfl | decide +kernel)
    (case z8 => first | k_is | ks_is | kernel_rfl | decide +kernel)
    (case z9 => first | k_is | ks_is | kernel_rfl | decide +kernel)
    (case z10 => first | k_is | ks_is | kernel_rfl | decide +kernel)
    (case z11 => first | k_is | ks_is | kernel_rfl | decide +kernel)
    (case z12 => first | k_is | ks_is | kernel_rfl | decide +kernel)
    (case gS => first | k_is | ks_is | kernel_rfl | decide +kernel)
    (case lS => first | k_is | ks_is | kernel_rfl | decide +kernel)
    (case wgR => first | k_is | ks_is | kernel_rfl | decide +kernel)
    (case wlR => first | k_is | ks_is | kernel_rfl | decide +kernel)
    (case wkR => exact ⟨⟨_, _, rfl, rfl⟩, ⟨_, _, rfl, rfl⟩, ⟨_, _, rfl, rfl⟩, ⟨_, _, rfl, rfl⟩, trivial⟩)
    (case woR => first | rfl | decide +kernel)
    (case wR0 => first | k_is | ks_is | kernel_rfl | decide +kernel)
    (case wtR0 => first | k_is | ks_is | kernel_rfl | decide +kernel)
    (case wR1 => first | k_is | ks_is | kernel_rfl | decide +kernel)
    (case wtR1 => first | k_is | ks_is | kernel_rfl | decide +kernel)
    (case wR2 => first | k_is | ks_is | kernel_rfl | decide +kernel)
    (case wtR2 => first | k_is | ks_is | kernel_rfl | decide +kernel)
    (case wR3 => first | k_is | ks_is | kernel_rfl | decide +kernel)
    (case wtR3 => first | k_is | ks_is | kernel_rfl | decide +kernel)
    (case wxR => first | k_is | ks_is | kernel_rfl | decide +kernel)
    (case wgC => first | k_is | ks_is | kernel_rfl | decide +kernel)
    (case wlC => first | k_is | ks_is | kernel_rfl | decide +kernel)
    (case wkC => exact ⟨⟨_, _, rfl, rfl⟩, ⟨_, _, rfl, rfl⟩, ⟨_, _, rfl, rfl⟩, ⟨_, _, rfl, rfl⟩, trivial⟩)
    (case woC => first | rfl | decide +kernel)
    (case wC0 => first | k_is | ks_is | kernel_rfl | decide +kernel)
    (case wtC0 => first | k_is | ks_is | kernel_rfl | decide +kernel)
    (case wC1 => first | k_is | ks_is | kernel_rfl | decide +kernel)
    (case wtC1 => first | k_is | ks_is | kernel_rfl | decide +kernel)
    (case wC2 => first | k_is | ks_is | kernel_rfl | decide +kernel)
    (case wtC2 => first | k_is | ks_is | kernel_rfl | decide +kernel)
    (case wC3 => first | k_is | ks_is | kernel_rfl | decide +kernel)
    (case wtC3 => first | k_is | ks_is | kernel_rfl | decide +kernel)
    (case wxC => first | k_is | ks_is | kernel_rfl | decide +kernel)
    (case gC => first | k_is | ks_is | kernel_rfl | decide +kernel)
    (case gCu => first | k_is | ks_is | kernel_rfl | decide +kernel)
    (case gD => first | k_is | ks_is | kernel_rfl | decide +kernel)
    (case gE => first | k_is | ks_is | kernel_rfl | decide +kernel)
    (case xC => first | k_is | ks_is | kernel_rfl | decide +kernel)
    (case xB => decide +kernel)
    (case xCu => first | k_is | ks_is | kernel_rfl | decide +kernel)
    (case xBu => decide +kernel)
    (case xD => first | k_is | ks_is | kernel_rfl | decide +kernel)
    (case iC => first | k_is | ks_is | kernel_rfl | decide +kernel)
    (case iCu => first | k_is | ks_is | kernel_rfl | decide +kernel)
    (case tI => first | k_is | ks_is | kernel_rfl | decide +kernel)
    (case lI => first | k_is | ks_is | kernel_rfl | decide +kernel)
    (case cI => first | k_is | ks_is | kernel_rfl | decide +kernel)
    (case lT => first | k_is | ks_is | kernel_rfl | decide +kernel)
    (case lA => first | k_is | ks_is | kernel_rfl | decide +kernel)
    (case vA => rfl)
    (case fA => decide +kernel)
    (case lX => first | k_is | ks_is | kernel_rfl | decide +kernel)
    (case nT0 => decide +kernel)
    (case noT => first | k_is | ks_is | kernel_rfl | decide +kernel)
    (case mD => first | k_is | ks_is | kernel_rfl | decide +kernel)
    (case mO => first | k_is | ks_is | kernel_rfl | decide +kernel)
    (case sup => first | k_is | ks_is | kernel_rfl | decide +kernel)
    (case sVE => first | k_is | ks_is | kernel_rfl | decide +kernel)
    (case sa => first | k_is | ks_is | kernel_rfl | decide +kernel)
    (case ga => first | k_is | ks_is | kernel_rfl | decide +kernel)
    (case gg => first | k_is | ks_is | kernel_rfl | decide +kernel)
    (case nw => first | k_is | ks_is | kernel_rfl | decide +kernel)
    (case cC => first | k_is | ks_is | kernel_rfl | decide +kernel)
    (case rd => first | k_is | ks_is | kernel_rfl | decide +kernel)
    (case nmC => first | k_is | ks_is | kernel_rfl | decide +kernel)
    (case kC => first | k_is | ks_is | kernel_rfl | decide +kernel)
    (case exC => first | k_is | ks_is | kernel_rfl | decide +kernel)
    (case tyC => first | k_is | ks_is | kernel_rfl | decide +kernel)
    (case hdC => first | k_is | ks_is | kernel_rfl | decide +kernel)
    (case isC => first | k_is | ks_is | kernel_rfl | decide +kernel)
    (case sCD => first | k_is | ks_is | kernel_rfl | decide +kernel)
    (case mDu => first | k_is | ks_is | kernel_rfl | decide +kernel)
    (case mOu => first | k_is | ks_is | kernel_rfl | decide +kernel)
    (case supu => first | k_is | ks_is | kernel_rfl | decide +kernel)
    (case sVEu => first | k_is | ks_is | kernel_rfl | decide +kernel)
    (case sau => first | k_is | ks_is | kernel_rfl | decide +kernel)
    (case gau => first | k_is | ks_is | kernel_rfl | decide +kernel)
    (case ggu => first | k_is | ks_is | kernel_rfl | decide +kernel)
    (case nwu => first | k_is | ks_is | kernel_rfl | decide +kernel)
    (case cCu => first | k_is | ks_is | kernel_rfl | decide +kernel)
    (case rdu => first | k_is | ks_is | kernel_rfl | decide +kernel)
    (case nmCu => first | k_is | ks_is | kernel_rfl | decide +kernel)
    (case kCu => first | k_is | ks_is | kernel_rfl | decide +kernel)
    (case exCu => first | k_is | ks_is | kernel_rfl | decide +kernel)
    (case tyCu => first | k_is | ks_is | kernel_rfl | decide +kernel)
    (case hdCu => first | k_is | ks_is | kernel_rfl | decide +kernel)
    (case isCu => first | k_is | ks_is | kernel_rfl | decide +kernel)
    (case sCDu => first | k_is | ks_is | kernel_rfl | decide +kernel)
    (case cG => first | k_is | ks_is | kernel_rfl | decide +kernel)
    (case cT => first | k_is | ks_is | kernel_rfl | decide +kernel)
    (case exD => first | k_is | ks_is | kernel_rfl | decide +kernel)
    (case isD => first | k_is | ks_is | kernel_rfl | decide +kernel)
    (case tyD => first | k_is | ks_is | kernel_rfl | decide +kernel)
    (case hP => exact PySem.W.km_tabs_of Y _ (by simp; rfl))
    (case nP => first | k_is | ks_is | kernel_rfl | decide +kernel)
    (case hcP => first | k_is | ks_is | kernel_rfl | decide +kernel)
