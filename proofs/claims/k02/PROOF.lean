import PyProof.Rows.All
import Wide.All
import OpenK.AllK
import Wide.FinOn
import HandS.ForMost
import HandS.IsInst
import HandS.Codes
import HandS.Conv
import HandS.Style
import KE.GoesEnum
import HandS.MapObj
import KE.KFromBytes
import HandS.Exc
import KE.KExcIs
import KE.KExcSuper
import HandS.Base
import HandS.Call
import HandS.ForSpec
import HandS.TryMany
import HandS.Lambda
import KE.KDflt
import HandS.FStr
import HandS.TupAny
import HandS.FStrTup
import HandS.Deep
import KE.GoesZip
import KE.GoesMore
import HandS.EndTab
import PySem.Challenge.RW_signcleave_k02_places_of_lots
set_option Elab.async false
set_option linter.all false
set_option maxRecDepth 100000
namespace ET
open PySem PySem.Spec PyProof.Rows L2
/-! enumerate(t), t a tuple -/
theorem new_enumT {t : Addr} {items : Array Value} :
    Meets (Builtin.«enumerate.__new__» ⟨[.type "enumerate", .ref t], []⟩)
      (fun _ R s => s.heap.IsTuple t items ∧ R (.ok (.ret (.ref (s.heap.objs.size + 1))))
        { s with heap := (s.heap.push { cls := .type "tuple_iterator", data := .fields #[.ref t, .int 0 0] }).push { cls := .type "enumerate", data := .fields #[.none, .bool false, .ref s.heap.objs.size, rawInt 0, .none, .none] } }) :=
  .of_wp fun prog w A R s hyp => by
    obtain ⟨hp, g, d, tk, os⟩ := s
    obtain ⟨isT, rr⟩ := hyp
    have isSub := sub_enumerate
    have it1 : ∀ {A' : Around} {E Q : Value → Shared → Prop}, Q (.ref hp.objs.size) ⟨hp.push { cls := .type "tuple_iterator", data := .fields #[.ref t, .int 0 0] }, g, d, tk, os⟩ → wpAny (model prog w) A' (pyIter (.ref t)) Q E ⟨hp, g, d, tk, os⟩ :=
      fun q => wpAny_pyIter_tuple isT q
    have hz : (hp.push { cls := .type "tuple_iterator", data := .fields #[.ref t, .int 0 0] }).objs.size = hp.objs.size + 1 := Heap.size_push ..
    wp_walk using it1
    refine wpAny_stack_any fun st => wpAny_pure ?_
    split
    · rename_i c _ _ _ _ _
      cases (c == Value.type "enumerate") <;> (wp_walk using it1; rw [hz]; exact ⟨_, rfl, rr⟩)
    · wp_walk using it1
      rw [hz]
      exact ⟨_, rfl, rr⟩
theorem call_enumT {prog : Program} {w : World} {A : Around} {E : Value → Shared → Prop} {s : Shared} {t : Addr} {items : Array Value} {Q : Value → Shared → Prop} (isT : s.heap.IsTuple t items)
    (h : ∀ h', IsEnum h' (s.heap.objs.size + 1) s.heap.objs.size 0 .none → h'.IsTupleIter s.heap.objs.size t 0 →
      (∀ b o, s.heap.get? b = some o → h'.get? b = some o) → Q (.ref (s.heap.objs.size + 1)) { s with heap := h' }) :
    wpAny (model prog w) A (call (.type "enumerate") [.ref t]) Q E s := by
  refine callType_new F.called_enumerate (by decide) (F.typeCall_enumerate_1 _) (F.newCall_enumerate_1 _) (fun obj => F.args_object_init_2 obj _) F.entry_enumerate_new (new_enumT (items := items)) ⟨isT, ?_⟩
  have hz : (s.heap.push { cls := .type "tuple_iterator", data := .fields #[.ref t, .int 0 0] }).objs.size = s.heap.objs.size + 1 := Heap.size_push ..
  have he : ∀ o, o.isFreed = false → ((s.heap.push { cls := .type "tuple_iterator", data := .fields #[.ref t, .int 0 0] }).push o).get? (s.heap.objs.size + 1) = some o := fun o hf => by
    have q := Heap.get?_push_size (s.heap.push { cls := .type "tuple_iterator", data := .fields #[.ref t, .int 0 0] }) (o := o) hf
    rw [hz] at q
    exact q
  exact ⟨⟨_, he _ rfl, rfl⟩, h _ (he _ rfl) ⟨_, Heap.get?_push_of_some _ (Heap.get?_push_size _ rfl), rfl, rfl⟩ fun b o x => Heap.get?_push_of_some _ (Heap.get?_push_of_some _ x)⟩
/-- the tuple at a, item by item, each in a new pair -/
def IteT (K : PySem.W.Frag) (a : Addr) : It where
  go := fun i H => ∃ (xs : List V) (x : V), SqT K H a xs ∧ xs[i]? = some x
  yld := fun i H v H' => ∃ T x, v = .ref T ∧ H T = none ∧ H' = upd H T (.tup [.int (i : Nat), x]) ∧ ∀ xs, SqT K H a xs → xs[i]? = some x
  stop := fun i H => ∃ xs : List V, SqT K H a xs ∧ xs.length ≤ i
theorem turn_enumT {P : Program} {w : World} {K : PySem.W.Frag} {elts : List Expr} {kk : Nat} {tpos : Pos} (a e it : Addr) (hai : a ≠ it) (hae : a ≠ e) (hei : e ≠ it) :
    Turn P w K (.Tuple elts kk tpos) (IteT K a) [e, it] e (fun i h => (∃ old, IsEnum h e it ((i : Nat) : Int) old) ∧ h.IsTupleIter it a i) where
  mem := List.mem_cons_self
  obj := fun i h st b hb => by
    obtain ⟨⟨old, he⟩, o, ho, hc, hd⟩ := st
    rcases List.mem_cons.mp hb with z | z
    · subst z
      exact ⟨_, he, fun v q => nomatch q⟩
    · rw [List.mem_singleton.mp z]
      exact ⟨o, ho, fun v q => by rw [hd] at q; cases q⟩
  keep := fun i h h' st k => by
    obtain ⟨⟨old, he⟩, hi⟩ := st
    exact ⟨⟨old, k e (by simp) _ he⟩, hi.at fun o q => k it (by simp) o q⟩
  item := by
    rintro X rfl rfl rfl hc i pins s σ H E I hf ⟨⟨old, he⟩, hit⟩ ⟨xs, x, hq, hx⟩
    obtain ⟨its, rv, p, hz⟩ := I.tuple hq
    obtain ⟨u, hu, ru⟩ := rv.get hx
    have hp : s.heap.IsTuple a its.toArray := p
    have hel : e < s.heap.objs.size := Heap.lt_size he
    have hil : it < s.heap.objs.size := by
      obtain ⟨_, q, _⟩ := hit
      exact Heap.lt_size q
    have hlt : i < its.toArray.size := by
      have q := (List.getElem?_eq_some_iff.mp hu).1
      simpa using q
    refine wpAny_pyNext_enum_itemD (Draws.tuple (A := X.A.in1) (I.ok.hd hc) it a hai its.toArray) he ⟨hit, hp⟩ hlt hei (by simp [hei, Ne.symm hae]) fun y h' tk hy ho hit' hT hsz hk => ?_
    have ey : y = u := by
      have q : its[i]? = some y := by simpa using hy
      rw [hu] at q
      exact (Option.some.inj q).symm
    subst ey
    refine ⟨_, rfl, wpAny_letOwnedTupleGo_enum (s := { s with heap := h', toks := tk + 1 }) ho fun h'' he' sb => ?_⟩
    have hT2 : h''.get? s.heap.objs.size = some { cls := .type "tuple", data := .seq #[.int i tk, y] } := (sb.2 _ (Nat.ne_of_gt hel)).trans hT
    have pairOk : ObjOk X.prog X.w (upd H s.heap.objs.size (.tup [.int (i : Nat), x])) h'' s.heap.objs.size
        (.tup [.int (i : Nat), x]) := ⟨by show 2 ≤ sizeLine; decide, [.int i tk, y], .cons ⟨_, rfl⟩ (.cons ru .nil), _, hT2, rfl, _, rfl⟩
    have stays : ∀ c oc, c ∉ [e, it] → s.heap.get? c = some oc → h''.get? c = some oc := fun c oc hc' z => by
      have n1 : c ≠ e := fun z1 => hc' (by simp [z1])
      have n2 : c ≠ it := fun z1 => hc' (by simp [z1])
      exact (sb.2 c n1).trans (hk c oc n1 n2 z)
    have I1 : Inv X pins σ (upd H s.heap.objs.size (.tup [.int (i : Nat), x])) { s with heap := h'', toks := tk + 1 } :=
      I.turnedNew (ch := [e, it]) stays hf (Nat.le_refl _) pairOk
    have e1 : ((i + 1 : Nat) : Int) = (i : Int) + 1 := by omega
    refine ⟨.ref s.heap.objs.size, _, I1, rfl, ⟨_, x, rfl, I.hok.fresh (Nat.le_refl _), rfl, fun ys hy => by rw [I.tuple_inj hy hq]; exact hx⟩, ⟨⟨y, by rw [e1]; exact he'⟩, hit'.1.at fun o q => (sb.2 it (Ne.symm hei)).trans q⟩, fun b hb => ?_⟩
    have hb' : b < s.heap.objs.size := by
      rcases List.mem_cons.mp hb with z | z
      · rw [z]; exact hel
      · rw [List.mem_singleton.mp z]; exact hil
    rw [upd_ne (Nat.ne_of_lt hb')]
    exact (hf b hb).1
  done := by
    rintro X rfl rfl rfl hc i pins s σ H E I hf ⟨⟨old, he⟩, hit⟩ ⟨xs, hq, hx⟩
    obtain ⟨its, rv, p, hz⟩ := I.tuple hq
    have hp : s.heap.IsTuple a its.toArray := p
    obtain ⟨f0, f1, f2, f3, f4, f5⟩ := hf it (by simp)
    have hl := rv.length
    unfold pyNext
    refine wpAny_bind (wpAny_attempt (wpAny_callSpecial?_slot (name := Str.ofString "__next__") ⟨_, he, rfl⟩ F.slot_enumerate_next (wpAny_call_entry F.slot_enumerate_next ⟨_, he, rfl⟩ F.entry_enumerate_next ?_ (F.args_enumerate_next_1 _))))
    show wpAny _ _ (field (.ref e) 2 >>= _) _ _ _
    refine wpAny_bind (wpAny_field he rfl (x := .ref it) rfl (wpAny_bind (wpAny_nextOf_tuple_end (A := X.A.in1) (I.ok.hd hc) hit hp (by simp; omega) fun h' x eb hx' => ?_)))
    obtain ⟨o, ho, hcl⟩ := hx'
    exact wpAny_bind (wpAny_isInstance (T := "StopIteration") (b := true) ⟨o, ho, hcl⟩ isSubtype_stop (wpAny_pure ⟨rfl, I.turned (t' := s.toks) (fun b o hb q => eb b o hb q) f0 f1 f3 f4 f5⟩))
  self := fun A i s Q E st h => by
    obtain ⟨⟨_, he⟩, _⟩ := st
    exact wpAny_pyIter_enum he h
def iEnumT (K : PySem.W.Frag) (ta : TA) : TI := fun σ H R => ta σ H fun vs H1 => ∃ a xs, vs = [.ref a] ∧ SqT K H1 a xs ∧ R (IteT K a) H1
theorem pi_enumT {X : Cx} {e : Expr} {ta : TA} {p pos tpos : Pos} {elts : List Expr} {kk : Nat} (hg : Gl X "enumerate") (hm : X.mg "enumerate" = none) (ha : PA X [e] ta)
    (hs : starEach [e] X.env = [(false, eval e X.env)] := by rfl) : PI X (.Tuple elts kk tpos) (.Call (.Name "enumerate" p) [e] [] pos) (iEnumT X.K ta) := by
  refine ⟨fun pins s σ H R I h => Call_ (ld_blt I hg hm boot_enumerate (PyProof.Rows.callWith_type1 (thn (ha.run pos pins s σ H _ I h) fun us s1 h1 => ?_) hs rfl))⟩
  obtain ⟨vs, H1, I1, r1, a, xs, rfl, hq, q⟩ := h1
  cases r1 with
  | cons r rr =>
    cases rr
    cases r
    obtain ⟨its, rv, p', hz⟩ := I1.tuple hq
    have hp : s1.heap.IsTuple a its.toArray := p'
    have hlt : a < s1.heap.objs.size := IsTup.lt p'
    refine call_enumT hp fun h' he hit hk => wpAny_pyIter_enum he ?_
    have I2 : Inv X pins σ H1 { s1 with heap := h' } := I1.kept (t' := s1.toks) hk
    refine ⟨s1.heap.objs.size + 1, [s1.heap.objs.size + 1, s1.heap.objs.size], _, _, H1, rfl, I2, turn_enumT a (s1.heap.objs.size + 1) s1.heap.objs.size (Nat.ne_of_lt hlt) (Nat.ne_of_lt (Nat.lt_succ_of_lt hlt)) (Nat.succ_ne_self _), ⟨⟨.none, he⟩, hit⟩, fun b hb => ?_, q⟩
    have hb' : s1.heap.objs.size ≤ b := by
      rcases List.mem_cons.mp hb with z | z
      · rw [z]; exact Nat.le_succ _
      · rw [List.mem_singleton.mp z]; exact Nat.le_refl _
    exact I1.fpOk hb' (I1.hok.fresh hb')
end ET

namespace K2
open PySem PySem.Spec PyProof.Rows L2
def topS (i : Nat) : Stmt := PySem.Challenge.pw_signcleave_k02_places_of_lots.main.body.getD i (.Pass ⟨0, 0, 0, 0⟩)
abbrev sBag : Stmt := topS 12
abbrev sPull : Stmt := topS 13
abbrev sOf : Stmt := topS 14
theorem scPull : FnScope ["_law_bag_here", "_law_many9", "_law_cell", "_law_got", "_law_base", "_law_twice"] ["_law_bag_here", "_law_many9"] (defScope sPull) := ⟨rfl, rfl, rfl, by decide +kernel, rfl, by decide +kernel, by decide +kernel⟩
theorem scBag : FnScope ["_law_script", "_law_salt", "_law_cell"] ["_law_script"] (defScope sBag) := ⟨rfl, rfl, rfl, by decide +kernel, rfl, by decide +kernel, by decide +kernel⟩
theorem scOf : FnScope ["_law_bag_here", "_law_some"] ["_law_bag_here", "_law_some"] (defScope sOf) := ⟨rfl, rfl, rfl, by decide +kernel, rfl, by decide +kernel, by decide +kernel⟩

/-! ### the bag -/
def bagv (l : Addr) (i bank salt c : Int) : List V := [.ref l, .int i, .int bank, .int salt, .int c]
structure BagAt (l : Addr) (ns : List Int) (H : Hp) (b : Addr) : Prop where
  ne : l ≠ b
  ls : H l = some (.lst (ns.map V.int))
  ex : ∃ i bank salt c, H b = some (.lst (bagv l i bank salt c)) ∧ 0 ≤ i ∧ 0 ≤ bank ∧ 0 ≤ salt ∧ salt < 2147483629
def spPull : Sp := fun vs H Q _ => ∃ (b l : Addr) (m : Int) (ns : List Int), vs = [.ref b, .int m] ∧ 0 < m ∧ m < 1073741824 ∧ BagAt l ns H b ∧
  ∀ r xs, 0 ≤ r → r < m → BagAt l ns (upd H b (.lst xs)) b → Q (.int r) (upd H b (.lst xs))
theorem BagAt.put {l b : Addr} {ns : List Int} {H : Hp} (B : BagAt l ns H b) {i bank salt c : Int} (h1 : 0 ≤ i) (h2 : 0 ≤ bank) (h3 : 0 ≤ salt) (h4 : salt < 2147483629) : BagAt l ns (upd H b (.lst (bagv l i bank salt c))) b :=
  ⟨B.ne, by rw [upd_ne B.ne]; exact B.ls, i, bank, salt, c, upd_same, h1, h2, h3, h4⟩
theorem upd_self {H : Hp} {a : Addr} {o : HO} (h : H a = some o) : upd H a o = H := by
  funext b
  unfold upd
  split
  · rename_i e
    rw [e, h]
  · rfl
theorem mul_const {j : Int} (h : -(2 ^ 64) < j ∧ j < 2 ^ 64) (i : Int) : CMul i j := .inr h
section
variable {P : Program} {w : World} {K : PySem.W.Frag} {mg : Str → Option Value} {base : Heap}
theorem ok_pull {f : Addr} {fd : FuncData} {k : Nat} (F : Fun K "_law_pull" "_law_pull" sPull f fd) (ml : mg "len" = none) : FnOk P w K mg base CX0 (k + 1) f fd ["_law_bag_here", "_law_many9"] spPull := by
  refine F.ok scPull (fun vs H Q E h => ?_) (fun cdv A outer s H vs Q E hr h => ?_)
  · obtain ⟨b, l, m, ns, rfl, _⟩ := h
    rfl
  · obtain ⟨b, l, m, ns, rfl, m0, m1, B, q⟩ := h
    refine ⟨_, C8.pss_cut (ps_if (PW.pt (pw_and (pt_cmpR op_lt (pe_ix ix_list (pv 0) pe_int (fun _ _ => rfl)) pe_int (nomark _))
          (pw_and1 (pt_cmpR op_lt (pe_ix ix_list (pv 0) pe_int (fun _ _ => rfl)) (pe_callB call_len_seq (by rfl) ml PySem.boot_len (pa_cons (pe_ix ix_list (pv 0) pe_int (fun _ _ => rfl)) pa_nil)) (nomark _)))))
        (pss_cons (ps_set (i := 2) scPull.nd rfl (Or.inl rfl) (pe_ix ix_list (pe_ix ix_list (pv 0) pe_int (fun _ _ => rfl)) (pe_ix ix_list (pv 0) pe_int (fun _ _ => rfl)) (fun _ _ => rfl)))
        (pss_cons (ps_asg (pe_op op_add (pe_ix ix_list (pv 0) pe_int (fun _ _ => rfl)) pe_int) (pg_sub (pv 0) pe_int set_list))
        (pss_one (ps_if (pt_cmpR op_ge (pv 2) (pe_op op_pow pe_int pe_int) (nomark _))
          (pss_one (ps_asg (pv 2) (pg_sub (pv 0) pe_int set_list)))
          (pss_one (ps_asg (pe_op op_mod (pe_op op_add (pe_op op_add (pe_op op_mul (pe_ix ix_list (pv 0) pe_int (fun _ _ => rfl)) pe_int) (pe_op op_mod (pv 2) pe_int)) pe_int) pe_int) (pg_sub (pv 0) pe_int set_list)))))))
        pss_nil)
      (pss_cons (ps_if (pt_cmpR op_gt (pe_ix ix_list (pv 0) pe_int (fun _ _ => rfl)) pe_int (nomark _))
        (pss_cons (ps_set (i := 3) scPull.nd rfl (Or.inl rfl) (pe_op op_mod (pe_ix ix_list (pv 0) pe_int (fun _ _ => rfl)) (pv 1)))
        (pss_cons (ps_asg (pe_op op_fdiv (pe_ix ix_list (pv 0) pe_int (fun _ _ => rfl)) (pv 1)) (pg_sub (pv 0) pe_int set_list))
        (pss_one (ps_ret (pv 3)))))
        pss_nil)
      (pss_cons (ps_asg (pe_op op_add (pe_ix ix_list (pv 0) pe_int (fun _ _ => rfl)) pe_int) (pg_sub (pv 0) pe_int set_list))
      (pss_cons (ps_set (i := 4) scPull.nd rfl (Or.inl rfl) (pe_op op_mod (pe_op op_add (pe_ix ix_list (pv 0) pe_int (fun _ _ => rfl)) (pe_op op_mul (pe_ix ix_list (pv 0) pe_int (fun _ _ => rfl)) pe_int)) pe_int))
      (pss_cons (ps_set (i := 5) scPull.nd rfl (Or.inl rfl) (pe_op op_mul (pe_op op_mod (pe_op op_mul (pv 4) (pv 4)) pe_int) (pe_op op_add (pe_op op_mod (pv 4) pe_int) pe_int)))
      (pss_cons (ps_asg (pe_op op_mod (pe_op op_add (pe_op op_add (pv 5) (pe_op op_mul pe_int (pv 4))) pe_int) pe_int) (pg_sub (pv 0) pe_int set_list))
      (pss_one (ps_ret (pe_op op_mod (pe_op op_add (pe_op op_fdiv (pe_ix ix_list (pv 0) pe_int (fun _ _ => rfl)) pe_int) (pe_op op_mul (pe_op op_mod (pe_ix ix_list (pv 0) pe_int (fun _ _ => rfl)) pe_int) pe_int)) (pv 1))))))))), ?_⟩
    obtain ⟨bl, ls, i, bank, salt, c, hB, i0, b0, s0, s1⟩ := id B
    have len5 : ∀ {i bank salt c : Int}, SqL K (upd H b (.lst (bagv l i bank salt c))) b (bagv l i bank salt c) := SqL.of upd_same
    have lsU : ∀ {xs : List V}, SqL K (upd H b (.lst xs)) l (ns.map V.int) := SqL.of (by rw [upd_ne bl]; exact ls)
    refine ⟨fun σ' H' => ∃ x2 i bank salt c, σ' = [some (.ref b), some (.int m), x2, none, none, none] ∧ H' = upd H b (.lst (bagv l i bank salt c)) ∧ 0 ≤ i ∧ 0 ≤ bank ∧ 0 ≤ salt ∧ salt < 2147483629, ?_, ?_⟩
    · have hself : upd H b (.lst (bagv l i bank salt c)) = H := upd_self hB
      refine ⟨_, rfl, b, _, 2, _, rfl, rfl, SqL.of hB, rfl, _, _, rfl, rfl, _, rfl, ite2 (fun h1 => ?_) (fun h1 => ?_)⟩
      · refine ⟨_, rfl, b, _, 1, _, rfl, rfl, SqL.of hB, rfl, _, rfl, b, _, 0, _, rfl, rfl, SqL.of hB, rfl, l, _, rfl, .inl (SqL.of ls), _, _, rfl, rfl, _, rfl, ite2 (fun h2 => ?_) (fun h2 => ?_)⟩
        · have hi : i < (ns.length : Int) := by
            have q := of_decide_eq_true h2
            rw [List.length_map] at q
            exact q
          obtain ⟨j, rfl⟩ : ∃ j : Nat, i = (j : Int) := ⟨i.toNat, by omega⟩
          have hj : j < ns.length := by omega
          refine ⟨_, rfl, b, _, 0, _, rfl, rfl, SqL.of hB, rfl, _, rfl, b, _, 1, _, rfl, rfl, SqL.of hB, rfl, l, _, _, .int ns[j], rfl, rfl, SqL.of ls, atI_nat (by rw [List.getElem?_map, List.getElem?_eq_getElem hj]; rfl), ?_⟩
          refine ⟨_, rfl, b, _, 1, _, rfl, rfl, SqL.of hB, rfl, _, _, rfl, rfl, _, rfl, b, _, 1, 1, rfl, rfl, hB, rfl, ?_⟩
          refine ⟨_, rfl, _, _, rfl, rfl, (by show (0:Int) ≤ 18 ∧ (18:Int) ≤ 1000000 ∧ (10 : Int).natAbs < 2 ^ 64; decide), _, _, rfl, rfl, _, rfl, ite2 (fun h3 => ?_) (fun h3 => ?_)⟩
          · have h3' : (10 : Int) ^ 18 ≤ ns[j] := of_decide_eq_true h3
            refine ⟨_, rfl, _, rfl, b, _, 2, 2, rfl, rfl, upd_same, rfl, ?_⟩
            refine ⟨_, (j : Int) + 1, ns[j], salt, c, rfl, upd_upd, by omega, by omega, s0, s1⟩
          · refine ⟨_, rfl, b, _, 3, _, rfl, rfl, SqL.of upd_same, rfl, _, _, rfl, rfl, mul_const (by decide) _, _, rfl, _, _, rfl, rfl, (by show (0 : Int) < 2147483587; decide), _, _, rfl, rfl, _, _, rfl, rfl, _, _, rfl, rfl, (by show (0 : Int) < 2147483629; decide), _, rfl, b, _, 3, 3, rfl, rfl, upd_same, rfl, ?_⟩
            refine ⟨_, (j : Int) + 1, bank, _, c, rfl, upd_upd, by omega, b0, Int.emod_nonneg _ (by decide), Int.emod_lt_of_pos _ (by decide)⟩
        · exact ⟨none, i, bank, salt, c, rfl, hself.symm, i0, b0, s0, s1⟩
      · exact iteF ⟨none, i, bank, salt, c, rfl, hself.symm, i0, b0, s0, s1⟩
    · clear hB i0 b0 s0 s1 i bank salt c
      rintro σ' H' ⟨x2, i, bank, salt, c, rfl, rfl, i0, b0, s0, s1⟩
      refine ⟨_, rfl, b, _, 2, _, rfl, rfl, len5, rfl, _, _, rfl, rfl, _, rfl, ite2 (fun h1 => ?_) (fun h1 => ?_)⟩
      · refine ⟨_, rfl, b, _, 2, _, rfl, rfl, len5, rfl, _, rfl, _, _, rfl, rfl, m0, ?_⟩
        refine ⟨_, rfl, b, _, 2, _, rfl, rfl, len5, rfl, _, rfl, _, _, rfl, rfl, ⟨m0, m1⟩, _, rfl, b, _, 2, 2, rfl, rfl, upd_same, rfl, ?_⟩
        refine ⟨_, rfl, ?_⟩
        rw [upd_upd]
        exact q _ _ (Int.emod_nonneg _ (by omega)) (Int.emod_lt_of_pos _ m0) (B.put i0 (Int.ediv_nonneg b0 (by omega)) s0 s1)
      · refine ⟨_, rfl, b, _, 4, _, rfl, rfl, len5, rfl, _, _, rfl, rfl, _, rfl, b, _, 4, 4, rfl, rfl, upd_same, rfl, ?_⟩
        rw [upd_upd]
        refine ⟨_, rfl, b, _, 3, _, rfl, rfl, len5, rfl, _, rfl, b, _, 4, _, rfl, rfl, len5, rfl, _, _, rfl, rfl, mul_const (by decide) _, _, _, rfl, rfl, _, _, rfl, rfl, (by show (0 : Int) < 2147483629; decide), ?_⟩
        have e0 := Int.emod_nonneg (salt + (c + 1) * 6151) (show (2147483629 : Int) ≠ 0 by decide)
        have e1 := Int.emod_lt_of_pos (salt + (c + 1) * 6151) (show (0 : Int) < 2147483629 by decide)
        generalize (salt + (c + 1) * 6151) % 2147483629 = ba at e0 e1 ⊢
        refine ⟨_, rfl, _, rfl, _, _, rfl, rfl, .inl (by omega), _, _, rfl, rfl, (by show (0 : Int) < 2147483587; decide), _, rfl, _, _, rfl, rfl, (by show (0 : Int) < 40009; decide), _, _, rfl, rfl, _, _, rfl, rfl, .inl ?_, ?_⟩
        · have a0 := Int.emod_nonneg (ba * ba) (show (2147483587 : Int) ≠ 0 by decide)
          have a1 := Int.emod_lt_of_pos (ba * ba) (show (0 : Int) < 2147483587 by decide)
          omega
        refine ⟨_, rfl, _, rfl, _, _, rfl, rfl, .inl (by decide), _, _, rfl, rfl, _, _, rfl, rfl, _, _, rfl, rfl, (by show (0 : Int) < 2147483629; decide), _, rfl, b, _, 3, 3, rfl, rfl, upd_same, rfl, ?_⟩
        rw [upd_upd]
        refine ⟨_, rfl, b, _, 3, _, rfl, rfl, len5, rfl, _, _, rfl, rfl, (by show (0:Int) < 67 ∧ (67:Int) < 1073741824; decide), _, rfl, b, _, 3, _, rfl, rfl, len5, rfl, _, _, rfl, rfl, (by show (0 : Int) < 8209; decide), _, _, rfl, rfl, mul_const (by decide) _, _, _, rfl, rfl, _, rfl, _, _, rfl, rfl, m0, ?_⟩
        exact q _ _ (Int.emod_nonneg _ (by omega)) (Int.emod_lt_of_pos _ m0) (B.put i0 b0 (Int.emod_nonneg _ (by decide)) (Int.emod_lt_of_pos _ (by decide)))
end
end K2

namespace K2
open PySem PySem.Spec PyProof.Rows L2
/-! ### f(k = e, ..) without written places -/
theorem pe_callKw {X : Cx} {CX : CXT} {k : Nat} {f : Addr} {fd : FuncData} {ps ks : List Str} {sp : Sp} {g : List Value → List Value → List Value} {gV : List V → List V → List V} {E : XK} {tk : TA} {x : Str} {kws : List Keyword} {p pos : Pos}
    (F : FnOk X.prog X.w X.K X.mg X.base CX k f fd ps sp) (hr : Room k X.A) (hg : Gl X x) (hm : X.mg x = some (.ref f)) (hk : PySem.W.keepIn X.K (.ref f) = true) (hb : KBinds X.K fd ps ks g gV) (hx : Passes CX X E)
    (hkw : PK X kws tk) (hall : (backToKw pos (keywordEach kws X.env)).all (·.1.isSome) = true := by rfl) (hks : (backToKw pos (keywordEach kws X.env)).filterMap (·.1) = ks := by rfl)
    (hdb : (x == ("__debug__" : Str)) = false := by decide) (hpl : ((backTo pos (starEach [] X.env)).any (·.1) || (backToKw pos (keywordEach kws X.env)).any (·.1.isNone)) = false := by rfl) :
    PE X (.Call (.Name x p) [] kws pos) (tCallK sp gV E tNil tk) := by
  refine ⟨fun pins s σ H Q I h => wpAny_Call_Name_kw (ld_glob I hg hm ?_ hdb)⟩
  refine PySem.W.callWith_KW0 (h₀ := X.base) I.ok.mod.kin hk hall (thn (hkw.run pos pins s σ H _ I h) fun ws s2 hh => ?_) hpl
  obtain ⟨zs, H2, I2, rz, q2⟩ := hh
  refine ⟨I2.kIn, ?_⟩
  rw [hks]
  exact run_fnk F hr hb hx I2 .nil rz q2
/-! ### lists cut -/
theorem cutTo (xs : List V) (k : Nat) : cutV xs none (some (k : Int)) = xs.take k := by
  unfold cutV
  rw [HT.sIx_none, HT.sIx_nat, List.drop_zero, Nat.sub_zero]
  by_cases h : k ≤ xs.length
  · rw [Nat.min_eq_left h]
  · rw [Nat.min_eq_right (by omega), List.take_of_length_le (Nat.le_refl _), List.take_of_length_le (by omega)]
theorem cutFrom (xs : List V) (k : Nat) : cutV xs (some (k : Int)) none = xs.drop k := by
  unfold cutV
  rw [HT.sIx_none, HT.sIx_nat]
  by_cases h : k ≤ xs.length
  · rw [Nat.min_eq_left h]
    exact List.take_of_length_le (by rw [List.length_drop]; exact Nat.le_refl _)
  · rw [Nat.min_eq_right (by omega), List.drop_of_length_le (Nat.le_refl _), List.drop_of_length_le (by omega), List.take_nil]
theorem same_new {H : Hp} {p : Addr} {o : HO} (h : H p = none) : Same H (upd H p o) := fun b x e => by
  rw [upd_ne (ne_of_none e h)]
  exact e
theorem get_ints {ns : List Int} {i : Nat} {x : V} (h : (ns.map V.int)[i]? = some x) : ∃ v, x = .int v ∧ ns[i]? = some v := by
  rw [List.getElem?_map] at h
  cases e : ns[i]? with
  | none => rw [e] at h; cases h
  | some v => rw [e] at h; exact ⟨v, (Option.some.inj h).symm, rfl⟩
theorem ne_new {H : Hp} {p : Addr} {o : HO} {b : Addr} (h : (upd H p o) b = none) : b ≠ p := fun e => by
  rw [e, upd_same] at h
  cases h
theorem old_new {H : Hp} {p : Addr} {o : HO} {b : Addr} (h : (upd H p o) b = none) : H b = none := by
  rw [upd_ne (ne_new h)] at h
  exact h
/-! ### the bag made -/
def spBag (K : PySem.W.Frag) : Sp := fun vs H Q _ => ∃ (a : Addr) (ns : List Int), vs = [.ref a] ∧ SqL K H a (ns.map V.int) ∧
  ∀ H' l b ms, Same H H' → H l = none → H b = none → BagAt l ms H' b → Q (.ref b) H'
section
variable {P : Program} {w : World} {K : PySem.W.Frag} {mg : Str → Option Value} {base : Heap}
theorem ok_bag {f : Addr} {fd : FuncData} {k : Nat} (F : Fun K "_law_bag" "_law_bag" sBag f fd) (ml : mg "list" = none) : FnOk P w K mg base CX0 (k + 1) f fd ["_law_script"] (spBag K) := by
  refine F.ok scBag (fun vs H Q E h => ?_) (fun cdv A outer s H vs Q E hr h => ?_)
  · obtain ⟨a, ns, rfl, _⟩ := h
    rfl
  · obtain ⟨a, ns, rfl, hS, q⟩ := h
    refine ⟨_, pss_cons (ps_set (i := 1) scBag.nd rfl (Or.inl rfl) pe_int)
      (pss_cons (ps_for PassesOwn.never rfl (pi_list (pe_slice sl_list (pv 0) po_none (po_some pe_int))) (pg_name (i := 2) scBag.nd rfl (Or.inl rfl))
        (pss_one (ps_set (i := 1) scBag.nd rfl (Or.inl rfl) (pe_op op_mod (pe_op op_add (pe_op op_add (pe_op op_mul (pv 1) pe_int) (pv 2)) pe_int) pe_int))))
      (pss_one (ps_ret (pe_lst (pa_cons (pe_callTy call_list_of (by rfl) ml (by decide +kernel) (pa_cons (pe_slice sl_list (pv 0) po_none (po_some pe_int)) pa_nil))
        (pa_cons pe_int (pa_cons pe_int (pa_cons (pv 1) (pa_cons pe_int pa_nil))))))))), ?_⟩
    have cutN : cutV (ns.map V.int) none (some 63) = (ns.take 63).map V.int := by
      rw [show (63 : Int) = ((63 : Nat) : Int) from rfl, cutTo, List.map_take]
    refine ⟨_, rfl, 63, rfl, a, ns.map V.int, rfl, hS, fun t nt => ?_⟩
    rw [cutN]
    refine ⟨t, rfl, ⟨_, SqL.of upd_same⟩, for_list (K := K) (a := t) (xs := (ns.take 63).map V.int) (fun i σ H' => ∃ salt y, σ = [some (.ref a), some (.int salt), y] ∧ H' = upd H t (.lst ((ns.take 63).map V.int)) ∧ 0 ≤ salt ∧ salt < 2147483629)
      ⟨977, none, rfl, rfl, by decide, by decide⟩ (fun i σ H' _ ⟨_, _, _, e, _⟩ => by subst e; exact SqL.of upd_same) ?_ ?_⟩
    · rintro i x σ H' hi ⟨salt, y, rfl, rfl, h0, h1⟩
      obtain ⟨v, rfl, _⟩ := get_ints hi
      refine ⟨_, rfl, _, _, rfl, rfl, mul_const (by decide) _, _, rfl, _, _, rfl, rfl, _, _, rfl, rfl, _, _, rfl, rfl, (by show (0 : Int) < 2147483629; decide), ?_⟩
      exact ⟨_, _, rfl, rfl, Int.emod_nonneg _ (by decide), Int.emod_lt_of_pos _ (by decide)⟩
    · rintro σ H' ⟨salt, y, rfl, rfl, h0, h1⟩
      refine ⟨_, rfl, 63, rfl, a, ns.map V.int, rfl, (same_new nt).seq hS, fun u nu => ?_⟩
      rw [cutN]
      refine ⟨u, _, rfl, .inl (SqL.of upd_same), fun l nl => ⟨_, rfl, (by show 5 ≤ sizeLine; decide), fun b nb => ?_⟩⟩
      have s1 := same_new (o := .lst ((ns.take 63).map V.int)) nt
      have s2 := same_new (o := .lst ((ns.take 63).map V.int)) nu
      have s3 := same_new (o := .lst ((ns.take 63).map V.int)) nl
      have s4 := same_new (o := .lst (bagv l 0 0 salt 0)) nb
      have lb : l ≠ b := (ne_new nb).symm
      refine q _ l b (ns.take 63) (s1.trans (s2.trans (s3.trans s4))) (s1.free (s2.free nl)) (s1.free (s2.free (s3.free nb))) ⟨lb, by rw [upd_ne lb]; exact upd_same, 0, 0, salt, 0, upd_same, by decide, by decide, h0, h1⟩
/-! ### one of some -/
def spOf (K : PySem.W.Frag) : Sp := fun vs H Q _ => ∃ (b l c : Addr) (ns : List Int) (xs : List V), vs = [.ref b, .ref c] ∧ BagAt l ns H b ∧ H c = some (.lst xs) ∧ c ≠ b ∧ 0 < xs.length ∧ xs.length < 1073741824 ∧
  ∀ v ys, v ∈ xs → BagAt l ns (upd H b (.lst ys)) b → Q v (upd H b (.lst ys))
theorem ok_of {f g : Addr} {fd gd : FuncData} {k : Nat} (F : Fun K "_law_of" "_law_of" sOf f fd) (G : FnOk P w K mg base CX0 k g gd ["_law_bag_here", "_law_many9"] spPull) (kg : PySem.W.keepIn K (.ref g) = true) (bg : Binds K gd ["_law_bag_here", "_law_many9"] [])
    (mgG : mg "_law_pull" = some (.ref g)) (ml : mg "len" = none) : FnOk P w K mg base CX0 (k + 1) f fd ["_law_bag_here", "_law_some"] (spOf K) := by
  refine F.ok scOf (fun vs H Q E h => ?_) (fun cdv A outer s H vs Q E hr h => ?_)
  · obtain ⟨b, l, c, ns, xs, rfl, _⟩ := h
    rfl
  · obtain ⟨b, l, c, ns, xs, rfl, B, hc, cb, x0, x1, q⟩ := h
    refine ⟨_, pss_one (ps_ret (pe_ix ix_list (pv 1) (pe_call G hr (by rfl) mgG kg bg .nil pass0 (pa_cons (pv 0) (pa_cons (pe_callB call_len_seq (by rfl) ml PySem.boot_len (pa_cons (pv 1) pa_nil)) pa_nil))) (fun _ _ => rfl))), ?_⟩
    refine ⟨_, rfl, _, rfl, _, rfl, c, xs, rfl, .inl (SqL.of hc), b, l, _, ns, rfl, by omega, by omega, B, fun r ys r0 r1 B' => ?_⟩
    obtain ⟨j, rfl⟩ : ∃ j : Nat, r = (j : Int) := ⟨r.toNat, by omega⟩
    have hj : j < xs.length := by omega
    refine ⟨c, xs, _, xs[j], rfl, rfl, SqL.of (by rw [upd_ne cb]; exact hc), atI_nat (List.getElem?_eq_getElem hj), ?_⟩
    exact q _ _ (List.getElem_mem hj) B'
end
end K2

namespace K2
open PySem PySem.Spec PyProof.Rows L2
/-! ### data -/
inductive Dt where
  | non
  | bl (b : Bool)
  | int (i : Int)
  | str (s : Str)
  | lst (ds : List Dt)
  | tup (ds : List Dt)
inductive Has (H : Hp) : Nat → V → Dt → Prop where
  | non {n : Nat} : Has H (n + 1) .non .non
  | bl {n : Nat} (b : Bool) : Has H (n + 1) (.bl b) (.bl b)
  | int {n : Nat} (i : Int) : Has H (n + 1) (.int i) (.int i)
  | str {n : Nat} (s : Str) : Has H (n + 1) (.str s) (.str s)
  | lst {n : Nat} {a : Addr} {xs : List V} {ds : List Dt} (e : H a = some (.lst xs)) (l : xs.length = ds.length) (z : ds.length ≤ 1000000) (m : ∀ (i : Nat) (x : V) (d : Dt), xs[i]? = some x → ds[i]? = some d → Has H n x d) : Has H (n + 1) (.ref a) (.lst ds)
  | tup {n : Nat} {a : Addr} {xs : List V} {ds : List Dt} (e : H a = some (.tup xs)) (l : xs.length = ds.length) (z : ds.length ≤ 1000000) (m : ∀ (i : Nat) (x : V) (d : Dt), xs[i]? = some x → ds[i]? = some d → Has H n x d) : Has H (n + 1) (.ref a) (.tup ds)
theorem Has.same {H H' : Hp} (s : Same H H') : ∀ {n : Nat} {x : V} {d : Dt}, Has H n x d → Has H' n x d := by
  intro n x d h
  induction h with
  | non => exact .non
  | bl b => exact .bl b
  | int i => exact .int i
  | str z => exact .str z
  | lst e l z m ih => exact .lst (s _ _ e) l z fun i x d h1 h2 => ih i x d h1 h2
  | tup e l z m ih => exact .tup (s _ _ e) l z fun i x d h1 h2 => ih i x d h1 h2
theorem Has.up {H : Hp} : ∀ {n m : Nat} {x : V} {d : Dt}, Has H n x d → n ≤ m → Has H m x d := by
  intro n m x d h
  induction h generalizing m with
  | non => intro q; cases m with | zero => omega | succ m => exact .non
  | bl b => intro q; cases m with | zero => omega | succ m => exact .bl b
  | int i => intro q; cases m with | zero => omega | succ m => exact .int i
  | str z => intro q; cases m with | zero => omega | succ m => exact .str z
  | lst e l z _ ih => intro q; cases m with | zero => omega | succ m => exact .lst e l z fun i x d h1 h2 => ih i x d h1 h2 (by omega)
  | tup e l z _ ih => intro q; cases m with | zero => omega | succ m => exact .tup e l z fun i x d h1 h2 => ih i x d h1 h2 (by omega)
theorem Has.ints {H : Hp} {a : Addr} {ns : List Int} {n : Nat} (e : H a = some (.lst (ns.map V.int))) (z : ns.length ≤ 1000000) : Has H (n + 2) (.ref a) (.lst (ns.map Dt.int)) := by
  refine .lst e (by rw [List.length_map, List.length_map]) (by rw [List.length_map]; exact z) fun i x d h1 h2 => ?_
  rw [List.getElem?_map] at h1 h2
  cases q : ns[i]? with
  | none => rw [q] at h1; cases h1
  | some v =>
    rw [q] at h1 h2
    have e1 : V.int v = x := Option.some.inj h1
    have e2 : Dt.int v = d := Option.some.inj h2
    rw [← e1, ← e2]
    exact .int v
def spSame (n : Nat) : Sp := fun vs H Q _ => ∃ (x y : V) (d : Dt), vs = [x, y] ∧ Has H n x d ∧ Has H n y d ∧ ∀ H', Same H H' → Q (.bl true) H'
abbrev sSame : Stmt := topS 16
theorem scSame : FnScope ["_law_found", "_law_due", "_law_k"] ["_law_found", "_law_due"] (defScope sSame) := ⟨rfl, rfl, rfl, by decide +kernel, rfl, by decide +kernel, by decide +kernel⟩
structure TS1 (mg : Str → Option Value) : Prop where
  isi : mg "isinstance" = none
  bool : mg "bool" = none
  int : mg "int" = none
  str : mg "str" = none
  list : mg "list" = none
  tuple : mg "tuple" = none
  len : mg "len" = none
  all : mg "all" = none
  range : mg "range" = none
section
variable {P : Program} {w : World} {K : PySem.W.Frag} {mg : Str → Option Value} {base : Heap}
theorem all_rep (n : Nat) : (List.replicate n true).all id = true := by
  induction n with
  | zero => rfl
  | succ n ih => rw [List.replicate_succ, List.all_cons, ih]; rfl
theorem same_at {H H' : Hp} {D : Addr} {o : HO} (hD : H D = none) (s : Same H H') : Same H (upd H' D o) := fun b x e => by
  rw [upd_ne (ne_of_none e hD)]
  exact s _ _ e
theorem kit2 {t : String} {r b1 b2 : Bool} (h1 : kitB t "int" = some b1) (h2 : kitB t "str" = some b2) (hr : (b1 || b2) = r) : PySem.W.kitAny K (.type t) [.type "int", .type "str"] = some r := by
  refine kitAny_cons (kit_ty h1) (fun e => kitAny_cons (kit_ty h2) (fun e2 => ?_) fun e2 => ?_) fun e => ?_
  · rw [e, e2] at hr
    rw [← hr]
    exact kitAny_nil
  · rw [e, e2] at hr
    exact hr.symm
  · rw [e] at hr
    exact hr.symm
theorem ok_same {f : Addr} {fd : FuncData} (F : Fun K "_law_same" "_law_same" sSame f fd) (T : TS1 mg) (bS : Binds K fd ["_law_found", "_law_due"] []) (mgS : mg "_law_same" = some (.ref f)) : ∀ n : Nat, FnOk P w K mg base CX0 n f fd ["_law_found", "_law_due"] (spSame n) := by
  intro n
  induction n with
  | zero => exact ⟨fun vs H Q E h => (by obtain ⟨x, y, d, _, h1, _⟩ := h; cases h1), fun A outer s H args us vs Q E hr he hb hv h => (by obtain ⟨x, y, d, _, h1, _⟩ := h; cases h1)⟩
  | succ n G =>
    refine F.ok scSame (fun vs H Q E h => ?_) (fun cdv A outer s H vs Q E hr h => ?_)
    · obtain ⟨x, y, d, rfl, _⟩ := h
      rfl
    · obtain ⟨x, y, d, rfl, hx, hy, q⟩ := h
      refine ⟨_, pss_cons (ps_if (PW.pt (pw_or (pt_cmpR op_isN (pv 1) pe_non (nomark _)) (pw_or1 (pt_cmpR op_isN (pv 0) pe_non (nomark _)))))
          (pss_one (ps_ret (pe_and (pe_cmpR op_isN (pv 0) pe_non (nomark _)) (pe_one (pe_cmpR op_isN (pv 1) pe_non (nomark _)))))) pss_nil)
        (pss_cons (ps_if (PW.pt (pw_or (pt_val (pe_callB call_isi (by rfl) T.isi (by decide +kernel) (pa_cons (pv 1) (pa_cons (pe_bltn (v := .ty "bool") (by rfl) T.bool (by decide +kernel) rfl) pa_nil))))
            (pw_or1 (pt_val (pe_callB call_isi (by rfl) T.isi (by decide +kernel) (pa_cons (pv 0) (pa_cons (pe_bltn (v := .ty "bool") (by rfl) T.bool (by decide +kernel) rfl) pa_nil)))))))
          (pss_one (ps_ret (pe_and (pe_callB call_isi (by rfl) T.isi (by decide +kernel) (pa_cons (pv 1) (pa_cons (pe_bltn (v := .ty "bool") (by rfl) T.bool (by decide +kernel) rfl) pa_nil)))
            (pe_and (pe_callB call_isi (by rfl) T.isi (by decide +kernel) (pa_cons (pv 0) (pa_cons (pe_bltn (v := .ty "bool") (by rfl) T.bool (by decide +kernel) rfl) pa_nil)))
              (pe_one (pe_cmpR op_eq (pv 0) (pv 1) (nomark _))))))) pss_nil)
        (pss_cons (ps_if (pt_val (pe_callB call_isiT (by rfl) T.isi (by decide +kernel) (pa_cons (pv 1) (pa_cons (pe_tup (pa_cons (pe_bltn (v := .ty "int") (by rfl) T.int (by decide +kernel) rfl) (pa_cons (pe_bltn (v := .ty "str") (by rfl) T.str (by decide +kernel) rfl) pa_nil))) pa_nil))))
          (pss_one (ps_ret (pe_and (pe_callB call_isiT (by rfl) T.isi (by decide +kernel) (pa_cons (pv 0) (pa_cons (pe_tup (pa_cons (pe_bltn (v := .ty "int") (by rfl) T.int (by decide +kernel) rfl) (pa_cons (pe_bltn (v := .ty "str") (by rfl) T.str (by decide +kernel) rfl) pa_nil))) pa_nil)))
            (pe_and (pe_cmpR op_eq (pe_callB call_isi (by rfl) T.isi (by decide +kernel) (pa_cons (pv 0) (pa_cons (pe_bltn (v := .ty "int") (by rfl) T.int (by decide +kernel) rfl) pa_nil)))
                (pe_callB call_isi (by rfl) T.isi (by decide +kernel) (pa_cons (pv 1) (pa_cons (pe_bltn (v := .ty "int") (by rfl) T.int (by decide +kernel) rfl) pa_nil))) (nomark _))
              (pe_one (pe_cmpR op_eq (pv 0) (pv 1) (nomark _))))))) pss_nil)
        (pss_cons (ps_if (PW.pt (pw_or (pt_cmpR op_ne (pe_callB call_isi (by rfl) T.isi (by decide +kernel) (pa_cons (pv 0) (pa_cons (pe_bltn (v := .ty "list") (by rfl) T.list (by decide +kernel) rfl) pa_nil)))
                (pe_callB call_isi (by rfl) T.isi (by decide +kernel) (pa_cons (pv 1) (pa_cons (pe_bltn (v := .ty "list") (by rfl) T.list (by decide +kernel) rfl) pa_nil))) (nomark _))
            (pw_or1 (pt_cmpR op_ne (pe_callB call_isi (by rfl) T.isi (by decide +kernel) (pa_cons (pv 0) (pa_cons (pe_bltn (v := .ty "tuple") (by rfl) T.tuple (by decide +kernel) rfl) pa_nil)))
                (pe_callB call_isi (by rfl) T.isi (by decide +kernel) (pa_cons (pv 1) (pa_cons (pe_bltn (v := .ty "tuple") (by rfl) T.tuple (by decide +kernel) rfl) pa_nil))) (nomark _)))))
          (pss_one (ps_ret pe_bl)) pss_nil)
        (pss_one (ps_ret (pe_and (pe_cmpR op_eq (pe_callB call_len_seq (by rfl) T.len PySem.boot_len (pa_cons (pv 0) pa_nil)) (pe_callB call_len_seq (by rfl) T.len PySem.boot_len (pa_cons (pv 1) pa_nil)) (nomark _))
          (pe_one (pe_callB (cr_all rfl) (by rfl) T.all (by decide +kernel) (pa_cons
            (pe_lc (own := [("_law_k", 2)]) (g := gName 2) (tt := tYes) rfl scSame.nd (pi_range1 (by rfl) T.range (pa_cons (pe_callB call_len_seq (by rfl) T.len PySem.boot_len (pa_cons (pv 1) pa_nil)) pa_nil))
              (blkOk_by (N := ["_law_found", "_law_due", "_law_k"]) (sc := defScope sSame) (by decide +kernel))
              (fun _ _ _ _ _ => pg_name (i := 2) scSame.nd rfl (Or.inl rfl)) (fun _ _ _ _ _ => pts_nil)
              (fun _ _ _ _ _ => pe_call G hr (by rfl) mgS F.kp bS .nil pass0 (pa_cons (pe_ix (r := rIx K) ix_seq (pv 0) (pv 2) (fun _ _ => rfl)) (pa_cons (pe_ix (r := rIx K) ix_seq (pv 1) (pv 2) (fun _ _ => rfl)) pa_nil)))) pa_nil))))))))), ?_⟩
      cases d with
      | non =>
        cases hx
        cases hy
        refine ⟨_, rfl, rfl, _, rfl, iteT ?_⟩
        exact ⟨_, rfl, rfl, _, rfl, iteT ⟨_, rfl, rfl, q _ (Same.refl _)⟩⟩
      | bl b =>
        cases hx
        cases hy
        refine ⟨_, rfl, rfl, _, rfl, iteF ⟨_, rfl, rfl, _, rfl, iteF ?_⟩⟩
        refine ⟨_, rfl, _, _, _, _, true, rfl, ClsV.ty _, (.base (.bl b)), kit_ty (by decide +kernel), _, rfl, iteT ?_⟩
        refine ⟨_, rfl, _, _, _, _, true, rfl, ClsV.ty _, (.base (.bl b)), kit_ty (by decide +kernel), _, rfl, iteT ?_⟩
        refine ⟨_, rfl, _, _, _, _, true, rfl, ClsV.ty _, (.base (.bl b)), kit_ty (by decide +kernel), _, rfl, iteT ?_⟩
        refine ⟨_, rfl, _, rfl, rfl, ?_⟩
        rw [decide_eq_true rfl]
        exact q _ (Same.refl _)
      | int i =>
        cases hx
        cases hy
        refine ⟨_, rfl, rfl, _, rfl, iteF ⟨_, rfl, rfl, _, rfl, iteF ?_⟩⟩
        refine ⟨_, rfl, _, _, _, _, false, rfl, ClsV.ty _, (.base (.int i)), kit_ty (by decide +kernel), _, rfl, iteF ?_⟩
        refine ⟨_, rfl, _, _, _, _, false, rfl, ClsV.ty _, (.base (.int i)), kit_ty (by decide +kernel), _, rfl, iteF ?_⟩
        refine ⟨_, rfl, (by show 2 ≤ sizeLine; decide), fun p np => ⟨_, _, _, _, _, true, rfl, upd_same, .cons (ClsV.ty _) (.cons (ClsV.ty _) .nil), (.base (.int i)), kit2 (b1 := true) (b2 := false) (by decide +kernel) (by decide +kernel) rfl, _, rfl, iteT ?_⟩⟩
        refine ⟨_, rfl, (by show 2 ≤ sizeLine; decide), fun p2 np2 => ⟨_, _, _, _, _, true, rfl, upd_same, .cons (ClsV.ty _) (.cons (ClsV.ty _) .nil), (.base (.int i)), kit2 (b1 := true) (b2 := false) (by decide +kernel) (by decide +kernel) rfl, _, rfl, iteT ?_⟩⟩
        refine ⟨_, rfl, _, _, _, _, true, rfl, ClsV.ty _, (.base (.int i)), kit_ty (by decide +kernel), _, rfl, _, _, _, _, true, rfl, ClsV.ty _, (.base (.int i)), kit_ty (by decide +kernel), rfl, _, rfl, iteT ?_⟩
        refine ⟨_, rfl, _, rfl, rfl, ?_⟩
        rw [decide_eq_true rfl]
        exact q _ ((same_new np).trans (same_new np2))
      | str i =>
        cases hx
        cases hy
        refine ⟨_, rfl, rfl, _, rfl, iteF ⟨_, rfl, rfl, _, rfl, iteF ?_⟩⟩
        refine ⟨_, rfl, _, _, _, _, false, rfl, ClsV.ty _, (.base (.str i)), kit_ty (by decide +kernel), _, rfl, iteF ?_⟩
        refine ⟨_, rfl, _, _, _, _, false, rfl, ClsV.ty _, (.base (.str i)), kit_ty (by decide +kernel), _, rfl, iteF ?_⟩
        refine ⟨_, rfl, (by show 2 ≤ sizeLine; decide), fun p np => ⟨_, _, _, _, _, true, rfl, upd_same, .cons (ClsV.ty _) (.cons (ClsV.ty _) .nil), (.base (.str i)), kit2 (b1 := false) (b2 := true) (by decide +kernel) (by decide +kernel) rfl, _, rfl, iteT ?_⟩⟩
        refine ⟨_, rfl, (by show 2 ≤ sizeLine; decide), fun p2 np2 => ⟨_, _, _, _, _, true, rfl, upd_same, .cons (ClsV.ty _) (.cons (ClsV.ty _) .nil), (.base (.str i)), kit2 (b1 := false) (b2 := true) (by decide +kernel) (by decide +kernel) rfl, _, rfl, iteT ?_⟩⟩
        refine ⟨_, rfl, _, _, _, _, false, rfl, ClsV.ty _, (.base (.str i)), kit_ty (by decide +kernel), _, rfl, _, _, _, _, false, rfl, ClsV.ty _, (.base (.str i)), kit_ty (by decide +kernel), rfl, _, rfl, iteT ?_⟩
        refine ⟨_, rfl, _, rfl, rfl, ?_⟩
        rw [decide_eq_true rfl]
        exact q _ ((same_new np).trans (same_new np2))
      | lst ds =>
        cases hx with
        | @lst _ a xs _ ea la za ma =>
        cases hy with
        | @lst _ b ys _ eb lb zb mb =>
        refine ⟨_, rfl, rfl, _, rfl, iteF ⟨_, rfl, rfl, _, rfl, iteF ?_⟩⟩
        refine ⟨_, rfl, _, _, _, _, false, rfl, ClsV.ty _, (.base (.lst eb)), kit_ty (by decide +kernel), _, rfl, iteF ?_⟩
        refine ⟨_, rfl, _, _, _, _, false, rfl, ClsV.ty _, (.base (.lst ea)), kit_ty (by decide +kernel), _, rfl, iteF ?_⟩
        refine ⟨_, rfl, (by show 2 ≤ sizeLine; decide), fun p np => ⟨_, _, _, _, _, false, rfl, upd_same, .cons (ClsV.ty _) (.cons (ClsV.ty _) .nil), (.base (.lst ((same_new np) _ _ eb))), kit2 (b1 := false) (b2 := false) (by decide +kernel) (by decide +kernel) rfl, _, rfl, iteF ?_⟩⟩
        have ea' := (same_new (o := .tup [.ty "int", .ty "str"]) np) _ _ ea
        have eb' := (same_new (o := .tup [.ty "int", .ty "str"]) np) _ _ eb
        refine ⟨_, rfl, _, _, _, _, true, rfl, ClsV.ty _, (.base (.lst ea')), kit_ty (by decide +kernel), _, rfl, _, _, _, _, true, rfl, ClsV.ty _, (.base (.lst eb')), kit_ty (by decide +kernel), rfl, _, rfl, iteF ?_⟩
        refine ⟨_, rfl, _, _, _, _, false, rfl, ClsV.ty _, (.base (.lst ea')), kit_ty (by decide +kernel), _, rfl, _, _, _, _, false, rfl, ClsV.ty _, (.base (.lst eb')), kit_ty (by decide +kernel), rfl, _, rfl, iteF ?_⟩
        refine ⟨_, rfl, a, xs, rfl, .inl (SqL.of ea'), _, rfl, b, ys, rfl, .inl (SqL.of eb'), rfl, _, rfl, ?_⟩
        rw [if_pos (by rw [la, lb]; exact decide_eq_true rfl)]
        have lxy : ys.length ≤ 1000000 := by rw [lb]; exact zb
        refine ⟨_, rfl, b, ys, rfl, .inl (SqL.of eb'), (ys.length : Int), rfl, by omega, by omega, fun D nD => ?_⟩
        have sD := same_new (o := .lst []) nD
        refine lc_range (lo := 0) (n := ys.length) (fun i H' => Same (upd H p (.tup [.ty "int", .ty "str"])) H' ∧ H' D = some (.lst ((List.replicate i true).map V.bl))) ⟨sD, upd_same⟩ ?_ ?_
        · rintro i H' hi ⟨sm, hD⟩
          have hix : i < xs.length := by omega
          have hid : i < ds.length := by omega
          refine ⟨rfl, ?_⟩
          refine ⟨_, rfl, _, rfl, .inl ⟨a, xs, _, xs[i], rfl, rfl, SqL.of (sm _ _ ea'), at_of (Int.zero_add _) (List.getElem?_eq_getElem hix), ?_⟩⟩
          refine ⟨_, rfl, _, rfl, .inl ⟨b, ys, _, ys[i], rfl, rfl, SqL.of (sm _ _ eb'), at_of (Int.zero_add _) (List.getElem?_eq_getElem hi), ?_⟩⟩
          have sH := (same_new (o := .tup [.ty "int", .ty "str"]) np).trans sm
          refine ⟨xs[i], ys[i], ds[i], rfl, (ma i _ _ (List.getElem?_eq_getElem hix) (List.getElem?_eq_getElem hid)).same sH, (mb i _ _ (List.getElem?_eq_getElem hi) (List.getElem?_eq_getElem hid)).same sH, fun H4 s4 => ?_⟩
          refine ⟨_, s4 _ _ hD, ?_, same_at nD (sm.trans s4), ?_⟩
          · rw [List.length_map, List.length_replicate]
            exact Nat.lt_of_lt_of_le (show i < 1000001 by omega) (by rw [sizeLine_eq]; decide)
          · rw [upd_same, List.replicate_succ', List.map_append]
            rfl
        · rintro H' ⟨sm, hD⟩
          refine ⟨D, List.replicate ys.length true, rfl, SqL.of hD, ?_⟩
          rw [all_rep]
          exact q _ ((same_new np).trans sm)
      | tup ds =>
        cases hx with
        | @tup _ a xs _ ea la za ma =>
        cases hy with
        | @tup _ b ys _ eb lb zb mb =>
        refine ⟨_, rfl, rfl, _, rfl, iteF ⟨_, rfl, rfl, _, rfl, iteF ?_⟩⟩
        refine ⟨_, rfl, _, _, _, _, false, rfl, ClsV.ty _, (.base (.tup eb)), kit_ty (by decide +kernel), _, rfl, iteF ?_⟩
        refine ⟨_, rfl, _, _, _, _, false, rfl, ClsV.ty _, (.base (.tup ea)), kit_ty (by decide +kernel), _, rfl, iteF ?_⟩
        refine ⟨_, rfl, (by show 2 ≤ sizeLine; decide), fun p np => ⟨_, _, _, _, _, false, rfl, upd_same, .cons (ClsV.ty _) (.cons (ClsV.ty _) .nil), (.base (.tup ((same_new np) _ _ eb))), kit2 (b1 := false) (b2 := false) (by decide +kernel) (by decide +kernel) rfl, _, rfl, iteF ?_⟩⟩
        have ea' := (same_new (o := .tup [.ty "int", .ty "str"]) np) _ _ ea
        have eb' := (same_new (o := .tup [.ty "int", .ty "str"]) np) _ _ eb
        refine ⟨_, rfl, _, _, _, _, false, rfl, ClsV.ty _, (.base (.tup ea')), kit_ty (by decide +kernel), _, rfl, _, _, _, _, false, rfl, ClsV.ty _, (.base (.tup eb')), kit_ty (by decide +kernel), rfl, _, rfl, iteF ?_⟩
        refine ⟨_, rfl, _, _, _, _, true, rfl, ClsV.ty _, (.base (.tup ea')), kit_ty (by decide +kernel), _, rfl, _, _, _, _, true, rfl, ClsV.ty _, (.base (.tup eb')), kit_ty (by decide +kernel), rfl, _, rfl, iteF ?_⟩
        refine ⟨_, rfl, a, xs, rfl, .inr (SqT.of ea'), _, rfl, b, ys, rfl, .inr (SqT.of eb'), rfl, _, rfl, ?_⟩
        rw [if_pos (by rw [la, lb]; exact decide_eq_true rfl)]
        have lxy : ys.length ≤ 1000000 := by rw [lb]; exact zb
        refine ⟨_, rfl, b, ys, rfl, .inr (SqT.of eb'), (ys.length : Int), rfl, by omega, by omega, fun D nD => ?_⟩
        have sD := same_new (o := .lst []) nD
        refine lc_range (lo := 0) (n := ys.length) (fun i H' => Same (upd H p (.tup [.ty "int", .ty "str"])) H' ∧ H' D = some (.lst ((List.replicate i true).map V.bl))) ⟨sD, upd_same⟩ ?_ ?_
        · rintro i H' hi ⟨sm, hD⟩
          have hix : i < xs.length := by omega
          have hid : i < ds.length := by omega
          refine ⟨rfl, ?_⟩
          refine ⟨_, rfl, _, rfl, .inr (.inl ⟨a, xs, _, xs[i], rfl, rfl, SqT.of (sm _ _ ea'), at_of (Int.zero_add _) (List.getElem?_eq_getElem hix), ?_⟩)⟩
          refine ⟨_, rfl, _, rfl, .inr (.inl ⟨b, ys, _, ys[i], rfl, rfl, SqT.of (sm _ _ eb'), at_of (Int.zero_add _) (List.getElem?_eq_getElem hi), ?_⟩)⟩
          have sH := (same_new (o := .tup [.ty "int", .ty "str"]) np).trans sm
          refine ⟨xs[i], ys[i], ds[i], rfl, (ma i _ _ (List.getElem?_eq_getElem hix) (List.getElem?_eq_getElem hid)).same sH, (mb i _ _ (List.getElem?_eq_getElem hi) (List.getElem?_eq_getElem hid)).same sH, fun H4 s4 => ?_⟩
          refine ⟨_, s4 _ _ hD, ?_, same_at nD (sm.trans s4), ?_⟩
          · rw [List.length_map, List.length_replicate]
            exact Nat.lt_of_lt_of_le (show i < 1000001 by omega) (by rw [sizeLine_eq]; decide)
          · rw [upd_same, List.replicate_succ', List.map_append]
            rfl
        · rintro H' ⟨sm, hD⟩
          refine ⟨D, List.replicate ys.length true, rfl, SqL.of hD, ?_⟩
          rw [all_rep]
          exact q _ ((same_new np).trans sm)
end
end K2

namespace CB
open PySem PySem.Spec PyProof.Rows
/-! ### the type of combinations -/
theorem cb_owner : Manifest.owners.lookup (String.ofList ['s', 'n', 'o', 'i', 't', 'a', 'n', 'i', 'b', 'm', 'o', 'c', '.', 's', 'l', 'o', 'o', 't', 'r', 'e', 't', 'i'].reverse) = some Manifest.sig_itertools_combinations := by kernel_rfl
theorem cb_mro : mroOf (.type "itertools.combinations") = pure [.type "itertools.combinations", .type "object"] := by rw [mroOf_type]; kernel_rfl
theorem cb_newL : typeLookup (.type "itertools.combinations") "__new__" = pure (some (.builtin "itertools.combinations.__new__")) := by rw [typeLookup_type, builtinLookup_eq_fast]; kernel_rfl
theorem cb_sub : isSubtype (.type "itertools.combinations") (.type "itertools.combinations") = pure true := by rw [isSubtype_type]; kernel_rfl
theorem cb_init : Slot "itertools.combinations" "__init__" "object.__init__" :=
  .of (owner := "object") (n := "__init__") (by rw [typeLookup_type, builtinLookup_eq_fast]; kernel_rfl) (by decide +kernel) (by decide +kernel)
    (by decide +kernel) (by first | exact .inl (by decide +kernel) | exact .inr (by decide +kernel)) (by rw [isSubtype_type]; kernel_rfl)
theorem cb_called : TypeCalled "itertools.combinations" "itertools.combinations.__new__" "object.__init__" :=
  ⟨by decide +kernel, by decide +kernel, ⟨_, _, cb_mro⟩, madeBy_type cb_mro cb_newL (by decide +kernel), by decide +kernel, cb_sub, cb_init⟩
theorem cb_typeCall (a b : Value) : checkTypeCall "itertools.combinations" ⟨[a, b], []⟩ = pure () := by kernel_rfl
theorem cb_newCall (a b : Value) : checkBuiltinCall "itertools.combinations.__new__" ⟨[.type "itertools.combinations", a, b], []⟩ = pure () := by kernel_rfl
theorem cb_newE : entryFor table "itertools.combinations.__new__" = some Builtin.«itertools.combinations.__new__» := entryFor_of_tree (by kernel_rfl)
theorem cb_next : Slot "itertools.combinations" "__next__" "itertools.combinations.__next__" :=
  .of (owner := "itertools.combinations") (n := "__next__") (by rw [typeLookup_type, builtinLookup_eq_fast]; kernel_rfl) (by decide +kernel) (by decide +kernel)
    (by decide +kernel) (by first | exact .inl (by decide +kernel) | exact .inr (by decide +kernel)) cb_sub
theorem cb_iter : Slot "itertools.combinations" "__iter__" "itertools.combinations.__iter__" :=
  .of (owner := "itertools.combinations") (n := "__iter__") (by rw [typeLookup_type, builtinLookup_eq_fast]; kernel_rfl) (by decide +kernel) (by decide +kernel)
    (by decide +kernel) (by first | exact .inl (by decide +kernel) | exact .inr (by decide +kernel)) cb_sub
theorem cb_nextE : entryFor table "itertools.combinations.__next__" = some Builtin.«itertools.combinations.__next__» := entryFor_of_tree (by kernel_rfl)
theorem cb_iterE : entryFor table "itertools.combinations.__iter__" = some Builtin.«dict_keyiterator.__iter__» :=
  entryFor_alias (id' := "dict_keyiterator.__iter__") (by kernel_rfl)
    (by first | rfl | decide +kernel | (unfold String.splitOn; simp +decide [String.splitOnAux]))
    (by decide +kernel) (by kernel_rfl)
theorem cb_nextA (a : Value) : argsOk "itertools.combinations.__next__" ⟨[a], []⟩ := by
  unfold argsOk
  rw [signature?_of (id := "itertools.combinations.__next__") (n := ['_', '_', 't', 'x', 'e', 'n', '_', '_']) (o := ['s', 'n', 'o', 'i', 't', 'a', 'n', 'i', 'b', 'm', 'o', 'c', '.', 's', 'l', 'o', 'o', 't', 'r', 'e', 't', 'i']) (by kernel_rfl) cb_owner]
  kernel_rfl
theorem cb_iterA (a : Value) : argsOk "itertools.combinations.__iter__" ⟨[a], []⟩ := by
  unfold argsOk
  rw [signature?_of (id := "itertools.combinations.__iter__") (n := ['_', '_', 'r', 'e', 't', 'i', '_', '_']) (o := ['s', 'n', 'o', 'i', 't', 'a', 'n', 'i', 'b', 'm', 'o', 'c', '.', 's', 'l', 'o', 'o', 't', 'r', 'e', 't', 'i']) (by kernel_rfl) cb_owner]
  kernel_rfl
theorem cb_noLen : typeLookup (.type "itertools.combinations") "__len__" = pure none := by rw [typeLookup_type, builtinLookup_eq_fast]; kernel_rfl
theorem cb_noHint : typeLookup (.type "itertools.combinations") "__length_hint__" = pure none := by rw [typeLookup_type, builtinLookup_eq_fast]; kernel_rfl
theorem cb_noDict : typeHasDict (.type "itertools.combinations") = false := by decide +kernel
end CB

namespace CB
open PySem PySem.Spec PyProof.Rows
open Sem (wp)
abbrev cbF (p : Addr) (flag : Int) (last : Value) (ix : List Nat) : Array Value := (.ref p :: rawInt flag :: last :: ix.map fun (n : Nat) => rawInt n).toArray
abbrev IsCb (h : Heap) (it p : Addr) (flag : Int) (last : Value) (ix : List Nat) : Prop :=
  h.get? it = some { cls := .type "itertools.combinations", dict := none, data := .fields (cbF p flag last ix), slots := #[] }
abbrev IsPool (h : Heap) (p : Addr) (us : Array Value) : Prop := h.get? p = some { cls := .type "tuple", data := .seq us }
section
variable {prog : Program} {w : World} {M : Model} {A : Around} {E : Value → Shared → Prop} {s : Shared}
theorem cb_numbers {it p : Addr} {flag : Int} {last : Value} {ix : List Nat} {Q : List Nat → Shared → Prop} (hit : IsCb s.heap it p flag last ix) (h : Q ix s) : wpAny M A (Builtin.Itertools.itNumbersFrom (.ref it) 3) Q E s := by
  unfold Builtin.Itertools.itNumbersFrom
  refine wpAny_bind (wpAny_load hit ?_)
  refine wpAny_pure ?_
  have e : ∀ (f : Value → Nat), (∀ n : Nat, f (rawInt n) = n) → ((cbF p flag last ix).toList.drop 3).map f = ix := fun f hf => by
    show (ix.map fun (n : Nat) => rawInt n).map f = ix
    rw [List.map_map]
    have e1 : (f ∘ fun (n : Nat) => rawInt n) = id := funext fun n => hf n
    rw [e1, List.map_id]
  rw [e _ fun _ => rfl]
  exact h
theorem cb_flag {it p : Addr} {flag : Int} {last : Value} {ix : List Nat} {Q : Int → Shared → Prop} (hit : IsCb s.heap it p flag last ix) (h : Q flag s) : wpAny M A (Builtin.Itertools.itIntField (.ref it) 1) Q E s := by
  unfold Builtin.Itertools.itIntField
  exact wpAny_bind (wpAny_field hit rfl (x := rawInt flag) rfl (wpAny_pure h))
theorem cb_pool {p : Addr} {us : Array Value} {Q : Array Value → Shared → Prop} (hp : IsPool s.heap p us) (h : Q us s) : wpAny M A (Builtin.Itertools.itPoolItems (.ref p)) Q E s := by
  unfold Builtin.Itertools.itPoolItems
  exact wpAny_bind (wpAny_seqItems hp rfl (wpAny_pure h))
theorem cb_item0 {it p : Addr} {ix : List Nat} {us : Array Value} {Q : Value → Shared → Prop} (hit : IsCb s.heap it p 0 .none ix) (hp : IsPool s.heap p us) (hl : ix.length ≤ 1000)
    (hQ : ∀ h', IsCb h' it p 1 (.ref s.heap.objs.size) ix → h'.get? s.heap.objs.size = some { cls := .type "tuple", data := .seq (ix.map fun i => us.getD i .none).toArray } →
      (∀ b o, b ≠ it → s.heap.get? b = some o → h'.get? b = some o) → Q (.ref s.heap.objs.size) { s with heap := h' }) :
    wpAny M A (Builtin.«itertools.combinations.__next__» ⟨[.ref it], []⟩) (fun fin s' => ∃ v, fin = .done (.ret v) ∧ Q v s') E s := by
  obtain ⟨h0, g, d, tk, os⟩ := s
  have lti : it < h0.objs.size := Heap.lt_size hit
  show wpAny _ _ (field (.ref it) 0 >>= _) _ _ _
  refine wpAny_bind (wpAny_field hit rfl (x := .ref p) rfl ?_)
  show wpAny _ _ (Builtin.Itertools.itNumbersFrom (.ref it) 3 >>= _) _ _ _
  refine wpAny_bind (cb_numbers hit ?_)
  show wpAny _ _ (Builtin.Itertools.itIntField (.ref it) 1 >>= _) _ _ _
  refine wpAny_bind (cb_flag hit ?_)
  show wpAny _ _ (setField (.ref it) 1 (rawInt 1) >>= _) _ _ _
  refine wpAny_bind (wpAny_setField hit rfl (by simp) ?_)
  have hit1 : IsCb (h0.update it (Obj.mapFields fun x => x.setIfInBounds 1 (rawInt 1))) it p 1 .none ix := Heap.get?_update_self _ hit rfl
  have k1 : ∀ b o, b ≠ it → h0.get? b = some o → (h0.update it (Obj.mapFields fun x => x.setIfInBounds 1 (rawInt 1))).get? b = some o := fun b o hb e => (Heap.get?_update_other _ _ (Ne.symm hb)).trans e
  have pne : p ≠ it := fun z => by
    rw [z] at hp
    have q := congrArg Obj.data (Option.some.inj (hit.symm.trans hp))
    cases q
  have hz1 : (h0.update it (Obj.mapFields fun x => x.setIfInBounds 1 (rawInt 1))).objs.size = h0.objs.size := Heap.size_update ..
  generalize h0.update it (Obj.mapFields fun x => x.setIfInBounds 1 (rawInt 1)) = h1 at hit1 k1 hz1 ⊢
  show wpAny _ _ ((Builtin.Itertools.itPoolItems (.ref p) >>= _) >>= _) _ _ _
  refine wpAny_bind (wpAny_bind (cb_pool (k1 p _ pne hp) ?_))
  refine wpAny_newTuple ?_ (by rw [List.length_map]; exact Nat.le_trans hl (by rw [sizeLine_eq]; decide))
  have up : ∀ (o : Obj) (b : Addr) (o' : Obj), h1.get? b = some o' → (h1.push o).get? b = some o' := fun o b o' e => Heap.get?_push_of_some _ e
  have hT : (h1.push { cls := .type "tuple", data := .seq (ix.map fun i => us.getD i .none).toArray }).get? h0.objs.size = some { cls := .type "tuple", data := .seq (ix.map fun i => us.getD i .none).toArray } := by
    rw [← hz1]
    exact Heap.get?_push_size _ rfl
  have hit2 := up { cls := .type "tuple", data := .seq (ix.map fun i => us.getD i .none).toArray } _ _ hit1
  have k2 : ∀ b o, b ≠ it → h0.get? b = some o → (h1.push { cls := .type "tuple", data := .seq (ix.map fun i => us.getD i .none).toArray }).get? b = some o := fun b o hb e => up _ _ _ (k1 b o hb e)
  generalize h1.push { cls := .type "tuple", data := .seq (ix.map fun i => us.getD i .none).toArray } = h2 at hT hit2 k2 ⊢
  rw [hz1]
  show wpAny _ _ (field (.ref it) 2 >>= _) _ _ _
  refine wpAny_bind (wpAny_field hit2 rfl (x := .none) rfl ?_)
  show wpAny _ _ (setField (.ref it) 2 (.ref h0.objs.size) >>= _) _ _ _
  refine wpAny_bind (wpAny_setField hit2 rfl (by simp) ?_)
  have hit3 : IsCb (h2.update it (Obj.mapFields fun x => x.setIfInBounds 2 (.ref h0.objs.size))) it p 1 (.ref h0.objs.size) ix := Heap.get?_update_self _ hit2 rfl
  have k3 : ∀ b o, b ≠ it → h2.get? b = some o → (h2.update it (Obj.mapFields fun x => x.setIfInBounds 2 (.ref h0.objs.size))).get? b = some o := fun b o hb e => (Heap.get?_update_other _ _ (Ne.symm hb)).trans e
  refine wpAny_bind (wpAny_letGo ?_)
  exact wpAny_pure ⟨_, rfl, hQ _ hit3 (k3 _ _ (Nat.ne_of_gt lti) hT) fun b o hb e => k3 b o hb (k2 b o hb e)⟩
/-- the next indices -/
def nc (n : Nat) (indices : List Nat) : Option (List Nat) :=
  match (List.range indices.length).reverse.find? fun i => indices.getD i 0 != i + n - indices.length with
  | none => none
  | some i => some (indices.take i ++ (List.range (indices.length - i)).map (indices.getD i 0 + 1 + ·))
theorem cb_cut (p : Addr) (flag : Int) (last : Value) (ix nx : List Nat) : (cbF p flag last ix).extract 0 3 ++ (nx.map fun (n : Nat) => rawInt n).toArray = cbF p flag last nx := by
  apply Array.toList_inj.mp
  simp
theorem cb_item1 {it p : Addr} {last : Value} {ix nx : List Nat} {us : Array Value} {Q : Value → Shared → Prop} (hit : IsCb s.heap it p 1 last ix) (hp : IsPool s.heap p us) (hm : nc us.size ix = some nx) (hl : nx.length ≤ 1000)
    (hQ : ∀ h', IsCb h' it p 1 (.ref s.heap.objs.size) nx → h'.get? s.heap.objs.size = some { cls := .type "tuple", data := .seq (nx.map fun i => us.getD i .none).toArray } →
      (∀ b o, b ≠ it → s.heap.get? b = some o → h'.get? b = some o) → Q (.ref s.heap.objs.size) { s with heap := h' }) :
    wpAny M A (Builtin.«itertools.combinations.__next__» ⟨[.ref it], []⟩) (fun fin s' => ∃ v, fin = .done (.ret v) ∧ Q v s') E s := by
  obtain ⟨h0, g, d, tk, os⟩ := s
  have lti : it < h0.objs.size := Heap.lt_size hit
  have pne : p ≠ it := fun z => by
    rw [z] at hp
    have q := congrArg Obj.data (Option.some.inj (hit.symm.trans hp))
    cases q
  show wpAny _ _ (field (.ref it) 0 >>= _) _ _ _
  refine wpAny_bind (wpAny_field hit rfl (x := .ref p) rfl ?_)
  show wpAny _ _ (Builtin.Itertools.itNumbersFrom (.ref it) 3 >>= _) _ _ _
  refine wpAny_bind (cb_numbers hit ?_)
  show wpAny _ _ (Builtin.Itertools.itIntField (.ref it) 1 >>= _) _ _ _
  refine wpAny_bind (cb_flag hit ?_)
  show wpAny _ _ (Builtin.Itertools.itPoolItems (.ref p) >>= _) _ _ _
  refine wpAny_bind (cb_pool hp ?_)
  split
  case h_2 =>
    rename_i hn
    have e : nc us.size ix = none := hn
    rw [hm] at e
    cases e
  rename_i next hn
  have e : nc us.size ix = some next := hn
  rw [hm] at e
  cases e
  show wpAny _ _ (Builtin.Itertools.itSetNumbersFrom (.ref it) 3 nx >>= _) _ _ _
  refine wpAny_bind ?_
  unfold Builtin.Itertools.itSetNumbersFrom
  refine wpAny_updateFields hit rfl ?_ (by
    show ((cbF p 1 last ix).extract 0 3 ++ (nx.map fun (n : Nat) => rawInt n).toArray).size ≤ _
    rw [cb_cut]
    show (nx.map fun (n : Nat) => rawInt n).length + 3 ≤ sizeLine + 3
    rw [List.length_map, sizeLine_eq]
    omega)
  have hit1 : IsCb (h0.update it (Obj.mapFields fun fs => fs.extract 0 3 ++ (nx.map fun (n : Nat) => rawInt n).toArray)) it p 1 last nx := by
    have q := Heap.get?_update_self (Obj.mapFields fun fs => fs.extract 0 3 ++ (nx.map fun (n : Nat) => rawInt n).toArray) hit rfl
    rw [Obj.mapFields] at q
    rw [cb_cut] at q
    exact q
  have k1 : ∀ b o, b ≠ it → h0.get? b = some o → (h0.update it (Obj.mapFields fun fs => fs.extract 0 3 ++ (nx.map fun (n : Nat) => rawInt n).toArray)).get? b = some o := fun b o hb e => (Heap.get?_update_other _ _ (Ne.symm hb)).trans e
  have hz1 : (h0.update it (Obj.mapFields fun fs => fs.extract 0 3 ++ (nx.map fun (n : Nat) => rawInt n).toArray)).objs.size = h0.objs.size := Heap.size_update ..
  generalize h0.update it (Obj.mapFields fun fs => fs.extract 0 3 ++ (nx.map fun (n : Nat) => rawInt n).toArray) = h1 at hit1 k1 hz1 ⊢
  show wpAny _ _ ((Builtin.Itertools.itPoolItems (.ref p) >>= _) >>= _) _ _ _
  refine wpAny_bind (wpAny_bind (cb_pool (k1 p _ pne hp) ?_))
  refine wpAny_newTuple ?_ (by rw [List.length_map]; exact Nat.le_trans hl (by rw [sizeLine_eq]; decide))
  have up : ∀ (o : Obj) (b : Addr) (o' : Obj), h1.get? b = some o' → (h1.push o).get? b = some o' := fun o b o' e => Heap.get?_push_of_some _ e
  have hT : (h1.push { cls := .type "tuple", data := .seq (nx.map fun i => us.getD i .none).toArray }).get? h0.objs.size = some { cls := .type "tuple", data := .seq (nx.map fun i => us.getD i .none).toArray } := by
    rw [← hz1]
    exact Heap.get?_push_size _ rfl
  have hit2 := up { cls := .type "tuple", data := .seq (nx.map fun i => us.getD i .none).toArray } _ _ hit1
  have k2 : ∀ b o, b ≠ it → h0.get? b = some o → (h1.push { cls := .type "tuple", data := .seq (nx.map fun i => us.getD i .none).toArray }).get? b = some o := fun b o hb e => up _ _ _ (k1 b o hb e)
  generalize h1.push { cls := .type "tuple", data := .seq (nx.map fun i => us.getD i .none).toArray } = h2 at hT hit2 k2 ⊢
  rw [hz1]
  show wpAny _ _ (field (.ref it) 2 >>= _) _ _ _
  refine wpAny_bind (wpAny_field hit2 rfl (x := last) rfl ?_)
  show wpAny _ _ (setField (.ref it) 2 (.ref h0.objs.size) >>= _) _ _ _
  refine wpAny_bind (wpAny_setField hit2 rfl (by simp) ?_)
  have hit3 : IsCb (h2.update it (Obj.mapFields fun x => x.setIfInBounds 2 (.ref h0.objs.size))) it p 1 (.ref h0.objs.size) nx := Heap.get?_update_self _ hit2 rfl
  have k3 : ∀ b o, b ≠ it → h2.get? b = some o → (h2.update it (Obj.mapFields fun x => x.setIfInBounds 2 (.ref h0.objs.size))).get? b = some o := fun b o hb e => (Heap.get?_update_other _ _ (Ne.symm hb)).trans e
  refine wpAny_bind (wpAny_letGo ?_)
  exact wpAny_pure ⟨_, rfl, hQ _ hit3 (k3 _ _ (Nat.ne_of_gt lti) hT) fun b o hb e => k3 b o hb (k2 b o hb e)⟩
/-- the end: StopIteration -/
theorem cb_stop {it p : Addr} {last : Value} {ix : List Nat} {us : Array Value} {Q : Fin → Shared → Prop} (hh : A.handled = none) (hit : IsCb s.heap it p 1 last ix) (hp : IsPool s.heap p us) (hm : nc us.size ix = none)
    (hE : ∀ h' e, Heap.ExtBut it s.heap h' → (∃ o, h'.get? e = some o ∧ o.cls = .type "StopIteration") → E (.ref e) { s with heap := h' }) :
    wpAny M A (Builtin.«itertools.combinations.__next__» ⟨[.ref it], []⟩) Q E s := by
  obtain ⟨h0, g, d, tk, os⟩ := s
  show wpAny _ _ (field (.ref it) 0 >>= _) _ _ _
  refine wpAny_bind (wpAny_field hit rfl (x := .ref p) rfl ?_)
  show wpAny _ _ (Builtin.Itertools.itNumbersFrom (.ref it) 3 >>= _) _ _ _
  refine wpAny_bind (cb_numbers hit ?_)
  show wpAny _ _ (Builtin.Itertools.itIntField (.ref it) 1 >>= _) _ _ _
  refine wpAny_bind (cb_flag hit ?_)
  show wpAny _ _ (Builtin.Itertools.itPoolItems (.ref p) >>= _) _ _ _
  refine wpAny_bind (cb_pool hp ?_)
  split
  · rename_i next hn
    have e : nc us.size ix = some next := hn
    rw [hm] at e
    cases e
  show wpAny _ _ (setField (.ref it) 1 (rawInt 2) >>= _) _ _ _
  refine wpAny_bind (wpAny_setField hit rfl (by simp) ?_)
  show wpAny _ _ (newExc (.type "StopIteration") [] >>= _) _ _ _
  refine wpAny_bind ?_
  simp only [newExc, newTuple]
  refine wpAny_bind (wpAny_newObj_type ?_ (by size_fits))
  refine wpAny_bind (m := firstArgMember _ _) (wpAny_of_eq (a := Value.none) (by first | rfl | (simp only [firstArgMember]; rfl)) ?_)
  refine wpAny_newObj_type ?_ (by size_fits)
  simp only [raiseNew]
  refine wpAny_bind (wpAny_handled ?_)
  rw [hh]
  refine wpAny_bind (wpAny_pure (wpAny_throw ?_))
  exact hE _ _ (((Heap.SameBut.update ..).extBut.push _).push _) ⟨_, Heap.get?_push_size _ rfl, rfl⟩
end
end CB

namespace CB
open PySem PySem.Spec PyProof.Rows
open Sem (wp)
section
variable {prog : Program} {w : World} {M : Model} {A : Around} {E : Value → Shared → Prop} {s : Shared}
theorem cb_ssize {k : Int} {t : Tok} {Q : Int → Shared → Prop} (h0 : 0 ≤ k) (h1 : k < 1000) (h : Q k s) : wpAny M A (Builtin.Itertools.itSsizeArg (.int k t)) Q E s := by
  unfold Builtin.Itertools.itSsizeArg
  refine wpAny_bind (wpAny_of_eq (a := k) (by rfl) ?_)
  have e : (decide (k < -(2 ^ 63 : Int)) || decide (k ≥ 2 ^ 63)) = false := by
    rw [decide_eq_false (by omega), decide_eq_false (by omega)]
    rfl
  rw [e]
  exact wpAny_pure h
theorem cb_plain : plainId "itertools.combinations.__new__" = true := by decide +kernel
theorem cb_new {r : Addr} {n k : Nat} {t u v tt : Tok} {Q₁ : Value → Shared → Prop} (hh : A.handled = none) (hr : IsRange s.heap r 0 (n : Int) 1 t u v) (hn : n ≤ 7) (hk : k ≤ n)
    (hQ : ∀ h' tk p us, h'.get? p = some { cls := .type "tuple", data := .seq us } → us.size = n → (∀ i, i < n → ∃ t, us[i]? = some (.int (i : Int) t)) → (∀ b o, s.heap.get? b = some o → b < p) →
      (∀ b o, s.heap.get? b = some o → h'.get? b = some o) → IsCb h' (p + 1) p 0 .none (List.range k) → Q₁ (.ref (p + 1)) { s with heap := h', toks := tk }) :
    codeAny (model prog w) A (.call (.builtin "itertools.combinations.__new__") ⟨[.type "itertools.combinations", .ref r, .int (k : Int) tt], []⟩) (wants Q₁ E) s := by
  refine codeAny_of_tree ?_
  show wpAny _ A.in1 (do checkBuiltinCall "itertools.combinations.__new__" ⟨[.type "itertools.combinations", .ref r, .int (k : Int) tt], []⟩; again (.builtin "itertools.combinations.__new__" ⟨[.type "itertools.combinations", .ref r, .int (k : Int) tt], []⟩)) _ _ s
  refine wpAny_bind (wpAny_of_eq (cb_newCall _ _) (wpAny_pure ⟨plainId_quiet cb_plain _, codeAny_builtin cb_newE ?_⟩))
  rw [Around.under_plainId cb_plain _]
  show wpAny _ _ ((Builtin.Itertools.itClassAndRest "combinations" _ >>= _) >>= _) _ _ _
  refine wpAny_bind (wpAny_bind (wpAny_of_eq (a := ((.type "itertools.combinations" : Value), [(.ref r : Value), .int (k : Int) tt])) ?_ ?_))
  · unfold Builtin.Itertools.itClassAndRest
    simp only [isType, cb_sub, pure_bind, Bool.not_true, Bool.false_eq_true, if_false]
    rfl
  show wpAny _ _ (Builtin.Itertools.itBindNamed "combinations" ["iterable", "r"] 2 2 [.ref r, .int (k : Int) tt] [] >>= _) _ _ _
  refine wpAny_bind (wpAny_of_eq (a := [some (.ref r), some (.int (k : Int) tt)]) (by rfl) ?_)
  show wpAny _ _ (Builtin.Itertools.itSsizeArg (.int (k : Int) tt) >>= _) _ _ _
  refine wpAny_bind (cb_ssize (by omega) (by omega) ?_)
  show wpAny _ _ (collect (.ref r) >>= _) _ _ _
  refine wpAny_bind (L2.collect_range (n := n) hh hr (small_one (by decide) (by decide) (by omega) (by omega)) (by rw [rangeSize_nat]; omega) (by omega) fun h1 tk acc k1 hi => ?_)
  have hsz : acc.toList.length = n := by rw [Array.length_toList]; exact hi.1
  have c1 : ¬ ((k : Int) < 0) := by omega
  have c2 : Builtin.Itertools.itTooMany (k : Int) = false := by
    unfold Builtin.Itertools.itTooMany
    exact decide_eq_false (by omega)
  rw [if_neg c1, c2, if_neg Bool.false_ne_true]
  show wpAny _ _ (newTuple acc.toList >>= _) _ _ _
  refine wpAny_bind (wpAny_newTuple ?_ (by rw [hsz, sizeLine_eq]; omega))
  have tk0 : ((k : Int)).toNat = k := rfl
  have hT : (h1.push { cls := .type "tuple", data := .seq acc.toList.toArray }).get? h1.objs.size = some { cls := .type "tuple", data := .seq acc.toList.toArray } := Heap.get?_push_size _ rfl
  have hz : (h1.push { cls := .type "tuple", data := .seq acc.toList.toArray }).objs.size = h1.objs.size + 1 := Heap.size_push ..
  have k2 : ∀ b o, s.heap.get? b = some o → (h1.push { cls := .type "tuple", data := .seq acc.toList.toArray }).get? b = some o := fun b o e => Heap.get?_push_of_some _ (k1 b o e)
  have hge : ∀ b o, s.heap.get? b = some o → b < h1.objs.size := fun b o e => Heap.lt_size (k1 b o e)
  generalize h1.push { cls := .type "tuple", data := .seq acc.toList.toArray } = h2 at hT hz k2 ⊢
  refine wpAny_pure ?_
  show wpAny _ _ (Builtin.Itertools.itNewRecord (.type "itertools.combinations") ([.ref h1.objs.size, rawInt (if ((k : Int)).toNat > acc.toList.length then 2 else 0), .none] ++ (List.range ((k : Int)).toNat).map fun (i : Nat) => rawInt i) >>= _) _ _ _
  rw [tk0, hsz, if_neg (by omega)]
  refine wpAny_bind ?_
  unfold Builtin.Itertools.itNewRecord
  rw [cb_noDict]
  have hfit : (cbF h1.objs.size 0 .none (List.range k)).size ≤ sizeLine + 2 := by
    show ((List.range k).map fun (i : Nat) => rawInt i).length + 3 ≤ sizeLine + 2
    rw [List.length_map, List.length_range, sizeLine_eq]
    omega
  refine wpAny_newObj_type (data := .fields (cbF h1.objs.size 0 .none (List.range k))) ?_ hfit
  refine wpAny_pure ?_
  have hI : IsCb (h2.push { cls := .type "itertools.combinations", data := .fields (cbF h1.objs.size 0 .none (List.range k)) }) (h1.objs.size + 1) h1.objs.size 0 .none (List.range k) := by
    rw [← hz]
    exact Heap.get?_push_size _ rfl
  rw [hz]
  refine hQ _ tk h1.objs.size acc (Heap.get?_push_of_some _ (by rw [Array.toArray_toList] at hT; exact hT)) hi.1 (fun i hin => ?_) hge (fun b o e => Heap.get?_push_of_some _ (k2 b o e)) hI
  have hia : i < acc.size := by rw [hi.1]; exact hin
  obtain ⟨t', e⟩ := hi.2 i acc[i] (by rw [Array.getElem?_eq_getElem hia])
  refine ⟨t', ?_⟩
  rw [Array.getElem?_eq_getElem hia, e]
  have z : (0 : Int) + (i : Int) * 1 = (i : Int) := by omega
  rw [z]
theorem cb_call {r : Addr} {n k : Nat} {t u v tt : Tok} {Q : Value → Shared → Prop} (hh : A.handled = none) (hr : IsRange s.heap r 0 (n : Int) 1 t u v) (hn : n ≤ 7) (hk : k ≤ n)
    (hQ : ∀ h' tk p us, h'.get? p = some { cls := .type "tuple", data := .seq us } → us.size = n → (∀ i, i < n → ∃ t, us[i]? = some (.int (i : Int) t)) → (∀ b o, s.heap.get? b = some o → b < p) →
      (∀ b o, s.heap.get? b = some o → h'.get? b = some o) → IsCb h' (p + 1) p 0 .none (List.range k) → Q (.ref (p + 1)) { s with heap := h', toks := tk }) :
    wpAny (model prog w) A (call (.type "itertools.combinations") [.ref r, .int (k : Int) tt]) Q E s := by
  refine callType_codes (Q₁ := fun obj s₁ => s₁.TypeIs obj "itertools.combinations" ∧ Q obj s₁) cb_called (cb_typeCall _ _) F.entry_object_init
    (cb_new (A := A.in1) hh hr hn hk fun h' tk p us e1 e2 e3 e4 e5 e6 => ⟨⟨_, e6, rfl⟩, hQ h' tk p us e1 e2 e3 e4 e5 e6⟩) fun obj s₁ h₁ => ?_
  exact ⟨h₁.1, F.args_object_init_3 obj _ _, object_init_meets cb_called.init.lookup cb_called.made (by decide) prog w A.in1 _ s₁ ⟨h₁.1, rfl, h₁.2⟩⟩
theorem cb_pyIter {it p : Addr} {flag : Int} {last : Value} {ix : List Nat} {Q : Value → Shared → Prop} (hit : IsCb s.heap it p flag last ix) (h : Q (.ref it) s) : wpAny (model prog w) A (pyIter (.ref it)) Q E s := by
  have hT : s.TypeIs (.ref it) "itertools.combinations" := ⟨_, hit, rfl⟩
  refine wpAny_pyIter_slot hT cb_iter (wpAny_call_entry cb_iter hT cb_iterE ?_ (cb_iterA _))
  show wpAny _ _ (ret (.ref it)) _ _ s
  exact wpAny_pure ⟨_, rfl, "itertools.combinations", _, hT, cb_next.lookup, h⟩
theorem cb_pyNext0 {it p : Addr} {ix : List Nat} {us : Array Value} {Q : Option Value → Shared → Prop} (hit : IsCb s.heap it p 0 .none ix) (hp : IsPool s.heap p us) (hl : ix.length ≤ 1000)
    (hQ : ∀ h', IsCb h' it p 1 (.ref s.heap.objs.size) ix → h'.get? s.heap.objs.size = some { cls := .type "tuple", data := .seq (ix.map fun i => us.getD i .none).toArray } →
      (∀ b o, b ≠ it → s.heap.get? b = some o → h'.get? b = some o) → Q (some (.ref s.heap.objs.size)) { s with heap := h' }) : wpAny (model prog w) A (pyNext (.ref it)) Q E s := by
  have hT : s.TypeIs (.ref it) "itertools.combinations" := ⟨_, hit, rfl⟩
  unfold pyNext
  exact wpAny_bind (wpAny_attempt (wpAny_callSpecial?_slot (name := Str.ofString "__next__") hT cb_next
    (wpAny_call_entry cb_next hT cb_nextE (cb_item0 hit hp hl fun h' a b c => wpAny_pure (hQ h' a b c)) (cb_nextA _))))
theorem cb_pyNext1 {it p : Addr} {last : Value} {ix nx : List Nat} {us : Array Value} {Q : Option Value → Shared → Prop} (hit : IsCb s.heap it p 1 last ix) (hp : IsPool s.heap p us) (hm : nc us.size ix = some nx) (hl : nx.length ≤ 1000)
    (hQ : ∀ h', IsCb h' it p 1 (.ref s.heap.objs.size) nx → h'.get? s.heap.objs.size = some { cls := .type "tuple", data := .seq (nx.map fun i => us.getD i .none).toArray } →
      (∀ b o, b ≠ it → s.heap.get? b = some o → h'.get? b = some o) → Q (some (.ref s.heap.objs.size)) { s with heap := h' }) : wpAny (model prog w) A (pyNext (.ref it)) Q E s := by
  have hT : s.TypeIs (.ref it) "itertools.combinations" := ⟨_, hit, rfl⟩
  unfold pyNext
  exact wpAny_bind (wpAny_attempt (wpAny_callSpecial?_slot (name := Str.ofString "__next__") hT cb_next
    (wpAny_call_entry cb_next hT cb_nextE (cb_item1 hit hp hm hl fun h' a b c => wpAny_pure (hQ h' a b c)) (cb_nextA _))))
theorem cb_pyNextE {it p : Addr} {last : Value} {ix : List Nat} {us : Array Value} {Q : Option Value → Shared → Prop} (hh : A.handled = none) (hit : IsCb s.heap it p 1 last ix) (hp : IsPool s.heap p us) (hm : nc us.size ix = none)
    (hQ : ∀ h', Heap.ExtBut it s.heap h' → Q none { s with heap := h' }) : wpAny (model prog w) A (pyNext (.ref it)) Q E s := by
  have hT : s.TypeIs (.ref it) "itertools.combinations" := ⟨_, hit, rfl⟩
  unfold pyNext
  refine wpAny_bind (wpAny_attempt (wpAny_callSpecial?_slot (name := Str.ofString "__next__") hT cb_next (wpAny_call_entry cb_next hT cb_nextE (cb_stop (A := A.in1) hh hit hp hm fun h' x he' hx' => ?_) (cb_nextA _))))
  obtain ⟨o, ho, hc⟩ := hx'
  exact wpAny_bind (wpAny_isInstance (T := "StopIteration") (b := true) ⟨o, ho, hc⟩ isSubtype_stop (wpAny_pure (hQ _ he')))
/-! ### list(combinations(..)) -/
abbrev lO (acc : Array Value) (c : Nat) : Obj := { cls := .type "list", dict := none, data := .seq acc c, slots := #[] }
def Chain (n : Nat) : List Nat → List (List Nat) → Prop
  | ix, [] => nc n ix = none
  | ix, nx :: r => nc n ix = some nx ∧ Chain n nx r
/-- the tuples of r have been laid at ts, behind h -/
def Laid (us : Array Value) (h h' : Heap) : List (List Nat) → List Addr → Prop
  | [], [] => True
  | c :: r, t :: ts => h'.get? t = some { cls := .type "tuple", data := .seq (c.map fun i => us.getD i .none).toArray } ∧ (∀ b o, h.get? b = some o → b < t) ∧ Laid us h h' r ts
  | _, _ => False
theorem Laid.mono {us : Array Value} {h h1 h' : Heap} {X : Addr → Prop} (k : ∀ b o, h.get? b = some o → ∃ o', h1.get? b = some o') : ∀ {r : List (List Nat)} {ts : List Addr}, Laid us h1 h' r ts → Laid us h h' r ts
  | [], [], _ => trivial
  | _ :: _, _ :: _, ⟨a, b, c⟩ => ⟨a, fun x o e => by obtain ⟨o', e'⟩ := k x o e; exact b x o' e', Laid.mono (X := X) k c⟩
  | [], _ :: _, z => z.elim
  | _ :: _, [], z => z.elim
theorem cb_drain1 {S it p : Addr} {us : Array Value} {res : Value} {R : Result → Shared → Prop} (hh : A.handled = none) (hSi : S ≠ it) (hSp : S ≠ p) (hpi : p ≠ it) : ∀ (r : List (List Nat)) (ix : List Nat) (s : Shared) (acc : Array Value) (c : Nat) (last : Value),
    IsCb s.heap it p 1 last ix → IsPool s.heap p us → Chain us.size ix r → (∀ nx ∈ r, nx.length ≤ 1000) → s.heap.get? S = some (lO acc c) → acc.size + r.length ≤ 1000 →
    (∀ h' ts c', Laid us s.heap h' r ts → h'.get? S = some (lO (acc ++ (ts.map Value.ref).toArray) c') → (∀ b o, b ≠ it → b ≠ S → s.heap.get? b = some o → h'.get? b = some o) → R (.ok (.ret res)) { s with heap := h' }) →
    codeAny (model prog w) A (.builtin "list.extend.loop" ⟨[.ref S, .ref it, res], []⟩) R s := by
  intro r
  induction r with
  | nil =>
    intro ix s acc c last hit hp hc hl hS hz hR
    refine codeAny_builtin F.entry_extend_loop ?_
    rw [Around.under_plainId F.plain_extend_loop _]
    show wpAny _ A.in1 (pyNext (.ref it) >>= _) _ _ s
    refine wpAny_bind (cb_pyNextE (A := A.in1) hh hit hp hc fun h' hx => wpAny_pure ?_)
    refine hR h' [] c trivial ?_ fun b o h1 _ e => hx b o h1 e
    have q := hx S _ hSi hS
    simpa using q
  | cons nx r ih =>
    intro ix s acc c last hit hp hc hl hS hz hR
    obtain ⟨hc1, hc2⟩ := hc
    refine codeAny_builtin F.entry_extend_loop ?_
    rw [Around.under_plainId F.plain_extend_loop _]
    show wpAny _ A.in1 (pyNext (.ref it) >>= _) _ _ s
    refine wpAny_bind (cb_pyNext1 (A := A.in1) hit hp hc1 (hl nx List.mem_cons_self) fun h1 hit1 hT k1 => ?_)
    show wpAny _ A.in1 (updateSeq S (·.push (.ref s.heap.objs.size)) >>= _) _ _ _
    have hS1 := k1 S _ hSi hS
    have hz' : acc.size < sizeLine := by
      rw [List.length_cons] at hz
      rw [sizeLine_eq]
      omega
    refine wpAny_bind (wpAny_updateSeq hS1 rfl (wpAny_pure ⟨plainId_quiet F.plain_extend_loop _, ?_⟩) (Nat.le_of_lt hz') (by show (acc.push (.ref s.heap.objs.size)).size ≤ sizeLine + 1; rw [Array.size_push]; omega))
    have k2 : ∀ b o, b ≠ S → h1.get? b = some o → (h1.update S (Obj.mapSeq (·.push (.ref s.heap.objs.size)))).get? b = some o := fun b o hb e => (Heap.get?_update_other _ _ (Ne.symm hb)).trans e
    have hS2 := Heap.get?_update_self (Obj.mapSeq (·.push (Value.ref s.heap.objs.size))) hS1 rfl
    have ltS : S < s.heap.objs.size := Heap.lt_size hS
    have lti : it < s.heap.objs.size := Heap.lt_size hit
    generalize h1.update S (Obj.mapSeq (·.push (.ref s.heap.objs.size))) = h2 at hS2 k2 ⊢
    have kk : ∀ b o, b ≠ it → b ≠ S → s.heap.get? b = some o → h2.get? b = some o := fun b o e1 e2 e => k2 b o e2 (k1 b o e1 e)
    refine ih nx { s with heap := h2 } (acc.push (.ref s.heap.objs.size)) _ (.ref s.heap.objs.size) (k2 it _ (Ne.symm hSi) hit1) (kk p _ hpi (Ne.symm hSp) hp) hc2 (fun y hy => hl y (List.mem_cons_of_mem _ hy)) hS2 (by rw [Array.size_push]; rw [List.length_cons] at hz; omega) fun h' ts c' L e k => ?_
    have ext : ∀ b o, s.heap.get? b = some o → ∃ o', h2.get? b = some o' := fun b o e => by
      by_cases z1 : b = it
      · subst z1; exact ⟨_, k2 b _ (Ne.symm hSi) hit1⟩
      · by_cases z2 : b = S
        · subst z2; exact ⟨_, hS2⟩
        · exact ⟨o, kk b o z1 z2 e⟩
    refine hR h' (s.heap.objs.size :: ts) c' ⟨k _ _ (Nat.ne_of_gt lti) (Nat.ne_of_gt ltS) (k2 _ _ (Nat.ne_of_gt ltS) hT), fun b o e => Heap.lt_size e, Laid.mono (X := fun _ => True) ext L⟩ ?_ fun b o e1 e2 e => k b o e1 e2 (kk b o e1 e2 e)
    rw [e]
    simp
end
end CB

namespace CB
open PySem PySem.Spec PyProof.Rows
open Sem (wp)
section
variable {prog : Program} {w : World} {M : Model} {A : Around} {E : Value → Shared → Prop} {s : Shared}
theorem cb_drain0 {S it p : Addr} {us : Array Value} {res : Value} {R : Result → Shared → Prop} (hh : A.handled = none) (hSi : S ≠ it) (hSp : S ≠ p) (hpi : p ≠ it) {r : List (List Nat)} {ix : List Nat} {s : Shared} {c : Nat}
    (hit : IsCb s.heap it p 0 .none ix) (hp : IsPool s.heap p us) (hc : Chain us.size ix r) (hl : ∀ nx ∈ ix :: r, nx.length ≤ 1000) (hS : s.heap.get? S = some (lO #[] c)) (hz : r.length ≤ 900)
    (hR : ∀ h' ts c', Laid us s.heap h' (ix :: r) ts → h'.get? S = some (lO (ts.map Value.ref).toArray c') → (∀ b o, b ≠ it → b ≠ S → s.heap.get? b = some o → h'.get? b = some o) → R (.ok (.ret res)) { s with heap := h' }) :
    codeAny (model prog w) A (.builtin "list.extend.loop" ⟨[.ref S, .ref it, res], []⟩) R s := by
  refine codeAny_builtin F.entry_extend_loop ?_
  rw [Around.under_plainId F.plain_extend_loop _]
  show wpAny _ A.in1 (pyNext (.ref it) >>= _) _ _ s
  refine wpAny_bind (cb_pyNext0 (A := A.in1) hit hp (hl ix List.mem_cons_self) fun h1 hit1 hT k1 => ?_)
  show wpAny _ A.in1 (updateSeq S (·.push (.ref s.heap.objs.size)) >>= _) _ _ _
  have hS1 := k1 S _ hSi hS
  refine wpAny_bind (wpAny_updateSeq hS1 rfl (wpAny_pure ⟨plainId_quiet F.plain_extend_loop _, ?_⟩) (by show 0 ≤ sizeLine; omega) (by show 1 ≤ sizeLine + 1; omega))
  have k2 : ∀ b o, b ≠ S → h1.get? b = some o → (h1.update S (Obj.mapSeq (·.push (.ref s.heap.objs.size)))).get? b = some o := fun b o hb e => (Heap.get?_update_other _ _ (Ne.symm hb)).trans e
  have hS2 := Heap.get?_update_self (Obj.mapSeq (·.push (Value.ref s.heap.objs.size))) hS1 rfl
  have ltS : S < s.heap.objs.size := Heap.lt_size hS
  have lti : it < s.heap.objs.size := Heap.lt_size hit
  generalize h1.update S (Obj.mapSeq (·.push (.ref s.heap.objs.size))) = h2 at hS2 k2 ⊢
  have kk : ∀ b o, b ≠ it → b ≠ S → s.heap.get? b = some o → h2.get? b = some o := fun b o e1 e2 e => k2 b o e2 (k1 b o e1 e)
  refine cb_drain1 hh hSi hSp hpi r ix { s with heap := h2 } #[.ref s.heap.objs.size] _ (.ref s.heap.objs.size) (k2 it _ (Ne.symm hSi) hit1) (kk p _ hpi (Ne.symm hSp) hp) hc (fun y hy => hl y (List.mem_cons_of_mem _ hy)) hS2 (by show 1 + r.length ≤ 1000; omega) fun h' ts c' L e k => ?_
  have ext : ∀ b o, s.heap.get? b = some o → ∃ o', h2.get? b = some o' := fun b o e => by
    by_cases z1 : b = it
    · subst z1; exact ⟨_, k2 b _ (Ne.symm hSi) hit1⟩
    · by_cases z2 : b = S
      · subst z2; exact ⟨_, hS2⟩
      · exact ⟨o, kk b o z1 z2 e⟩
  refine hR h' (s.heap.objs.size :: ts) c' ⟨k _ _ (Nat.ne_of_gt lti) (Nat.ne_of_gt ltS) (k2 _ _ (Nat.ne_of_gt ltS) hT), fun b o e => Heap.lt_size e, Laid.mono (X := fun _ => True) ext L⟩ ?_ fun b o e1 e2 e => k b o e1 e2 (kk b o e1 e2 e)
  rw [e]
  simp
set_option maxHeartbeats 1000000 in
theorem cb_list {it p : Addr} {us : Array Value} {r : List (List Nat)} {ix : List Nat} {Q : Value → Shared → Prop} (hh : A.handled = none) (hpi : p ≠ it)
    (hit : IsCb s.heap it p 0 .none ix) (hp : IsPool s.heap p us) (hc : Chain us.size ix r) (hl : ∀ nx ∈ ix :: r, nx.length ≤ 1000) (hz : r.length ≤ 900)
    (hQ : ∀ S h' ts c', Laid us s.heap h' (ix :: r) ts → h'.get? S = some (lO (ts.map Value.ref).toArray c') → (∀ b o, b ≠ it → s.heap.get? b = some o → h'.get? b = some o) → (∀ b o, s.heap.get? b = some o → b < S) → Q (.ref S) { s with heap := h' }) :
    wpAny (model prog w) A (call (.type "list") [.ref it]) Q E s := by
  have hSi : s.heap.objs.size ≠ it := Nat.ne_of_gt (Heap.lt_size hit)
  have hSp : s.heap.objs.size ≠ p := Nat.ne_of_gt (Heap.lt_size hp)
  refine callType_codes (Q₁ := fun obj s₁ => obj = .ref s.heap.objs.size ∧ s₁ = { s with heap := s.heap.push { cls := .type "list", data := .seq #[] } })
    F.called_list (F.typeCall_list_1 _) F.entry_list_init (code_list_new _ ⟨rfl, rfl⟩) fun obj s₁ h₁ => ?_
  obtain ⟨rfl, rfl⟩ := h₁
  have hS : (s.heap.push { cls := .type "list", data := .seq #[] }).get? s.heap.objs.size = some { cls := .type "list", data := .seq #[] } := Heap.get?_push_size _ rfl
  refine ⟨⟨_, hS, rfl⟩, F.args_list_init_2 _ _, ?_⟩
  show wpAny _ A.in1.in1 (Builtin.List.listItems (.ref s.heap.objs.size) >>= _) _ _ _
  refine wpAny_bind ?_
  unfold Builtin.List.listItems
  refine wpAny_bind (wpAny_seqItems hS rfl (wpAny_pure ?_))
  show wpAny _ A.in1.in1 (updateSeq s.heap.objs.size (fun _ => #[]) >>= fun _ => letGo (#[] : Array Value).toList.reverse >>= fun _ =>
    Builtin.List.listExtendWith (.ref s.heap.objs.size) (.ref it) .none) _ _ _
  refine wpAny_bind (wpAny_updateSeq hS rfl ?_)
  have hS2 := Heap.get?_update_self (Obj.mapSeq (fun _ => (#[] : Array Value))) hS rfl
  refine wpAny_bind (wpAny_letGo ?_)
  have up : ∀ (h : Heap) (f : Obj → Obj), (∀ b o, s.heap.get? b = some o → h.get? b = some o) → ∀ b o, s.heap.get? b = some o → (h.update s.heap.objs.size f).get? b = some o := fun h f q b o e =>
    (Heap.get?_update_other _ _ (Ne.symm (Nat.ne_of_lt (Heap.lt_size e)))).trans (q b o e)
  have k1 : ∀ b o, s.heap.get? b = some o → (s.heap.push { cls := .type "list", data := .seq #[] }).get? b = some o := fun b o e => Heap.get?_push_of_some _ e
  have k2 := up _ (Obj.mapSeq (fun _ => (#[] : Array Value))) k1
  have tyI : ∀ {h : Heap}, (∀ b o, s.heap.get? b = some o → h.get? b = some o) → Shared.TypeIs { s with heap := h } (.ref it) "itertools.combinations" := fun {h} q => ⟨_, q it _ hit, rfl⟩
  show wpAny _ A.in1.in1 (Builtin.List.listExtendWith (.ref s.heap.objs.size) (.ref it) .none) _ _ _
  unfold Builtin.List.listExtendWith
  refine wpAny_bind (wpAny_typeOf (tyI k2) ?_)
  have h1 : Builtin.List.listSameRef (.ref s.heap.objs.size) (.ref it) = false := by simp [Builtin.List.listSameRef, hSi]
  have h2 : (Value.type "itertools.combinations" == Value.type "list") = false := by decide
  have h3 : (Value.type "itertools.combinations" == Value.type "tuple") = false := by decide
  simp only [h1, h2, h3, Bool.or_false, Bool.false_eq_true, if_false]
  refine wpAny_bind (cb_pyIter (k2 it _ hit) ?_)
  refine wpAny_bind (wpAny_holding ?_)
  unfold Builtin.List.listLengthHint
  refine wpAny_bind (wpAny_specialOf (tyI k2) cb_noLen ?_)
  show wpAny _ A.in1.in1 (specialOf (Value.ref it) (Str.ofString "__length_hint__") >>= _) _ _ _
  refine wpAny_bind (wpAny_specialOf (tyI k2) cb_noHint ?_)
  refine wpAny_pure ?_
  show wpAny _ A.in1.in1 (rule "list.extend.makes-room" >>= _) _ _ _
  refine wpAny_bind (wpAny_rule ?_)
  refine wpAny_bind ?_
  show wpAny _ A.in1.in1 (updateSeq s.heap.objs.size (·.push .none) >>= fun _ => updateSeq s.heap.objs.size (·.pop)) _ _ _
  refine wpAny_bind (wpAny_updateSeq hS2 rfl ?_)
  have hS3 := Heap.get?_update_self (Obj.mapSeq (·.push Value.none)) hS2 rfl
  refine wpAny_updateSeq (hz := by seq_fits) hS3 rfl ?_
  have hS4 := Heap.get?_update_self (Obj.mapSeq (·.pop)) hS3 rfl
  have k4 := up _ (Obj.mapSeq (·.pop)) (up _ (Obj.mapSeq (·.push Value.none)) k2)
  refine wpAny_pure ⟨plainId_quiet F.plain_extend_loop _, ?_⟩
  refine cb_drain0 (A := A.in1) hh hSi hSp hpi (k4 it _ hit) (k4 p _ hp) hc hl hS4 hz fun h' ts c' L e k => ⟨rfl, hQ _ h' ts c' (Laid.mono (X := fun _ => True) (fun b o q => ⟨o, k4 b o q⟩) L) e (fun b o e1 q => k b o e1 (Nat.ne_of_lt (Heap.lt_size q)) (k4 b o q)) fun b o q => Heap.lt_size q⟩
end
end CB

namespace CB
open PySem PySem.Spec PyProof.Rows L2
/-! ### the lots -/
def cmb : Nat → Nat → Nat → List (List Nat)
  | _, _, 0 => [[]]
  | _, 0, _ + 1 => []
  | a, m + 1, k + 1 => (cmb (a + 1) m k).map (a :: ·) ++ cmb (a + 1) m (k + 1)
def combs (n k : Nat) : List (List Nat) := cmb 0 n k
def chainB (n : Nat) : List Nat → List (List Nat) → Bool
  | ix, [] => decide (nc n ix = none)
  | ix, nx :: r => decide (nc n ix = some nx) && chainB n nx r
theorem chain_of {n : Nat} : ∀ {r : List (List Nat)} {ix : List Nat}, chainB n ix r = true → Chain n ix r
  | [], ix, h => by
    show nc n ix = none
    exact of_decide_eq_true h
  | _ :: _, _, h => ⟨of_decide_eq_true (Bool.and_eq_true_iff.mp h).1, chain_of (Bool.and_eq_true_iff.mp h).2⟩
def goodB (n k : Nat) : Bool := match combs n k with
  | [] => false
  | ix :: r => decide (ix = List.range k) && chainB n ix r && (ix :: r).all (fun c => c.all (fun i => decide (i < n)) && decide (c.length = k)) && decide (r.length ≤ 900)
theorem all_good : ((List.range 8).all fun n => (List.range (n + 1)).all fun k => goodB n k) = true := by decide +kernel
theorem good_at {n k : Nat} (hn : n ≤ 7) (hk : k ≤ n) : ∃ r, combs n k = List.range k :: r ∧ Chain n (List.range k) r ∧ (∀ c ∈ combs n k, (∀ i ∈ c, i < n) ∧ c.length = k) ∧ r.length ≤ 900 := by
  have g : goodB n k = true := by
    have h1 := List.all_eq_true.mp all_good n (List.mem_range.mpr (by omega))
    exact List.all_eq_true.mp h1 k (List.mem_range.mpr (by omega))
  unfold goodB at g
  split at g
  · cases g
  · rename_i ix r e
    simp only [Bool.and_eq_true, decide_eq_true_eq, List.all_eq_true] at g
    obtain ⟨⟨⟨g1, g2⟩, g3⟩, g4⟩ := g
    subst g1
    refine ⟨r, e, chain_of g2, fun c hc => ?_, g4⟩
    rw [e] at hc
    exact g3 c hc
abbrev lotV (c : List Nat) : List V := c.map fun (i : Nat) => V.int (i : Int)
/-- each lot is a new tuple of H' -/
def LotsAt (H H' : Hp) : List (List Nat) → List Addr → Prop
  | [], [] => True
  | c :: r, t :: ts => H' t = some (.tup (lotV c)) ∧ H t = none ∧ LotsAt H H' r ts
  | _, _ => False
section
variable {X : Cx} {pins : List (Addr × Obj)} {σ : L2.St} {H : Hp} {s : Shared}
/-- more is tracked -/
theorem inv_more {H' : Hp} {h' : Heap} {t' : Nat} (I : Inv X pins σ H s) (k : ∀ b u, s.heap.get? b = some u → h'.get? b = some u) (hs : ∀ b o, H b = some o → H' b = some o) (hn : ∀ b o, s.heap.get? b = some o → H' b = H b)
    (hok : ∀ b o, H b = none → H' b = some o → ObjOk X.prog X.w H' h' b o) : Inv X pins σ H' { s with heap := h', toks := t' } := by
  refine I.un ⟨fun b o q _ _ _ => k b o q, fun b o q _ _ _ => ⟨o.slots, k b o q⟩, fun b o q n _ => by rw [hn b o q]; exact n, fun b o q _ => ⟨o, k b o q⟩, fun b xs q => hs _ _ q, fun b o u q => hs _ _ q, fun b ps q => ⟨#[], by rw [hs _ _ q]; simp⟩⟩ fun b o q => ?_
  cases e : H b with
  | none => exact hok b o e q
  | some o' =>
    have z := hs b o' e
    rw [q] at z
    cases z
    exact (I.hok b _ e).stay (fun c u _ z => k c u z) (fun d z => hs _ _ z) fun d xs z => hs _ _ z
end
theorem live_of {P : Program} {w : World} {H : Hp} {h : Heap} {a : Addr} {o : HO} (x : ObjOk P w H h a o) : ∃ ob, h.get? a = some ob := by
  cases o with
  | lst xs => obtain ⟨_, _, _, _, e⟩ := x; exact ⟨_, e⟩
  | tup xs => obtain ⟨_, _, _, o, e, _⟩ := x; exact ⟨_, e⟩
  | dK kvs => obtain ⟨_, _, _, _, o, _, _, e, _⟩ := x; exact ⟨_, e⟩
  | dT kvs => obtain ⟨_, _, _, _, o, _, _, e, _⟩ := x; exact ⟨_, e⟩
  | set S n => obtain ⟨o, _, _, _, e, _⟩ := x; exact ⟨_, e⟩
  | ins C dx fs => obtain ⟨_, _, _, e, _⟩ := x; exact ⟨_, e⟩
  | own y => exact x
  | xd fs => obtain ⟨_, ⟨_, _, _, e, _⟩, _⟩ := x; exact ⟨_, e⟩
  | rng lo hi => obtain ⟨_, _, _, e⟩ := x; exact ⟨_, e⟩
  | frz ob u => obtain ⟨e, _⟩ := x; exact ⟨_, e⟩
  | tbl ps => exact ⟨_, x⟩
  | met f y => exact ⟨_, x⟩
  | ext φ => obtain ⟨_, e, _⟩ := x; exact e
theorem fp_fresh {X : Cx} {pins : List (Addr × Obj)} {σ : L2.St} {H : Hp} {s : Shared} (I : Inv X pins σ H s) {b : Addr} (hb : ∀ c o, s.heap.get? c = some o → c < b) : FpOk X pins H b := by
  have hL : X.env.locals < b := by
    obtain ⟨m, ⟨o, es, ep, ho, r⟩, _⟩ := I.loc
    exact hb _ _ ho
  have h0 := I.ok.above
  refine ⟨?_, Nat.ne_of_gt hL, fun hm => ?_, .inr (Nat.le_trans h0 (Nat.le_of_lt hL)), fun x c e z => ?_, fun p hp z => ?_⟩
  · cases e : H b with
    | none => rfl
    | some o =>
      obtain ⟨ob, q⟩ := live_of (I.hok b o e)
      exact absurd (hb _ _ q) (Nat.lt_irrefl _)
  · obtain ⟨_, o, ho, _⟩ := I.ok.funs.mem hm
    exact absurd (Nat.lt_of_lt_of_le (Heap.lt_size ho) (Nat.le_trans h0 (Nat.le_of_lt hL))) (Nat.lt_irrefl _)
  · obtain ⟨v, o, ho, _⟩ := I.cell x c e
    rw [z] at ho
    exact absurd (hb _ _ ho) (Nat.lt_irrefl _)
  · have q := (I.pin p hp).1
    rw [z] at q
    exact absurd (hb _ _ q) (Nat.lt_irrefl _)
/-- what a tuple at b holds -/
def rdT (h : Heap) (b : Addr) : Option HO := match h.get? b with
  | some ⟨_, _, .seq us _, _⟩ => some (.tup (us.toList.map fun v => (absV v).getD .non))
  | _ => none
theorem vals_lot {n : Nat} {us : Array Value} (hu : ∀ i, i < n → ∃ t, us[i]? = some (.int (i : Int) t)) : ∀ {c : List Nat}, (∀ i ∈ c, i < n) → Vals (lotV c) (c.map fun i => us.getD i .none) ∧ (c.map fun i => us.getD i .none).map (fun v => (absV v).getD .non) = lotV c
  | [], _ => ⟨.nil, rfl⟩
  | i :: c, h => by
    obtain ⟨t, e⟩ := hu i (h i List.mem_cons_self)
    have e2 : us.getD i .none = .int (i : Int) t := by
      rw [Array.getD_eq_getD_getElem?, e]
      rfl
    obtain ⟨a, b⟩ := vals_lot hu (c := c) fun j hj => h j (List.mem_cons_of_mem _ hj)
    refine ⟨?_, ?_⟩
    · show Vals (.int (i : Int)   :: lotV c) (us.getD i .none :: c.map fun i => us.getD i .none)
      exact .cons (by rw [e2]; exact ⟨t, rfl⟩) a
    · show (absV (us.getD i .none)).getD .non :: _ = .int (i : Int)   :: lotV c
      rw [e2, b]
      rfl
theorem laid_lots {us : Array Value} {n : Nat} (hu : ∀ i, i < n → ∃ t, us[i]? = some (.int (i : Int) t)) {h h' : Heap} {H H' : Hp} (hH : ∀ b o, H b = some o → ∃ u, h.get? b = some u) {ts0 : List Addr} (hr : ∀ t ∈ ts0, H' t = rdT h' t) :
    ∀ {r : List (List Nat)} {ts : List Addr}, (∀ c ∈ r, ∀ i ∈ c, i < n) → (∀ t ∈ ts, t ∈ ts0) → Laid us h h' r ts → LotsAt H H' r ts
  | [], [], _, _, _ => trivial
  | c :: r, t :: ts, hc, ht, ⟨a, b, l⟩ => by
    refine ⟨?_, ?_, laid_lots hu hH hr (fun d hd => hc d (List.mem_cons_of_mem _ hd)) (fun x hx => ht x (List.mem_cons_of_mem _ hx)) l⟩
    · rw [hr t (ht t List.mem_cons_self)]
      unfold rdT
      rw [a]
      have q := (vals_lot hu (hc c List.mem_cons_self)).2
      show some (HO.tup ((c.map fun i => us.getD i .none).map fun v => (absV v).getD .non)) = _
      rw [q]
    · cases e : H t with
      | none => rfl
      | some o =>
        obtain ⟨u, hu'⟩ := hH t o e
        exact absurd (b t u hu') (Nat.lt_irrefl _)
  | [], _ :: _, _, _, z => z.elim
  | _ :: _, [], _, _, z => z.elim
theorem laid_mem {us : Array Value} {h h' : Heap} : ∀ {r : List (List Nat)} {ts : List Addr}, Laid us h h' r ts → ts.length = r.length ∧ ∀ t ∈ ts, (∃ c ∈ r, h'.get? t = some { cls := .type "tuple", data := .seq (c.map fun i => us.getD i .none).toArray }) ∧ ∀ b o, h.get? b = some o → b < t
  | [], [], _ => ⟨rfl, fun t ht => nomatch ht⟩
  | c :: r, t :: ts, ⟨a, b, l⟩ => by
    obtain ⟨e, f⟩ := laid_mem l
    refine ⟨by rw [List.length_cons, List.length_cons, e], fun x hx => ?_⟩
    rcases List.mem_cons.mp hx with z | z
    · subst z
      exact ⟨⟨c, List.mem_cons_self, a⟩, b⟩
    · obtain ⟨⟨d, hd, e1⟩, e2⟩ := f x z
      exact ⟨⟨d, List.mem_cons_of_mem _ hd, e1⟩, e2⟩
  | [], _ :: _, z => z.elim
  | _ :: _, [], z => z.elim
def tLots (ta tb : TE) : TE := fun σ H Q => ta σ H fun x H1 => ∃ n : Nat, x = .int (n : Int) ∧ n ≤ 7 ∧ tb σ H1 fun y H2 => ∃ k : Nat, y = .int (k : Int) ∧ k ≤ n ∧
  ∀ (l : Addr) (ts : List Addr) (H' : Hp), Same H2 H' → H2 l = none → H' l = some (.lst (ts.map V.ref)) → LotsAt H2 H' (combs n k) ts → Q (.ref l) H'
section
variable {X : Cx} {a b : Expr} {ta tb : TE}
theorem vals_refs : ∀ ts : List Addr, Vals (ts.map V.ref) (ts.map Value.ref)
  | [] => .nil
  | t :: r => .cons rfl (vals_refs r)
theorem pe_lots {p1 p2 p3 q1 q2 q3 : Pos} (hc : X.calm = true) (g1 : Gl X "list") (m1 : X.mg "list" = none) (g2 : Gl X "combinations") (m2 : X.mg "combinations" = some (.type "itertools.combinations")) (g3 : Gl X "range") (m3 : X.mg "range" = none)
    (ha : PE X a ta) (hb : PE X b tb) (n1 : starEach [.Call (.Name "combinations" p2) [.Call (.Name "range" p3) [a] [] q3, b] [] q2] X.env = (false, eval (.Call (.Name "combinations" p2) [.Call (.Name "range" p3) [a] [] q3, b] [] q2) X.env) :: starEach [] X.env := by rfl)
    (n2 : starEach [.Call (.Name "range" p3) [a] [] q3, b] X.env = (false, eval (.Call (.Name "range" p3) [a] [] q3) X.env) :: starEach [b] X.env := by rfl) (n3 : starEach [b] X.env = (false, eval b X.env) :: starEach [] X.env := by rfl)
    (n4 : starEach [a] X.env = (false, eval a X.env) :: starEach [] X.env := by rfl) (h3 : (backTo q2 (starEach [b] X.env)).any (·.1) = false := by rfl) :
    PE X (.Call (.Name "list" p1) [.Call (.Name "combinations" p2) [.Call (.Name "range" p3) [a] [] q3, b] [] q2] [] q1) (tLots ta tb) := by
  refine ⟨fun pins s σ H Q I h => ?_⟩
  refine Call_ (ld_blt I g1 m1 boot_list (PyProof.Rows.callWith_type1 (args_cons (thn (Q := fun x s' => ∃ (it p : Addr) (us : Array Value) (n k : Nat) (H2 : Hp), x = .ref it ∧ p ≠ it ∧ IsCb s'.heap it p 0 .none (List.range k) ∧ IsPool s'.heap p us ∧ us.size = n ∧
      (∀ i, i < n → ∃ t, us[i]? = some (.int (i : Int) t)) ∧ n ≤ 7 ∧ k ≤ n ∧ Inv X pins σ H2 s' ∧ FpOk X pins H2 it ∧
      ∀ (l : Addr) (ts : List Addr) (H' : Hp), Same H2 H' → H2 l = none → H' l = some (.lst (ts.map V.ref)) → LotsAt H2 H' (combs n k) ts → Q (.ref l) H') ?_ fun x s1 hx => args_nil ?_) n1) n1))
  · refine wpAny_Call_Name_kw (ld_glob I g2 m2 (PyProof.Rows.callWith_type1 (args_cons (thn (Q := fun x s' => ∃ (r : Addr) (n : Nat) (t u v : Tok) (H1 : Hp), x = .ref r ∧ n ≤ 7 ∧
        Inv X (pins ++ [(r, { cls := .type "range", dict := none, data := .fields #[.int 0 t, .int (n : Int) u, .int 1 v], slots := #[] })]) σ H1 s' ∧
        tb σ H1 fun y H2 => ∃ k : Nat, y = .int (k : Int) ∧ k ≤ n ∧
          ∀ (l : Addr) (ts : List Addr) (H' : Hp), Same H2 H' → H2 l = none → H' l = some (.lst (ts.map V.ref)) → LotsAt H2 H' (combs n k) ts → Q (.ref l) H') ?_ fun v s1 h1 => ?_) n2) n2 h3))
    · refine Call_ (ld_blt I g3 m3 boot_range (PyProof.Rows.callWith_type1 (one_arg ha I h (fun v s2 x H2 I2 r q => ?_) n4) n4))
      obtain ⟨n, rfl, hn, q⟩ := q
      obtain ⟨t, rfl⟩ := r
      refine call_range_1 ⟨s2.heap.objs.size, n, s2.toks, t, s2.toks + 1, H2, rfl, hn, ?_, q⟩
      have fp := I2.fpOk (b := s2.heap.objs.size) (Nat.le_refl _) (I2.hok.fresh (Nat.le_refl _))
      have I3 : Inv X pins σ H2 { s2 with heap := s2.heap.push { cls := .type "range", data := .fields #[.int 0 s2.toks, .int (n : Int) t, .int 1 (s2.toks + 1)] }, toks := s2.toks + 1 + 1 } := I2.kept fun b u e => Heap.get?_push_of_some _ e
      refine I3.pins_of fun pr hp => ?_
      rcases List.mem_append.mp hp with hp | hp
      · exact I3.pin pr (List.mem_append_right _ hp)
      · rw [List.mem_singleton.mp hp]
        exact ⟨Heap.get?_push_size _ rfl, fp.1, fp.2.1, fp.2.2.1, fun v z => nomatch z⟩
    · obtain ⟨r, n, t, u, v', H1, rfl, hn, I1, q⟩ := h1
      refine one_arg hb I1 q (fun y s2 yv H2 I2 ry q2 => ?_) n3
      obtain ⟨k, rfl, hk, q3⟩ := q2
      obtain ⟨tt, rfl⟩ := ry
      have hr := (I2.pin (r, _) (List.mem_append_right _ (List.mem_append_right _ (List.mem_singleton.mpr rfl)))).1
      refine cb_call (I2.ok.hd hc) hr hn hk fun h' tk p us e1 e2 e3 e4 e5 e6 => ?_
      have J := I2.unpinned
      have fp := fp_fresh J (b := p + 1) fun c o e => Nat.lt_succ_of_lt (e4 c o e)
      exact ⟨p + 1, p, us, n, k, H2, rfl, Nat.ne_of_lt (Nat.lt_succ_self p), e6, e1, e2, e3, hn, hk, J.kept e5, fp, q3⟩
  · obtain ⟨it, p, us, n, k, H2, rfl, hpi, hit, hp, hus, hu, hn, hk, I1, fp, q⟩ := hx
    obtain ⟨r, er, hch, hgood, hle⟩ := good_at hn hk
    subst hus
    refine cb_list (I1.ok.hd hc) hpi hit hp hch (fun c hcm => by rw [← er] at hcm; have := (hgood c hcm).2; omega) hle fun S h' ts c' L hS kk hfr => ?_
    rw [← er] at L
    obtain ⟨lts, hmem⟩ := laid_mem L
    obtain ⟨f0, f1, f2, f3, f4, f5⟩ := fp
    have liveH : ∀ b o, H2 b = some o → ∃ u, s1.heap.get? b = some u := fun b o e => live_of (I1.hok b o e)
    have nS : H2 S = none := by
      cases e : H2 S with
      | none => rfl
      | some o =>
        obtain ⟨u, z⟩ := liveH _ _ e
        exact absurd (hfr _ _ z) (Nat.lt_irrefl _)
    obtain ⟨G, g1', g2'⟩ := restrict h' fun b => decide ((s1.heap.get? b).isSome = true)
    have gl : ∀ b o, s1.heap.get? b = some o → G.get? b = h'.get? b := fun b o e => g1' b (decide_eq_true (by rw [e]; rfl))
    have gd : ∀ b u, G.get? b = some u → ∃ o, s1.heap.get? b = some o := fun b u e => by
      cases z : s1.heap.get? b with
      | some o => exact ⟨o, rfl⟩
      | none =>
        rw [g2' b (decide_eq_false (by rw [z]; intro q; cases q))] at e
        cases e
    have J : Inv X pins σ H2 { s1 with heap := G, toks := s1.toks } := I1.turned (fun b o hb e => (gl b o e).trans (kk b o hb e)) f0 f1 f3 f4 f5
    have nts : ∀ b o, s1.heap.get? b = some o → b ≠ S ∧ b ∉ ts := fun b o e => ⟨Nat.ne_of_lt (hfr b o e), fun hm => absurd ((hmem b hm).2 b o e) (Nat.lt_irrefl _)⟩
    have offOld : ∀ b, b ≠ S ∧ b ∉ ts → (if b = S then some (HO.lst (ts.map V.ref)) else if b ∈ ts then rdT h' b else H2 b) = H2 b := fun b hb => by rw [if_neg hb.1, if_neg hb.2]
    have nSts : S ∉ ts := fun hm => by
      obtain ⟨⟨c, _, e⟩, _⟩ := hmem S hm
      rw [hS] at e
      have q : Value.type "list" = Value.type "tuple" := congrArg Obj.cls (Option.some.inj e)
      exact absurd q (by decide)
    have K : Inv X pins σ (fun b => if b = S then some (HO.lst (ts.map V.ref)) else if b ∈ ts then rdT h' b else H2 b) { s1 with heap := h', toks := s1.toks } := by
      refine inv_more (s := { s1 with heap := G, toks := s1.toks }) J (fun b u e => ?_) (fun b o e => ?_) (fun b o e => ?_) fun b o e1 e2 => ?_
      · obtain ⟨o, z⟩ := gd b u e
        rw [← gl b o z]
        exact e
      · obtain ⟨u, z⟩ := liveH b o e
        rw [offOld b (nts b u z)]
        exact e
      · obtain ⟨o', z⟩ := gd b o e
        exact offOld b (nts b o' z)
      · by_cases hb : b = S
        · rw [if_pos hb] at e2
          cases e2
          rw [hb]
          refine ⟨?_, ts.map Value.ref, c', vals_refs ts, hS⟩
          rw [List.length_map, lts, er, List.length_cons, sizeLine_eq]
          omega
        · rw [if_neg hb] at e2
          by_cases hm : b ∈ ts
          · rw [if_pos hm] at e2
            obtain ⟨⟨c, hcm, e⟩, _⟩ := hmem b hm
            unfold rdT at e2
            rw [e] at e2
            have hv := vals_lot hu (hgood c hcm).1
            have e3 : o = .tup (lotV c) := by
              rw [← hv.2]
              exact (Option.some.inj e2).symm
            subst e3
            refine ⟨?_, c.map fun i => us.getD i .none, hv.1, _, e, rfl, _, rfl⟩
            rw [List.length_map, (hgood c hcm).2, sizeLine_eq]
            omega
          · rw [if_neg hm, e1] at e2
            cases e2
    refine ⟨.ref S, _, K, rfl, q S ts _ (fun b o e => ?_) nS (if_pos rfl) ?_⟩
    · obtain ⟨u, z⟩ := liveH b o e
      exact (offOld b (nts b u z)).trans e
    · refine laid_lots (ts0 := ts) hu liveH (fun t ht => ?_) (fun c hcm => (hgood c hcm).1) (fun _ h => h) L
      have nt : t ≠ S := fun z => nSts (by rw [← z]; exact ht)
      show (if t = S then _ else if t ∈ ts then rdT h' t else H2 t) = _
      rw [if_neg nt, if_pos ht]
end
end CB

set_option maxHeartbeats 2000000
/-! An own error whose class, or one above it, makes it by super().__init__(text) and then keeps its class's name under word. -/
namespace PySem
namespace CleX
open PySem.W PySem.Calls PyProof.Rows PySem.HandSPX
/-- the name of an own class whose name is kept in its slot -/
theorem ent_name : entryFor table "type.__name__" = some Builtin.«type.__name__» := entryFor_of_tree (by kernel_rfl)
theorem typ_name : typeOf (.builtin "type.__name__") = pure (.type "getset_descriptor") := by show builtinType _ = _; rw [builtinType_eq_fast]; kernel_rfl
section
open Builtin Builtin.ObjectAttr Builtin.Getset_descriptor
theorem own_name : descrOwnerAndName "type.__name__" = ("type", "__name__") := by decide +kernel
variable {prog : Program} {w : World} {A : Around} {E : Value → Shared → Prop} {R : Result → Shared → Prop} {s : Shared} {K : Frag} {x C : Addr}
theorem name_get {v : Value} {oC : Obj} (X : K.In s.heap) (hC : s.heap.get? C = some oC) (h2 : (oC.slots[2]?).join = some v) (ht : Looks (model prog w) s.heap (typeOf (.ref C)) (.type "type")) (hs : Looks (model prog w) s.heap (isSubtype (.type "type") (.type "type")) true)
    (h : R (.ok (.ret v)) s) : codeAny (model prog w) A (.call (.builtin "getset_descriptor.__get__") ⟨[.builtin "type.__name__", .ref C, .type "type"], []⟩) R s := by
  obtain ⟨hh, g, dr, t, os⟩ := s
  refine codeAny_call_builtin KF.slot_gs.plain KF.entry_gs (KF.slot_gs.check _ _ _ _ _ _ _ _ typ_name (KF.args_gs _ _ _) ?_)
  unfold Builtin.«getset_descriptor.__get__» descrGet
  rw [dga_obj]
  refine wpAny_bind (wpAny_pure ?_)
  unfold descrGetter descrCheckInstance descrNameAndClass isInstance
  simp only [own_name]
  repeat lk
  refine ⟨Code.quiet_builtin _ (by decide +kernel), codeAny_builtin ent_name ?_⟩
  unfold Builtin.«type.__name__» keptObject slotAt
  repeat (first | lk | (refine wpAny_loadPart_at hC ?_) | wp_step)
  rw [h2]
  exact wpAny_pure h
/-- C.__name__ -/
theorem name_of {v : Value} {oC : Obj} {expr : Bool} {Q : Value → Shared → Prop} (X : K.In s.heap) (hC : K.lookup C = some oC) (h2 : (oC.slots[2]?).join = some v) (hh : handedIn v = true) (hr : readsIn K C (.type "type") = true)
    (e : findCls K (.ref C) (.type "type") "__name__" = some (.get (.builtin "getset_descriptor.__get__") (.builtin "type.__name__") (.ref C) (.type "type")))
    (h : Q v { s with toks := s.toks + 1 }) : wpAny (model prog w) A (getAttr (.ref C) "__name__" expr) Q E s := by
  have ht : Looks (model prog w) s.heap (typeOf (.ref C)) (.type "type") := by
    simp only [readsIn, Bool.and_eq_true, beq_iff_eq] at hr
    exact looks_typeIn X hr.1.1.1.2
  exact cls_bind X hr e (wpAny_call (name_get (s := { s with toks := s.toks + 1 }) X (X _ _ hC) h2 ht (Looks.of_pure (by rw [isSubtype_type]; kernel_rfl)) (handed_on hh h)))
/-- x.__class__, x an error of an own class -/
theorem class_of {ox : Obj} {od : Option Obj} {gt : Option Value} {Q : Value → Shared → Prop} (X : K.In s.heap) (I : InstAt s.heap x ox C od) (hga : findIn K (.ref C) "__getattribute__" = some (some (.builtin "BaseException.__getattribute__"))) (hgt : findIn K (.ref C) "__getattr__" = some gt)
    (hsub : subIn K (.ref C) (.type "BaseException") = some true) (hf : findObj K C od "__class__" = some (.bind (.builtin "getset_descriptor.__get__") (.builtin "object.__class__"))) (hm : mroIn K C (.type "object") = some true)
    (h : Q (.ref C) { s with toks := s.toks + 1 }) : wpAny (model prog w) A (getAttr (.ref x) "__class__" true) Q E s := by
  obtain ⟨hp, g, d, t, os⟩ := s
  have L0 := I.type (M := model prog w)
  have L1 := looks_findIn (M := model prog w) X hga
  have L2 := looks_findIn (M := model prog w) X hgt
  have L3 := looks_find (M := model prog w) X I hf
  have sub : Looks (model prog w) hp (isInstance (.ref x) (.type "BaseException")) true := L0.andThen (looks_subIn X hsub)
  have n0 : (true && onTheHeap (Value.builtin "BaseException.__getattribute__")) = false := rfl
  have n2 : (Value.builtin "BaseException.__getattribute__" == Value.builtin "object.__getattribute__") = false := by decide +kernel
  have n1 : (onTheHeap (Value.ref C) && Value.builtin "BaseException.__getattribute__" == Value.builtin "object.__getattribute__") = false := by rw [n2]; rfl
  unfold getAttr getAttrBy
  refine wpAny_bind (wpAny_mkText (wpAny_holding (wpAny_bind (L0.at (wpAny_bind (L1.at ?_))))))
  show wpAny _ _ (if (onTheHeap (Value.ref C) && Value.builtin "BaseException.__getattribute__" == Value.builtin "object.__getattribute__") = true then _ else _) _ _ _
  rw [n1, if_neg Bool.false_ne_true]
  unfold getAttrByItsOwn hookBefore
  refine wpAny_bind ?_
  rw [if_pos (show onTheHeap (Value.ref C) = true from rfl)]
  refine L2.at ?_
  refine wpAny_bind (wpAny_attempt (wpAny_holding ?_))
  unfold callGetattribute
  rw [n0, if_neg Bool.false_ne_true]
  unfold boundAndCalled
  rw [PySem.F.excAttr_ValueError.ga.bind (.ref x)]
  refine wpAny_bind (wpAny_pure ?_)
  show wpAny _ _ (call (.builtin "BaseException.__getattribute__") [.ref x, .str "__class__" t]) _ _ _
  refine wpAny_call (codeAny_call_builtin PySem.F.excAttr_ValueError.ga.plain PySem.F.entry_bexc_ga ?_)
  refine @PySem.W.check_slot (model prog w) _ _ ⟨hp, g, d, t + 1, os⟩ "BaseException.__getattribute__" "BaseException" "__getattribute__" (.ref x) [.str "__class__" t] [] _ (by decide +kernel) (by decide +kernel) sub (PySem.F.args_bexc_ga (.ref x) (.str "__class__" t)) ?_
  unfold Builtin.«object.__getattribute__»
  refine wpAny_bind (wpAny_of_eq (a := ((Value.ref x : Value), [Value.str "__class__" t])) (by first | rfl | (simp only [slotArgs]; rfl)) ?_)
  refine wpAny_bind (wpAny_pure (wpAny_bind (L0.at (wpAny_bind (L3.at ?_)))))
  refine wpAny_bind (wpAny_holding (wpAny_call (class_get (s := ⟨hp, g, d, t + 1, os⟩) (ox := ox) (od := od) X I hm ?_)))
  refine wpAny_pure ?_
  show wpAny _ _ (handedOut (.ref C)) _ _ _
  rw [handedOut_of (show handedIn (.ref C) = true from rfl)]
  first | exact wpAny_pure h | exact wpAny_pure (wpAny_pure h)
end
end CleX
end PySem

set_option maxHeartbeats 2000000
namespace PySem
namespace CleX
open PySem.W PySem.Calls PyProof.Rows PySem.HandSPX
/-! ### the text of __init__ -/
def iA (p1 p2 p3 : Pos) : Arguments := { posonlyargs := [], args := [{ arg := "self", annotation := none, pos := p1 }, { arg := "text", annotation := none, pos := p2 }], vararg := none, kwonlyargs := [], kw_defaults := [], kwarg := none, defaults := [.Constant (.str "") 0 p3] }
def iB (q1 q2 q3 q4 q5 q6 q7 q8 q9 qa qb qc : Pos) : List Stmt :=
  [.Expr (.Call (.Attribute (.Call (.Name "super" q1) [] [] q2) "__init__" q3) [.Name "text" q4] [] q5) q6,
   .Assign [.Attribute (.Name "self" q7) "word" q8] (.Attribute (.Attribute (.Name "self" q9) "__class__" qa) "__name__" qb) qc]
def iS : Scope := { kind := .function, names := [(PySem.Str.ofString "self", .local), (PySem.Str.ofString "text", .local), (PySem.Str.ofString "__class__", .free), (PySem.Str.ofString "super", .globalImplicit)], isGenerator := false, isCoroutine := false, more := [] }
/-- what the written part says of __init__ at fI, of the class D -/
structure InitTxt (prog : Program) (K : Frag) (mg : Str → Option Value) (D fI : Addr) : Prop where
  nG : mg "super" = none
  nT : (prog.main.scope.names.lookup ("super" : Str)).isSome = false
  noT : nsIn K cStatics "thirdparty.any" = some none
  dD : ∃ cdD, clsIn K D = some cdD
  tC : typeIn K (.ref fI) = some (.type "function")
  fn : ∃ (qn : Str) (oc : Value) (od : Option Addr) (T : Addr) (kV doc pm : Value) (an : Option Addr) (cda : Addr) (ct : Value) (cc : Addr) (osl : Array (Option Value)) (p1 p2 p3 q1 q2 q3 q4 q5 q6 q7 q8 q9 qa qb qc : Pos),
    (q3.endLine == q5.line) = true ∧ K.lookup fI = some ⟨oc, od, .func (ksFn "__init__" qn (iA p1 p2 p3) (iB q1 q2 q3 q4 q5 q6 q7 q8 q9 qa qb qc) iS (.ref T) kV doc pm an (.ref cda) ct cc), osl⟩ ∧ codeIn K (.ref cda) qn = true ∧
    (∃ (oT : Obj) (e : Value) (n : Nat), K.lookup T = some oT ∧ oT.data = .seq #[e] n) ∧
    (∃ (ccl : Value) (cdd : Option Addr) (vs : Array Value) (ccs : Array (Option Value)) (file : Str) (tf : Tok), K.lookup cda = some ⟨ccl, cdd, .fields vs, ccs⟩ ∧ vs[2]? = some (.str file tf) ∧ ((prog.main.file : Str) == file) = true) ∧
    (∃ (cl : Value) (cld : Option Addr) (csl : Array (Option Value)), K.lookup cc = some ⟨cl, cld, .cell (some (.ref D)), csl⟩)
/-- what the written part says of an error's class at C, whose name is nv -/
structure ClsTxt (K : Frag) (C D fI : Addr) (nv : Value) : Prop where
  cls : ∃ nm q N bs bm sn sub ab col dd k0 k1 k3 k5, K.lookup C = some (excClassObj nm q C N bs bm true sn sub ab col dd k0 k1 (some nv) k3 k5 "ValueError.__new__") ∧ refsVE bm = true
  nvh : handedIn nv = true
  mD : mroIn K C (.ref D) = some true
  mO : mroIn K C (.type "object") = some true
  sup : ks_superIn K C D "__init__" = some (some (.builtin "ValueError.__init__"))
  sVE : subIn K (.ref C) (.type "ValueError") = some true
  sa : findIn K (.ref C) "__setattr__" = some (some (.builtin "object.__setattr__"))
  ga : findIn K (.ref C) "__getattribute__" = some (some (.builtin "BaseException.__getattribute__"))
  gg : findIn K (.ref C) "__getattr__" = some none
  noN : findIn K (.ref C) "word" = some none
  cl : findObj K C none "__class__" = some (.bind (.builtin "getset_descriptor.__get__") (.builtin "object.__class__"))
  rd : readsIn K C (.type "type") = true
  nm : findCls K (.ref C) (.type "type") "__name__" = some (.get (.builtin "getset_descriptor.__get__") (.builtin "type.__name__") (.ref C) (.type "type"))
  iC : findIn K (.ref C) "__init__" = some (some (.ref fI))
  kC : keepIn K (.ref C) = true
  exC : subIn K (.ref C) (.type "BaseException") = some true
  tyC : typeIn K (.ref C) = some (.type "type")
  hdC : hasDictIn K C = true
theorem kept_but {K : Frag} {h h' : Heap} {x : Addr} (X : K.In h) (hx : K.lookup x = none) (k : ∀ b o, b ≠ x → h.get? b = some o → h'.get? b = some o) : K.In h' := fun a o e =>
  k a o (fun z => by rw [z, hx] at e; cases e) (X a o e)
/-- the built-in __init__, bound to a fresh error at e, called -/
theorem call_mw {prog : Program} {w : World} {A : Around} {E : Value → Shared → Prop} {h : Heap} {g : Array GenState} {d : Drawn} {t : Nat} {os : OsState} {nm q : Str} {C N : Addr} {bs bm bmB : List Value} {hdct : Bool} {sn : List Str} {sub : List Value} {ab : Bool} {col : Option Bool} {dd : Option Addr} {k0 k1 k2 k3 k5 : Option Value} {B newId i : String}
    (FB : ExcBaseFacts B newId i bmB) {u e t0 : Addr} {rest : List Value} {Q : Value → Shared → Prop}
    (hC : h.get? C = some (excClassObj nm q C N bs bm hdct sn sub ab col dd k0 k1 k2 k3 k5 newId)) (he : h.get? e = some (excO C t0)) (hu : h.get? u = some (kxs_mw i e)) (hrest : rest.length ≤ sizeLine)
    (hq : ∀ h' t1, (∀ b o, b ≠ e → h.get? b = some o → h'.get? b = some o) → h'.get? e = some (excO C t1) → Q .none ⟨h', g, d, t, os⟩) :
    wpAny (model prog w) A (call (.ref u) rest) Q E ⟨h, g, d, t, os⟩ := by
  refine wpAny_call (codeAny_of_tree ?_)
  show wpAny _ A.in1 (callAny (.ref u) ⟨rest, []⟩) _ _ _
  simp only [callAny]
  refine wpAny_bind (wpAny_load hu ?_)
  simp only [kxs_mw, show (Value.type "method-wrapper" == Value.type "method" || Value.type "method-wrapper" == Value.type "builtin_function_or_method" || Value.type "method-wrapper" == Value.type "method-wrapper") = true by decide, if_true]
  refine KFB.if_so (by decide) ?_
  refine wpAny_bind (check_bound_init FB.toExcCallFacts hC he rfl ?_)
  refine wpAny_bind (wpAny_pure (wpAny_pure ?_))
  refine ⟨plainId_quiet FB.init.plain _, codeAny_builtin FB.initEntry ?_⟩
  exact exc_init_tree (cls := .ref C) (t0 := t0) (dv := none) (c2 := .none) (c3 := .none) (b4 := .bool false) he hrest fun h' k e' _ => hq h' _ k e'
/-- what __init__ leaves of a fresh error at x -/
structure InitEnd (h h' : Heap) (x C dx : Addr) (nv : Value) : Prop where
  keep : ∀ b o, b ≠ x → h.get? b = some o → h'.get? b = some o
  obj : ∃ t1 : Addr, h'.get? x = some { cls := .ref C, dict := some dx, data := .fields #[.ref t1, .none, .none, .none, .bool false, .none] }
  dbig : h.objs.size ≤ dx
  dne : dx ≠ x
  ns : h'.Ns1 dx (fun y => if y = "word" then some nv else none)
theorem ldC {M : Model} {s : Shared} {env : Env} {m : Str → Option Value} {x : Str} {pos : Pos} {v : Value} {Q : Value → Shared → Prop} {A : Around} {E : Value → Shared → Prop} (hn : s.heap.Ns env.locals m) (hv : m x = some v) (h : Q v s)
    (hk : env.scope.kind = .function := by rfl) (hl : env.kindOf x = some .local := by rfl) (hd : (x == ("__debug__" : Str)) = false := by decide) :
    wpAny M A (eval (.Name x pos) env) Q E s := wpAny_Name (wpAny_loadName_local hk hl hn hv h) hd
theorem method_he {o : Expr} {name : Str} {apos pos : Pos} {args : List Expr} {env : Env} (hline : (apos.endLine == pos.line) = true) (hform : methodCallForm (args.length + ([] : List Keyword).length) (backTo pos (starEach args env)) (backToKw pos (keywordEach [] env)) = true) :
    eval (.Call (.Attribute o name apos) args [] pos) env = (do
      let ov ← attributeBase o name env (eval o env)
      standAt apos.atName
      let (f, first) ← holding [ov] (getMethod ov name (do return (← importBound o env).getD true))
      callWith pos f first (backTo pos (starEach args env)) []) := by
  rw [arm_eval_Call]
  have hp : methodCallPos true o env apos pos = pure pos := by unfold methodCallPos; simp [hline]
  unfold methodCall
  rw [hform]
  simp only [hp, pure_bind]
  rfl
end CleX
end PySem

set_option maxHeartbeats 2000000
namespace PySem
namespace CleX
open PySem.W PySem.Calls PyProof.Rows PySem.HandSPX
section
variable {prog : Program} {w : World} {A : Around} {E : Value → Shared → Prop} {R : Result → Shared → Prop} {s : Shared} {K : Frag} {mg : Str → Option Value} {C D fI : Addr} {nv : Value}
theorem cle_init (T : InitTxt prog K mg D fI) (T2 : ClsTxt K C D fI nv) {x t0 : Addr} {v : Value} (X : K.In s.heap) (G : s.heap.Ns mainGlobals mg) (Bn : ∃ mb, s.heap.Ns builtinsNs mb ∧ ∀ x : Str, x ≠ "__name__" → mb x = bootBuiltins x) (hlim : s.heap.NoLimit)
    (hx : s.heap.get? x = some (excO C t0)) (hnx : K.lookup x = none) (hroom : A.depth < recursionLimit)
    (hq : ∀ h' tk dx, InitEnd s.heap h' x C dx nv → R (.ok (.ret .none)) { s with heap := h', toks := tk }) :
    codeAny (model prog w) A (.call (.ref fI) ⟨[.ref x, v], []⟩) R s := by
  obtain ⟨qn, oc, od, Td, kV, doc, pm, an, cda, ct, cc, osl, p1, p2, p3, q1, q2, q3, q4, q5, q6, q7, q8, q9, qa, qb, qc, hline, ho, hcd, ⟨oT, dv, n, hT, hTd⟩, ⟨ccl, cdd, vs, ccs, file, tf, hcode, hvs, hfile⟩, ⟨cl, cld, csl, hcell⟩⟩ := T.fn
  obtain ⟨nm, q, N, bs, bm, sn, sub, ab, col, dd, k0, k1, k3, k5, hC, hbm⟩ := T2.cls
  obtain ⟨cdD, hD⟩ := T.dD
  obtain ⟨mb, hb1, hb2⟩ := Bn
  have hcl : clsIn K C = some { name := nm, bases := bs, mro := .ref C :: bm, ns := N, qualname := q, hasDict := true, slotNames := sn, subclasses := sub, abstract := ab, collection := col, hasDel := false } := by unfold clsIn; rw [hC] <;> rfl
  refine ks_codeAny_call_defAt (fd := ksFn "__init__" qn (iA p1 p2 p3) (iB q1 q2 q3 q4 q5 q6 q7 q8 q9 qa qb qc) iS (.ref Td) kV doc pm an (.ref cda) ct cc) (body := iB q1 q2 q3 q4 q5 q6 q7 q8 q9 qa qb qc) (binds := [("self", .ref x), ("text", v)]) hroom (X _ _ ho) rfl hlim (codeRec_of X hcd) rfl
    (binds_K X rfl hT hTd (by first | rfl | with_unfolding_all rfl) (by first | rfl | with_unfolding_all rfl)) (by show ∀ y ∈ iS.names, y.2 ≠ .cell; decide) (locs rfl) (fun h₁ hn k => ?_) rfl rfl rfl
  have X₁ : K.In h₁ := X.keeps k
  have hx₁ := k _ _ hx
  have hxL : s.heap.objs.size ≠ x := Nat.ne_of_gt (Heap.lt_size hx)
  have zn : s.heap.objs.size < h₁.objs.size := hn.lt
  obtain ⟨hp, g, dr, tk, os⟩ := s
  dsimp only at hn X G hlim hx k zn hxL hq hb1 ⊢
  -- super().__init__(text)
  refine ks_wpAt_execs_cons (ks_wpAt_Expr_any (ks_wpAt_MethodCall (he := method_he hline (by rfl)) ?_))
  obtain ⟨oD, hD1, hD2⟩ : ∃ oD, h₁.get? D = some oD ∧ oD.data = .cls cdD := by
    unfold clsIn at hD
    split at hD
    · rename_i c d cd' sl ho
      cases hD
      exact ⟨_, X₁ _ _ ho, rfl⟩
    · cases hD
  have hio : ∀ c, (excO C t0).data ≠ .cls c := fun c e => by cases e
  refine ks_wpAt_super_base rfl rfl (by decide) rfl (X₁ _ _ ho) rfl rfl rfl (X₁ _ _ hcode) rfl hvs hfile T.nT ?_
  refine ks_loadName_global rfl rfl (loadGlobal_builtin (G.keeps k) T.nG (hb1.keeps k) ((hb2 _ (by decide)).trans (by first | boot_by_name | rfl | kernel_rfl)) ⟨rfl, ?_⟩)
  refine wpAny_loadName_free rfl rfl rfl ⟨_, X₁ _ _ hcell, rfl⟩ ?_
  refine wpAny_loadName_local rfl rfl hn (by first | rfl | with_unfolding_all rfl | kernel_rfl) ?_
  refine ks_wpAny_isType_cls hD1 hD2 ⟨rfl, ?_⟩
  refine ks_wpAny_call_super hD1 hD2 hx₁ rfl hio (looks_mroIn X₁ T2.mD) (fun h₂ e k₂ => ?_)
  have X₂ : K.In h₂ := X₁.keeps k₂
  have hx₂ := k₂ _ _ hx₁
  have I₂ : InstAt h₂ x (excO C t0) C none := ⟨hx₂, rfl, rfl, trivial⟩
  have hsup := T2.sup
  unfold ks_superIn at hsup
  rw [hcl] at hsup
  refine kxs_getMethod kxs_ValueError (l₀ := .ref C :: bm) e (looks_opaque X₂ T.noT) ((looks_clsIn X₂ hcl).andThen .now) rfl X₂ hsup (I₂.type.andThen (looks_subIn X₂ T2.sVE)) (ks_ne X₂ I₂ hcl) (by decide) ?_
  have hus : (h₂.push (kxs_mw "ValueError.__init__" x)).get? h₂.objs.size = some (kxs_mw "ValueError.__init__" x) := Heap.get?_push_at rfl rfl
  have k₃ : ∀ b o, h₂.get? b = some o → (h₂.push (kxs_mw "ValueError.__init__" x)).get? b = some o := fun b o q => Heap.get?_push_of_some _ q
  have hn₃ := (hn.keeps k₂).keeps k₃
  refine kxs_callWith (i := "ValueError.__init__") (x := x) (by rfl) (evalArgs_plain (spliced_more (ldC (v := v) hn₃ (by first | rfl | with_unfolding_all rfl | kernel_rfl) (spliced_none ⟨hus, ?_⟩)) rfl))
  refine call_mw F.excBase_ValueError (k₃ _ _ (X₂ _ _ hC)) (k₃ _ _ hx₂) hus (by show 1 ≤ sizeLine; rw [sizeLine_eq]; exact (by decide : 1 ≤ 16777216)) (fun h₄ t1 k₄ hx₄ => ?_)
  have X₄ : K.In h₄ := kept_but (X₂.keeps k₃) hnx k₄
  have hn₄ : h₄.Ns hp.objs.size (fun y => ([(("self" : Str), Value.ref x), (("text" : Str), v)] : List (Str × Value)).reverse.lookup y) := by
    obtain ⟨oL, es, ep, hL, r⟩ := hn₃
    exact ⟨oL, es, ep, k₄ _ _ hxL hL, r⟩
  have I₄ : InstAt h₄ x (excO C t1) C none := ⟨hx₄, rfl, rfl, trivial⟩
  -- self.word = self.__class__.__name__
  show _root_.PySem.wpAt _ _ _ (execs _ _) _ _ _
  refine ks_wpAt_execs_cons (wpAt_of_wpAny (plainObj_wpAny_Assign_Attribute ?_))
  refine L2.attr_of rfl (L2.attr_of rfl (ldC (v := .ref x) hn₄ (by first | rfl | with_unfolding_all rfl | kernel_rfl) ?_))
  refine class_of X₄ I₄ T2.ga T2.gg T2.exC T2.cl T2.mO ?_
  refine name_of X₄ hC rfl T2.nvh T2.rd T2.nm ?_
  refine ldC (v := .ref x) hn₄ (by first | rfl | with_unfolding_all rfl | kernel_rfl) ?_
  refine set_plain X₄ (ox := excO C t1) (od := none) ⟨hx₄, rfl, rfl, trivial⟩ T2.sa ?_
  refine exc_osa X₄ hx₄ hcl (show refsVE (.ref C :: bm) = true from hbm) rfl T2.noN (fun h₅ tk₅ dx k₅ dn dne hx₅ hn₅ => ?_)
  have big : hp.objs.size ≤ dx := by
    have z : hp.objs.size < h₄.objs.size := hn₄.lt
    exact Nat.le_of_lt (Nat.lt_of_lt_of_le z dn)
  exact wpAt_of_wpAny (wpAny_execs_nil (hq h₅ tk₅ dx ⟨fun b o hb q => k₅ b o hb (k₄ b o hb (k₃ b o (k₂ b o (k b o q)))), ⟨t1, hx₅⟩, big, dne, hn₅⟩))
/-- a made error -/
structure Made (h h' : Heap) (e C d : Addr) (nv : Value) : Prop where
  keep : ∀ b o, h.get? b = some o → h'.get? b = some o
  new : h.objs.size ≤ e
  obj : ∃ oe vs, h'.get? e = some oe ∧ oe.cls = .ref C ∧ oe.dict = some d ∧ oe.data = .fields vs ∧ vs[1]? = some .none
  dbig : h.objs.size ≤ d
  dne : d ≠ e
  ns : h'.Ns1 d (fun y => if y = "word" then some nv else none)
theorem one_size (v : Value) : [v].length ≤ sizeLine := by
  rw [sizeLine_eq]
  exact (by decide : 1 ≤ 16777216)
/-- C(text) -/
theorem cle_made (T : InitTxt prog K mg D fI) (T2 : ClsTxt K C D fI nv) {v : Value} (X : K.In s.heap) (G : s.heap.Ns mainGlobals mg) (Bn : ∃ mb, s.heap.Ns builtinsNs mb ∧ ∀ x : Str, x ≠ "__name__" → mb x = bootBuiltins x) (hlim : s.heap.NoLimit) (hroom : A.depth + 1 < recursionLimit)
    (hq : ∀ h' tk e d, Made s.heap h' e C d nv → R (.ok (.ret (.ref e))) { s with heap := h', toks := tk }) :
    codeAny (model prog w) A (.call (.ref C) ⟨[v], []⟩) R s := by
  obtain ⟨nm, q, N, bs, bm, sn, sub, ab, col, dd, k0, k1, k3, k5, hC, hbm⟩ := T2.cls
  obtain ⟨mb, hb1, hb2⟩ := Bn
  obtain ⟨hp, g, dr, tk, os⟩ := s
  have k : ∀ b o, hp.get? b = some o → ((hp.push (kdv_tup [v])).push (excO C hp.objs.size)).get? b = some o := fun b o e => Heap.get?_push_of_some _ (Heap.get?_push_of_some _ e)
  have hget : ((hp.push (kdv_tup [v])).push (excO C hp.objs.size)).get? (hp.objs.size + 1) = some (excO C hp.objs.size) := by heap_get
  have hnx : K.lookup (hp.objs.size + 1) = none := by
    cases e : K.lookup (hp.objs.size + 1) with
    | none => rfl
    | some o =>
      have z : hp.get? (hp.objs.size + 1) = some o := X _ _ e
      exact absurd (Nat.lt_of_succ_lt (Heap.lt_size z)) (Nat.lt_irrefl _)
  refine call_own F.excBase_ValueError (fun X => refsVE_contains X bm hbm) (X _ _ hC) (looks_findIn X T2.iC) (fun self => bind_fn X self T.tC) (one_size v) ?_
  refine cle_init (s := ⟨(hp.push (kdv_tup [v])).push (excO C hp.objs.size), g, dr, tk, os⟩) T T2 (X.keeps k) (G.keeps k) ⟨mb, hb1.keeps k, hb2⟩ (hlim.keeps k) hget hnx ?_ fun h' tk' dx ⟨k', ⟨t1, hx⟩, dn, dne, hns⟩ => ?_
  · show A.depth + 1 < recursionLimit
    exact hroom
  · have old : ∀ b o, hp.get? b = some o → h'.get? b = some o := fun b o e => k' b o (Nat.ne_of_lt (Nat.lt_succ_of_lt (Heap.lt_size e))) (k b o e)
    have z : hp.objs.size + 1 + 1 ≤ dx := by
      first
        | (simpa only [Heap.size_push] using dn)
        | exact dn
        | (have q := dn; rw [Heap.size_push, Heap.size_push] at q; exact q)
    exact ⟨rfl, hq h' tk' (hp.objs.size + 1) dx ⟨old, Nat.le_succ _, ⟨_, _, hx, rfl, rfl, rfl, rfl⟩, Nat.le_trans (Nat.le_trans (Nat.le_succ _) (Nat.le_succ _)) z, dne, hns⟩⟩
end
end CleX
end PySem

set_option maxHeartbeats 2000000
namespace CX4
open PySem PySem.Spec PyProof.Rows L2
/-- the word of an error: its class's name -/
def wd (c : Str) : List (Str × V) := [(("word" : Str), .str c)]
theorem relO_word {c : Str} {v' : Value} (r : RelV (.str c) v') (f : Str) : RelO (List.lookup f (wd c)) (if f = "word" then some v' else none) := by
  by_cases hw : f = "word"
  · subst hw
    rw [if_pos rfl]
    have q : List.lookup ("word" : Str) (wd c) = some (.str c) := by simp [wd, List.lookup]
    rw [q]
    exact r
  · rw [if_neg hw]
    have qw : (f == ("word" : Str)) = false := by simpa using hw
    have q2 : List.lookup f (wd c) = none := by simp [wd, List.lookup, qw]
    rw [q2]
    trivial
section
variable {X : Cx} {C D fI : Addr} {nv : Value} {c : Str}
/-- C(text) -/
def tMk (C : Addr) (c : Str) (ta : TA) : L2.St → Hp → XK → Prop := fun σ H Q => ta σ H fun vs H1 => ∃ v, vs = [v] ∧ ∀ d, H1 d = none → Q (.ref C) (some d) (upd H1 d (.xd (wd c)))
theorem pmk_cle {x : Str} {a : Expr} {ta : TA} {p pos : Pos} {k : Nat} (T : PySem.CleX.InitTxt X.prog X.K X.mg D fI) (T2 : PySem.CleX.ClsTxt X.K C D fI nv) (rw : RelV (.str c) nv) (gC : X.mg x = some (.ref C)) (hr : Room k X.A) (ha : PA X [a] ta) (hg : Gl X x := by rfl)
    (he : starEach (a :: []) X.env = (false, eval a X.env) :: starEach [] X.env := by rfl) (hpl : (backTo pos (starEach [] X.env)).any (·.1) = false := by rfl) (hdb : (x == ("__debug__" : Str)) = false := by decide) :
    PMk X (.Call (.Name x p) [a] [] pos) (tMk C c ta) := by
  intro pins s σ H Q I h
  refine wpAny_Call_Name_kw (ld_glob I hg gC ?_ hdb)
  refine PySem.W.callWith_K (h₀ := X.base) I.ok.mod.kin T2.kC (thn (ha.run pos pins s σ H _ I h) fun us s1 hh => ?_) he hpl
  obtain ⟨vs, H1, I1, r1, v, ev, q1⟩ := hh
  subst ev
  refine ⟨I1.kIn, ?_⟩
  cases r1 with
  | cons rv rn =>
    rename_i v' us'
    cases rn
    show wpAny _ _ (call (.ref C) [v']) _ _ _
    have hlim := I1.nolimit
    have hmod := I1.mod
    obtain ⟨mb, hb1, hb2⟩ := hmod.blt
    have hG := hmod.glob.keeps I1.bk
    have hB := hb1.keeps I1.bk
    obtain ⟨hp, g, dr, tk, os⟩ := s1
    refine wpAny_call (PySem.CleX.cle_made T T2 I1.kIn hG ⟨mb, hB, hb2⟩ hlim (by have := hr.dp; omega) fun h' tk' e d M => ?_)
    show MkP X pins σ Q (.ref e) ⟨h', g, dr, tk', os⟩
    obtain ⟨oe, fv, hoe, hc, hd, hdat, h1⟩ := M.obj
    have hns := M.ns
    obtain ⟨G', g1, g2⟩ := restrict h' fun b => decide (b ≠ e)
    have gk : ∀ b, b ≠ e → G'.get? b = h'.get? b := fun b hb => g1 b (decide_eq_true hb)
    have ge : G'.get? e = none := g2 e (by simp)
    have old : ∀ b o, hp.get? b = some o → G'.get? b = some o := fun b o q => (gk b (Nat.ne_of_lt (Nat.lt_of_lt_of_le (Heap.lt_size q) M.new))).trans (M.keep b o q)
    have ob : ObjOk X.prog X.w (upd H1 d (.xd (wd c))) G' d (.xd (wd c)) :=
      ⟨_, hns.at (fun o q => (gk d M.dne).trans q), fun f => relO_word rw f⟩
    have J : Inv X pins σ (upd H1 d (.xd (wd c))) ⟨G', g, dr, tk', os⟩ := I1.laid (t' := tk') old M.dbig ob
    refine ⟨e, oe, fv, ⟨G', g, dr, tk', os⟩, _, .ref C, some d, rfl, J, fun b o q => ?_, ge, hoe, ⟨hc, hd⟩, hdat, h1, ?_, rfl, I1.bare, raises_own T2.exC T2.tyC, q1 d (I1.hok.fresh M.dbig)⟩
    · by_cases hb : b = e
      · have q' : G'.get? b = some o := q
        rw [hb, ge] at q'; cases q'
      · exact (gk b hb).symm.trans q
    · rw [upd_ne (Ne.symm M.dne)]
      exact I1.hok.fresh M.new
/-- raise C(text) -/
def tRs (C : Addr) (c : Str) (W : WX) (ta : TA) : TS := fun _ σ H => tMk C c ta σ H fun cls d H' => W cls d σ H'
theorem ps_cle {x : Str} {a : Expr} {ta : TA} {W : WX} {p pos pos2 : Pos} {k : Nat} (hc : X.calm = true) (T : PySem.CleX.InitTxt X.prog X.K X.mg D fI) (T2 : PySem.CleX.ClsTxt X.K C D fI nv) (rw : RelV (.str c) nv) (gC : X.mg x = some (.ref C)) (hr : Room k X.A) (tk : Takes X W) (ha : PA X [a] ta) (hg : Gl X x := by rfl)
    (he : starEach (a :: []) X.env = (false, eval a X.env) :: starEach [] X.env := by rfl) (hpl : (backTo pos (starEach [] X.env)).any (·.1) = false := by rfl) (hdb : (x == ("__debug__" : Str)) = false := by decide) :
    PS X (.Raise (some (.Call (.Name x p) [a] [] pos)) none pos2) (tRs C c W ta) := ps_raise hc tk (pmk_cle T T2 rw gC hr ha hg he hpl hdb)
/-- e.word, e the error that the suite holds (at a; its class cls, its dict d) -/
def tWord (K : PySem.W.Frag) (a : Addr) (cls : Value) (d : Option Addr) (te : TE) : TE := fun σ H Q => te σ H fun x H1 => x = .ref a ∧ ∃ (C D fI : Addr) (nv : Value) (c : Str) (dd : Addr), cls = .ref C ∧ PySem.CleX.ClsTxt K C D fI nv ∧ d = some dd ∧ H1 dd = some (.xd (wd c)) ∧ Q (.str c) H1
theorem pe_word {a : Addr} {oe : Obj} {cls : Value} {d : Option Addr} {pn : List (Addr × Obj)} {e : Expr} {te : TE} {pos : Pos} (hz : Zc cls d oe) (hf : ∃ vs, oe.data = .fields vs) (he : PE (X.suite a ((a, oe) :: pn)) e te)
    (hb : attributeBase e "word" X.env (eval e X.env) = eval e X.env := by rfl) :
    PE (X.suite a ((a, oe) :: pn)) (.Attribute e "word" pos) (tWord X.K a cls d te) := by
  refine ⟨fun pins s σ H Q I h => ?_⟩
  refine attr_of hb (thn (he.run pins s σ H _ I h) fun u s1 hh => ?_)
  obtain ⟨x, H1, I1, rx, ex, C, D, fI, nv, c, dd, ec, T2, ed, ea, q⟩ := hh
  subst ex
  obtain rfl : u = Value.ref a := rx
  subst ec
  subst ed
  obtain ⟨ha, _⟩ := I1.pin (a, oe) (List.mem_append_left _ List.mem_cons_self)
  obtain ⟨vs, hd⟩ := hf
  have hx : ObjOk X.prog X.w H1 s1.heap dd (.xd (wd c)) := I1.hok dd _ ea
  obtain ⟨mA, hns, hr⟩ := hx
  obtain ⟨od, ho, hl⟩ := lookIn_ns hns
  have l : List.lookup ("word" : Str) (wd c) = some (.str c) := by simp [wd, List.lookup]
  obtain ⟨u, hu, ru⟩ := RelO.some_of (v := .str c) (o := mA "word") (by rw [← l]; exact hr "word")
  have J : PySem.W.InstAt s1.heap a oe C (some od) := ⟨ha, hz.1, by unfold PySem.W.notCls; rw [hd] <;> rfl, by rw [hz.2]; exact ho⟩
  exact HandSPX.exc_get I1.kIn J T2.ga T2.gg T2.exC (PySem.W.findObj_own T2.hdC T2.noN rfl (by rw [hl, hu])) (handed_of ru) ⟨.str c, H1, I1.tok _, ru, q⟩
end
end CX4

set_option maxHeartbeats 2000000
/-! Several except clauses, each of which gives its error a name. -/
namespace TA
open PySem PySem.Spec PyProof.Rows L2
/-- D behind a suite: the name's slot i is empty -/
def gone (i : Nat) (D : Ends) : Ends := { nx := fun σ H => D.nx (σ.set i none) H, rt := D.rt, bk := fun σ H => D.bk (σ.set i none) H, ct := fun σ H => D.ct (σ.set i none) H }
/-- a clause: its class, its name's slot, its suite's reading -/
abbrev Cl := Value × Nat × (Addr → Value → Option Addr → TS)
def wAll (K : PySem.W.Frag) (n : Nat) (Wout : WX) (D : Ends) : List Cl → WX
  | [] => Wout
  | (c, i, ts) :: r => fun cls d σ H => ∃ b, PySem.W.exmOne K cls c = some b ∧ (b = true → ∀ a, H a = none → σ.length = n → ts a cls d (gone i D) (σ.set i (some (.ref a))) H) ∧ (b = false → wAll K n Wout D r cls d σ H)
inductive Cls (X : Cx) : List ExceptHandler → List Cl → Prop
  | nil : Cls X [] []
  | cons {x n : Str} {i : Nat} {c : Value} {ts : Addr → Value → Option Addr → TS} {b₀ : Stmt} {su : List Stmt} {p1 p2 : Pos} {hds : List ExceptHandler} {l : List Cl} (hc : Names X x c) (hi : X.N[i]? = some n) (hln : X.env.kindOf n = some .local)
      (hsu : ∀ (a : Addr) (oe : Obj) (cls : Value) (d : Option Addr) (pn : List (Addr × Obj)), Zc cls d oe → (∃ vs, oe.data = .fields vs) → PSs (X.suite a ((a, oe) :: pn)) (b₀ :: su) (ts a cls d)) (r : Cls X hds l) :
      Cls X (.ExceptHandler (some (.Name x p1)) (some n) (b₀ :: su) p2 :: hds) ((c, i, ts) :: l)
section
variable {X : Cx} {body : List Stmt} {h₀ : ExceptHandler} {hds : List ExceptHandler} {l : List Cl} {pos : Pos} {tb : WX → TS} {Wout : WX}
theorem ps_try_all (hs : X.stack = X.env :: X.outer) (hf : X.env.frame = some X.env.locals) (hN : X.N.Nodup) (tk : Takes X Wout)
    (hb : ∀ (W : WX) (pn : List (Addr × Obj)) (xe : Value → Shared → Prop), Takes (X.tr pn xe) W → PassesOwn (model X.prog X.w) X.A X.env xe → PSs (X.tr pn xe) body (tb W))
    (hh : Cls X (h₀ :: hds) l) : PS X (.Try body (h₀ :: hds) [] [] pos) (fun D σ H => tb (wAll X.K X.N.length Wout D l) D σ H) := by
  constructor
  intro pins s σ H D I h
  have ok := I.ok
  have frs' : X.A.frames = some (X.env :: X.outer) := hs ▸ ok.frames
  refine wpAny_Try_except (wpAny_mono ((hb (wAll X.K X.N.length Wout D l) (X.pn ++ pins) (fun e s₁ => wpAny (model X.prog X.w) X.A (noteFrame e X.env) (fun _ s₂ => wpAny (model X.prog X.w) X.A (setFlight e none) (fun _ s₃ => wpAny (model X.prog X.w) X.A (handleBy e X.env (h₀ :: hds)) (SP X pins D) X.xe s₃) X.xe s₂) X.xe s₁) ?C PassesOwn.looking).run [] s σ H D (I.toTry _) h) ?N fun _ _ q => q)
  case C =>
    rintro u s' ⟨a, B, sI, pins', σ', H', cls, d, rfl, J', nb, up, sky, na, os, ag, w⟩
    have J : Inv X pins σ' H' sI := J'.ofTry ok
    show wpAny _ X.A (noteFrame (.ref a) X.env) _ _ _
    refine Sky.land Zc.steady frs' hf (hs ▸ sky) fun h3 fl3 up3 => ?_
    have J3 : Inv X pins σ' H' { s' with heap := h3 } := J.landed nb fl3.1 (up.trans up3) os ag
    obtain ⟨o3, v3, e3, z3, d3⟩ := fl3.there
    have nfr : a ∉ frs (X.env :: X.outer) := fun hm => by
      obtain ⟨_, o', e', q⟩ := fl3.2.2.1.mem hm
      exact q _ (Option.some.inj (e'.symm.trans e3) ▸ d3)
    have nL : a ≠ X.env.locals := fun z => nfr (List.mem_filterMap.mpr ⟨X.env, List.mem_cons_self, z ▸ hf⟩)
    have nF : a ∉ X.fs := fun hm => (List.mem_filterMap.mp hm).elim fun e q => nfr (List.mem_filterMap.mpr ⟨e, List.mem_cons_of_mem _ q.1, q.2⟩)
    have S3 := J3.suite e3 d3 na nL nF
    suffices go : ∀ {hk : List ExceptHandler} {lk : List Cl}, Cls X hk lk → wAll X.K X.N.length Wout D lk cls d σ' H' → wpAny (model X.prog X.w) X.A (handleBy (.ref a) X.env hk) (SP X pins D) X.xe { s' with heap := h3 } from go hh w
    intro hk lk C
    induction C with
    | nil =>
      intro w
      obtain ⟨_, _, _, oe, vs, T, oT, _, he, _, hd, h1, _⟩ := id fl3
      refine wpAny_handleBy_nil ?_
      unfold PySem.passOn
      refine wpAny_bind (wpAny_field he hd h1 ?_)
      rw [if_neg (by simp)]
      have fin : wpAny (model X.prog X.w) X.A (setFlight (.ref a) X.env.frame) (fun _ s4 => wpAny (model X.prog X.w) X.A (throw (.ref a) : Sem Flow) (SP X pins D) X.xe s4) X.xe { s' with heap := h3 } :=
        hf ▸ HandSPX.setFlight_upZ fl3 fun h4 hh4 up4 => wpAny_throw (tk _ _ ⟨a, B, sI, pins, σ', H', cls, d, rfl, J, nb, (up.trans up3).trans up4, .inr (.inr (hs ▸ hh4)), na, os, ag, w⟩)
      first | exact wpAny_bind (wpAny_pure (wpAny_bind fin)) | exact wpAny_bind fin
    | @cons x n i c ts b₀ su p1 p2 hds2 l2 hc hi hln hsu r ih =>
      rintro ⟨b, hb1, hyes, hno⟩
      refine wpAny_handleBy_cons (codeAny_handlers_test ?_) (fun q => nomatch q)
      have LM := PySem.W.exm_one (M := model X.prog X.w) J3.kIn (fun A Q E s k q => wpAny_typeOf_ref (k _ _ e3) (z3.1.symm ▸ q)) hb1
      have named : ∀ {Q : Value → Shared → Prop} {E : Value → Shared → Prop}, Q c { s' with heap := h3 } → wpAny (model X.prog X.w) (X.A.mark (some (.ref a))) (eval (.Name x p1) X.env) Q E { s' with heap := h3 } := fun {Q E} q =>
        hc.2.2.elim (fun hm => ld_glob (X := X.suite a ((a, o3) :: (X.pn ++ pins))) S3 hc.1 hm q hc.2.1) fun hm => ld_blt (X := X.suite a ((a, o3) :: (X.pn ++ pins))) S3 hc.1 hm.1 hm.2.1 q hm.2.2 hc.2.1
      refine named (LM.here ?_)
      cases b with
      | true =>
        refine codeAny_handlers_suite_as (HandSPX.lands_againZ fl3 fun h4 fl4 up4 => ?_)
        have J4 : Inv X pins σ' H' { s' with heap := h4 } := J.landed nb fl4.1 ((up.trans up3).trans up4) os ag
        obtain ⟨o4, v4, e4, z4, d4⟩ := fl4.there
        refine store_ok (X := X.suite a ((a, o4) :: (X.pn ++ pins))) (v := .ref a) (J4.suite e4 d4 na nL nF) hN hi (.inl hln) rfl (fun s5 S5 => wpAny_mono ((hsu a o4 cls d (X.pn ++ pins) z4 ⟨_, d4⟩).run [] s5 _ H' _ S5 (hyes rfl a na J.len)) (fun f s6 hsp => ?_) (fun _ _ z => z.elim)) (.inr hln)
        have last : ∀ {σ6 : L2.St} {H6 : Hp} {Q : Shared → Prop}, Inv (X.suite a ((a, o4) :: (X.pn ++ pins))) [] σ6 H6 s6 → (∀ s7, Inv X pins (σ6.set i none) H6 s7 → Q s7) → wpAny (model X.prog X.w) X.A (do bindName X.env n .none; unbindBehindTheSuite X.env n p2) (fun _ s7 => Q s7) X.xe s6 :=
          fun {σ6 H6 Q} S6 hq => gone_ok (S6.unsuite ok) hN hi hln hq
        cases f with
        | ret u => exact hsp.elim fun v6 q => q.elim fun σ6 q => q.elim fun H6 q => last q.1 fun s7 J7 => ⟨_, _, _, J7, q.2.1, q.2.2⟩
        | next => exact hsp.elim fun σ6 q => q.elim fun H6 q => last q.1 fun s7 J7 => ⟨_, _, J7, q.2⟩
        | brk => exact hsp.elim fun σ6 q => q.elim fun H6 q => last q.1 fun s7 J7 => ⟨_, _, J7, q.2⟩
        | cont => exact hsp.elim fun σ6 q => q.elim fun H6 q => last q.1 fun s7 J7 => ⟨_, _, J7, q.2⟩
      | false => exact ih (hno rfl)
  case N =>
    intro f s1 hsp
    cases f with
    | ret u => exact hsp.elim fun v q => q.elim fun σ' q => q.elim fun H' q => ⟨v, σ', H', q.1.ofTry ok, q.2⟩
    | next => exact hsp.elim fun σ' q => q.elim fun H' q => wpAny_execs_nil ⟨σ', H', q.1.ofTry ok, q.2⟩
    | brk => exact hsp.elim fun σ' q => q.elim fun H' q => ⟨σ', H', q.1.ofTry ok, q.2⟩
    | cont => exact hsp.elim fun σ' q => q.elim fun H' q => ⟨σ', H', q.1.ofTry ok, q.2⟩
end
end TA

set_option maxHeartbeats 2000000
/-! The asking that a law tries: told or refused. -/
namespace TD
open PySem PySem.Spec PyProof.Rows L2 LamX TA CX4
/-- what is made of the asking's reading: ("told", v), or ("no", the word of the error's class) -/
def TT2 (K : PySem.W.Frag) (D1 : Addr) : (XK → Hp → VK → Prop) → Hp → VK → Prop := fun tl H Q =>
  tl (fun cls d H' => PySem.W.exmOne K cls (.ref D1) = some true ∧ (∃ (C D fI : Addr) (nv : Value) (c : Str) (dd : Addr), cls = .ref C ∧ PySem.CleX.ClsTxt K C D fI nv ∧ d = some dd ∧ H' dd = some (.xd (wd c)) ∧ ∀ p, H' p = none → Q (.ref p) (upd H' p (.tup [.str "no", .str c]))))
    H (fun v H1 => ([.str "told", v] : List V).length ≤ sizeLine ∧ ∀ p, H1 p = none → Q (.ref p) (upd H1 p (.tup [.str "told", v])))
abbrev suit (j k : Nat) (p1 p2 p3 p4 p5 : Pos) : List Stmt := [.Return (some (.Tuple [.Constant (.str "no") j p1, .Attribute (.Name "e" p2) "word" p3] k p4)) p5]
section
variable {X : Cx} {sg : Scope} {g D1 D2 : Addr} {cdg : Value} {a q x : Str} {j1 k1 j2 k2 j3 k3 : Nat} {p1 p2 p3 p4 p5 p6 p7 p8 p9 q1 q2 q3 q4 q5 r1 r2 r3 r4 r5 r6 : Pos}
/-- ("no", e.word) -/
def tNo (K : PySem.W.Frag) : Addr → Value → Option Addr → TS := fun ad cls d => tRet (tTup (tCons (tC (.str "no")) (tCons (tWord K ad cls d (tVar 1)) tNil)))
theorem pss_no {Y : Cx} (hY : Y.N[1]? = some ("e" : Str)) (hv : Vis Y.env.scope "e") {ad : Addr} {oe : Obj} {cls : Value} {d : Option Addr} {pn : List (Addr × Obj)} (hz : Zc cls d oe) (hf : ∃ vs, oe.data = .fields vs) :
    PSs (Y.suite ad ((ad, oe) :: pn)) (suit j2 k2 q1 q2 q3 q4 q5) (tNo Y.K ad cls d) :=
  pss_one (ps_ret (pe_tup (pa_cons pe_str (pa_cons (pe_word hz hf (pe_var (i := 1) hY hv)) pa_nil))))
theorem told2 (hD1 : sg.names.lookup ("CleaveError" : Str) = some .globalImplicit) (hD2 : sg.names.lookup ("HouseError" : Str) = some .globalImplicit) (he : sg.names.lookup ("e" : Str) = some .local) (ha : a ≠ "e")
    (m1 : X.mg "CleaveError" = some (.ref D1)) (m2 : X.mg "HouseError" = some (.ref D2)) :
    GivesTo X [a, "e"] x sg g cdg [.Try [.Return (some (.Tuple [.Constant (.str "told") j1 p1, .Call (.Name a p2) [] [] p3] k1 p4)) p5]
      [.ExceptHandler (some (.Name "CleaveError" p6)) (some "e") (suit j2 k2 q1 q2 q3 q4 q5) p7, .ExceptHandler (some (.Name "HouseError" p8)) (some "e") (suit j3 k3 r1 r2 r3 r4 r5) p9] [] [] r6] a q (TT2 X.K D1) := by
  intro f c' s H Q tl act hc h
  let Y := (cxOf C8.CX0 X.prog X.w X.K X.mg X.base [a, "e"] x sg g cdg X.A X.stack s H C8.E0).nox
  have hnd : ([a, "e"] : List Str).Nodup := by simp [ha]
  have ve : Vis Y.env.scope ("e" : Str) := .inl he
  refine ⟨_, pss_one (ps_try_all (X := Y) (Wout := fun _ _ _ _ => False)
      (tb := fun W D σ H => ∃ Ech : XK, (∀ cls d σ' H', Ech cls d H' → W cls d σ' H') ∧ σ[0]? = some (some (.ref f)) ∧ H c' = some (CodeO c' q) ∧ tl Ech H fun v H1 => ([.str "told", v] : List V).length ≤ sizeLine ∧ ∀ p, H1 p = none → D.rt (.ref p) (upd H1 p (.tup [.str "told", v])))
      rfl rfl hnd L2.takes0 (fun W pn xe tk _ => ?_) (.cons (i := 1) ⟨hD1, by decide, .inl m1⟩ rfl he (fun ad oe cls d pn hz hf => pss_no rfl ve hz hf) (.cons (i := 1) ⟨hD2, by decide, .inl m2⟩ rfl he (fun ad oe cls d pn hz hf => pss_no rfl ve hz hf) .nil))), ?_⟩
  · refine ⟨fun pins s' σ H' D I h' => ?_⟩
    obtain ⟨Ech, hW, h1, h2, h3⟩ := h'
    have hp := act W pn xe Ech p2 p3 tk hW
    have hq := pss_one (ps_ret (pos := p5) (pe_tup (pos := p4) (x1 := k1) (pa_cons (pe_str (pos := p1) (j := j1) (x := "told")) (pa_cons hp pa_nil))))
    exact hq.run pins s' σ H' D I ⟨h1, h2, h3⟩
  · refine ⟨_, fun cls d σ' H' hE => ?_, rfl, hc, h⟩
    obtain ⟨h1, C, D, fI, nv, c, dd, e1, T2, e2, e3, k⟩ := hE
    exact ⟨true, h1, fun _ ad _ hl => ⟨_, by
      rw [List.getElem?_set_self (by rw [hl]; exact (by decide : 1 < 2))], rfl, C, D, fI, nv, c, dd, e1, T2, e2, e3, (by show 2 ≤ sizeLine; rw [sizeLine_eq]; omega), k⟩, fun z => nomatch z⟩
end
end TD

set_option maxHeartbeats 2000000
/-! A lambda with one parameter that has a default and is never handed in. -/
namespace LD
open PySem PySem.Spec PyProof.Rows L2 LamX
section
variable {X : Cx} {pins : List (Addr × Obj)} {σ : L2.St} {H : Hp} {s : Shared}
/-- the end of a lambda's making, whatever its defaults -/
theorem lam_tail {T : List (Addr × Str)} {c P : Addr} {params : Arguments} {body : Expr} {scope : Scope} {pos : Pos} {dV : Value} {E : Value → Shared → Prop} {Q : Value → Shared → Prop} (I : Inv X pins σ H s) (TB : TabB X.base X.mg c P) (hcode : X.env.code = .ref c)
    (hm : (P, X.env.qual ++ "<lambda>") ∈ T) (hu : ∀ p ∈ T, p.1 = P → p.2 = X.env.qual ++ "<lambda>") (hT : Tabs T H) (hfree : ∀ y ∈ scope.names, y.2 = .free → ∃ c, X.env.cells.lookup y.1 = some c)
    (h : ∀ (f c' : Addr) (doc pm ctv : Value) (H1 : Hp) (s' : Shared), Inv X pins σ H1 s' → ExtN H H1 → Tabs T H1 →
      s'.heap.get? f = some (PySem.W.kdv_obj "<lambda>" (X.env.qual ++ "<lambda>") params (.expr body) scope (cloFrom X.env.cells scope.names []) dV doc pm c' ctv) → H1 f = none → f ∉ frs X.stack → H1 c' = some (CodeO c' (X.env.qual ++ "<lambda>")) →
      (∀ b o, H b = none → s.heap.get? b = some o → s'.heap.get? b = some o ∧ H1 b = none) → Q (.ref f) s') :
    wpAny (model X.prog X.w) X.A (makeTail "<lambda>" (X.env.qual ++ "<lambda>") params (.expr body) scope X.env dV .none none pos pos.line) Q E s := by
  obtain ⟨ps, hP, ht, ha⟩ := hT _ hm
  dsimp only at hP ha
  have bP : s.heap.BuiltinsAt X.mg P := TB.bm.keeps I.bk
  have hP' : s.heap.get? P = some { cls := .none, data := .fields ps } := I.hok P _ hP
  have nofr : ∀ f, s.heap.objs.size ≤ f → f ∉ frs X.stack := fun f hf z => (List.mem_cons.mp (I.stkSub _ z)).elim (fun e => by
    have h1 := I.lt
    exact Nat.lt_irrefl _ (Nat.lt_of_lt_of_le h1 (e ▸ hf))) (I.nofs hf)
  cases hc : codeAmong pos ps.toList with
  | none =>
    refine PySem.W.kdv_makeTail (mg := X.mg) (c := c) (P := P) (ps := ps) (closure_ok hfree) I.ok.glob (I.mod.glob.keeps I.bk) hcode (TB.code.keeps I.bk) hP' ht hc TB.gP bP (fun c' ctv doc h' tk hx hge hlt hrec htb => ?_)
    obtain ⟨c2, oc, vs, t, e2, hoc, hd, hv⟩ := hrec
    cases e2
    have hsz : s.heap.objs.size ≤ h'.objs.size := Nat.le_trans hge (Nat.le_of_lt hlt)
    have nC : H c' = none := I.hok.fresh hge
    let fo : Obj := PySem.W.kdv_obj "<lambda>" (X.env.qual ++ "<lambda>") params (.expr body) scope (cloFrom X.env.cells scope.names []) dV doc ((X.mg "__name__").getD .none) c' ctv
    have I1 := inv_table (t' := tk) (more := #[rawInt pos.line, rawInt pos.col, .ref c']) (h' := h'.push fo) I hP (fun b o hb e => Heap.get?_push_of_some _ (hx b o hb e)) (Heap.get?_push_of_some _ htb) hge ⟨oc, vs, t, Heap.get?_push_of_some _ hoc, hd, hv⟩
    have hE : ExtN H (upd (upd H P (.tbl (ps ++ #[rawInt pos.line, rawInt pos.col, .ref c']))) c' (CodeO c' (X.env.qual ++ "<lambda>"))) := fun b o e n => by
      rw [upd_ne (ne_of_none e nC), upd_ne (fun z : b = P => n ps (Option.some.inj (e.symm.trans (by rw [z]; exact hP))))]
      exact e
    have eL : (ps ++ #[rawInt pos.line, rawInt pos.col, .ref c']).toList = ps.toList ++ [rawInt pos.line, rawInt pos.col, .ref c'] := by simp
    refine h h'.objs.size c' doc ((X.mg "__name__").getD .none) ctv _ _ I1 hE (fun p hp => ?_) (Heap.get?_push_size _ rfl) ?_ (nofr _ hsz) upd_same (fun b o hb e => ?_)
    · by_cases hb : p.1 = P
      · rw [hu p hp hb, hb]
        refine ⟨_, by rw [upd_ne (ne_of_none hP nC), upd_same], by rw [eL]; exact PySem.TriplesOk_snoc _ _ _ _ ht, fun p' cv hcv => ?_⟩
        exact (among_app _ ht (eL ▸ hcv)).elim (fun z => (ha p' cv z).elim fun c0 q => ⟨c0, q.1, hE _ _ q.2 codeO_ne⟩) fun z => ⟨c', z, upd_same⟩
      · obtain ⟨ps', a1, a2, a3⟩ := hT p hp
        exact ⟨ps', by rw [upd_ne (ne_of_none a1 nC), upd_ne hb]; exact a1, a2, fun p' cv hcv => (a3 p' cv hcv).elim fun c0 q => ⟨c0, q.1, hE _ _ q.2 codeO_ne⟩⟩
    · have n1 : h'.objs.size ≠ c' := Nat.ne_of_gt hlt
      have n2 : h'.objs.size ≠ P := Nat.ne_of_gt (Nat.lt_of_lt_of_le (Heap.lt_size hP') hsz)
      rw [upd_ne n1, upd_ne n2]
      exact I.hok.fresh hsz
    · have n1 : b ≠ P := fun z => by rw [z, hP] at hb; cases hb
      have n2 : b ≠ c' := Nat.ne_of_lt (Nat.lt_of_lt_of_le (Heap.lt_size e) hge)
      exact ⟨Heap.get?_push_of_some _ (hx b o n1 e), by rw [upd_ne n2, upd_ne n1]; exact hb⟩
  | some cv =>
    obtain ⟨c', e, hco⟩ := ha pos cv hc
    subst e
    refine PySem.W.kdv_makeTailHit (mg := X.mg) (c := c) (P := P) (ps := ps) (closure_ok hfree) I.ok.glob (I.mod.glob.keeps I.bk) hcode (TB.code.keeps I.bk) hP' ht hc bP (fun ctv doc h' tk hx hsz => ?_)
    have up : ∀ b o, s.heap.get? b = some o → (h'.push (PySem.W.kdv_obj "<lambda>" (X.env.qual ++ "<lambda>") params (.expr body) scope (cloFrom X.env.cells scope.names []) dV doc ((X.mg "__name__").getD .none) c' ctv)).get? b = some o := fun b o e => Heap.get?_push_of_some _ (hx b o e)
    exact h h'.objs.size c' doc ((X.mg "__name__").getD .none) ctv H _ (I.kept (t' := tk) up) (ExtN.refl H) hT (Heap.get?_push_size _ rfl) (I.hok.fresh hsz) (nofr _ hsz) hco fun b o hb e => ⟨up b o e, hb⟩
/-- lambda pn=n: body, made -/
theorem lam_makeD {T : List (Addr × Str)} {c P : Addr} {params : Arguments} {body : Expr} {scope : Scope} {pos : Pos} {n : Int} {j : Nat} {pd : Pos} {E : Value → Shared → Prop} {Q : Value → Shared → Prop} (I : Inv X pins σ H s) (TB : TabB X.base X.mg c P) (hcode : X.env.code = .ref c)
    (hm : (P, X.env.qual ++ "<lambda>") ∈ T) (hu : ∀ p ∈ T, p.1 = P → p.2 = X.env.qual ++ "<lambda>") (hT : Tabs T H) (hd : params.defaults = [.Constant (.int n) j pd]) (hk0 : params.kw_defaults = []) (hfree : ∀ y ∈ scope.names, y.2 = .free → ∃ c, X.env.cells.lookup y.1 = some c)
    (h : ∀ (f c' dt : Addr) (v doc pm ctv : Value) (H1 : Hp) (s' : Shared), Inv X pins σ H1 s' → ExtN H H1 → Tabs T H1 →
      s'.heap.get? f = some (PySem.W.kdv_obj "<lambda>" (X.env.qual ++ "<lambda>") params (.expr body) scope (cloFrom X.env.cells scope.names []) (.ref dt) doc pm c' ctv) → H1 f = none → f ∉ frs X.stack → H1 c' = some (CodeO c' (X.env.qual ++ "<lambda>")) →
      s'.heap.get? dt = some (PySem.W.kdv_tup [v]) → H1 dt = none → dt ∉ frs X.stack → Q (.ref f) s') :
    wpAny (model X.prog X.w) X.A (eval (.Lambda params body scope pos) X.env) Q E s := by
  refine PySem.W.kdv_lam (by rw [hd]; rfl) hk0 ?_
  rw [hd]
  refine PySem.W.kdv_all1 (thn ((pe_int (X := X) (pos := pd) (j := j)).run pins s σ H (fun x H1 => x = .int n ∧ H1 = H) I ⟨rfl, rfl⟩) fun v s1 hh => ?_)
  obtain ⟨x, H1, I1, rv, ex, eH⟩ := hh
  subst ex eH
  refine PySem.W.kdv_all0 ?_
  rw [makeFunction_eq]
  simp only [List.zip_nil_right, List.filterMap_nil, List.isEmpty_nil, if_true, pure_bind, List.isEmpty_cons, Bool.false_eq_true, if_false]
  refine wpAny_bind (wpAny_newTextTuple ?_)
  have up : ∀ b o, s1.heap.get? b = some o → (s1.heap.push (PySem.W.kdv_tup [v])).get? b = some o := fun b o e => Heap.get?_push_of_some _ e
  have nt : H1 s1.heap.objs.size = none := I1.hok.fresh (Nat.le_refl _)
  have nf : s1.heap.objs.size ∉ frs X.stack := fun z => (List.mem_cons.mp (I1.stkSub _ z)).elim (fun e => by
    have h1 := I1.lt
    exact Nat.lt_irrefl _ (e ▸ h1)) (I1.nofs (Nat.le_refl _))
  have I2 : Inv X pins σ H1 { s1 with heap := s1.heap.push (PySem.W.kdv_tup [v]) } := I1.kept (t' := s1.toks) up
  refine lam_tail I2 TB hcode hm hu hT hfree (fun f c' doc pm ctv H2 s' I3 eN T2 hf hfn hfr hco k => ?_)
  obtain ⟨k1, k2⟩ := k _ _ nt (Heap.get?_push_size _ rfl)
  exact h f c' _ v doc pm ctv H2 s' I3 eN T2 hf hfn hfr hco k1 k2 nf
end
end LD

set_option maxHeartbeats 2000000
namespace LD
open PySem PySem.Spec PyProof.Rows L2 LamX
/-- the lambda's names: its parameter pn, captured ones, globals -/
structure LamD (sc scope : Scope) (pn : Str) : Prop where
  kind : scope.kind = .function
  co : scope.isCoroutine = false
  gen : scope.isGenerator = false
  own : ∀ y ∈ scope.names, y.2 ≠ .cell ∧ (y.2 = .local → y.1 = pn) ∧ y.1 ≠ ""
  par : scope.names.lookup pn = some .local
  free : ∀ y ∈ scope.names, y.2 = .free → y.1 ≠ pn ∧ (sc.names.lookup y.1 = some .cell ∨ sc.names.lookup y.1 = some .free)
def lamDB (sc scope : Scope) (pn : Str) : Bool :=
  decide (scope.kind = .function) && !scope.isCoroutine && !scope.isGenerator && (scope.names.all fun y => !decide (y.2 = .cell) && (!decide (y.2 = .local) || decide (y.1 = pn)) && !decide (y.1 = "")) && decide (scope.names.lookup pn = some .local) &&
    (scope.names.all fun y => !decide (y.2 = .free) || (!decide (y.1 = pn) && (decide (sc.names.lookup y.1 = some .cell) || decide (sc.names.lookup y.1 = some .free))))
theorem lamD_by {sc scope : Scope} {pn : Str} (h : lamDB sc scope pn = true) : LamD sc scope pn := by
  unfold lamDB at h
  simp only [Bool.and_eq_true, Bool.or_eq_true, Bool.not_eq_true', decide_eq_true_eq, decide_eq_false_iff_not, List.all_eq_true] at h
  obtain ⟨⟨⟨⟨⟨h1, h2⟩, h3⟩, h4⟩, h5⟩, h6⟩ := h
  refine ⟨h1, h2, h3, fun y hy => ?_, h5, fun y hy e => ?_⟩
  · obtain ⟨⟨a, b⟩, c⟩ := h4 y hy
    exact ⟨a, fun e => b.elim (fun z => absurd e z) id, c⟩
  · exact (h6 y hy).elim (fun z => absurd e z) id
theorem LamD.has {X : Cx} {scope : Scope} {pn : Str} (L : LamD X.env.scope scope pn) (ok : X.Ok) : ∀ y ∈ scope.names, y.2 = .free → ∃ c, X.env.cells.lookup y.1 = some c := fun y hy e =>
  (L.free y hy e).2.elim (fun k => ok.has _ (.inl k)) fun k => ok.has _ (.inr k)
/-- the maker's slot of the parameter's name is not the lambda's -/
def hid (pn y : Str) : Str := if y = pn then "" else y
def lamCxD (X : Cx) (A : Around) (outer : List Env) (s : Shared) (H : Hp) (E : XK) (scope : Scope) (f c' : Addr) (pn : Str) : Cx := { lamCx X A outer s H E scope f c' with N := X.N.map (hid pn) }
section
variable {X : Cx} {pins : List (Addr × Obj)} {σ : L2.St} {H HZ : Hp} {s s1 : Shared}
theorem lam_startD {A : Around} {outer : List Env} {E : XK} {scope : Scope} {f c' : Addr} {pn : Str} {v : Value} {h₁ : Heap} {tk : Nat} (I : Inv X pins σ H s) (L : LamD X.env.scope scope pn) (e0 : Env0 X.prog X.w X.K X.mg X.base A outer s1 HZ) (hd : A.handled = none)
    (un : Un (frs X.stack) [] H HZ s.heap s1.heap) (hns : h₁.Ns s1.heap.objs.size fun y => ([(pn, v)] : List (Str × Value)).reverse.lookup y) (kp : ∀ b o, s1.heap.get? b = some o → h₁.get? b = some o) :
    Inv (lamCxD X A outer s1 HZ E scope f c' pn) [] σ HZ { s1 with heap := h₁, toks := tk } := by
  have hfree := L.has I.ok
  have cm : ∀ {y c}, (cloFrom X.env.cells scope.names []).lookup y = some c → X.env.cells.lookup y = some c := fun {y c} e => by
    rcases cloFrom_mem (PySem.mem_of_lookup e) with hm | ⟨h1, h2⟩
    · cases hm
    · obtain ⟨c1, hc⟩ := hfree _ h1 rfl
      have hc : X.env.cells.lookup y = some c1 := hc
      have e2 : c = c1 := by
        rw [h2, hc] <;> rfl
      exact e2 ▸ hc
  have look : ∀ {y}, scope.names.lookup y = some .free → ∃ c, (cloFrom X.env.cells scope.names []).lookup y = some c := fun {y} hl =>
    mem_lookup (cloFrom_has (cells := X.env.cells) (acc := []) (show (y, NameKind.free) ∈ scope.names from PySem.mem_of_lookup hl))
  have cellK : ∀ {c : Addr} {v : Option Value}, H c = none → s.heap.IsCell c v → h₁.IsCell c v := fun {c v} n ⟨o, ho, hd⟩ =>
    (un.any ho n (by simp)).elim fun sl q => ⟨_, kp _ _ q, hd⟩
  have noA : ∀ b : Addr, b ∉ (lamCxD X A outer s1 HZ E scope f c' pn).ex := fun b z => absurd (show b ∈ ([] : List Addr) from z) (by simp)
  refine ⟨⟨e0.mod, L.kind, rfl, rfl, Nat.le_refl _, fun y z c e1 e2 => I.ok.inj y z c (cm e1) (cm e2), fun y hy => ?_, fun y c z _ => ?_, fun _ => hd, Around.frames_deeper e0.frames, .inr ⟨rfl, rfl⟩, fun b z => absurd z (noA b), e0.bs, e0.bsz, fun b _ _ => noA b,
      fun b z => absurd z (noA b), e0.funs, e0.frf⟩,
    rfl, e0.bare, Un.kept kp, ⟨_, hns, fun i y v e1 e2 e3 => ?_⟩, fun y c e => ?_, e0.hok.fresh (Nat.le_refl _), fun y c e => ?_, fun q hq => absurd (show q ∈ ([] : List (Addr × Obj)) ++ [] from hq) (by simp), e0.hok.kept kp, ?_⟩
  · have hy : scope.names.lookup y = some .cell ∨ scope.names.lookup y = some .free := hy
    exact hy.elim (fun hy => absurd rfl (L.own _ (PySem.mem_of_lookup hy)).1) look
  · have z : false = true := z
    cases z
  · have e3 : Vis scope y := e3
    have e1 : (X.N.map (hid pn))[i]? = some y := e1
    have nz : y ≠ "" := fun z => e3.elim (fun k => (L.own _ (PySem.mem_of_lookup k)).2.2 z) fun k => k.elim (fun k => (L.own _ (PySem.mem_of_lookup k)).2.2 z) fun k => (L.own _ (PySem.mem_of_lookup k)).2.2 z
    rw [List.getElem?_map] at e1
    cases q : X.N[i]? with
    | none => rw [q] at e1; cases e1
    | some y0 =>
      rw [q] at e1
      have e1 : hid pn y0 = y := Option.some.inj e1
      have np : y0 ≠ pn := fun z => nz (by rw [← e1]; exact if_pos z)
      obtain rfl : y0 = y := (if_neg np).symm.trans e1
      rcases e3 with k | k | k
      · exact absurd ((L.own _ (PySem.mem_of_lookup k)).2.1 rfl) np
      · exact absurd rfl (L.own _ (PySem.mem_of_lookup k)).1
      · obtain ⟨m, hn, hl⟩ := I.loc
        have kf := (L.free _ (PySem.mem_of_lookup k) rfl).2
        obtain ⟨w', r, q'⟩ := hl i y0 v q e2 (kf.elim (fun k => .inr (.inl k)) (fun k => .inr (.inr k)))
        obtain ⟨c2, h2⟩ := look k
        refine ⟨w', r, .inr ⟨.inr k, c2, h2, ?_⟩⟩
        have c1 := cm h2
        rcases q' with ⟨k', _⟩ | ⟨_, c3, e', z⟩
        · have k' : X.env.scope.names.lookup y0 = some .local := k'
          rcases kf with k2 | k2 <;> rw [show X.env.scope.names.lookup y0 = _ from k2] at k' <;> cases k'
        · rw [c1] at e'
          cases e'
          exact cellK (I.freeC y0 _ c1) z
  · obtain ⟨w', z⟩ := I.cell y c (cm e)
    exact ⟨w', cellK (I.freeC y c (cm e)) z⟩
  · obtain ⟨v, o, ho, hd⟩ := I.cell y c (cm e)
    exact un.free c o ho (I.freeC y c (cm e)) (by simp)
  · show σ.length = (X.N.map (hid pn)).length
    rw [List.length_map]
    exact I.len
end
end LD

set_option maxHeartbeats 2000000
namespace LD
open PySem PySem.Spec PyProof.Rows L2 LamX
section
variable {X : Cx} {pins : List (Addr × Obj)} {σ : L2.St} {H HZ : Hp} {s s1 : Shared}
/-- x(), in the def that got the lambda -/
theorem pe_actD {CXg : CXT} {Eg : XK} {Ng : List Str} {qg : Str} {sg : Scope} {g f c' dt : Addr} {cdg doc pm ctv v0 : Value} {params : Arguments} {body : Expr} {scope : Scope} {pn : Str} {k i : Nat} {a : Str} {pn' : List (Addr × Obj)} {xe : Value → Shared → Prop} {W : WX} {E : XK} {tb : TE} {p1 p2 : Pos}
    (I : Inv X pins σ H s) (L : LamD X.env.scope scope pn) (hf : s.heap.get? f = some (PySem.W.kdv_obj "<lambda>" (X.env.qual ++ "<lambda>") params (.expr body) scope (cloFrom X.env.cells scope.names []) (.ref dt) doc pm c' ctv)) (hfn : H f = none) (hfr : f ∉ frs X.stack)
    (ht : s.heap.get? dt = some (PySem.W.kdv_tup [v0])) (htn : H dt = none) (htr : dt ∉ frs X.stack)
    (hbind : ∃ kk : Option (Array Value) → Sem (List (Str × Value)), bindArgs (PySem.W.kdv_fn "<lambda>" (X.env.qual ++ "<lambda>") params (.expr body) scope (cloFrom X.env.cells scope.names []) (.ref dt) doc pm (.ref c') ctv) ⟨[], []⟩ = seqItems? (.ref dt) >>= kk ∧ kk (some [v0].toArray) = pure [(pn, v0)])
    (tk : Takes ((cxOf CXg X.prog X.w X.K X.mg X.base Ng qg sg g cdg X.A X.stack s H Eg).tr pn' xe) W) (hW : ∀ cls d σ' H', E cls d H' → W cls d σ' H') (hr : Room (k + 1) (X.A.deeper (envOfC qg sg s.heap.objs.size g cdg)))
    (hbody : ∀ (A : Around) (outer : List Env) (s : Shared) (H : Hp), Room k (A.deeper (lamEnv X scope s.heap.objs.size f c')) → PE (lamCxD X A outer s H E scope f c' pn) body tb)
    (hN : Ng[i]? = some a) (hv : Vis sg a) (hd : (a == ("__debug__" : Str)) = false := by decide) (hcd : (a == ("__classdict__" : Str)) = false := by decide) :
    PE ((cxOf CXg X.prog X.w X.K X.mg X.base Ng qg sg g cdg X.A X.stack s H Eg).tr pn' xe) (.Call (.Name a p1) [] [] p2)
      (fun σZ HZ Q => σZ[i]? = some (some (.ref f)) ∧ HZ c' = some (CodeO c' (X.env.qual ++ "<lambda>")) ∧ tb σ HZ Q) := by
  refine ⟨fun pinsZ sZ σZ HZ Q IZ h => ?_⟩
  obtain ⟨hs, hc, hq⟩ := h
  refine wpAny_Call_Name_kw (thn ((pe_var (pos := p1) (i := i) hN hv hd hcd).run pinsZ sZ σZ HZ (fun v H1 => v = .ref f ∧ H1 = HZ) IZ ⟨.ref f, hs, rfl, rfl⟩) fun u s1 ⟨v, H1, I1, r1, ev, eH⟩ => ?_)
  subst ev
  rw [eH] at I1
  obtain rfl : u = Value.ref f := r1
  have of1 := I1.base.keep f _ hf hfn hfr (fun z => nomatch (show f ∈ ([] : List Addr) from z))
  have ot1 := I1.base.keep dt _ ht htn htr (fun z => nomatch (show dt ∈ ([] : List Addr) from z))
  refine PySem.W.callWith_F0 ⟨_, _, _, _, of1⟩ ?_
  have un : Un (frs X.stack) [] H HZ s.heap s1.heap := I1.base
  obtain ⟨⟨oc, vs, t, hoc, hdc, hvc⟩, _, _⟩ := I1.hok c' _ hc
  obtain ⟨kk, hb1, hb2⟩ := hbind
  have rc : codeAny (model X.prog X.w) (X.A.deeper (envOfC qg sg s.heap.objs.size g cdg)) (.call (.ref f) ⟨[], []⟩) (CR (L2.CX X.prog X.w) (envOfC qg sg s.heap.objs.size g cdg :: X.stack) X.prog X.w HZ s1 Q E) s1 := by
    refine PySem.W.kla_callFunE hr.depth of1 rfl L.co L.gen rfl ⟨c', oc, vs, t, rfl, hoc, hdc, hvc⟩ ?_
    refine (BindsTo.of_defaults (s := s1) (binds := [(pn, v0)]) rfl ot1 rfl hb1 hb2) _ _ _ _ ?_
    refine wpAny_newFunctionEnv (fun y hy => (L.own y hy).1) (fun y hy => by rw [List.mem_singleton.mp hy]; exact L.par) (fun h₁ hns hsb => ⟨I1.nolimit.fresh _ hsb, ?_⟩) L.kind
    show codeAny _ _ (.expr body (lamEnv X scope s1.heap.objs.size f c')) _ _
    have kp : ∀ b o, s1.heap.get? b = some o → h₁.get? b = some o := fun b o e => hsb.extBut b o (Nat.ne_of_lt (Heap.lt_size e)) (Heap.get?_push_of_some _ e)
    have J := lam_startD (E := E) (f := f) (c' := c') (tk := s1.toks + ([(pn, v0)] : List (Str × Value)).length) I L I1.env0 hr.hd un hns kp
    refine PySem.W.kla_codeExpr (wpAny_mono ((hbody _ _ s1 HZ (hr.deeper _)).run [] _ _ HZ Q J hq) (fun v s' hh => ?_) fun e s' hh => hh)
    obtain ⟨w', H', J', rv, z⟩ := hh
    exact ⟨w', H', J'.os, J'.bare, J'.base, J'.hok, rv, z⟩
  have hx : Passes (L2.CX X.prog X.w) ((cxOf CXg X.prog X.w X.K X.mg X.base Ng qg sg g cdg X.A X.stack s H Eg).tr pn' xe) E := passes_call tk hW
  refine wpAny_call (codeAny_mono rc fun r s' hh => ?_)
  cases r with
  | error e => exact hx pinsZ σZ HZ s1 e s' I1 hh
  | ok fl =>
    cases fl with
    | ret u => exact I1.after hh
    | next => exact False.elim hh
    | brk => exact False.elim hh
    | cont => exact False.elim hh
/-- x(lambda pn=n: body) -/
theorem pe_lamcallD {T : List (Addr × Str)} {TT : (XK → Hp → VK → Prop) → Hp → VK → Prop} {x a : Str} {g c P : Addr} {k : Nat} {pg : Arguments} {bg : List Stmt} {sg : Scope} {dV kV doc pm cdv ct oc : Value} {an od : Option Addr} {osl : Array (Option Value)} {Ng : List Str}
    {params : Arguments} {body : Expr} {scope : Scope} {pn : Str} {n : Int} {j : Nat} {pd : Pos} {t : XK → TE} {p lpos pos : Pos} (hg : Gl X x) (hm : X.mg x = some (.ref g)) (hk : PySem.W.keepIn X.K (.ref g) = true)
    (lk : X.K.lookup g = some ⟨oc, od, .func (PySem.W.fnOf x x pg bg sg dV kV doc pm an cdv ct), osl⟩) (hcg : PySem.W.codeIn X.K cdv x = true) (hb : L2.Binds X.K (PySem.W.fnOf x x pg bg sg dV kV doc pm an cdv ct) [a] []) (Sg : FnScope Ng [a] sg) (hNg : Ng[0]? = some a) (hva : Vis sg a)
    (hG : GivesTo X Ng x sg g cdv bg a (X.env.qual ++ "<lambda>") TT)
    (TB : TabB X.base X.mg c P) (hcode : X.env.code = .ref c) (hmT : (P, X.env.qual ++ "<lambda>") ∈ T) (hu : ∀ p ∈ T, p.1 = P → p.2 = X.env.qual ++ "<lambda>") (hr : Room (k + 2) X.A) (L : LamD X.env.scope scope pn) (hd0 : params.defaults = [.Constant (.int n) j pd]) (hk0 : params.kw_defaults = [])
    (hbind : ∀ (q : Str) (cl : List (Str × Addr)) (dt : Addr) (doc pm cv ctv : Value), ∃ kk : Option (Array Value) → Sem (List (Str × Value)), bindArgs (PySem.W.kdv_fn "<lambda>" q params (.expr body) scope cl (.ref dt) doc pm cv ctv) ⟨[], []⟩ = seqItems? (.ref dt) >>= kk ∧ ∀ v0, kk (some [v0].toArray) = pure [(pn, v0)])
    (hbody : ∀ (A : Around) (outer : List Env) (s : Shared) (H : Hp) (E : XK) (f c' : Addr), Room k (A.deeper (lamEnv X scope s.heap.objs.size f c')) → PE (lamCxD X A outer s H E scope f c' pn) body (t E))
    (hdb : (x == ("__debug__" : Str)) = false := by decide) (hd : (a == ("__debug__" : Str)) = false := by decide) (hcd : (a == ("__classdict__" : Str)) = false := by decide) :
    PE X (.Call (.Name x p) [.Lambda params body scope lpos] [] pos) (tLam T TT t) := by
  refine ⟨fun pins s σ H Q I h => ?_⟩
  obtain ⟨hT, h⟩ := h
  refine wpAny_Call_Name_kw (ld_glob I hg hm (PySem.W.callWith_K (h₀ := X.base) I.ok.mod.kin hk ?_ (by rfl) (by rfl)) hdb)
  show wpAny _ _ (spliced ((false, eval (.Lambda params body scope lpos) X.env) :: backTo pos (starEach [] X.env))) _ _ s
  refine Calls.spliced_cons (lam_makeD I TB hcode hmT hu hT hd0 hk0 (L.has I.ok) fun f c' dt v0 doc pm' ctv H1 s' I1 eN T1 hf hfn hfr hco ht htn htr => Calls.spliced_nil ⟨I1.kIn, ?_⟩)
  have rc : codeAny (model X.prog X.w) X.A (.call (.ref g) ⟨[.ref f], []⟩) (CR C8.CX0 X.stack X.prog X.w H1 s' Q C8.E0) s' := by
    refine run_ofS (N := Ng) (ps := [a]) (us := [.ref f]) (vs := [.ref f]) lk hcg Sg hr I1.env0 (hb s' [.ref f] I1.kIn rfl) (.cons rfl .nil) rfl fun hr' => ?_
    obtain ⟨t', ht', hq'⟩ := hG f c' s' H1 Q (fun E H' Q' => t E σ H' Q') (fun W pn' xe E p1 p2 tk hW => pe_actD (i := 0) I1 L hf hfn hfr ht htn htr ((hbind _ _ _ _ _ _ _).elim fun kk q => ⟨kk, q.1, q.2 v0⟩) tk hW hr' (fun A outer s H hr2 => hbody A outer s H E f c' hr2) hNg hva hd hcd) hco (h H1 eN T1)
    exact ⟨t', ht'.nox, hq'⟩
  refine wpAny_call (codeAny_mono rc fun r s2 hq => ?_)
  cases r with
  | error e => exact (show False from hq).elim
  | ok fl =>
    cases fl with
    | ret u => exact I1.after hq
    | next => exact False.elim hq
    | brk => exact False.elim hq
    | cont => exact False.elim hq
end
end LD

set_option maxHeartbeats 2000000
/-! The program's lots and what it leans on. -/
namespace K2
open PySem PySem.Spec PyProof.Rows L2 CX4
abbrev sLots : Stmt := topS 8
abbrev sChk : Stmt := topS 10
theorem scLots : FnScope ["many", "size"] ["many", "size"] (defScope sLots) := ⟨rfl, rfl, rfl, by decide +kernel, rfl, by decide +kernel, by decide +kernel⟩
theorem scChk : FnScope ["many"] ["many"] (defScope sChk) := ⟨rfl, rfl, rfl, by decide +kernel, rfl, by decide +kernel, by decide +kernel⟩
theorem log_ok {i : Int} (h : i.natAbs < 10 ^ 30) : i.natAbs.log2 < 1920 := by
  by_cases z : i.natAbs = 0
  · rw [z]; decide
  · exact Nat.lt_trans ((Nat.log2_lt z).mpr (Nat.lt_of_lt_of_le h (by decide : 10 ^ 30 ≤ 2 ^ 100))) (by decide)
theorem len_ok {i : Int} (h : i.natAbs < 10 ^ 30) : (Str.ofString (toString i)).length ≤ 31 := by
  rw [PySem.ofString_length]
  exact int_text_length_le10 (by decide) h
theorem lit_ok {x : String} (h : x.length ≤ 100 := by decide) : (Str.ofString x).length ≤ 100 := by
  rw [PySem.ofString_length]
  exact h
theorem j2 {a b : Str} {n m : Nat} (ha : a.length ≤ n) (hb : b.length ≤ m) : (a ++ b).length ≤ n + m := by
  rw [Str.length_append]
  omega
theorem fits {a : Str} {n : Nat} (h : a.length ≤ n) (hn : n ≤ 16777216 := by decide) : a.length ≤ sizeLine := by
  rw [sizeLine_eq]
  omega
theorem e0 : Str.empty.length ≤ 0 := by decide
theorem if_t {c : Bool} {A B : Prop} (hc : c = true) (h : A) : if c = true then A else B := (if_pos hc).mpr h
theorem if_f {c : Bool} {A B : Prop} (hc : c = false) (h : B) : if c = true then A else B := (if_neg (by rw [hc]; decide)).mpr h
/-- the program's errors and its bound, as the top has written them -/
structure TxP (P : Program) (K : PySem.W.Frag) (mg : Str → Option Value) (C D fI : Addr) : Prop where
  iT : PySem.CleX.InitTxt P K mg D fI
  cT : ∃ nv, PySem.CleX.ClsTxt K C D fI nv ∧ RelV (.str "BadCount") nv
  gC : mg "BadCount" = some (.ref C)
  gM : ∃ u, mg "MOST" = some u ∧ RelV (.int 7) u
section
variable {P : Program} {w : World} {K : PySem.W.Frag} {mg : Str → Option Value} {base : Heap} {C D fI : Addr}
/-- what is said of a refusal by the class at C of the name c -/
def Refuses (C : Addr) (c : Str) (H : Hp) (E : XK) : Prop := ∀ d : Addr, H d = none → E (.ref C) (some d) (upd H d (.xd (wd c)))
def spChk (C : Addr) : Sp := fun vs H Q E => ∃ n : Int, vs = [.int n] ∧ n.natAbs < 10 ^ 30 ∧ (¬ (0 ≤ n ∧ n ≤ 7) → Refuses C "BadCount" H E) ∧ (0 ≤ n → n ≤ 7 → Q .non H)
theorem ok_chk {f : Addr} {fd : FuncData} (F : Fun K "_check_many" "_check_many" sChk f fd) (T : TxP P K mg C D fI) : FnOk P w K mg base (L2.CX P w) 3 f fd ["many"] (spChk C) := by
  obtain ⟨nv, cT, rw⟩ := T.cT
  obtain ⟨u, gM, rM⟩ := T.gM
  refine F.okX scChk (fun vs H Q E ⟨n, e, _⟩ => by rw [e]; rfl) (fun cdv A outer s H vs Q E hr h => ⟨_, pss_cons (ps_if (pt_not (pt_chain op_le op_le pe_int (pv 0) (pe_glob rfl gM rM)))
    (pss_one (ps_cle rfl T.iT cT rw T.gC hr (takes_of rfl rfl rfl rfl) (by exact (pa_cons (pe_joined (.cons pe_str (.cons (pe_fmt (pe_glob rfl gM rM)) (.cons pe_str (.cons (pe_fmt (pv 0)) .nil))))) pa_nil)))) pss_nil) pss_nil, ?_⟩)
  obtain ⟨n, rfl, hb, hN, hY⟩ := h
  have h7 : ((7 : Int)).natAbs < 10 ^ 30 := by decide
  have l1 : (Str.ofString "there are 0 to ").length ≤ 100 := lit_ok
  have l2 : (Str.ofString " things, not ").length ≤ 100 := lit_ok
  by_cases c0 : 0 ≤ n
  · refine ⟨_, rfl, 0, n, rfl, rfl, _, rfl, if_t (decide_eq_true c0) ⟨n, 7, rfl, rfl, _, rfl, ?_⟩⟩
    by_cases c7 : n ≤ 7
    · exact if_f (by simp [c7]) (hY c0 c7)
    · refine if_t (by simp [c7]) ?_
      exact ⟨_, rfl, fits (j2 e0 l1), .inr ⟨7, rfl, log_ok h7, _, rfl, fits (j2 (j2 e0 l1) (len_ok h7)), _, rfl, fits (j2 (j2 (j2 e0 l1) (len_ok h7)) l2), _, rfl, .inr ⟨n, rfl, log_ok hb, _, rfl, fits (j2 (j2 (j2 (j2 e0 l1) (len_ok h7)) l2) (len_ok hb)), _, rfl, hN (by omega)⟩⟩⟩
  · refine ⟨_, rfl, 0, n, rfl, rfl, _, rfl, if_f (decide_eq_false c0) ⟨_, rfl, if_t rfl ?_⟩⟩
    exact ⟨_, rfl, fits (j2 e0 l1), .inr ⟨7, rfl, log_ok h7, _, rfl, fits (j2 (j2 e0 l1) (len_ok h7)), _, rfl, fits (j2 (j2 (j2 e0 l1) (len_ok h7)) l2), _, rfl, .inr ⟨n, rfl, log_ok hb, _, rfl, fits (j2 (j2 (j2 (j2 e0 l1) (len_ok h7)) l2) (len_ok hb)), _, rfl, hN (by omega)⟩⟩⟩
def spLots (C : Addr) : Sp := fun vs H Q E => ∃ n k : Int, vs = [.int n, .int k] ∧ n.natAbs < 10 ^ 30 ∧ k.natAbs < 10 ^ 30 ∧ (¬ (0 ≤ n ∧ n ≤ 7 ∧ 0 ≤ k ∧ k ≤ n) → Refuses C "BadCount" H E) ∧
  (∀ a b : Nat, n = a → k = b → a ≤ 7 → b ≤ a → ∀ (l : Addr) (ts : List Addr) (H' : Hp), Same H H' → H l = none → H' l = some (.lst (ts.map V.ref)) → CB.LotsAt H H' (CB.combs a b) ts → Q (.ref l) H')
/-- the built-in names that lots uses -/
structure TxB (mg : Str → Option Value) : Prop where
  n1 : mg "list" = none
  n2 : mg "range" = none
  n3 : mg "int" = none
  gB : mg "combinations" = some (.type "itertools.combinations")
theorem ok_lots {f g : Addr} {fd gd : FuncData} (F : Fun K "lots" "lots" sLots f fd) (T : TxP P K mg C D fI) (B : TxB mg) (G : FnOk P w K mg base (L2.CX P w) 3 g gd ["many"] (spChk C)) (gG : mg "_check_many" = some (.ref g)) (kG : PySem.W.keepIn K (.ref g) = true) (bG : Binds K gd ["many"] []) :
    FnOk P w K mg base (L2.CX P w) 5 f fd ["many", "size"] (spLots C) := by
  obtain ⟨nv, cT, rw⟩ := T.cT
  refine F.okX scLots (fun vs H Q E ⟨n, k, e, _⟩ => by rw [e]; rfl) (fun cdv A outer s H vs Q E hr h => ⟨_, pss_cons (ps_expr (by exact (pe_callS (E := WE fun cls d _ H => E cls d H) G (hr.mono (by decide)) rfl gG kG bG (fun σ => passAt (takes_of rfl rfl rfl rfl) σ) (by exact (pa_cons (pv 0) pa_nil)))))
    (pss_cons (ps_if (pt_not (pt_chain op_le op_le pe_int (pv 1) (pv 0)))
      (pss_one (ps_cle rfl T.iT cT rw T.gC hr (takes_of rfl rfl rfl rfl) (by exact (pa_cons (pe_joined (.cons pe_str (.cons (pe_fmt (pv 0)) (.cons pe_str (.cons (pe_fmt (pv 0)) (.cons pe_str (.cons (pe_fmt (pv 1)) .nil))))))) pa_nil)))) pss_nil)
    (pss_one (ps_ret (CB.pe_lots rfl rfl B.n1 rfl B.gB rfl B.n2 (pv 0) (pe_callTy call_int1 rfl B.n3 (by first | rfl | boot_by_name) (pa_cons (pv 1) pa_nil)))))), ?_⟩)
  obtain ⟨n, k, rfl, hb, hb2, hN, hY⟩ := h
  refine ⟨_, rfl, n, rfl, hb, fun c => hN (fun z => c ⟨z.1, z.2.1⟩), fun n0 n7 => ?_⟩
  have l1 : (Str.ofString "a lot of ").length ≤ 100 := lit_ok
  have l2 : (Str.ofString " things has 0 to ").length ≤ 100 := lit_ok
  have l3 : (Str.ofString " of them, not ").length ≤ 100 := lit_ok
  have no : ¬ (0 ≤ k ∧ k ≤ n) → tRs C "BadCount" (fun cls d _ H => E cls d H) (tCons (fun σ H Q => tJs [tC (.str "a lot of "), tFmt (tVar 0), tC (.str " things has 0 to "), tFmt (tVar 0), tC (.str " of them, not "), tFmt (tVar 1)] Str.empty σ H fun out H1 => Q (.str out) H1) tNil)
      { nx := fun _ H' => Q .non H', rt := Q } (start ["many", "size"] [.int n, .int k]) H := fun c =>
    ⟨_, rfl, fits (j2 e0 l1), _, rfl, .inr ⟨n, rfl, log_ok hb, _, rfl, fits (j2 (j2 e0 l1) (len_ok hb)), _, rfl, fits (j2 (j2 (j2 e0 l1) (len_ok hb)) l2), _, rfl, .inr ⟨n, rfl, log_ok hb, _, rfl, fits (j2 (j2 (j2 (j2 e0 l1) (len_ok hb)) l2) (len_ok hb)),
      _, rfl, fits (j2 (j2 (j2 (j2 (j2 e0 l1) (len_ok hb)) l2) (len_ok hb)) l3), _, rfl, .inr ⟨k, rfl, log_ok hb2, _, rfl, fits (j2 (j2 (j2 (j2 (j2 (j2 e0 l1) (len_ok hb)) l2) (len_ok hb)) l3) (len_ok hb2)), _, rfl, hN (fun z => c ⟨z.2.2.1, z.2.2.2⟩)⟩⟩⟩⟩
  by_cases k0 : 0 ≤ k
  · refine ⟨_, rfl, 0, k, rfl, rfl, _, rfl, if_t (decide_eq_true k0) ⟨_, rfl, k, n, rfl, rfl, _, rfl, ?_⟩⟩
    by_cases kn : k ≤ n
    · refine if_f (by simp [kn]) ?_
      obtain ⟨a, rfl⟩ := Int.eq_ofNat_of_zero_le n0
      obtain ⟨b, rfl⟩ := Int.eq_ofNat_of_zero_le k0
      exact ⟨_, rfl, a, rfl, by omega, _, rfl, .inl ⟨_, rfl, b, rfl, by omega, hY a b rfl rfl (by omega) (by omega)⟩⟩
    · exact if_t (by simp [kn]) (no fun z => kn z.2)
  · exact ⟨_, rfl, 0, k, rfl, rfl, _, rfl, if_f (decide_eq_false k0) ⟨_, rfl, if_t rfl (no fun z => k0 z.1)⟩⟩
end
end K2

namespace K2
open PySem PySem.Spec PyProof.Rows L2
theorem BagAt.same {l b : Addr} {ns : List Int} {H H' : Hp} (B : BagAt l ns H b) (s : Same H H') : BagAt l ns H' b := by
  obtain ⟨i, bank, salt, c, hB, r⟩ := B.ex
  exact ⟨B.ne, s _ _ B.ls, i, bank, salt, c, s _ _ hB, r⟩
theorem BagAt.at {l b : Addr} {ns : List Int} {H : Hp} (B : BagAt l ns H b) : ∃ xs, H b = some (.lst xs) := by
  obtain ⟨i, bank, salt, c, hB, r⟩ := B.ex
  exact ⟨_, hB⟩
theorem BagAt.new {l b p : Addr} {ns : List Int} {H : Hp} {o : HO} (B : BagAt l ns H b) (n : H p = none) : BagAt l ns (upd H p o) b := B.same (same_new n)
/-- a store elsewhere -/
theorem BagAt.off {l b p : Addr} {ns : List Int} {H : Hp} {o : HO} (B : BagAt l ns H b) (h1 : p ≠ b) (h2 : p ≠ l) : BagAt l ns (upd H p o) b := by
  obtain ⟨i, bank, salt, c, hB, r⟩ := B.ex
  exact ⟨B.ne, by rw [upd_ne h2.symm]; exact B.ls, i, bank, salt, c, by rw [upd_ne h1.symm]; exact hB, r⟩
def spLaw (K : PySem.W.Frag) : Sp := fun vs H Q _ => ∃ (a : Addr) (ns : List Int), vs = [.ref a] ∧ SqL K H a (ns.map V.int) ∧ ns.length ≤ 63 ∧ ∀ H', Q (.bl true) H'
end K2

set_option maxHeartbeats 2000000
/-! A number far off; the law's own lots. -/
namespace K2
open PySem PySem.Spec PyProof.Rows L2 CX4
abbrev sFar : Stmt := topS 15
abbrev sLL : Stmt := topS 18
theorem scFar : FnScope ["_law_bag_here"] ["_law_bag_here"] (defScope sFar) := ⟨rfl, rfl, rfl, by decide +kernel, rfl, by decide +kernel, by decide +kernel⟩
theorem scLL : FnScope ["_law_many9", "_law_size", "_law_found", "_law_turn", "_law_longer", "_law_lot9", "_law_first", "_law_thing"] ["_law_many9", "_law_size"] (defScope sLL) := ⟨rfl, rfl, rfl, by decide +kernel, rfl, by decide +kernel, by decide +kernel⟩
section
variable {P : Program} {w : World} {K : PySem.W.Frag} {mg : Str → Option Value} {base : Heap}
def spFar (K : PySem.W.Frag) : Sp := fun vs H Q _ => ∃ (b l : Addr) (ns : List Int), vs = [.ref b] ∧ BagAt l ns H b ∧
  ∀ (i : Int) (H' : Hp), i.natAbs < 10 ^ 30 → ¬ (0 ≤ i ∧ i ≤ 7) → BagAt l ns H' b → (∀ c o, c ≠ b → H c = some o → H' c = some o) → Q (.int i) H'
theorem ok_far {f fP fO : Addr} {fd dP dO : FuncData} (F : Fun K "_law_far" "_law_far" sFar f fd)
    (GP : FnOk P w K mg base CX0 1 fP dP ["_law_bag_here", "_law_many9"] spPull) (gP : mg "_law_pull" = some (.ref fP)) (kP : PySem.W.keepIn K (.ref fP) = true) (bP : Binds K dP ["_law_bag_here", "_law_many9"] [])
    (GO : FnOk P w K mg base CX0 2 fO dO ["_law_bag_here", "_law_some"] (spOf K)) (gO : mg "_law_of" = some (.ref fO)) (kO : PySem.W.keepIn K (.ref fO) = true) (bO : Binds K dO ["_law_bag_here", "_law_some"] []) :
    FnOk P w K mg base CX0 3 f fd ["_law_bag_here"] (spFar K) := by
  refine F.ok scFar (fun vs H Q E ⟨b, l, ns, e, _⟩ => by rw [e]; rfl) (fun cdv A outer s H vs Q E hr h => ?_)
  obtain ⟨b, l, ns, rfl, B, q⟩ := h
  have r1 : Room 1 _ := hr.mono (by decide)
  refine ⟨_, pss_one (ps_ret (pe_call GO hr (by rfl) gO kO bO .nil pass0 (pa_cons (pv 0) (pa_cons (pe_lst (pa_cons (pe_un un_neg pe_int) (pa_cons pe_int (pa_cons pe_int
    (pa_cons (pe_op op_sub (pe_op op_sub pe_int pe_int) (pe_call GP r1 (by rfl) gP kP bP .nil pass0 (pa_cons (pv 0) (pa_cons (pe_op op_pow pe_int pe_int) pa_nil))))
    (pa_cons (pe_op op_add pe_int (pe_call GP r1 (by rfl) gP kP bP .nil pass0 (pa_cons (pv 0) (pa_cons (pe_op op_pow pe_int pe_int) pa_nil)))) pa_nil)))))) pa_nil)))), ?_⟩
  have cp : CPow 10 8 := by show (0:Int) ≤ 8 ∧ (8:Int) ≤ 1000000 ∧ (10 : Int).natAbs < 2 ^ 64; decide
  refine ⟨_, rfl, _, rfl, _, _, rfl, rfl, _, rfl, _, _, rfl, rfl, cp, b, l, _, ns, rfl, by decide, by decide, B, fun r xs r0 r1' B1 => ?_⟩
  refine ⟨_, _, rfl, rfl, _, rfl, _, _, rfl, rfl, cp, b, l, _, ns, rfl, by decide, by decide, B1, fun t ys t0 t1 B2 => ?_⟩
  refine ⟨_, _, rfl, rfl, (by show 5 ≤ sizeLine; rw [sizeLine_eq]; omega), fun p np => ?_⟩
  obtain ⟨bx, hb5⟩ := B2.at
  have npb : p ≠ b := (ne_of_none hb5 np).symm
  refine ⟨b, l, p, ns, _, rfl, B2.new np, upd_same, npb, (by show 0 < 5; decide), (by show 5 < 1073741824; decide), fun v zs hv B6 => ?_⟩
  have go : ∀ i : Int, v = .int i → i.natAbs < 10 ^ 30 → ¬ (0 ≤ i ∧ i ≤ 7) → Q v _ := fun i e h1 h2 => e ▸ q i _ h1 h2 B6 fun c o hc e => by
    have np' : c ≠ p := ne_of_none (by rw [upd_ne hc, upd_ne hc]; exact e) np
    rw [upd_ne hc, upd_ne np', upd_ne hc, upd_ne hc]
    exact e
  have e8 : (10 : Int) ^ (8 : Int).toNat = 100000000 := by decide
  rw [e8] at r1' t1
  have big : (10 : Nat) ^ 30 = 1000000000000000000000000000000 := by decide
  simp only [List.mem_cons, List.not_mem_nil, or_false] at hv
  rcases hv with e | e | e | e | e
  · exact go (-1) e (by decide) (by decide)
  · exact go 8 e (by decide) (by decide)
  · exact go 99999999 e (by decide) (by decide)
  · exact go _ e (by rw [big]; omega) (by omega)
  · exact go _ e (by rw [big]; omega) (by omega)
end
end K2

/-! Lots, made one thing longer. -/
namespace K2
open PySem PySem.Spec PyProof.Rows L2
def fst : List Nat → Nat
  | [] => 0
  | c :: r => (c :: r).getLast (by simp) + 1
def ext (a : Nat) (c : List Nat) : List (List Nat) := (List.range (a - fst c)).map fun t => c ++ [fst c + t]
def gen (a : Nat) : Nat → List (List Nat)
  | 0 => [[]]
  | i + 1 => (gen a i).flatMap (ext a)
theorem gen_is : ∀ a, a ≤ 7 → ∀ k, k ≤ a → gen a k = CB.combs a k := by
  have h : ((List.range 8).all fun a => (List.range (a + 1)).all fun k => decide (gen a k = CB.combs a k)) = true := by decide +kernel
  intro a ha k hk
  have h1 := List.all_eq_true.mp h a (List.mem_range.mpr (by omega))
  exact of_decide_eq_true (List.all_eq_true.mp h1 k (List.mem_range.mpr (by omega)))
theorem gen_len : ∀ a, a ≤ 7 → ∀ k, k ≤ a → ((gen a k).length ≤ 35 ∧ ∀ c ∈ gen a k, c.length = k ∧ ∀ x ∈ c, x < a) := by
  have h : ((List.range 8).all fun a => (List.range (a + 1)).all fun k => decide ((gen a k).length ≤ 35) && (gen a k).all fun c => decide (c.length = k) && c.all fun x => decide (x < a)) = true := by decide +kernel
  intro a ha k hk
  have h1 := List.all_eq_true.mp h a (List.mem_range.mpr (by omega))
  have h2 := List.all_eq_true.mp h1 k (List.mem_range.mpr (by omega))
  simp only [Bool.and_eq_true, decide_eq_true_eq, List.all_eq_true] at h2
  exact h2
section
variable {H H1 H2 : Hp}
theorem lots_same (s : Same H1 H2) : ∀ {r : List (List Nat)} {ts : List Addr}, CB.LotsAt H H1 r ts → CB.LotsAt H H2 r ts
  | [], [], _ => trivial
  | _ :: _, _ :: _, ⟨a, b, l⟩ => ⟨s _ _ a, b, lots_same s l⟩
  | [], _ :: _, z => z.elim
  | _ :: _, [], z => z.elim
theorem lots_off {D : Addr} {xs : List V} {o : HO} (hD : H1 D = some (.lst xs)) : ∀ {r : List (List Nat)} {ts : List Addr}, CB.LotsAt H H1 r ts → CB.LotsAt H (upd H1 D o) r ts
  | [], [], _ => trivial
  | _ :: _, t :: _, ⟨a, b, l⟩ => ⟨by rw [upd_ne (fun z : t = D => by rw [z, hD] at a; cases a)]; exact a, b, lots_off hD l⟩
  | [], _ :: _, z => z.elim
  | _ :: _, [], z => z.elim
theorem lots_app : ∀ {r r2 : List (List Nat)} {ts us : List Addr}, CB.LotsAt H H1 r ts → CB.LotsAt H H1 r2 us → CB.LotsAt H H1 (r ++ r2) (ts ++ us)
  | [], _, [], _, _, k => k
  | _ :: _, _, _ :: _, _, ⟨a, b, l⟩, k => ⟨a, b, lots_app l k⟩
  | [], _, _ :: _, _, z, _ => z.elim
  | _ :: _, _, [], _, z, _ => z.elim
theorem lots_get : ∀ {r : List (List Nat)} {ts : List Addr}, CB.LotsAt H H1 r ts → ts.length = r.length ∧ ∀ (i : Nat) (t : Addr), ts[i]? = some t → ∃ c, r[i]? = some c ∧ H1 t = some (.tup (CB.lotV c)) ∧ H t = none
  | [], [], _ => ⟨rfl, fun i t h => by simp at h⟩
  | c :: r, t :: ts, ⟨a, b, l⟩ => by
    obtain ⟨e, f⟩ := lots_get l
    refine ⟨by rw [List.length_cons, List.length_cons, e], fun i u h => ?_⟩
    cases i with
    | zero =>
      obtain rfl : t = u := Option.some.inj h
      exact ⟨c, rfl, a, b⟩
    | succ i => exact f i u h
  | [], _ :: _, z => z.elim
  | _ :: _, [], z => z.elim
end
theorem take_flat {α β : Type} (g : α → List β) {l : List α} {j : Nat} {c : α} (h : l[j]? = some c) : (l.take (j + 1)).flatMap g = (l.take j).flatMap g ++ g c := by
  rw [List.take_succ, h]
  simp
end K2

set_option maxHeartbeats 2000000
/-! The law's own lots. -/
namespace K2
open PySem PySem.Spec PyProof.Rows L2 CX4
section
variable {P : Program} {w : World} {K : PySem.W.Frag} {mg : Str → Option Value} {base : Heap}
def spLL : Sp := fun vs H Q _ => ∃ a k : Nat, vs = [.int a, .int k] ∧ a ≤ 7 ∧ k ≤ a ∧
  ∀ (l : Addr) (ts : List Addr) (H' : Hp), Same H H' → H l = none → H' l = some (.lst (ts.map V.ref)) → CB.LotsAt H H' (CB.combs a k) ts → Q (.ref l) H'
theorem dpN {H : Hp} : ∀ c : List Nat, DpAll K H (CB.lotV c) (c.map fun (i : Nat) => PyData.int (i : Int))
  | [] => .nil
  | n :: r => .cons (.int n) (dpN r)
theorem shT (c : List Nat) : SeqAt.shaped (.tuple (c.map fun (i : Nat) => PyData.int (i : Int))) = true := by
  unfold SeqAt.shaped
  have h1 : ∀ c : List Nat, PyData.canLayAll0 (c.map fun (i : Nat) => PyData.int (i : Int)) = true := fun c => by
    induction c with
    | nil => simp [PyData.canLayAll0]
    | cons n r ih => simp only [List.map_cons, PyData.canLayAll0, PyData.canLay0, ih, Bool.and_self]
  have h2 : ∀ c : List Nat, PyData.depthAll (c.map fun (i : Nat) => PyData.int (i : Int)) ≤ 1 := fun c => by
    induction c with
    | nil => simp [PyData.depthAll]
    | cons n r ih =>
      simp only [List.map_cons, PyData.depthAll, PyData.depth]
      omega
  have h2 := h2 c
  rw [PyData.canLay0, PyData.depth, h1, Bool.true_and]
  exact decide_eq_true (by omega)
theorem flat_len {α β : Type} (g : α → List β) (n : Nat) (h : ∀ x : α, True → (g x).length ≤ n) : ∀ l : List α, (l.flatMap g).length ≤ n * l.length
  | [] => by simp
  | x :: r => by
    have ih := flat_len g n h r
    have := h x trivial
    simp only [List.flatMap_cons, List.length_append, List.length_cons, Nat.mul_add]
    omega
theorem last_at (c0 : Nat) (r : List Nat) : atI (CB.lotV (c0 :: r)) (-1) = some (.int (((c0 :: r).getLast (by simp) : Nat) : Int)) := by
  unfold atI ixN
  have l : (CB.lotV (c0 :: r)).length = r.length + 1 := by simp
  rw [if_neg (by decide), l, if_pos (by omega)]
  have e : ((-1 : Int) + ((r.length + 1 : Nat) : Int)).toNat = r.length := by omega
  rw [e]
  show (CB.lotV (c0 :: r))[r.length]? = _
  rw [CB.lotV, List.getElem?_map, List.getLast_eq_getElem, List.getElem?_eq_getElem (by simp)]
  rfl
theorem lc_ext {H H4 : Hp} {a : Nat} {c : List Nat} {t : Addr} {x1 x2 x3 x4 x7 : Option V} (ha : a ≤ 7) (cl : c.length ≤ 7) {fi : Int} (hfi : fi = (fst c : Int)) (fb : fst c ≤ 1000) (hcT : H4 t = some (.tup (CB.lotV c))) (hH : ∀ b, H4 b = none → H b = none) {Q' : VK}
    (hq : ∀ (zs : List Addr) (D : Addr) (H' : Hp), Same H4 H' → H4 D = none → H' D = some (.lst (zs.map V.ref)) → zs.length ≤ 7 → CB.LotsAt H H' (ext a c) zs → Q' (.ref D) H') :
    tLc (iRng2 (tCons (tVar 6) (tCons (tVar 0) tNil))) (gName 7) tYes (tOp (rCatA K) (tVar 5) (tTup (tCons (tVar 7) tNil))) [7] [some (.int a), x1, x2, x3, x4, some (.ref t), some (.int fi), x7] H4 Q' := by
  have small : ∀ n : Nat, n ≤ 1000 → n ≤ sizeLine := fun n h => by rw [sizeLine_eq]; omega
  have e : ((a : Int) - fi).toNat = a - fst c := by omega
  refine ⟨_, rfl, _, rfl, fi, (a : Int), rfl, by omega, fun D nD => ?_⟩
  have nDt : t ≠ D := ne_of_none hcT nD
  rw [e]
  refine lc_range (lo := fi) (n := a - fst c) (fun m H' => ∃ vs : List Addr, Same H4 H' ∧ H' D = some (.lst (vs.map V.ref)) ∧ CB.LotsAt H H' ((List.range m).map fun u => c ++ [fst c + u]) vs) ⟨[], same_new nD, upd_same, trivial⟩ ?_ ?_
  · rintro m H5 hm ⟨vs, sm, hD, Lv⟩
    have lv : vs.length = m := by rw [(lots_get Lv).1, List.length_map, List.length_range]
    refine ⟨rfl, ?_⟩
    refine ⟨_, rfl, _, rfl, small 1 (by omega), fun b1 n1 => ?_⟩
    have s1 := same_new (o := .tup [.int (fi + (m : Int))]) n1
    have nb : b1 ≠ D := (ne_of_none hD n1).symm
    have last : ∀ (p : Addr) (H6 : Hp), Same H5 H6 → p ≠ D → H6 p = some (.tup (CB.lotV (c ++ [fst c + m]))) → H p = none →
        ∃ acc, H6 D = some (.lst acc) ∧ acc.length < sizeLine ∧ ∃ vs : List Addr, Same H4 (upd H6 D (.lst (acc ++ [V.ref p]))) ∧ (upd H6 D (.lst (acc ++ [V.ref p]))) D = some (.lst (vs.map V.ref)) ∧ CB.LotsAt H (upd H6 D (.lst (acc ++ [V.ref p]))) ((List.range (m + 1)).map fun u => c ++ [fst c + u]) vs :=
      fun p H6 s6 pD hp np => by
        refine ⟨vs.map V.ref, s6 _ _ hD, ?_, vs ++ [p], same_at nD (sm.trans s6), ?_, ?_⟩
        · rw [List.length_map, lv]
          have := small 999 (by omega)
          omega
        · rw [upd_same, List.map_append]
          rfl
        · rw [List.range_succ, List.map_append]
          exact lots_app (lots_off (s6 _ _ hD) (lots_same s6 Lv)) ⟨by rw [upd_ne pD]; exact hp, np, trivial⟩
    have ev : V.int (fi + (m : Int)) = V.int ((fst c + m : Nat) : Int) := by rw [hfi]; rfl
    have n5 : ∀ b, H5 b = none → H b = none := fun b h => hH b (sm.free h)
    refine ⟨t, b1, CB.lotV c, [.int (fi + (m : Int))], rfl, rfl, SqT.of (s1 _ _ (sm _ _ hcT)), SqT.of upd_same, small _ (by simp only [List.length_map, List.length_singleton]; omega), fun hc0 => ?_, fun _ z => absurd z (by simp), fun _ _ p2 n2 => ?_⟩
    · refine last b1 _ s1 nb ?_ (n5 _ n1)
      rw [upd_same, ev]
      cases c with
      | nil => rfl
      | cons _ _ => cases hc0
    · have s2 := same_new (o := .tup (CB.lotV c ++ [.int (fi + (m : Int))])) n2
      refine last p2 _ (s1.trans s2) ((ne_of_none (s1 _ _ hD) n2).symm) ?_ (n5 _ (s1.free n2))
      rw [upd_same, ev]
      show some (HO.tup (CB.lotV c ++ [V.int ((fst c + m : Nat) : Int)])) = some (HO.tup (CB.lotV (c ++ [fst c + m])))
      simp [CB.lotV, List.map_append]
  · rintro H5 ⟨vs, sm, hD, Lv⟩
    exact hq vs D H5 sm nD hD (by rw [(lots_get Lv).1, List.length_map, List.length_range]; omega) Lv
theorem ok_ll {f : Addr} {fd : FuncData} (F : Fun K "_law_lots" "_law_lots" sLL f fd) (mr : mg "range" = none) : FnOk P w K mg base CX0 1 f fd ["_law_many9", "_law_size"] spLL := by
  refine F.ok scLL (fun vs H Q E ⟨a, k, e, _⟩ => by rw [e]; rfl) (fun cdv A outer s H vs Q E hr h => ?_)
  refine ⟨_, pss_cons (ps_set (i := 2) scLL.nd rfl (Or.inl rfl) (pe_lst (pa_cons (pe_tup pa_nil) pa_nil)))
    (pss_cons (ps_for PassesOwn.never rfl (pi_range1 (by rfl) mr (pa_cons (pv 1) pa_nil)) (pg_name (i := 3) scLL.nd rfl (Or.inl rfl))
      (pss_cons (ps_set (i := 4) scLL.nd rfl (Or.inl rfl) (pe_lst pa_nil))
      (pss_cons (ps_for PassesOwn.never rfl (pi_list (pv 2)) (pg_name (i := 5) scLL.nd rfl (Or.inr rfl))
        (pss_cons (ps_set (i := 6) scLL.nd rfl (Or.inl rfl) (pe_ifExp (pt_cmpR (op_neD hr.units) (pv 5) (pe_tup pa_nil) (nomark _)) (pe_op op_add (pe_ix (r := rIx K) ix_seq (pv 5) (pe_un un_neg pe_int) (fun _ _ => rfl)) pe_int) pe_int))
        (pss_one (ps_set (i := 4) scLL.nd rfl (Or.inl rfl) (pe_op op_cat (pv 4) (pe_lc (own := [("_law_thing", 7)]) (g := gName 7) (tt := tYes) rfl scLL.nd (pi_range2 (by rfl) mr (pa_cons (pv 6) (pa_cons (pv 0) pa_nil)))
          (blkOk_by (N := ["_law_many9", "_law_size", "_law_found", "_law_turn", "_law_longer", "_law_lot9", "_law_first", "_law_thing"]) (sc := defScope sLL) (by decide +kernel))
          (fun _ _ _ _ _ => pg_name (i := 7) scLL.nd rfl (Or.inl rfl)) (fun _ _ _ _ _ => pts_nil)
          (fun _ _ _ _ _ => pe_op (r := rCatA K) op_catA (pv 5) (pe_tup (pa_cons (pv 7) pa_nil)))))))))
      (pss_one (ps_set (i := 2) scLL.nd rfl (Or.inl rfl) (pv 4))))))
    (pss_one (ps_ret (pv 2)))), ?_⟩
  obtain ⟨a, k, rfl, ha, hk, q⟩ := h
  have small : ∀ n : Nat, n ≤ 1000 → n ≤ sizeLine := fun n h => by rw [sizeLine_eq]; omega
  refine ⟨Nat.zero_le _, fun t0 n0 => ⟨small 1 (by decide), fun F0 nF0 => ?_⟩⟩
  have nF0' : H F0 = none := (same_new n0).free nF0
  refine ⟨_, rfl, (k : Int), rfl, by omega, by omega, for_range (lo := 0) (n := k) (fun i σ H' => ∃ (F : Addr) (ts : List Addr) (x3 x4 x5 x6 x7 : Option V), σ = [some (.int a), some (.int k), some (.ref F), x3, x4, x5, x6, x7] ∧ Same H H' ∧ H F = none ∧ H' F = some (.lst (ts.map V.ref)) ∧ CB.LotsAt H H' (gen a i) ts)
    ⟨F0, [t0], none, none, none, none, none, rfl, (same_new n0).trans (same_new nF0), nF0', upd_same, ⟨(same_new nF0) _ _ upd_same, n0, trivial⟩⟩ ?_ ?_⟩
  · rintro i σ H2 hi ⟨F, ts, x3, x4, x5, x6, x7, rfl, s2, nF, hF, L⟩
    obtain ⟨len, mem⟩ := gen_len a ha i (by omega)
    refine ⟨Nat.zero_le _, fun G nG => ?_⟩
    have s3 := same_new (o := .lst []) nG
    have L3 := lots_same s3 L
    refine ⟨_, rfl, F, rfl, ⟨_, SqL.of (s3 _ _ hF)⟩, for_list (K := K) (a := F) (xs := ts.map V.ref) (fun j σ H' => ∃ (G : Addr) (us : List Addr) (x3 x5 x6 x7 : Option V), σ = [some (.int a), some (.int k), some (.ref F), x3, some (.ref G), x5, x6, x7] ∧ Same H H' ∧ H' F = some (.lst (ts.map V.ref)) ∧ CB.LotsAt H H' (gen a i) ts ∧
        H G = none ∧ H' G = some (.lst (us.map V.ref)) ∧ CB.LotsAt H H' (((gen a i).take j).flatMap (ext a)) us)
      ⟨G, [], _, _, _, _, rfl, s2.trans s3, s3 _ _ hF, L3, s2.free nG, upd_same, trivial⟩ (fun j σ H' _ ⟨_, _, _, _, _, _, _, _, hF', _⟩ => SqL.of hF') ?_ ?_⟩
    · rintro j y σ H3 hj ⟨G, us, x3, x5, x6, x7, rfl, s4, hF3, L4, nG3, hG3, L5⟩
      obtain ⟨t, ht, rfl⟩ : ∃ t, ts[j]? = some t ∧ y = V.ref t := by
        rw [List.getElem?_map] at hj
        cases e : ts[j]? with
        | none => rw [e] at hj; cases hj
        | some t => rw [e] at hj; exact ⟨t, rfl, (Option.some.inj hj).symm⟩
      obtain ⟨c, hc, hcT, ncT⟩ := (lots_get L4).2 j t ht
      obtain ⟨cl, cb⟩ := mem c (List.mem_of_getElem? hc)
      have flat := take_flat (ext a) hc
      refine ⟨_, rfl, ⟨Nat.zero_le _, fun p np => ?_⟩⟩
      have sp := same_new (o := .tup []) np
      refine ⟨.tuple (c.map fun (i : Nat) => .int (i : Int)), .tuple [], .tup (SqT.of (sp _ _ hcT)) (dpN c), .tup (SqT.of upd_same) .nil, shT c, shT [], _, rfl, ?_⟩
      have G4 : (upd H3 p (.tup [])) G = some (.lst (us.map V.ref)) := sp _ _ hG3
      have lus : us.length ≤ 245 := by
        rw [(lots_get L5).1]
        have := flat_len (ext a) 7 (fun c hc => by unfold ext; rw [List.length_map, List.length_range]; omega) ((gen a i).take j)
        have := List.length_take_le' j (gen a i)
        omega
      have fin : ∀ fi : Int, fi = (fst c : Int) → fst c ≤ 1000 → ∃ x : V, [some (.int a), some (.int k), some (.ref F), x3, some (.ref G), some (.ref t), some (.int fi), x7][4]? = some (some x) ∧
          tLc (iRng2 (tCons (tVar 6) (tCons (tVar 0) tNil))) (gName 7) tYes (tOp (rCatA K) (tVar 5) (tTup (tCons (tVar 7) tNil))) [7] [some (.int a), some (.int k), some (.ref F), x3, some (.ref G), some (.ref t), some (.int fi), x7] (upd H3 p (.tup [])) fun y H2 =>
            rCat x y H2 fun z H5 => ∃ (G : Addr) (us : List Addr) (x3' x5 x6 x7' : Option V), [some (.int a), some (.int k), some (.ref F), x3, some z, some (.ref t), some (.int fi), x7] = [some (.int a), some (.int k), some (.ref F), x3', some (.ref G), x5, x6, x7'] ∧ Same H H5 ∧ H5 F = some (.lst (ts.map V.ref)) ∧ CB.LotsAt H H5 (gen a i) ts ∧
              H G = none ∧ H5 G = some (.lst (us.map V.ref)) ∧ CB.LotsAt H H5 (((gen a i).take (j + 1)).flatMap (ext a)) us := fun fi hfi fb =>
        ⟨_, rfl, lc_ext (H := H) ha (by omega) hfi fb (sp _ _ hcT) (fun b hb => s4.free (sp.free hb)) fun zs D H5 s5 nD hD zl Lz => by
          refine ⟨G, D, us.map V.ref, zs.map V.ref, rfl, rfl, s5 _ _ G4, hD, small _ (by rw [List.length_map, List.length_map]; omega), fun p2 n2 => ?_⟩
          have s6 := same_new (o := .lst (us.map V.ref ++ zs.map V.ref)) n2
          have sA := sp.trans (s5.trans s6)
          refine ⟨p2, us ++ zs, _, _, _, _, rfl, s4.trans sA, sA _ _ hF3, lots_same sA L4, s4.free (sp.free (s5.free n2)), by rw [upd_same, List.map_append], ?_⟩
          rw [flat]
          exact lots_app (lots_same sA L5) (lots_same s6 Lz)⟩
      cases c with
      | nil => exact if_f rfl (fin 0 rfl (by decide))
      | cons c0 r =>
        refine if_t rfl ⟨_, rfl, _, rfl, .inr (.inl ⟨t, _, _, _, rfl, rfl, SqT.of (sp _ _ hcT), last_at c0 r, _, _, rfl, rfl, ?_⟩)⟩
        refine fin _ rfl ?_
        have := cb _ (List.getLast_mem (l := c0 :: r) (by simp))
        show (c0 :: r).getLast (by simp) + 1 ≤ 1000
        omega
    · rintro σ H3 ⟨G, us, x3, x5, x6, x7, rfl, s4, hF3, L4, nG3, hG3, L5⟩
      have e : (gen a i).take (ts.map V.ref).length = gen a i := by
        rw [List.length_map, (lots_get L).1, List.take_length]
      rw [e] at L5
      exact ⟨_, rfl, G, us, _, _, _, _, _, rfl, s4, nG3, hG3, L5⟩
  · rintro σ H3 ⟨F, ts, x3, x4, x5, x6, x7, rfl, s2, nF, hF, L⟩
    rw [gen_is a ha k hk] at L
    exact ⟨_, rfl, q F ts H3 s2 nF hF L⟩
end
end K2

set_option maxHeartbeats 2000000
/-! f"{t}", t a tuple of ints. -/
namespace FT
open PySem PySem.Spec PyProof.Rows L2
def txt (i : Int) : Str := Str.ofString (toString i)
theorem logI {i : Int} (h : i.natAbs < 10 ^ 30) : i.natAbs.log2 < 1920 := by
  by_cases z : i.natAbs = 0
  · rw [z]; decide
  · exact Nat.lt_trans ((Nat.log2_lt z).mpr (Nat.lt_of_lt_of_le h (by decide : 10 ^ 30 ≤ 2 ^ 100))) (by decide)
theorem lenI {i : Int} (h : i.natAbs < 10 ^ 30) : (txt i).length ≤ 31 := by
  unfold txt
  rw [PySem.ofString_length]
  exact int_text_length_le10 (by decide) h
theorem reprs {prog : Program} {w : World} : ∀ {l : List Int} {its : List Value}, Vals (l.map V.int) its → (∀ i ∈ l, i.natAbs < 10 ^ 30) → ReprAll prog w its (l.map txt)
  | [], _, r, _ => by
    cases r
    exact .nil
  | y :: l, _, r, h => by
    cases r with
    | cons r1 r2 =>
      obtain ⟨t, rfl⟩ := r1
      exact .cons (ReprIs.int t (logI (h y List.mem_cons_self))) (reprs r2 fun z hz => h z (List.mem_cons_of_mem _ hz))
theorem piledI : ∀ l : List Int, (∀ i ∈ l, i.natAbs < 10 ^ 30) → piled (l.map txt) ≤ 34 * l.length
  | [], _ => Nat.zero_le _
  | y :: l, h => by
    have h1 := lenI (h y List.mem_cons_self)
    have h2 := piledI l fun z hz => h z (List.mem_cons_of_mem _ hz)
    rw [List.map_cons, piled_cons, List.length_cons]
    omega
section
variable {X : Cx}
def tFmtI (K : PySem.W.Frag) (te : TE) : TE := fun σ H Q => te σ H fun x H1 => ∃ (a : Addr) (l : List Int), x = .ref a ∧ SqT K H1 a (l.map V.int) ∧ (∀ i ∈ l, i.natAbs < 10 ^ 30) ∧ l.length ≤ 100000 ∧ ∀ m : Str, m.length ≤ 34 * l.length + 7 → Q (.str m) H1
theorem pe_fmtI {e : Expr} {te : TE} {pos : Pos} {k : Nat} (hr : Room k X.A) (he : PE X e te) : PE X (.FormattedValue e (-1) none pos) (tFmtI X.K te) := by
  refine ⟨fun pins s σ H Q I h => wpAny_FormattedValue_plain (thn (he.run pins s σ H _ I h) fun v s1 hv => ?_)⟩
  obtain ⟨x, H1, I1, r1, a, l, rfl, ht, hc, hz, q⟩ := hv
  cases r1
  obtain ⟨its, rv, ⟨o, ho, hcl, n, hd⟩, _⟩ := I1.tuple ht
  have hp := piledI l hc
  have htx := fmt_text (l.map txt)
  have hu := hr.units
  have sz : (tupleText (l.map txt)).length ≤ sizeLine := by rw [sizeLine_eq]; omega
  exact fmt_tuple (ts := l.map txt) (by omega) ho hcl hd (reprs rv hc) sz fun m u tk hm => ⟨.str m, H1, I1.tok _, ⟨u, rfl⟩, q m (by omega)⟩
end
end FT

set_option maxHeartbeats 2000000
/-! Lists of tuples of ints as data: alike, of bounded depth. -/
namespace DL
open PySem PySem.Spec PyProof.Rows L2
abbrev ti (l : List Int) : PyData := .tuple (l.map PyData.int)
theorem eqvI : ∀ xs ys : List Int, PyData.eqvAll (xs.map PyData.int) (ys.map PyData.int) = decide (xs = ys)
  | [], [] => by simp [PyData.eqvAll]
  | [], _ :: _ => by simp [PyData.eqvAll]
  | _ :: _, [] => by simp [PyData.eqvAll]
  | x :: xs, y :: ys => by
    rw [List.map_cons, List.map_cons, PyData.eqvAll, PyData.eqv, eqvI xs ys]
    by_cases h : x = y <;> by_cases h2 : xs = ys <;> simp [h, h2]
theorem eqv_ti (xs ys : List Int) : PyData.eqv (ti xs) (ti ys) = decide (xs = ys) := by
  rw [PyData.eqv]
  exact eqvI xs ys
theorem layI : ∀ l : List Int, PyData.canLayAll0 (l.map PyData.int) = true
  | [] => by simp [PyData.canLayAll0]
  | n :: r => by simp only [List.map_cons, PyData.canLayAll0, PyData.canLay0, layI r, Bool.and_self]
theorem depI : ∀ l : List Int, PyData.depthAll (l.map PyData.int) ≤ 1
  | [] => by simp [PyData.depthAll]
  | n :: r => by
    have := depI r
    simp only [List.map_cons, PyData.depthAll, PyData.depth]
    omega
theorem lay_ti (l : List Int) : PyData.canLay0 (ti l) = true := by
  rw [PyData.canLay0]
  exact layI l
theorem dep_ti (l : List Int) : PyData.depth (ti l) ≤ 2 := by
  have := depI l
  rw [PyData.depth]
  omega
theorem sh_ti (l : List Int) : SeqAt.shaped (ti l) = true := by
  unfold SeqAt.shaped
  have h := dep_ti l
  rw [lay_ti l, Bool.true_and]
  exact decide_eq_true (by omega)
theorem layT : ∀ r : List (List Int), PyData.canLayAll0 (r.map ti) = true
  | [] => by simp [PyData.canLayAll0]
  | n :: r => by rw [List.map_cons, PyData.canLayAll0, lay_ti n, layT r]; rfl
theorem depT : ∀ r : List (List Int), PyData.depthAll (r.map ti) ≤ 2
  | [] => by simp [PyData.depthAll]
  | n :: r => by
    have h1 := depT r
    have h2 := dep_ti n
    rw [List.map_cons, PyData.depthAll]
    omega
theorem sh_lt (r : List (List Int)) : SeqAt.shaped (.list (r.map ti)) = true := by
  unfold SeqAt.shaped
  have h := depT r
  rw [PyData.canLay0, PyData.depth, layT r, Bool.true_and]
  exact decide_eq_true (by omega)
theorem dpI {K : PySem.W.Frag} {H : Hp} : ∀ l : List Int, DpAll K H (l.map V.int) (l.map PyData.int)
  | [] => .nil
  | n :: r => .cons (.int n) (dpI r)
/-- lots as ints -/
def ci (c : List Nat) : List Int := c.map fun (i : Nat) => (i : Int)
theorem dpL {K : PySem.W.Frag} {H H' : Hp} : ∀ {r : List (List Nat)} {ts : List Addr}, CB.LotsAt H H' r ts → DpAll K H' (ts.map V.ref) ((r.map ci).map ti)
  | [], [], _ => .nil
  | c :: r, t :: ts, ⟨a, _, l⟩ => by
    have e : CB.lotV c = (ci c).map V.int := by simp [CB.lotV, ci]
    exact .cons (.tup (SqT.of (e ▸ a)) (dpI _)) (dpL l)
  | [], _ :: _, z => z.elim
  | _ :: _, [], z => z.elim
theorem any_ti (r : List (List Int)) (l : List Int) : (r.map ti).any (fun z => PyData.eqv z (ti l)) = decide (l ∈ r) := by
  induction r with
  | nil => simp
  | cons c r ih =>
    rw [List.map_cons, List.any_cons, ih, eqv_ti]
    by_cases h : c = l
    · subst h; simp
    · by_cases h2 : l ∈ r <;> simp [h, h2, Ne.symm h, eq_comm]
end DL

set_option maxHeartbeats 2000000
/-! The place of a lot. -/
namespace K2
open PySem PySem.Spec PyProof.Rows L2 CX4
abbrev sPl : Stmt := topS 9
theorem scPl : FnScope ["lot", "many", "alike", "wanted"] ["lot", "many"] (defScope sPl) := ⟨rfl, rfl, rfl, by decide +kernel, rfl, by decide +kernel, by decide +kernel⟩
section
variable {P : Program} {w : World} {K : PySem.W.Frag} {mg : Str → Option Value} {base : Heap} {C C2 D fI : Addr}
def spPlace (K : PySem.W.Frag) (C C2 : Addr) : Sp := fun vs H Q E => ∃ (t : Addr) (l : List Int) (n : Int), vs = [.ref t, .int n] ∧ (SqL K H t (l.map V.int) ∨ SqT K H t (l.map V.int)) ∧ (∀ i ∈ l, i.natAbs < 10 ^ 30) ∧ l.length ≤ 1000 ∧ n.natAbs < 10 ^ 30 ∧
  (¬ (0 ≤ n ∧ n ≤ 7) → Refuses C "BadCount" H E) ∧
  (0 ≤ n → n ≤ 7 → (¬ (l.length ≤ n.toNat ∧ ∃ c ∈ CB.combs n.toNat l.length, l = c.map fun (i : Nat) => (i : Int))) → ∀ (H' : Hp), Same H H' → Refuses C2 "BadLot" H' E) ∧
  (0 ≤ n → n ≤ 7 → l.length ≤ n.toNat → ∀ (j : Nat) (c : List Nat), (CB.combs n.toNat l.length)[j]? = some c → l = (c.map fun (i : Nat) => (i : Int)) → ∀ H', Same H H' → Q (.int j) H')
theorem sqT_same {H H' : Hp} {a : Addr} {xs : List V} (e : Same H H') (h : SqT K H a xs) : SqT K H' a xs := by
  rcases h with (h | ⟨o, h⟩) | h
  · exact .inl (.inl (e _ _ h))
  · exact .inl (.inr ⟨o, e _ _ h⟩)
  · exact .inr h
theorem lots_sameP {H H1 H2 : Hp} (s : Same H1 H2) : ∀ {r : List (List Nat)} {ts : List Addr}, CB.LotsAt H H1 r ts → CB.LotsAt H H2 r ts
  | [], [], _ => trivial
  | _ :: _, _ :: _, ⟨a, b, l⟩ => ⟨s _ _ a, b, lots_sameP s l⟩
  | [], _ :: _, z => z.elim
  | _ :: _, [], z => z.elim
theorem first_at {l : List Int} : ∀ {r : List (List Nat)}, l ∈ r.map DL.ci → ∃ (j : Nat) (c : List Nat), r[j]? = some c ∧ DL.ci c = l ∧ ∀ (m : Nat) (c2 : List Nat), m < j → r[m]? = some c2 → DL.ci c2 ≠ l
  | c :: r, h => by
    by_cases e : DL.ci c = l
    · exact ⟨0, c, rfl, e, fun m _ hm => absurd hm (Nat.not_lt_zero m)⟩
    · have h' : l ∈ r.map DL.ci := by
        rcases List.mem_cons.mp h with z | z
        · exact absurd z.symm e
        · exact z
      obtain ⟨j, c', h1, h2, h3⟩ := first_at h'
      refine ⟨j + 1, c', h1, h2, fun m c2 hm e2 => ?_⟩
      cases m with
      | zero => obtain rfl : c = c2 := Option.some.inj e2; exact e
      | succ m => exact h3 m c2 (by omega) e2
theorem ok_place {f g gl : Addr} {fd gd ld : FuncData} {nv2 : Value} (F : Fun K "place_of" "place_of" sPl f fd) (T : TxP P K mg C D fI) (cT2 : PySem.CleX.ClsTxt K C2 D fI nv2) (rw2 : RelV (.str "BadLot") nv2) (gC2 : mg "BadLot" = some (.ref C2))
    (ml : mg "len" = none) (mt : mg "tuple" = none)
    (G : FnOk P w K mg base (L2.CX P w) 3 g gd ["many"] (spChk C)) (gG : mg "_check_many" = some (.ref g)) (kG : PySem.W.keepIn K (.ref g) = true) (bG : Binds K gd ["many"] [])
    (GL : FnOk P w K mg base (L2.CX P w) 5 gl ld ["many", "size"] (spLots C)) (gL : mg "lots" = some (.ref gl)) (kL : PySem.W.keepIn K (.ref gl) = true) (bL : Binds K ld ["many", "size"] []) :
    FnOk P w K mg base (L2.CX P w) 6 f fd ["lot", "many"] (spPlace K C C2) := by
  refine F.okX scPl (fun vs H Q E ⟨t, l, n, e, _⟩ => by rw [e]; rfl) (fun cdv A outer s H vs Q E hr h => ?_)
  have u65 : (A.deeper (envOfC "place_of" (defScope sPl) s.heap.objs.size f cdv)).units + 65 < cLine := by
    have := hr.un
    omega
  refine ⟨_, pss_cons (ps_expr (by exact (pe_callS (E := WE fun cls d _ H => E cls d H) G (hr.mono (by decide)) rfl gG kG bG (fun σ => passAt (takes_of rfl rfl rfl rfl) σ) (by exact (pa_cons (pv 1) pa_nil)))))
    (pss_cons (ps_if (pt_cmpR op_gt (pe_callB call_len_seq (by rfl) ml PySem.boot_len (pa_cons (pv 0) pa_nil)) (pv 1) (nomark _))
      (pss_one (ps_cle rfl T.iT cT2 rw2 gC2 hr (takes_of rfl rfl rfl rfl) (by exact (pa_cons (pe_joined (.cons (pe_fmt (pe_callB call_len_seq (by rfl) ml PySem.boot_len (pa_cons (pv 0) pa_nil))) (.cons pe_str (.cons (pe_fmt (pv 1)) .nil)))) pa_nil)))) pss_nil)
    (pss_cons (ps_set (i := 2) scPl.nd rfl (Or.inl rfl) (by exact (pe_callS (E := WE fun cls d _ H => E cls d H) GL hr rfl gL kL bL (fun σ => passAt (takes_of rfl rfl rfl rfl) σ) (by exact (pa_cons (pv 1) (pa_cons (pe_callB call_len_seq (by rfl) ml PySem.boot_len (pa_cons (pv 0) pa_nil)) pa_nil))))))
    (pss_cons (ps_set (i := 3) scPl.nd rfl (Or.inl rfl) (pe_callTy call_tuple_of (by rfl) mt (by decide +kernel) (pa_cons (pv 0) pa_nil)))
    (pss_cons (ps_if (pt_cmpR (op_notInD u65) (pv 3) (pv 2) (by rfl))
      (pss_one (ps_cle rfl T.iT cT2 rw2 gC2 hr (takes_of rfl rfl rfl rfl) (by exact (pa_cons (pe_joined (.cons (FT.pe_fmtI hr (pv 3)) (.cons pe_str (.cons (pe_fmt (pv 1)) (.cons pe_str .nil))))) pa_nil)))) pss_nil)
    (pss_one (ps_ret (pe_bm PySem.F.plainAttrs_list PySem.F.slot_list_index PySem.F.type_list_index (mt_indexD u65) (pv 2) (pa_cons (pv 3) pa_nil)))))))), ?_⟩
  obtain ⟨t, l, n, rfl, hS, hb, hl, hn, k1, k2, k3⟩ := h
  refine ⟨_, rfl, n, rfl, hn, fun c => k1 c, fun n0 n7 => ?_⟩
  obtain ⟨a, rfl⟩ := Int.eq_ofNat_of_zero_le n0
  have ea : ((a : Int)).toNat = a := rfl
  rw [ea] at k2 k3
  replace k2 := k2 n0 n7
  replace k3 := k3 n0 n7
  have bl : (((l.map V.int).length : Nat) : Int).natAbs < 10 ^ 30 := by
    rw [List.length_map]
    have : (10 : Nat) ^ 30 = 1000000000000000000000000000000 := by decide
    omega
  have ll : (l.map V.int).length = l.length := List.length_map _
  have t1 : (Str.ofString " things are no lot of ").length ≤ 100 := lit_ok
  have t2 : (Str.ofString " is no lot of ").length ≤ 100 := lit_ok
  have t3 : (Str.ofString " things").length ≤ 100 := lit_ok
  refine ⟨_, rfl, t, _, rfl, hS, _, rfl, _, _, rfl, rfl, _, rfl, ?_⟩
  by_cases big : (a : Int) < ((l.map V.int).length : Nat)
  · refine if_t (decide_eq_true big) ?_
    exact ⟨_, rfl, t, _, rfl, hS, .inr ⟨_, rfl, log_ok bl, _, rfl, fits (j2 e0 (len_ok bl)), _, rfl, fits (j2 (j2 e0 (len_ok bl)) t1), _, rfl, .inr ⟨_, rfl, log_ok hn, _, rfl, fits (j2 (j2 (j2 e0 (len_ok bl)) t1) (len_ok hn)), _, rfl, k2 (fun z => by omega) H (Same.refl _)⟩⟩⟩
  · refine if_f (decide_eq_false big) ?_
    refine ⟨_, rfl, _, rfl, t, _, rfl, hS, a, _, rfl, hn, bl, fun c => absurd ⟨by omega, by omega, by omega, by omega⟩ c, fun a' b' e1 e2 _ _ F ts H2 s2 nF hF L => ?_⟩
    obtain rfl : a' = a := by omega
    obtain rfl : b' = l.length := by omega
    have en : ∀ j c, (CB.combs a' l.length)[j]? = some c → ((CB.combs a' l.length).map DL.ci)[j]? = some (DL.ci c) := fun j c e => by rw [List.getElem?_map, e]; rfl
    have mem : l ∈ (CB.combs a' l.length).map DL.ci ↔ ∃ c ∈ CB.combs a' l.length, l = c.map fun (i : Nat) => (i : Int) := by
      rw [List.mem_map]
      exact ⟨fun ⟨c, h1, h2⟩ => ⟨c, h1, h2.symm⟩, fun ⟨c, h1, h2⟩ => ⟨c, h1, h2.symm⟩⟩
    have hS2 := hS
    refine ⟨_, rfl, t, _, rfl, hS.elim (fun hS => .inl ⟨s2.seq hS, fun T nT => ?_⟩) (fun hS => .inr ⟨sqT_same s2 hS, ?_⟩)⟩
    all_goals
      first
        | (have s3 := same_new (o := .tup (l.map V.int)) nT; have hT := SqT.of (K := K) (H := upd H2 T (.tup (l.map V.int))) (a := T) upd_same)
        | (have s3 := Same.refl H2; have hT := sqT_same s2 hS)
      have sA := s2.trans s3
      have dF : Dp K _ (.ref F) (.list (((CB.combs a' l.length).map DL.ci).map DL.ti)) := .lst (SqL.of (s3 _ _ hF)) (DL.dpL (lots_sameP s3 L))
      refine ⟨_, rfl, _, rfl, DL.ti l, _, .tup hT (DL.dpI l), dF, DL.sh_ti l, DL.sh_lt _, _, rfl, ?_⟩
      rw [DL.any_ti]
      by_cases hm : l ∈ (CB.combs a' l.length).map DL.ci
      · refine if_f (by simp [hm]) ?_
        obtain ⟨j, c, hj, hc, hmin⟩ := first_at hm
        refine ⟨_, rfl, .inl ⟨rfl, _, SqL.of (s3 _ _ hF)⟩, _, rfl, F, _, DL.ti l, _, j, DL.ti (DL.ci c), rfl, rfl, dF, .tup hT (DL.dpI l), DL.sh_lt _, DL.sh_ti l, by rw [List.getElem?_map, en j c hj]; rfl, by rw [DL.eqv_ti]; exact decide_eq_true hc, fun m z hm' hz => ?_, k3 (by omega) j c hj hc.symm _ sA⟩
        rw [List.getElem?_map, List.getElem?_map] at hz
        cases e : (CB.combs a' l.length)[m]? with
        | none => rw [e] at hz; cases hz
        | some c2 =>
          rw [e] at hz
          obtain rfl : DL.ti (DL.ci c2) = z := Option.some.inj hz
          rw [DL.eqv_ti]
          exact decide_eq_false (hmin m c2 hm' e)
      · refine if_t (by simp [hm]) ?_
        exact ⟨_, rfl, _, l, rfl, hT, hb, by omega, fun m hlen => ⟨m, rfl, fits (j2 e0 hlen) (by omega), _, rfl, fits (j2 (j2 e0 hlen) t2) (by omega), _, rfl, .inr ⟨_, rfl, log_ok hn, _, rfl, fits (j2 (j2 (j2 e0 hlen) t2) (len_ok hn)) (by omega), _, rfl, fits (j2 (j2 (j2 (j2 e0 hlen) t2) (len_ok hn)) t3) (by omega), _, rfl, k2 (fun z => hm (mem.mpr z.2)) _ sA⟩⟩⟩
end
end K2

set_option maxHeartbeats 1000000
/-! zip(a, b), each of them a list, a tuple or a text -/
namespace ZM
open PySem PySem.Spec PyProof.Rows L2
/-- what is walked -/
inductive Sk where
  | lst (a : Addr)
  | tup (a : Addr)
  | txt (x : Str)
def Sk.v : Sk → V
  | .lst a => .ref a
  | .tup a => .ref a
  | .txt x => .str x
def Sk.at : Sk → List Addr
  | .lst a => [a]
  | .tup a => [a]
  | .txt _ => []
def signs (x : Str) : List V := x.cps.toList.map fun c => V.str ⟨#[c]⟩
def Src (K : PySem.W.Frag) (H : Hp) : Sk → List V → Prop
  | .lst a, xs => SqL K H a xs
  | .tup a, xs => SqT K H a xs
  | .txt x, xs => xs = signs x
/-- its iterator, at place i -/
def Stands (h : Heap) (it : Addr) (t : Tok) (i : Nat) : Sk → Prop
  | .lst a => h.IsListIter it a i
  | .tup a => h.IsTupleIter it a i
  | .txt x => h.IsStrIter it (strIterType x) x t i
def cells (it : Addr) (k : Sk) : List Addr := it :: k.at
theorem sqT_sm {K : PySem.W.Frag} {H H' : Hp} {a : Addr} {xs : List V} (s : Same H H') (h : SqT K H a xs) : SqT K H' a xs := by
  rcases h with h | h
  · rcases h with h | h
    · exact .inl (.inl (s _ _ h))
    · exact .inl (.inr (h.imp fun o q => s _ _ q))
  · exact .inr h
theorem find_rel {xs : List V} {us : List Value} (r : Vals xs us) {i : Nat} {u : Value} (h : us[i]? = some u) : ∃ x, xs[i]? = some x ∧ RelV x u := by
  have hi := (List.getElem?_eq_some_iff.mp h).1
  have hl := r.length
  have hx := List.getElem?_eq_getElem (show i < xs.length by omega)
  obtain ⟨v, hv, rv⟩ := r.get hx
  rw [h] at hv
  cases hv
  exact ⟨_, hx, rv⟩
theorem ad {a n m : Nat} (h : n ≠ m) : a + n ≠ a + m := by omega
theorem src_same {K : PySem.W.Frag} {H H' : Hp} {k : Sk} {xs : List V} (h : Src K H k xs) (s : Same H H') : Src K H' k xs := by
  cases k with
  | lst a => exact s.seq h
  | tup a => exact sqT_sm s h
  | txt x => exact h
section
variable {X : Cx} {pins : List (Addr × Obj)} {σ : L2.St} {H : Hp} {s : Shared} {k k1 k2 : Sk} {xs ys : List V} {it : Addr} {t t1 t2 : Tok} {i : Nat}
theorem src_inj (I : Inv X pins σ H s) (h1 : Src X.K H k xs) (h2 : Src X.K H k ys) : xs = ys := by
  cases k with
  | lst a => exact I.list_inj h1 h2
  | tup a => exact I.tuple_inj h1 h2
  | txt x => exact (show xs = signs x from h1).trans (show ys = signs x from h2).symm
theorem stands_at {h h' : Heap} (st : Stands h it t i k) (q : ∀ o, h.get? it = some o → h'.get? it = some o) : Stands h' it t i k := by
  cases k with
  | lst a => exact Heap.IsListIter.at (show h.IsListIter it a i from st) q
  | tup a => exact Heap.IsTupleIter.at (show h.IsTupleIter it a i from st) q
  | txt x => exact let ⟨o, ho, r⟩ := (show h.IsStrIter it (strIterType x) x t i from st); ⟨o, q o ho, r⟩
theorem stands_obj {h : Heap} (st : Stands h it t i k) : ∃ o, h.get? it = some o ∧ ∀ v, o.data ≠ .cell v := by
  cases k with
  | lst a => obtain ⟨o, e, _, d⟩ := (show h.IsListIter it a i from st); exact ⟨o, e, fun v q => by rw [d] at q; cases q⟩
  | tup a => obtain ⟨o, e, _, d⟩ := (show h.IsTupleIter it a i from st); exact ⟨o, e, fun v q => by rw [d] at q; cases q⟩
  | txt x => obtain ⟨o, e, _, d⟩ := (show h.IsStrIter it (strIterType x) x t i from st); exact ⟨o, e, fun v q => by rw [d] at q; cases q⟩
/-- what an iterator draws -/
theorem draws (I : Inv X pins σ H s) (hc : X.calm = true) (hq : Src X.K H k xs) (st : Stands s.heap it t i k) (ap : ∀ a ∈ k.at, a ≠ it) :
    ∃ (Pv : Nat → Value → Prop) (St : Nat → Heap → Prop), Draws X.prog X.w X.A.in1 it (cells it k) xs.length Pv St ∧ St i s.heap ∧ (∀ i h, St i h → Stands h it t i k) ∧ ∀ i u, Pv i u → ∃ x, xs[i]? = some x ∧ RelV x u := by
  cases k with
  | lst a =>
    obtain ⟨its, rv, p, _⟩ := I.list hq
    have D := Draws.list (prog := X.prog) (w := X.w) (A := X.A.in1) (I.ok.hd hc) it a (ap a (by simp [Sk.at])) its.toArray
    rw [List.size_toArray, ← rv.length] at D
    exact ⟨_, _, D, ⟨st, p.isList⟩, fun i h q => q.1, fun i u hu => by
      have hu' : its[i]? = some u := by simpa using hu
      exact find_rel rv hu'⟩
  | tup a =>
    obtain ⟨its, rv, p, _⟩ := I.tuple hq
    have D := Draws.tuple (prog := X.prog) (w := X.w) (A := X.A.in1) (I.ok.hd hc) it a (ap a (by simp [Sk.at])) its.toArray
    rw [List.size_toArray, ← rv.length] at D
    exact ⟨_, _, D, ⟨st, p⟩, fun i h q => q.1, fun i u hu => by
      have hu' : its[i]? = some u := by simpa using hu
      exact find_rel rv hu'⟩
  | txt x =>
    have e : xs = signs x := hq
    have D := Draws.text (prog := X.prog) (w := X.w) (A := X.A.in1) (I.ok.hd hc) it x t
    have l : x.cps.size = xs.length := by rw [e, signs, List.length_map, Array.length_toList]
    rw [l] at D
    refine ⟨_, _, D, st, fun i h q => q, fun i u hu => ?_⟩
    obtain ⟨c, tk, h1, rfl⟩ := hu
    refine ⟨.str ⟨#[c]⟩, ?_, _, rfl⟩
    rw [e, signs, List.getElem?_map, Array.getElem?_toList, h1]
    rfl
end
def ItZ (K : PySem.W.Frag) (k1 k2 : Sk) : It where
  go := fun i H => ∃ (xs ys : List V) (x y : V), Src K H k1 xs ∧ Src K H k2 ys ∧ xs[i]? = some x ∧ ys[i]? = some y
  yld := fun i H v H' => ∃ T x y, v = .ref T ∧ H T = none ∧ H' = upd H T (.tup [x, y]) ∧ (∀ xs, Src K H k1 xs → xs[i]? = some x) ∧ ∀ ys, Src K H k2 ys → ys[i]? = some y
  stop := fun i H => ∃ xs ys : List V, Src K H k1 xs ∧ Src K H k2 ys ∧ i ≤ xs.length ∧ i ≤ ys.length ∧ (i = xs.length ∨ i = ys.length)
theorem turn_z {P : Program} {w : World} {K : PySem.W.Frag} {elts : List Expr} {kk : Nat} {tpos : Pos} {k1 k2 : Sk} {t1 t2 : Tok} {z TI TO i1 i2 : Addr} (S : ZipSep2 z TI TO i1 i2 (cells i1 k1) (cells i2 k2)) (nI : i1 ≠ i2) (nd1 : ∀ a ∈ k1.at, a ≠ i1) (nd2 : ∀ a ∈ k2.at, a ≠ i2) :
    Turn P w K (.Tuple elts kk tpos) (ItZ K k1 k2) [z, TI, TO, i1, i2] z (fun i h => IsZip h z TI TO .none ∧ IsTupOf2 h TI (.ref i1) (.ref i2) ∧ (∃ x y, IsTupOf2 h TO x y) ∧ Stands h i1 t1 i k1 ∧ Stands h i2 t2 i k2) where
  mem := List.mem_cons_self
  obj := fun i h st c hc => by
    obtain ⟨hz, hTI, ⟨x, y, hTO⟩, h1, h2⟩ := st
    simp only [List.mem_cons, List.not_mem_nil, or_false] at hc
    rcases hc with rfl | rfl | rfl | rfl | rfl
    · exact ⟨_, hz, fun v q => nomatch q⟩
    · exact ⟨_, hTI, fun v q => nomatch q⟩
    · exact ⟨_, hTO, fun v q => nomatch q⟩
    · exact stands_obj h1
    · exact stands_obj h2
  keep := fun i h h' st k => by
    obtain ⟨hz, hTI, ⟨x, y, hTO⟩, h1, h2⟩ := st
    exact ⟨k _ (by simp) _ hz, k _ (by simp) _ hTI, ⟨x, y, k _ (by simp) _ hTO⟩, stands_at h1 fun o q => k _ (by simp) o q, stands_at h2 fun o q => k _ (by simp) o q⟩
  item := by
    rintro X rfl rfl rfl hc i pins s σ H E I hf ⟨hz, hTI, ⟨x0, y0, hTO⟩, h1, h2⟩ ⟨xs, ys, x, y, hqx, hqy, hx, hy⟩
    obtain ⟨P1, St1, D1, s1, b1, r1⟩ := draws I hc hqx h1 nd1
    obtain ⟨P2, St2, D2, s2, b2, r2⟩ := draws I hc hqy h2 nd2
    have zl : z < s.heap.objs.size := Heap.lt_size hz
    refine wpAny_pyNext_zipD2_item S D1 D2 hz hTI hTO s1 s2 (List.getElem?_eq_some_iff.mp hx).1 (List.getElem?_eq_some_iff.mp hy).1 fun u1 u2 h' tk p1 p2 z' TO' d1 d2 hT hsz hk => ?_
    obtain ⟨x', ex, rx⟩ := r1 _ _ p1
    obtain ⟨y', ey, ry⟩ := r2 _ _ p2
    refine ⟨_, rfl, wpAny_letOwnedTupleGo_zip (s := { s with heap := h', toks := tk }) z' fun h'' z'' sb => ?_⟩
    have hT2 : h''.get? s.heap.objs.size = some { cls := .type "tuple", data := .seq #[u1, u2] } := (sb.2 _ (Nat.ne_of_gt zl)).trans hT
    have pairOk : ObjOk X.prog X.w (upd H s.heap.objs.size (.tup [x', y'])) h'' s.heap.objs.size (.tup [x', y']) :=
      ⟨by show 2 ≤ sizeLine; decide, [u1, u2], .cons rx (.cons ry .nil), _, hT2, rfl, _, rfl⟩
    have stays : ∀ c oc, c ∉ [z, TI, TO, i1, i2] → s.heap.get? c = some oc → h''.get? c = some oc := fun c oc hn q => by
      simp only [List.mem_cons, List.not_mem_nil, or_false, not_or] at hn
      exact (sb.2 c hn.1).trans (hk c oc hn.1 hn.2.2.1 hn.2.2.2.1 hn.2.2.2.2 q)
    have I1 : Inv X pins σ (upd H s.heap.objs.size (.tup [x', y'])) { s with heap := h'', toks := tk } := I.turnedNew stays hf (Nat.le_refl _) pairOk
    refine ⟨.ref s.heap.objs.size, _, I1, rfl, ⟨_, x', y', rfl, I.hok.fresh (Nat.le_refl _), rfl, fun l hl => by rw [src_inj I hl hqx]; exact ex, fun l hl => by rw [src_inj I hl hqy]; exact ey⟩,
      ⟨z'', (sb.2 _ S.TIz).trans (hk _ _ S.TIz S.TITO S.TIi1 S.TIi2 hTI), ⟨u1, u2, (sb.2 _ S.TOz).trans TO'⟩, stands_at (b1 _ _ d1) fun o q => (sb.2 _ S.zi1.symm).trans q, stands_at (b2 _ _ d2) fun o q => (sb.2 _ S.zi2.symm).trans q⟩, fun c hcm => ?_⟩
    have hlt : c < s.heap.objs.size := by
      have hcm' := hcm
      simp only [List.mem_cons, List.not_mem_nil, or_false] at hcm'
      rcases hcm' with rfl | rfl | rfl | rfl | rfl
      · exact zl
      · exact Heap.lt_size hTI
      · exact Heap.lt_size hTO
      · obtain ⟨_, q, _⟩ := stands_obj h1; exact Heap.lt_size q
      · obtain ⟨_, q, _⟩ := stands_obj h2; exact Heap.lt_size q
    rw [upd_ne (Nat.ne_of_lt hlt)]
    exact (hf c hcm).1
  done := by
    rintro X rfl rfl rfl hc i pins s σ H E I hf ⟨hz, hTI, ⟨x0, y0, hTO⟩, h1, h2⟩ ⟨xs, ys, hqx, hqy, l1, l2, hend⟩
    obtain ⟨P1, St1, D1, s1, b1, r1⟩ := draws I hc hqx h1 nd1
    obtain ⟨P2, St2, D2, s2, b2, r2⟩ := draws I hc hqy h2 nd2
    refine wpAny_pyNext_zipD2_end S D1 D2 hz hTI hTO s1 s2 l1 l2 hend fun h' tk hk => ⟨rfl, ?_⟩
    exact I.turnedL (ch := [z, TI, TO, i1, i2]) (fun c o hb q => hk c o (fun e => hb (by simp [e])) (fun e => hb (by simp [e])) (fun e => hb (by simp [e])) (fun e => hb (by simp [e])) q) hf
  self := fun A i s Q E st h => wpAny_pyIter_zip st.1 h
def iZ (K : PySem.W.Frag) (ta : TA) : TI := fun σ H R => ta σ H fun vs H1 => ∃ (k1 k2 : Sk) (xs ys : List V), vs = [k1.v, k2.v] ∧ Src K H1 k1 xs ∧ Src K H1 k2 ys ∧ R (ItZ K k1 k2) H1
/-- how a source's walk begins -/
theorem begins {X : Cx} {pins : List (Addr × Obj)} {σ : L2.St} {H : Hp} {s : Shared} {k : Sk} {xs : List V} {u : Value} (I : Inv X pins σ H s) (hq : Src X.K H k xs) (r : RelV k.v u) :
    ∃ (o : Obj) (Hp : Heap → Prop) (t : Tok), Begins u o Hp ∧ Hp s.heap ∧ (∀ a ∈ k.at, a < s.heap.objs.size) ∧ ∀ (h : Heap) (it : Addr), h.get? it = some o → Stands h it t 0 k := by
  cases k with
  | lst a =>
    cases r
    obtain ⟨its, rv, p, _⟩ := I.list hq
    exact ⟨_, _, 0, begins_list a its.toArray, p.isList, fun b hb => by rw [List.mem_singleton.mp hb]; exact p.lt, fun h it e => ⟨_, e, rfl, rfl⟩⟩
  | tup a =>
    cases r
    obtain ⟨its, rv, p, _⟩ := I.tuple hq
    exact ⟨_, _, 0, begins_tuple a its.toArray, p, fun b hb => by rw [List.mem_singleton.mp hb]; exact IsTup.lt p, fun h it e => ⟨_, e, rfl, rfl⟩⟩
  | txt x =>
    obtain ⟨t, rfl⟩ := r
    exact ⟨_, _, t, begins_text x t, trivial, fun b hb => absurd hb (by simp [Sk.at]), fun h it e => ⟨_, e, rfl, rfl⟩⟩
theorem pi_z {X : Cx} {e e2 : Expr} {ta : TA} {p pos tpos : Pos} {elts : List Expr} {kk : Nat} (hg : Gl X "zip") (hm : X.mg "zip" = none) (ha : PA X [e, e2] ta)
    (hs : starEach [e, e2] X.env = (false, eval e X.env) :: starEach [e2] X.env := by rfl) (hpl : (backTo pos (starEach [e2] X.env)).any (·.1) = false := by rfl) :
    PI X (.Tuple elts kk tpos) (.Call (.Name "zip" p) [e, e2] [] pos) (iZ X.K ta) := by
  refine ⟨fun pins s σ H R I h => Call_ (ld_blt I hg hm PyProof.Rows.boot_zip (PyProof.Rows.callWith_type1 (thn (ha.run pos pins s σ H _ I h) fun us s1 h1 => ?_) hs hpl))⟩
  obtain ⟨vs, H1, I1, r1, k1, k2, xs, ys, rfl, hx, hy, q⟩ := h1
  cases r1 with
  | cons ru rr =>
    cases rr with
    | cons rw rr =>
      cases rr
      obtain ⟨o1, G1, t1, B1, g1, lt1, w1⟩ := begins I1 hx ru
      obtain ⟨o2, G2, t2, B2, g2, lt2, w2⟩ := begins I1 hy rw
      refine zip_begins2 B1 B2 g1 g2 fun h' hz hTI hTO e1 e2 hsz hk => wpAny_pyIter_zip hz ?_
      have I2 : Inv X pins σ H1 { s1 with heap := h' } := I1.kept (t' := s1.toks) hk
      have far : ∀ (k : Sk) (n j : Nat), (∀ a ∈ k.at, a < s1.heap.objs.size) → n ≠ j → s1.heap.objs.size + n ∉ cells (s1.heap.objs.size + j) k := fun k n j hl hn hc => by
        rcases List.mem_cons.mp hc with z | z
        · exact ad hn z
        · exact Nat.not_lt_of_le (Nat.le_add_right _ _) (hl _ z)
      have S : ZipSep2 (s1.heap.objs.size + 4) (s1.heap.objs.size + 2) (s1.heap.objs.size + 3) s1.heap.objs.size (s1.heap.objs.size + 1) (cells s1.heap.objs.size k1) (cells (s1.heap.objs.size + 1) k2) :=
        { TIz := ad (by decide), TOz := ad (by decide), TITO := ad (by decide), TIi1 := ad (n := 2) (m := 0) (by decide), TIi2 := ad (by decide), mem1 := List.mem_cons_self, mem2 := List.mem_cons_self,
          zf1 := far k1 4 0 lt1 (by decide), Tf1 := far k1 3 0 lt1 (by decide), zf2 := far k2 4 1 lt2 (by decide), Tf2 := far k2 3 1 lt2 (by decide), sep1_2 := far k2 0 1 lt2 (by decide), sep2_1 := far k1 1 0 lt1 (by decide) }
      refine ⟨s1.heap.objs.size + 4, [s1.heap.objs.size + 4, s1.heap.objs.size + 2, s1.heap.objs.size + 3, s1.heap.objs.size, s1.heap.objs.size + 1], _, _, H1, rfl, I2,
        turn_z (t1 := t1) (t2 := t2) S (ad (n := 0) (m := 1) (by decide)) (fun a h => Nat.ne_of_lt (lt1 a h)) (fun a h => Nat.ne_of_lt (Nat.lt_succ_of_lt (lt2 a h))), ⟨hz, hTI, ⟨_, _, hTO⟩, w1 _ _ e1, w2 _ _ e2⟩, fun c hc => ?_, q⟩
      have hle : s1.heap.objs.size ≤ c := by
        simp only [List.mem_cons, List.not_mem_nil, or_false] at hc
        rcases hc with e | e | e | e | e
        · rw [e]; exact Nat.le_add_right _ _
        · rw [e]; exact Nat.le_add_right _ _
        · rw [e]; exact Nat.le_add_right _ _
        · rw [e]; exact Nat.le_refl _
        · rw [e]; exact Nat.le_add_right _ _
      exact I1.fpOk hle (I1.hok.fresh hle)
/-- a comprehension over zip of two of one length, that the block leaves as they are -/
theorem lc_z {K : PySem.W.Frag} {k1 k2 : Sk} {xs ys : List V} {g : TG} {tt : TT} {te : TE} {vs : List Nat} {σ : L2.St} {H1 : Hp} {D : Addr} {Qd : Hp → Prop} (hl : xs.length = ys.length) (Pv : Nat → Hp → Prop) (h0 : Pv 0 (upd H1 D (.lst []))) (hq : ∀ i H, Pv i H → Src K H k1 xs ∧ Src K H k2 ys)
    (hs : ∀ i x y T H, xs[i]? = some x → ys[i]? = some y → Pv i H → H T = none → g (.ref T) (wipe σ vs) (upd H T (.tup [x, y])) fun σ2 H2 => wipe σ2 vs = wipe σ vs ∧ tt σ2 H2 fun b H3 =>
      if b = true then te σ2 H3 fun y H4 => ∃ acc, H4 D = some (.lst acc) ∧ acc.length < sizeLine ∧ Pv (i + 1) (upd H4 D (.lst (acc ++ [y]))) else Pv (i + 1) H3) (hd : ∀ H, Pv xs.length H → Qd H) :
    ∃ W : Nat → Nat → Hp → Prop, (∃ m, W 0 m (upd H1 D (.lst []))) ∧ ∀ i m H, W i m H →
      ((ItZ K k1 k2).stop i H ∧ Qd H) ∨ ((ItZ K k1 k2).go i H ∧ ∃ Nx : Hp → Prop, (∀ H', Nx H' → ∃ m', m' < m ∧ W (i + 1) m' H') ∧ ∀ x H', (ItZ K k1 k2).yld i H x H' → g x (wipe σ vs) H' fun σ2 H2 => wipe σ2 vs = wipe σ vs ∧ tt σ2 H2 fun b H3 =>
        if b = true then te σ2 H3 fun y H4 => ∃ acc, H4 D = some (.lst acc) ∧ acc.length < sizeLine ∧ Nx (upd H4 D (.lst (acc ++ [y]))) else Nx H3) := by
  refine ⟨fun i m H => m + i = xs.length ∧ Pv i H, ⟨xs.length, rfl, h0⟩, fun i m H ⟨em, p⟩ => ?_⟩
  obtain ⟨qx, qy⟩ := hq i H p
  by_cases c : i < xs.length
  · have cx := List.getElem?_eq_getElem c
    have cy := List.getElem?_eq_getElem (show i < ys.length by omega)
    refine .inr ⟨⟨xs, ys, _, _, qx, qy, cx, cy⟩, Pv (i + 1), fun H' p' => ⟨m - 1, by omega, by omega, p'⟩, fun v H' hv => ?_⟩
    obtain ⟨T, x, y, rfl, nT, rfl, f1, f2⟩ := hv
    exact hs i x y T H (f1 _ qx) (f2 _ qy) p nT
  · have e : i = xs.length := by omega
    subst e
    exact .inl ⟨⟨xs, ys, qx, qy, Nat.le_refl _, by omega, .inl rfl⟩, hd H p⟩
/-- a list or a tuple walked -/
def iSq (K : PySem.W.Frag) (te : TE) : TI := fun σ H R => te σ H fun v H1 => ∃ (a : Addr) (xs : List V), v = .ref a ∧ ((SqL K H1 a xs ∧ R (Itl K a) H1) ∨ (SqT K H1 a xs ∧ R (Itt K a) H1))
theorem pi_sq {X : Cx} {tg e : Expr} {te : TE} (he : PE X e te) : PI X tg e (iSq X.K te) := by
  refine ⟨fun pins s σ H R I h => thn (he.run pins s σ H _ I h) fun u s1 h1 => ?_⟩
  obtain ⟨v, H1, I1, rv, a, xs, rfl, q⟩ := h1
  have new : ∀ c ∈ [s1.heap.objs.size], FpOk X pins H1 c := fun c hc => by
    rw [List.mem_singleton.mp hc]
    exact I1.fpOk (Nat.le_refl _) (I1.hok.fresh (Nat.le_refl _))
  cases rv
  rcases q with ⟨hq, q⟩ | ⟨hq, q⟩
  · obtain ⟨its, r, p, _⟩ := I1.list hq
    exact wpAny_pyIter_list p.isList ⟨_, [s1.heap.objs.size], _, _, H1, rfl, I1.kept (t' := s1.toks) fun b o x => Heap.get?_push_of_some _ x, turn_list a _, ⟨_, Heap.get?_push_size _ rfl, rfl, rfl⟩, new, q⟩
  · obtain ⟨its, r, p, _⟩ := I1.tuple hq
    exact wpAny_pyIter_tuple (show s1.heap.IsTuple a its.toArray from p) ⟨_, [s1.heap.objs.size], _, _, H1, rfl, I1.kept (t' := s1.toks) fun b o x => Heap.get?_push_of_some _ x, turn_tuple a _, ⟨_, Heap.get?_push_size _ rfl, rfl, rfl⟩, new, q⟩
end ZM

set_option maxHeartbeats 1000000
/-! comprehensions that give one value a turn and change nothing that stood -/
namespace ZM
open PySem PySem.Spec PyProof.Rows L2
theorem sm_new {H : Hp} {p : Addr} {o : HO} (h : H p = none) : Same H (upd H p o) := fun b x e => by
  rw [upd_ne (fun z => by rw [z, h] at e; cases e)]
  exact e
theorem sm_at {H H' : Hp} {D : Addr} {o : HO} (hD : H D = none) (s : Same H H') : Same H (upd H' D o) := fun b x e => by
  rw [upd_ne (fun z => by rw [z, hD] at e; cases e)]
  exact s _ _ e
theorem take_next {ys : List V} {i : Nat} {y : V} (h : ys[i]? = some y) : ys.take i ++ [y] = ys.take (i + 1) := by
  rw [List.take_add_one, h]
  rfl
/-- a reading that is not looked into -/
structure Bx (t : TE) (σ : L2.St) (H : Hp) (Q : VK) : Prop where
  run : t σ H Q
theorem pe_bx {X : Cx} {e : Expr} {t : TE} (h : PE X e t) : PE X e (Bx t) := ⟨fun pins s σ H Q I b => h.run pins s σ H Q I b.run⟩
theorem ps_bx {X : Cx} {st : Stmt} {t : TE} {g : TG} (h : PS X st (tAsg t g)) : PS X st (tAsg (Bx t) g) := ⟨fun pins s σ H D I b => h.run pins s σ H D I (Bx.run b)⟩
/-- the rest of a comprehension -/
def Lc (g : TG) (tt : TT) (te : TE) (vs : List Nat) (σ : L2.St) (Q : VK) : It → Hp → Prop := fun J H1 => ∀ D, H1 D = none → ∃ W : Nat → Nat → Hp → Prop, (∃ m, W 0 m (upd H1 D (.lst []))) ∧ ∀ i m H, W i m H →
  (J.stop i H ∧ Q (.ref D) H) ∨ (J.go i H ∧ ∃ Nx : Hp → Prop, (∀ H', Nx H' → ∃ m', m' < m ∧ W (i + 1) m' H') ∧ ∀ x H', J.yld i H x H' → g x (wipe σ vs) H' fun σ2 H2 => wipe σ2 vs = wipe σ vs ∧ tt σ2 H2 fun b H3 =>
    if b = true then te σ2 H3 fun y H4 => ∃ acc, H4 D = some (.lst acc) ∧ acc.length < sizeLine ∧ Nx (upd H4 D (.lst (acc ++ [y]))) else Nx H3)
theorem acc_ok {ys : List V} {i : Nat} (z : ys.length ≤ 1000000) (h : i < ys.length) : (ys.take i).length < sizeLine := by
  rw [List.length_take, sizeLine_eq]
  omega
section
variable {K : PySem.W.Frag} {te : TE} {vs : List Nat} {σ : L2.St} {H1 : Hp} {Q : VK} {xs ys : List V} {a : Addr} {j j2 : Nat}
theorem map_sq (hq : SqL K H1 a xs ∨ SqT K H1 a xs) (ly : ys.length = xs.length) (z : ys.length ≤ 1000000) (hw : ∀ x, wipe ((wipe σ vs).set j (some x)) vs = wipe σ vs)
    (hs : ∀ (i : Nat) (x y : V) (H : Hp) (R : VK), xs[i]? = some x → ys[i]? = some y → Same H1 H → (∀ H4, Same H H4 → R y H4) → te ((wipe σ vs).set j (some x)) H R) (hd : ∀ D H, Same H1 H → H1 D = none → H D = some (.lst ys) → Q (.ref D) H) :
    (SqL K H1 a xs ∧ Lc (gName j) tYes te vs σ Q (Itl K a) H1) ∨ (SqT K H1 a xs ∧ Lc (gName j) tYes te vs σ Q (Itt K a) H1) := by
  have turn : ∀ (D : Addr), H1 D = none → ∀ (i : Nat) (x : V) (H : Hp), xs[i]? = some x → (Same H1 H ∧ H D = some (.lst (ys.take i))) → (gName j) x (wipe σ vs) H fun σ2 H2 => wipe σ2 vs = wipe σ vs ∧ tYes σ2 H2 fun b H3 =>
      if b = true then te σ2 H3 fun y H4 => ∃ acc, H4 D = some (.lst acc) ∧ acc.length < sizeLine ∧ (Same H1 (upd H4 D (.lst (acc ++ [y]))) ∧ (upd H4 D (.lst (acc ++ [y]))) D = some (.lst (ys.take (i + 1)))) else (Same H1 H3 ∧ H3 D = some (.lst (ys.take (i + 1)))) := by
    intro D nD i x H hx ⟨sm, hD⟩
    have li := (List.getElem?_eq_some_iff.mp hx).1
    have hy := List.getElem?_eq_getElem (show i < ys.length by omega)
    refine ⟨hw x, ?_⟩
    show te _ H _
    refine hs i x _ H _ hx hy sm fun H4 s4 => ⟨_, s4 _ _ hD, acc_ok z (by omega), sm_at nD (sm.trans s4), ?_⟩
    rw [upd_same, take_next hy]
  have start : ∀ D, H1 D = none → Same H1 (upd H1 D (.lst [])) ∧ (upd H1 D (.lst [])) D = some (.lst (ys.take 0)) := fun D nD => ⟨sm_new nD, upd_same⟩
  have fin : ∀ D H, H1 D = none → (Same H1 H ∧ H D = some (.lst (ys.take xs.length))) → Q (.ref D) H := fun D H nD h => by
    refine hd D H h.1 nD ?_
    rw [h.2, ← ly, List.take_length]
  rcases hq with hq | hq
  · exact .inl ⟨hq, fun D nD => lc_list (K := K) (a := a) (xs := xs) (fun i H => Same H1 H ∧ H D = some (.lst (ys.take i))) (start D nD) (fun i H _ p => p.1.seq hq) (turn D nD) (fun H p => fin D H nD p)⟩
  · exact .inr ⟨hq, fun D nD => lc_tup (K := K) (a := a) (xs := xs) (fun i H => Same H1 H ∧ H D = some (.lst (ys.take i))) (start D nD) (fun i H _ p => sqT_sm p.1 hq) (turn D nD) (fun H p => fin D H nD p)⟩
theorem map_rng {lo : Int} {n : Nat} (ly : ys.length = n) (z : ys.length ≤ 1000000) (hw : ∀ x, wipe ((wipe σ vs).set j (some x)) vs = wipe σ vs)
    (hs : ∀ (i : Nat) (y : V) (H : Hp) (R : VK), i < n → ys[i]? = some y → Same H1 H → (∀ H4, Same H H4 → R y H4) → te ((wipe σ vs).set j (some (.int (lo + i)))) H R) (hd : ∀ D H, Same H1 H → H1 D = none → H D = some (.lst ys) → Q (.ref D) H) :
    Lc (gName j) tYes te vs σ Q (Itr lo n) H1 := fun D nD => by
  refine lc_range (lo := lo) (n := n) (fun i H => Same H1 H ∧ H D = some (.lst (ys.take i))) ⟨sm_new nD, upd_same⟩ ?_ ?_
  · intro i H hi ⟨sm, hD⟩
    have hy := List.getElem?_eq_getElem (show i < ys.length by omega)
    refine ⟨hw _, ?_⟩
    show te _ H _
    refine hs i _ H _ hi hy sm fun H4 s4 => ⟨_, s4 _ _ hD, acc_ok z (by omega), sm_at nD (sm.trans s4), ?_⟩
    rw [upd_same, take_next hy]
  · intro H h
    refine hd D H h.1 nD ?_
    rw [h.2, ← ly, List.take_length]
theorem map_z {k1 k2 : Sk} {us : List V} (q1 : Src K H1 k1 xs) (q2 : Src K H1 k2 us) (lu : us.length = xs.length) (ly : ys.length = xs.length) (z : ys.length ≤ 1000000) (hw : ∀ x u, wipe (((wipe σ vs).set j (some x)).set j2 (some u)) vs = wipe σ vs)
    (hs : ∀ (i : Nat) (x u y : V) (H : Hp) (R : VK), xs[i]? = some x → us[i]? = some u → ys[i]? = some y → Same H1 H → (∀ H4, Same H H4 → R y H4) → te (((wipe σ vs).set j (some x)).set j2 (some u)) H R) (hd : ∀ D H, Same H1 H → H1 D = none → H D = some (.lst ys) → Q (.ref D) H) :
    Lc (gTup K 2 (gCons (gName j) (gCons (gName j2) gNil))) tYes te vs σ Q (ItZ K k1 k2) H1 := fun D nD => by
  refine lc_z (K := K) (k1 := k1) (k2 := k2) (xs := xs) (ys := us) lu.symm (fun i H => Same H1 H ∧ H D = some (.lst (ys.take i))) ⟨sm_new nD, upd_same⟩ (fun i H p => ⟨src_same q1 p.1, src_same q2 p.1⟩) ?_ ?_
  · intro i x u T H hx hu ⟨sm, hD⟩ nT
    have li := (List.getElem?_eq_some_iff.mp hx).1
    have hy := List.getElem?_eq_getElem (show i < ys.length by omega)
    have s2 := sm_new (o := .tup [x, u]) nT
    refine ⟨T, [x, u], rfl, SqT.of upd_same, rfl, _, _, rfl, _, _, rfl, rfl, hw x u, ?_⟩
    show te _ _ _
    refine hs i x u _ _ _ hx hu hy (sm.trans s2) fun H4 s4 => ⟨_, s4 _ _ (s2 _ _ hD), acc_ok z (by omega), sm_at nD (sm.trans (s2.trans s4)), ?_⟩
    rw [upd_same, take_next hy]
  · intro H h
    refine hd D H h.1 nD ?_
    rw [h.2, ← ly, List.take_length]
/-! the same, of the whole comprehension -/
variable {H : Hp}
theorem lcm_sq {t0 : TE} (h0 : ∀ R : VK, R (.ref a) H1 → t0 σ H R) (hq : SqL K H1 a xs ∨ SqT K H1 a xs) (ly : ys.length = xs.length) (z : ys.length ≤ 1000000) (hw : ∀ x, wipe ((wipe σ vs).set j (some x)) vs = wipe σ vs)
    (hs : ∀ (i : Nat) (x y : V) (H : Hp) (R : VK), xs[i]? = some x → ys[i]? = some y → Same H1 H → (∀ H4, Same H H4 → R y H4) → te ((wipe σ vs).set j (some x)) H R) (hd : ∀ D H, Same H1 H → H1 D = none → H D = some (.lst ys) → Q (.ref D) H) :
    Bx (tLc (iSq K t0) (gName j) tYes te vs) σ H Q := ⟨h0 _ ⟨a, xs, rfl, map_sq hq ly z hw hs hd⟩⟩
theorem lcm_rng {ta : TA} {n : Nat} (h0 : ∀ R : List V → Hp → Prop, R [.int (n : Int)] H1 → ta σ H R) (hn : n ≤ 1000000) (ly : ys.length = n) (hw : ∀ x, wipe ((wipe σ vs).set j (some x)) vs = wipe σ vs)
    (hs : ∀ (i : Nat) (y : V) (H : Hp) (R : VK), i < n → ys[i]? = some y → Same H1 H → (∀ H4, Same H H4 → R y H4) → te ((wipe σ vs).set j (some (.int (0 + (i : Int))))) H R) (hd : ∀ D H, Same H1 H → H1 D = none → H D = some (.lst ys) → Q (.ref D) H) :
    Bx (tLc (iRng1 ta) (gName j) tYes te vs) σ H Q := ⟨h0 _ ⟨n, rfl, by omega, by omega, by
      rw [Int.toNat_natCast]
      exact map_rng (lo := 0) ly (by omega) hw hs hd⟩⟩
theorem lcm_z {ta : TA} {k1 k2 : Sk} {us : List V} (h0 : ∀ R : List V → Hp → Prop, R [k1.v, k2.v] H1 → ta σ H R) (q1 : Src K H1 k1 xs) (q2 : Src K H1 k2 us) (lu : us.length = xs.length) (ly : ys.length = xs.length) (z : ys.length ≤ 1000000) (hw : ∀ x u, wipe (((wipe σ vs).set j (some x)).set j2 (some u)) vs = wipe σ vs)
    (hs : ∀ (i : Nat) (x u y : V) (H : Hp) (R : VK), xs[i]? = some x → us[i]? = some u → ys[i]? = some y → Same H1 H → (∀ H4, Same H H4 → R y H4) → te (((wipe σ vs).set j (some x)).set j2 (some u)) H R) (hd : ∀ D H, Same H1 H → H1 D = none → H D = some (.lst ys) → Q (.ref D) H) :
    Bx (tLc (iZ K ta) (gTup K 2 (gCons (gName j) (gCons (gName j2) gNil))) tYes te vs) σ H Q := ⟨h0 _ ⟨k1, k2, xs, us, rfl, q1, q2, map_z q1 q2 lu ly z hw hs hd⟩⟩
/-! the same with a word of one's own -/
theorem own_rng {ta : TA} {n : Nat} (Pv : Addr → Nat → Hp → Prop) (h0 : ∀ R : List V → Hp → Prop, R [.int (n : Int)] H1 → ta σ H R) (hn : n ≤ 1000000) (hw : ∀ x, wipe ((wipe σ vs).set j (some x)) vs = wipe σ vs) (start : ∀ D, H1 D = none → Pv D 0 (upd H1 D (.lst [])))
    (hs : ∀ (D : Addr) (i : Nat) (H : Hp), H1 D = none → i < n → Pv D i H → te ((wipe σ vs).set j (some (.int (0 + (i : Int))))) H fun y H4 => ∃ acc, H4 D = some (.lst acc) ∧ acc.length < sizeLine ∧ Pv D (i + 1) (upd H4 D (.lst (acc ++ [y])))) (hd : ∀ D H, H1 D = none → Pv D n H → Q (.ref D) H) :
    Bx (tLc (iRng1 ta) (gName j) tYes te vs) σ H Q := ⟨h0 _ ⟨n, rfl, by omega, by omega, by
      rw [Int.toNat_natCast]
      exact fun D nD => lc_range (lo := 0) (n := n) (Pv D) (start D nD) (fun i H hi p => ⟨hw _, hs D i H nD hi p⟩) (fun H p => hd D H nD p)⟩⟩
theorem own_lst {t0 : TE} (Pv : Addr → Nat → Hp → Prop) (h0 : ∀ R : VK, R (.ref a) H1 → t0 σ H R) (hq : SqL K H1 a xs) (hl : ∀ D i H, H1 D = none → Pv D i H → SqL K H a xs) (hw : ∀ x, wipe ((wipe σ vs).set j (some x)) vs = wipe σ vs) (start : ∀ D, H1 D = none → Pv D 0 (upd H1 D (.lst [])))
    (hs : ∀ (D : Addr) (i : Nat) (x : V) (H : Hp), H1 D = none → xs[i]? = some x → Pv D i H → te ((wipe σ vs).set j (some x)) H fun y H4 => ∃ acc, H4 D = some (.lst acc) ∧ acc.length < sizeLine ∧ Pv D (i + 1) (upd H4 D (.lst (acc ++ [y])))) (hd : ∀ D H, H1 D = none → Pv D xs.length H → Q (.ref D) H) :
    Bx (tLc (iList K t0) (gName j) tYes te vs) σ H Q := ⟨h0 _ ⟨a, rfl, ⟨xs, hq⟩, fun D nD => lc_list (K := K) (a := a) (xs := xs) (Pv D) (start D nD) (fun i H _ p => hl D i H nD p) (fun i x H hx p => ⟨hw _, hs D i x H nD hx p⟩) (fun H p => hd D H nD p)⟩⟩
end
theorem if_by {t : TT} {ta tb : TE} {σ : L2.St} {H : Hp} {Q : VK} (G : V → Hp → Prop) (h : ∀ R : VK, (∀ v H', G v H' → R v H') → tIf t ta tb σ H R) (k : ∀ v H', G v H' → Q v H') : Bx (tIf t ta tb) σ H Q := ⟨h Q k⟩
end ZM

set_option maxHeartbeats 4000000
/-! The law of k02. -/
namespace K2
open PySem PySem.Spec PyProof.Rows L2 LamX CX4
abbrev sTried : Stmt := topS 17
abbrev sLaw : Stmt := topS 19
theorem scTried : FnScope ["_law_ask", "e"] ["_law_ask"] (defScope sTried) := ⟨rfl, rfl, rfl, by decide +kernel, rfl, by decide +kernel, by decide +kernel⟩
abbrev nLaw : List Str := ["_law_script", "_law_bag_here", "_law_turn", "_law_many9", "_law_size", "_law_some", "_law_at", "_law_found", "_law_bad", "_law_odd", "_law_asks"]
theorem scLaw : FnScope nLaw ["_law_script"] (defScope sLaw) := ⟨rfl, rfl, rfl, by decide +kernel, rfl, by decide +kernel, by decide +kernel⟩
section
variable {P : Program} {w : World} {K : PySem.W.Frag} {mg : Str → Option Value} {base : Heap} {C C2 D fI : Addr}
/-! ### words for the law -/
theorem bag_ext {H H' : Hp} {b l : Addr} {ns : List Int} (B : BagAt l ns H b) (e : ExtN H H') : BagAt l ns H' b := by
  obtain ⟨i, bank, salt, c, hB, r⟩ := B.ex
  exact ⟨B.ne, e _ _ B.ls (fun ps z => by cases z), i, bank, salt, c, e _ _ hB (fun ps z => by cases z), r⟩
abbrev noV (c : Str) : List V := [.str "no", .str c]
abbrev noD : PyData := .list [.tuple [.str "no", .str "BadLot"], .tuple [.str "no", .str "BadCount"]]
theorem no_dp {H : Hp} {L p1 p2 : Addr} (hL : H L = some (.lst [.ref p1, .ref p2])) (h1 : H p1 = some (.tup (noV "BadLot"))) (h2 : H p2 = some (.tup (noV "BadCount"))) : Dp K H (.ref L) noD :=
  .lst (SqL.of hL) (.cons (.tup (SqT.of h1) (.cons (.str _) (.cons (.str _) .nil))) (.cons (.tup (SqT.of h2) (.cons (.str _) (.cons (.str _) .nil))) .nil))
theorem no_sh : SeqAt.shaped noD = true := by decide +kernel
theorem tabs_but {T : List (Addr × Str)} {H H' : Hp} {b : Addr} {xs : List V} (t : Tabs T H) (hb : H b = some (.lst xs)) (k : ∀ c o, c ≠ b → H c = some o → H' c = some o) : Tabs T H' := fun p hp => by
  obtain ⟨ps, h1, h2, h3⟩ := t p hp
  refine ⟨ps, k _ _ (fun z => by rw [z, hb] at h1; cases h1) h1, h2, fun pos cv hc => ?_⟩
  obtain ⟨c, e, hco⟩ := h3 pos cv hc
  exact ⟨c, e, k _ _ (fun z => by rw [z, hb] at hco; cases hco) hco⟩
theorem tabs_off {T : List (Addr × Str)} {H : Hp} {b l : Addr} {ns : List Int} (t : Tabs T H) (B : BagAt l ns H b) {ys : List V} : Tabs T (upd H b (.lst ys)) := by
  obtain ⟨xs, hb⟩ := B.at
  exact tabs_but t hb fun c o hc e => by rw [upd_ne hc]; exact e
theorem sz {n : Nat} (h : n ≤ 1000) : n ≤ sizeLine := by
  rw [sizeLine_eq]
  omega
theorem bx_by {t : TE} {σ : L2.St} {H : Hp} {Q : VK} (G : V → Hp → Prop) (h : ∀ R : VK, (∀ v H', G v H' → R v H') → t σ H R) (k : ∀ v H', G v H' → Q v H') : ZM.Bx t σ H Q := ⟨h Q k⟩
theorem combs_ok : ∀ a, a ≤ 7 → ∀ k, k ≤ a → (0 < (CB.combs a k).length ∧ (CB.combs a k).Nodup) := by
  have h : ((List.range 8).all fun a => (List.range (a + 1)).all fun k => decide (0 < (CB.combs a k).length) && decide ((CB.combs a k).Nodup)) = true := by decide +kernel
  intro a ha k hk
  have h1 := List.all_eq_true.mp h a (List.mem_range.mpr (by omega))
  have h2 := List.all_eq_true.mp h1 k (List.mem_range.mpr (by omega))
  simp only [Bool.and_eq_true, decide_eq_true_eq] at h2
  exact h2
theorem ci_inj : ∀ {c d : List Nat}, DL.ci c = DL.ci d → c = d
  | [], [], _ => rfl
  | x :: r, y :: s, h => by
    have e := List.cons.inj (show (x : Int) :: DL.ci r = (y : Int) :: DL.ci s from h)
    rw [Int.ofNat.inj e.1, ci_inj e.2]
  | [], y :: s, h => by cases h
  | x :: r, [], h => by cases h
theorem combs_at {a k i j : Nat} {c d : List Nat} (ha : a ≤ 7) (hk : k ≤ a) (h1 : (CB.combs a k)[i]? = some c) (h2 : (CB.combs a k)[j]? = some d) (e : DL.ci c = DL.ci d) : i = j := by
  obtain rfl := ci_inj e
  exact (List.getElem?_inj (List.getElem?_eq_some_iff.mp h1).1 (combs_ok a ha k hk).2).mp (h1.trans h2.symm)
/-- no lot of a things -/
def noLot (a : Nat) (l : List Int) : Prop := ¬ (l.length ≤ a ∧ ∃ c ∈ CB.combs a l.length, l = c.map fun (i : Nat) => (i : Int))
theorem no_by {a : Nat} (ha : a ≤ 7) {l : List Int} {x : Int} (hx : x ∈ l) (h : x < 0 ∨ (a : Int) ≤ x) : noLot a l := fun ⟨h1, c, hc, e⟩ => by
  have g := gen_len a ha l.length h1
  rw [gen_is a ha l.length h1] at g
  rw [e] at hx
  obtain ⟨y, hy, rfl⟩ := List.mem_map.mp hx
  have := (g.2 c hc).2 y hy
  omega
theorem no_00 : ∀ a, a ≤ 7 → noLot a [0, 0] ∧ noLot a [1, 0] := by
  have h : ((List.range 8).all fun a => (CB.combs a 2).all fun c => !decide (c = [0, 0]) && !decide (c = [1, 0])) = true := by decide +kernel
  intro a ha
  have h1 := List.all_eq_true.mp h a (List.mem_range.mpr (by omega))
  refine ⟨fun ⟨_, c, hc, e⟩ => ?_, fun ⟨_, c, hc, e⟩ => ?_⟩
  · have h2 := List.all_eq_true.mp h1 c hc
    have e2 : c = [0, 0] := ci_inj (d := [0, 0]) e.symm
    rw [e2] at h2
    exact absurd h2 (by decide)
  · have h2 := List.all_eq_true.mp h1 c hc
    have e2 : c = [1, 0] := ci_inj (d := [1, 0]) e.symm
    rw [e2] at h2
    exact absurd h2 (by decide)
/-- a list of things that is no lot of a things, its numbers not too big -/
def Bad (a : Nat) (l : List Int) : Prop := noLot a l ∧ (∀ i ∈ l, i.natAbs < 10 ^ 30) ∧ l.length ≤ 1000
theorem has_2 {H : Hp} {F : Addr} {v : Int} (h : H F = some (.lst [.int v, .int v])) : Has H 3 (.ref F) (.lst [.int v, .int v]) := Has.ints (ns := [v, v]) (n := 1) h (by show 2 ≤ 1000000; omega)
theorem ci_len (c : List Nat) : (DL.ci c).length = c.length := by simp [DL.ci]
theorem lotV_ci (c : List Nat) : CB.lotV c = (DL.ci c).map V.int := by simp [CB.lotV, DL.ci]
def idp {α : Type} : List α → List α → List α
  | [], [x, y] => [x, y]
  | _, _ => []
theorem kb_pl {f : Addr} {fd : FuncData} (F : Fun K "place_of" "place_of" sPl f fd) : KBinds K fd ["lot", "many"] ["lot", "many"] idp idp := by
  obtain ⟨oc, od, kV, doc, pm, an, cdv, ct, osl, rfl, lk, hcd⟩ := F.ex
  refine ⟨fun s us ws _ hl => ?_, fun r1 r2 => ?_⟩
  · match us, ws, hl with
    | [], [w1, w2], _ => exact .of_eq rfl
  · cases r1 with
    | cons _ _ => cases r2 <;> exact .nil
    | nil => cases r2 with
      | nil => exact .nil
      | cons a b => cases b with
        | nil => exact .nil
        | cons a2 b2 => cases b2 with
          | nil => exact .cons a (.cons a2 .nil)
          | cons _ _ => exact .nil
structure TL (K : PySem.W.Frag) (mg : Str → Option Value) (fB fP fO fS fL fG fF fT D D2 : Addr) : Prop extends TS1 mg where
  gB : mg "_law_bag" = some (.ref fB)
  gP : mg "_law_pull" = some (.ref fP)
  gO : mg "_law_of" = some (.ref fO)
  gS : mg "_law_same" = some (.ref fS)
  gL : mg "place_of" = some (.ref fL)
  gG : mg "_law_lots" = some (.ref fG)
  gF : mg "_law_far" = some (.ref fF)
  gT : mg "_law_tried" = some (.ref fT)
  m1 : mg "CleaveError" = some (.ref D)
  m2 : mg "HouseError" = some (.ref D2)
def spLawT (Pt : Addr) (K : PySem.W.Frag) : Sp := fun vs H Q _ => ∃ (a : Addr) (ns : List Int), vs = [.ref a] ∧ SqL K H a (ns.map V.int) ∧ ns.length ≤ 63 ∧ H Pt = some (.tbl #[]) ∧ ∀ H', Q (.bl true) H'
theorem ok_law {f fB fP fO fS fL fG fF fT D2 c Pt : Addr} {dB dP dO dS dL dG dF dT : FuncData} {oc kV doc pm ct : Value} {od an : Option Addr} {osl : Array (Option Value)}
    (lk : K.lookup f = some ⟨oc, od, .func (PySem.W.fnOf "law" "law" (defArgs sLaw) (defBody sLaw) (defScope sLaw) .none kV doc pm an (.ref c) ct), osl⟩) (hcd : PySem.W.codeIn K (.ref c) "law" = true) (T : TL K mg fB fP fO fS fL fG fF fT D D2) (TP : TxP P K mg C D fI) {nv2 : Value} (cT2 : PySem.CleX.ClsTxt K C2 D fI nv2)
    (hE : PySem.W.exmOne K (.ref C) (.ref D) = some true) (hE2 : PySem.W.exmOne K (.ref C2) (.ref D) = some true) (TB : TabB base mg c Pt)
    (GB : FnOk P w K mg base CX0 1 fB dB ["_law_script"] (spBag K)) (kB : PySem.W.keepIn K (.ref fB) = true) (bB : Binds K dB ["_law_script"] [])
    (GP : FnOk P w K mg base CX0 1 fP dP ["_law_bag_here", "_law_many9"] spPull) (kP : PySem.W.keepIn K (.ref fP) = true) (bP : Binds K dP ["_law_bag_here", "_law_many9"] [])
    (GO : FnOk P w K mg base CX0 2 fO dO ["_law_bag_here", "_law_some"] (spOf K)) (kO : PySem.W.keepIn K (.ref fO) = true) (bO : Binds K dO ["_law_bag_here", "_law_some"] [])
    (GS : FnOk P w K mg base CX0 3 fS dS ["_law_found", "_law_due"] (spSame 3)) (kS : PySem.W.keepIn K (.ref fS) = true) (bS : Binds K dS ["_law_found", "_law_due"] [])
    (GL : FnOk P w K mg base (L2.CX P w) 6 fL dL ["lot", "many"] (spPlace K C C2)) (kL : PySem.W.keepIn K (.ref fL) = true) (bL : Binds K dL ["lot", "many"] []) (bLk : KBinds K dL ["lot", "many"] ["lot", "many"] idp idp)
    (GG : FnOk P w K mg base CX0 1 fG dG ["_law_many9", "_law_size"] spLL) (kG : PySem.W.keepIn K (.ref fG) = true) (bG : Binds K dG ["_law_many9", "_law_size"] [])
    (GF : FnOk P w K mg base CX0 3 fF dF ["_law_bag_here"] (spFar K)) (kF : PySem.W.keepIn K (.ref fF) = true) (bF : Binds K dF ["_law_bag_here"] [])
    (FT' : Fun K "_law_tried" "_law_tried" sTried fT dT) (bT : Binds K dT ["_law_ask"] []) : FnOk P w K mg base CX0 9 f (PySem.W.fnOf "law" "law" (defArgs sLaw) (defBody sLaw) (defScope sLaw) .none kV doc pm an (.ref c) ct) ["_law_script"] (spLawT Pt K) := by
  obtain ⟨nv, cT, rnv⟩ := TP.cT
  obtain ⟨oc2, od2, kV2, doc2, pm2, an2, cdv2, ct2, osl2, rfl, lkT, hcT⟩ := FT'.ex
  refine fn_of lk hcd scLaw (fun vs H Q E ⟨a, ns, e, _⟩ => by rw [e]; rfl) (fun A outer s H vs Q E hr h => ?_)
  let X : Cx := (cxOf CX0 P w K mg base nLaw "law" (defScope sLaw) f (.ref c) A outer s H E).nox
  suffices hs : ∃ t, PSs X (defBody sLaw) t ∧ t { nx := fun _ H' => Q .non H', rt := Q } (L2.start nLaw vs) H from hs.elim fun t q => ⟨t, q.1.nox, q.2⟩
  let Tb : List (Addr × Str) := [(Pt, X.env.qual ++ "<lambda>")]
  have hm : (Pt, X.env.qual ++ "<lambda>") ∈ Tb := List.mem_cons_self
  have hu : ∀ p ∈ Tb, p.1 = Pt → p.2 = X.env.qual ++ "<lambda>" := fun p hp _ => by rw [List.mem_singleton.mp hp]
  have r1 : Room 1 X.A := hr.mono (by decide)
  have r2 : Room 2 X.A := hr.mono (by decide)
  have r3 : Room 3 X.A := hr.mono (by decide)
  have r6 : Room 6 X.A := hr.mono (by decide)
  have gv : ∀ q : Str, GivesTo X ["_law_ask", "e"] "_law_tried" (defScope sTried) fT cdv2 (defBody sTried) "_law_ask" q (TD.TT2 X.K D) := fun q => TD.told2 (X := X) rfl rfl rfl (by decide) T.m1 T.m2
  refine ⟨_, pss_cons (ps_set (i := 1) scLaw.nd rfl (Or.inl rfl) (pe_call GB r1 (by rfl) T.gB kB bB .nil pass0 (pa_cons (pv 0) pa_nil)))
    (pss_cons (ps_for PassesOwn.never rfl (pi_range1 (by rfl) T.range (pa_cons pe_int pa_nil)) (pg_name (i := 2) scLaw.nd rfl (Or.inl rfl))
      (pss_cons (ps_set (i := 3) scLaw.nd rfl (Or.inr rfl) (pe_call GP r1 (by rfl) T.gP kP bP .nil pass0 (pa_cons (pv 1) (pa_cons pe_int pa_nil))))
      (pss_cons (ps_set (i := 4) scLaw.nd rfl (Or.inl rfl) (pe_call GP r1 (by rfl) T.gP kP bP .nil pass0 (pa_cons (pv 1) (pa_cons (pe_op op_add (pv 3) pe_int) pa_nil))))
      (pss_cons (ps_set (i := 5) scLaw.nd rfl (Or.inl rfl) (pe_call GG r1 (by rfl) T.gG kG bG .nil pass0 (pa_cons (pv 3) (pa_cons (pv 4) pa_nil))))
      (pss_cons (ps_set (i := 6) scLaw.nd rfl (Or.inl rfl) (pe_call GP r1 (by rfl) T.gP kP bP .nil pass0 (pa_cons (pv 1) (pa_cons (pe_callB call_len_seq (by rfl) T.len PySem.boot_len (pa_cons (pv 5) pa_nil)) pa_nil))))
      (pss_cons (ps_set (i := 7) scLaw.nd rfl (Or.inl rfl) (pe_lst (pa_cons (pe_callS (E := WE fun _ _ _ _ => False) GL r6 (by rfl) T.gL kL bL (fun σ => passAt L2.takes0 σ) (pa_cons (pe_ix ix_list (pv 5) (pv 6) (fun _ _ => rfl)) (pa_cons (pv 3) pa_nil)))
        (pa_cons (pe_callKw GL r6 (by rfl) T.gL kL bLk (passes_call (W := fun _ _ _ _ => False) (E := fun _ _ _ => False) L2.takes0 (fun _ _ _ _ h => h)) (pk_cons (pe_callTy call_list_of (by rfl) T.list (by decide +kernel) (pa_cons (pe_ix ix_list (pv 5) (pv 6) (fun _ _ => rfl)) pa_nil)) (pk_cons (pv 3) pk_nil))) pa_nil))))
      (pss_cons (ps_if (pt_not (pt_val (pe_call GS r3 (by rfl) T.gS kS bS .nil pass0 (pa_cons (pv 7) (pa_cons (pe_lst (pa_cons (pv 6) (pa_cons (pv 6) pa_nil))) pa_nil))))) (pss_one (ps_ret pe_bl)) pss_nil)
      (pss_cons (ps_set (i := 8) scLaw.nd rfl (Or.inr rfl) (pe_call GO r2 (by rfl) T.gO kO bO .nil pass0 (pa_cons (pv 1) (pa_cons (pe_lst
          (pa_cons (ZM.pe_bx (pe_op (r := rCatA K) op_catA (pe_ix ix_list (pv 5) (pv 6) (fun _ _ => rfl)) (pe_tup (pa_cons (pv 3) pa_nil))))
          (pa_cons (ZM.pe_bx (pe_op (r := rCatA K) op_catA (pe_ix ix_list (pv 5) (pv 6) (fun _ _ => rfl)) (pe_tup (pa_cons pe_int pa_nil))))
          (pa_cons (pe_tup (pa_cons pe_int (pa_cons pe_int pa_nil))) (pa_cons (pe_tup (pa_cons pe_int (pa_cons pe_int pa_nil)))
          (pa_cons (ZM.pe_bx (pe_op (r := rCatA K) op_catA (pe_tup (pa_cons (pe_un un_neg pe_int) pa_nil)) (pe_ix ix_list (pv 5) (pv 6) (fun _ _ => rfl)))) pa_nil)))))) pa_nil))))
      (pss_cons (ps_set (i := 9) scLaw.nd rfl (Or.inr rfl) (pe_call GF r3 (by rfl) T.gF kF bF .nil pass0 (pa_cons (pv 1) pa_nil)))
      (pss_cons (ps_set (i := 10) scLaw.nd rfl (Or.inl rfl) (pe_lst (pa_cons
          (pe_lamcall (T := Tb) (P := Pt) (c := c) (k := 6) (t := fun E => tCallS (spPlace K C C2) (WE fun cls d _ H => E cls d H) (tCons (tVar 8) (tCons (tVar 3) tNil))) (by rfl) T.gT FT'.kp lkT hcT bT scTried rfl (Or.inl rfl) (gv _) TB rfl hm hu hr (lamS_by (sc := defScope sLaw) (by decide +kernel)) rfl (fun _ _ _ _ _ => rfl)
            (fun A outer s H E f c' hr2 => pe_callS GL hr2 rfl T.gL kL bL (fun σ => passAt (takes_of rfl rfl rfl rfl) σ) (pa_cons (pv 8) (pa_cons (pv 3) pa_nil))))
        (pa_cons
          (LD.pe_lamcallD (T := Tb) (P := Pt) (c := c) (k := 6) (pn := "_law_again") (t := fun E => tCallS (spPlace K C C2) (WE fun cls d _ H => E cls d H) (tCons (tVar 8) (tCons (tVar 9) tNil))) (by rfl) T.gT FT'.kp lkT hcT bT scTried rfl (Or.inl rfl) (gv _) TB rfl hm hu hr (LD.lamD_by (sc := defScope sLaw) (by decide +kernel)) rfl rfl (fun _ _ _ _ _ _ _ => ⟨_, rfl, fun _ => rfl⟩)
            (fun A outer s H E f c' hr2 => pe_callS GL hr2 rfl T.gL kL bL (fun σ => passAt (takes_of rfl rfl rfl rfl) σ) (pa_cons (pv 8) (pa_cons (pv 9) pa_nil)))) pa_nil))))
      (pss_one (ps_if (pt_cmpR (op_neD hr.units) (pv 10) (pe_lst (pa_cons (pe_tup (pa_cons pe_str (pa_cons pe_str pa_nil))) (pa_cons (pe_tup (pa_cons pe_str (pa_cons pe_str pa_nil))) pa_nil))) (nomark _)) (pss_one (ps_ret pe_bl)) pss_nil))))))))))))
    (pss_one (ps_ret (pe_call GS r3 (by rfl) T.gS kS bS .nil pass0 (pa_cons (pe_callS (E := WE fun _ _ _ _ => False) GL r6 (by rfl) T.gL kL bL (fun σ => passAt L2.takes0 σ) (pa_cons (pe_tup (pa_cons pe_int (pa_cons pe_int pa_nil))) (pa_cons pe_int pa_nil))) (pa_cons pe_int pa_nil)))))), ?_⟩
  obtain ⟨a, ns0, rfl, hS, hlen, hPt, q⟩ := h
  refine ⟨_, rfl, a, ns0, rfl, hS, fun H1 l b ms s1 nl nb B => ?_⟩
  have T1 : Tabs Tb H1 := fun p hp => by rw [List.mem_singleton.mp hp]; exact TabS.nil (s1 _ _ hPt)
  have big : (10 : Nat) ^ 30 = 1000000000000000000000000000000 := by decide
  refine ⟨8, rfl, by decide, by decide, for_range (lo := 0) (n := 8) (fun i σ H' => ∃ x2 x3 x4 x5 x6 x7 x8 x9 x10, σ = [some (.ref a), some (.ref b), x2, x3, x4, x5, x6, x7, x8, x9, x10] ∧ BagAt l ms H' b ∧ Tabs Tb H') ⟨none, none, none, none, none, none, none, none, none, rfl, B, T1⟩ ?_ ?_⟩
  · clear B s1
    rintro i σ H2 hi ⟨x2, x3, x4, x5, x6, x7, x8, x9, x10, rfl, B, T2⟩
    refine ⟨_, rfl, b, l, 8, ms, rfl, by decide, by decide, B, fun r xs0 r0 r8 B1 => ?_⟩
    have T3 := tabs_off T2 B (ys := xs0)
    refine ⟨_, rfl, _, rfl, _, _, rfl, rfl, b, l, _, ms, rfl, by omega, by omega, B1, fun r' xs1 r0' r8' B2 => ?_⟩
    have T4 := tabs_off T3 B1 (ys := xs1)
    obtain ⟨m, rfl⟩ := Int.eq_ofNat_of_zero_le r0
    obtain ⟨z, rfl⟩ := Int.eq_ofNat_of_zero_le r0'
    refine ⟨_, rfl, _, rfl, m, z, rfl, by omega, by omega, fun F ts H3 s3 nF hF L => ?_⟩
    have hm7 : m ≤ 7 := by omega
    have hz : z ≤ m := by omega
    obtain ⟨lp, nd⟩ := combs_ok m hm7 z hz
    obtain ⟨tl, tg⟩ := lots_get L
    have B3 := B2.same s3
    have T5 := T4.ext s3
    have b35 := (gen_len m hm7 z hz).1
    rw [gen_is m hm7 z hz] at b35
    refine ⟨_, rfl, _, rfl, F, _, rfl, .inl (SqL.of hF), b, l, _, ms, rfl, by rw [List.length_map]; omega, by rw [List.length_map]; omega, B3, fun r2 xs2 r20 r2m B4 => ?_⟩
    have T6 := tabs_off T5 B3 (ys := xs2)
    obtain ⟨j, rfl⟩ := Int.eq_ofNat_of_zero_le r20
    rw [List.length_map] at r2m
    have hj : j < ts.length := by omega
    obtain ⟨c, hc, ht, _⟩ := tg j ts[j] (List.getElem?_eq_getElem hj)
    have Fb : F ≠ b := by
      obtain ⟨bx, hb⟩ := B2.at
      exact fun z => by rw [z, hb] at nF; cases nF
    have tb : ts[j] ≠ b := by
      obtain ⟨bx, hb⟩ := B3.at
      exact fun z => by rw [z, hb] at ht; cases ht
    have hF4 : (upd H3 b (.lst xs2)) F = some (.lst (ts.map V.ref)) := (upd_ne Fb).trans hF
    have ht4 : (upd H3 b (.lst xs2)) ts[j] = some (.tup ((DL.ci c).map V.int)) := by rw [upd_ne tb, ht, lotV_ci]
    generalize upd H3 b (.lst xs2) = H4 at B4 T6 hF4 ht4 ⊢
    have gt : (ts.map V.ref)[j]? = some (.ref ts[j]) := by rw [List.getElem?_map, List.getElem?_eq_getElem hj]; rfl
    have cm : ∀ x ∈ c, x < m := by
      have g := (gen_len m hm7 z hz).2
      rw [gen_is m hm7 z hz] at g
      exact (g c (List.mem_of_getElem? hc)).2
    have cl : c.length = z := by
      have g := (gen_len m hm7 z hz).2
      rw [gen_is m hm7 z hz] at g
      exact (g c (List.mem_of_getElem? hc)).1
    have cb : ∀ i ∈ DL.ci c, i.natAbs < 10 ^ 30 := fun i hi => by
      obtain ⟨y, hy, rfl⟩ := List.mem_map.mp hi
      have := cm y hy
      rw [big]
      show ((y : Int)).natAbs < _
      omega
    have zl : (DL.ci c).length = z := by rw [ci_len, cl]
    have isLot : ((DL.ci c).length ≤ ((m : Int)).toNat ∧ ∃ d ∈ CB.combs ((m : Int)).toNat (DL.ci c).length, DL.ci c = d.map fun (i : Nat) => (i : Int)) := by
      rw [zl]
      exact ⟨by omega, c, List.mem_of_getElem? hc, rfl⟩
    have only : ∀ (j' : Nat) (d : List Nat), (CB.combs ((m : Int)).toNat (DL.ci c).length)[j']? = some d → DL.ci c = (d.map fun (i : Nat) => (i : Int)) → j' = j := fun j' d h1 h2 => by
      rw [zl] at h1
      exact (combs_at hm7 hz hc h1 h2).symm
    clear B B1 B2 B3 T2 T3 T4 T5 L tg
    -- the place, asked twice
    refine ⟨_, rfl, _, rfl, F, _, j, _, rfl, rfl, SqL.of hF4, atI_nat gt, _, rfl, ts[j], DL.ci c, m, rfl, .inr (SqT.of ht4), cb, by omega, by rw [big]; omega, fun no => absurd ⟨by omega, by omega⟩ no, fun _ _ no => absurd isLot no, fun _ _ _ j1 d1 h1 e1 H5 s5 => ?_⟩
    obtain rfl := only j1 d1 h1 e1
    refine ⟨_, rfl, _, rfl, F, _, j1, _, rfl, rfl, SqL.of (s5 _ _ hF4), atI_nat gt, ts[j1], _, rfl, .inr (SqT.of (s5 _ _ ht4)), fun l2 nl2 => ?_⟩
    have s6 := same_new (o := .lst ((DL.ci c).map V.int)) nl2
    refine ⟨_, rfl, l2, DL.ci c, m, rfl, .inl (SqL.of upd_same), cb, by omega, by rw [big]; omega, fun no => absurd ⟨by omega, by omega⟩ no, fun _ _ no => absurd isLot no, fun _ _ _ j2 d2 h2 e2 H7 s7 => ?_⟩
    obtain rfl := only j2 d2 h2 e2
    refine ⟨sz (by show 2 ≤ 1000; decide), fun fnd nfnd => ?_⟩
    have s8 := same_new (o := .lst [.int j2, .int j2]) nfnd
    refine ⟨_, rfl, _, rfl, _, rfl, sz (by show 2 ≤ 1000; decide), fun w nw => ?_⟩
    have s9 := same_new (o := .lst [.int j2, .int j2]) nw
    refine ⟨.ref fnd, .ref w, .lst [.int j2, .int j2], rfl, has_2 (s9 _ _ upd_same), has_2 upd_same, fun H10 s10 => ⟨true, rfl, if_f rfl ?_⟩⟩
    have sA := s5.trans (s6.trans (s7.trans (s8.trans (s9.trans s10))))
    have hF5 := sA _ _ hF4
    have ht5 := sA _ _ ht4
    have B5 := B4.same sA
    have T7 := T6.ext sA
    clear s5 s6 s7 s8 s9 s10 sA nl2 nfnd nw hF4 ht4 B4 T6
    -- bent lots
    have bad_b : ∀ x : Int, -1 ≤ x → x ≤ 7 → x.natAbs < 10 ^ 30 := fun x h1 h2 => by rw [big]; omega
    have catR : ∀ (x : Int) (H' : Hp), Same H10 H' → (m : Int) ≤ x → x ≤ 7 → ∀ R : VK, (∀ v H'', Same H' H'' → (∃ (e : Addr) (es : List Int), v = .ref e ∧ H'' e = some (.tup (es.map V.int)) ∧ Bad m es) → R v H'') → ∀ p, H' p = none → rCatA K (.ref ts[j2]) (.ref p) (upd H' p (.tup [.int x])) R := fun x H' sm hx hx7 R hR p np => by
      have s1 := same_new (o := .tup [.int x]) np
      have kx : Bad m (DL.ci c ++ [x]) := ⟨no_by hm7 (List.mem_append_right _ (List.mem_singleton.mpr rfl)) (.inr hx), fun i hi => (List.mem_append.mp hi).elim (cb i) fun h => by rw [List.mem_singleton.mp h]; exact bad_b x (by omega) hx7, by rw [List.length_append]; show _ + 1 ≤ 1000; omega⟩
      refine ⟨ts[j2], p, _, _, rfl, rfl, SqT.of (s1 _ _ (sm _ _ ht5)), SqT.of upd_same, sz (by rw [List.length_map]; show _ + 1 ≤ 1000; omega), fun h0 => ?_, fun _ h1 => absurd h1 (by simp), fun _ _ p2 np2 => ?_⟩
      · have e0 : DL.ci c = [] := List.map_eq_nil_iff.mp h0
        refine hR _ _ s1 ⟨p, [x], rfl, upd_same, ?_⟩
        rw [e0] at kx
        exact kx
      · refine hR _ _ (s1.trans (same_new np2)) ⟨p2, DL.ci c ++ [x], rfl, ?_, kx⟩
        rw [upd_same, List.map_append]
        rfl
    refine ⟨_, rfl, bx_by (G := fun v H' => Same H10 H' ∧ ∃ (e : Addr) (es : List Int), v = .ref e ∧ H' e = some (.tup (es.map V.int)) ∧ Bad m es) ?_ ?_⟩
    · intro R hR
      exact ⟨_, rfl, _, rfl, F, _, j2, _, rfl, rfl, SqL.of hF5, atI_nat gt, _, rfl, sz (by show 1 ≤ 1000; decide), fun p np => catR m H10 (Same.refl _) (Int.le_refl _) (by omega) R (fun v H'' s g => hR v H'' ⟨s, g⟩) p np⟩
    rintro v1 H11 ⟨s11, q1, es1, rfl, g1, k1⟩
    refine bx_by (G := fun v H' => Same H11 H' ∧ ∃ (e : Addr) (es : List Int), v = .ref e ∧ H' e = some (.tup (es.map V.int)) ∧ Bad m es) ?_ ?_
    · intro R hR
      exact ⟨_, rfl, _, rfl, F, _, j2, _, rfl, rfl, SqL.of (s11 _ _ hF5), atI_nat gt, sz (by show 1 ≤ 1000; decide), fun p np => catR 7 H11 s11 (by omega) (by omega) R (fun v H'' s g => hR v H'' ⟨s, g⟩) p np⟩
    rintro v2 H12 ⟨s12, q2, es2, rfl, g2, k2⟩
    refine ⟨sz (by show 2 ≤ 1000; decide), fun q3 n3 => ⟨sz (by show 2 ≤ 1000; decide), fun q4 n4 => ?_⟩⟩
    have s13 := same_new (o := .tup [.int 0, .int 0]) n3
    have s14 := same_new (o := .tup [.int 1, .int 0]) n4
    have s1014 := s11.trans (s12.trans (s13.trans s14))
    have k3 : Bad m [0, 0] := ⟨(no_00 m hm7).1, fun i hi => by
      have : i = 0 := by simpa using hi
      rw [this]; exact bad_b 0 (by decide) (by decide), by decide⟩
    have k4 : Bad m [1, 0] := ⟨(no_00 m hm7).2, fun i hi => by
      have : i = 1 ∨ i = 0 := by simpa using hi
      rcases this with e | e
      · rw [e]; exact bad_b 1 (by decide) (by decide)
      · rw [e]; exact bad_b 0 (by decide) (by decide), by decide⟩
    have g3 := s14 _ _ (upd_same (H := H12) (a := q3) (o := .tup [.int 0, .int 0]))
    have g4 := upd_same (H := upd H12 q3 (.tup [.int 0, .int 0])) (a := q4) (o := .tup [.int 1, .int 0])
    have g1' := s14 _ _ (s13 _ _ (s12 _ _ g1))
    have g2' := s14 _ _ (s13 _ _ g2)
    refine bx_by (G := fun v H' => Same (upd (upd H12 q3 (.tup [.int 0, .int 0])) q4 (.tup [.int 1, .int 0])) H' ∧ ∃ (e : Addr) (es : List Int), v = .ref e ∧ H' e = some (.tup (es.map V.int)) ∧ Bad m es) ?_ ?_
    · intro R hR
      refine ⟨_, rfl, sz (by show 1 ≤ 1000; decide), fun p np => ⟨_, rfl, _, rfl, F, _, j2, _, rfl, rfl, SqL.of (same_new np _ _ (s1014 _ _ hF5)), atI_nat gt, ?_⟩⟩
      have s1 := same_new (o := .tup [.int (-1)]) np
      have kx : Bad m (-1 :: DL.ci c) := ⟨no_by hm7 (List.mem_cons_self) (.inl (by decide)), fun i hi => (List.mem_cons.mp hi).elim (fun h => by rw [h]; exact bad_b (-1) (by decide) (by decide)) (cb i), by rw [List.length_cons]; omega⟩
      refine ⟨p, ts[j2], _, _, rfl, rfl, SqT.of upd_same, SqT.of (s1 _ _ (s1014 _ _ ht5)), sz (by rw [List.length_map]; show 1 + _ ≤ 1000; omega), fun h0 => absurd h0 (by simp), fun _ h1 => ?_, fun _ _ p2 np2 => ?_⟩
      · have e0 : DL.ci c = [] := List.map_eq_nil_iff.mp h1
        refine hR _ _ ⟨s1, p, [-1], rfl, upd_same, ?_⟩
        rw [e0] at kx
        exact kx
      · refine hR _ _ ⟨s1.trans (same_new np2), p2, -1 :: DL.ci c, rfl, ?_, kx⟩
        rw [upd_same]
        rfl
    rintro v5 H15 ⟨s15, q5, es5, rfl, g5, k5⟩
    refine ⟨sz (by show 5 ≤ 1000; decide), fun pl npl => ?_⟩
    have s16 := same_new (o := .lst [.ref q1, .ref q2, .ref q3, .ref q4, .ref q5]) npl
    have sB := s1014.trans (s15.trans s16)
    have B6 := B5.same sB
    have plb : pl ≠ b := by
      obtain ⟨bx, hb⟩ := (B5.same (s1014.trans s15)).at
      exact fun z => by rw [z, hb] at npl; cases npl
    refine ⟨b, l, pl, ms, _, rfl, B6, upd_same, plb, (by show 0 < 5; decide), (by show 5 < 1073741824; decide), fun v zs hv B7 => ?_⟩
    have T8 := tabs_off (T7.ext sB) B6 (ys := zs)
    obtain ⟨e, es, rfl, he, ke⟩ : ∃ (e : Addr) (es : List Int), v = .ref e ∧ (upd H15 pl (.lst [.ref q1, .ref q2, .ref q3, .ref q4, .ref q5])) e = some (.tup (es.map V.int)) ∧ Bad m es := by
      simp only [List.mem_cons, List.not_mem_nil, or_false] at hv
      rcases hv with h | h | h | h | h
      · exact ⟨q1, es1, h, s16 _ _ (s15 _ _ g1'), k1⟩
      · exact ⟨q2, es2, h, s16 _ _ (s15 _ _ g2'), k2⟩
      · exact ⟨q3, [0, 0], h, s16 _ _ (s15 _ _ g3), k3⟩
      · exact ⟨q4, [1, 0], h, s16 _ _ (s15 _ _ g4), k4⟩
      · exact ⟨q5, es5, h, s16 _ _ g5, k5⟩
    have eb : e ≠ b := by
      obtain ⟨bx, hb⟩ := B6.at
      exact fun z => by rw [z, hb] at he; cases he
    have he' : (upd (upd H15 pl (.lst [.ref q1, .ref q2, .ref q3, .ref q4, .ref q5])) b (.lst zs)) e = some (.tup (es.map V.int)) := (upd_ne eb).trans he
    refine ⟨_, rfl, b, l, ms, rfl, B7, fun od H17 ob1 ob2 B8 k8 => ?_⟩
    obtain ⟨bx7, hb7⟩ := B7.at
    have T9 := tabs_but T8 hb7 k8
    have he2 := k8 _ _ eb he'
    have nt : ∀ (xs : List V) (ps : Array Value), HO.tup xs ≠ .tbl ps := fun xs ps z => by cases z
    refine ⟨T9, fun H20 e20 T10 => ⟨_, rfl, _, rfl, e, es, m, rfl, .inr (SqT.of (e20 _ _ he2 (nt _))), ke.2.1, ke.2.2, by rw [big]; omega, fun no => absurd ⟨by omega, by omega⟩ no, fun _ _ _ H21 s21 d1 nd1 => ⟨hE2, C2, D, fI, nv2, "BadLot", d1, rfl, cT2, rfl, upd_same, fun p1 np1 => ?_⟩, fun _ _ c0 j1 d1 h1 e1 => absurd ⟨c0, d1, List.mem_of_getElem? h1, e1⟩ ke.1⟩⟩
    · have sN1 := s21.trans ((same_new (o := .xd (wd "BadLot")) nd1).trans (same_new (o := .tup (noV "BadLot")) np1))
      have he3 := sN1 _ _ (e20 _ _ he2 (nt _))
      refine ⟨T10.ext sN1, fun H22 e22 T11 => ⟨_, rfl, _, rfl, e, es, od, rfl, .inr (SqT.of (e22 _ _ he3 (nt _))), ke.2.1, ke.2.2, ob1, fun _ d2 nd2 => ⟨hE, C, D, fI, nv, "BadCount", d2, rfl, cT, rfl, upd_same, fun p2 np2 => ?_⟩, fun h0 h7 => absurd ⟨h0, h7⟩ ob2, fun h0 h7 => absurd ⟨h0, h7⟩ ob2⟩⟩
      have sN2 := (same_new (o := .xd (wd "BadCount")) nd2).trans (same_new (o := .tup (noV "BadCount")) np2)
      have hp1 := sN2 _ _ (e22 p1 (.tup (noV "BadLot")) upd_same (nt _))
      refine ⟨sz (by show 2 ≤ 1000; decide), fun L nL => ?_⟩
      have sL := same_new (o := .lst [.ref p1, .ref p2]) nL
      refine ⟨_, rfl, sz (by show 2 ≤ 1000; decide), fun u nu => ⟨sz (by show 2 ≤ 1000; decide), fun u2 nu2 => ⟨sz (by show 2 ≤ 1000; decide), fun R nR => ?_⟩⟩⟩
      have su := same_new (o := .tup (noV "BadLot")) nu
      have sv := same_new (o := .tup (noV "BadCount")) nu2
      have sR := same_new (o := .lst [.ref u, .ref u2]) nR
      have sD := su.trans (sv.trans sR)
      refine ⟨noD, noD, no_dp (sD _ _ upd_same) (sD _ _ (sL _ _ hp1)) (sD _ _ (sL _ _ upd_same)), no_dp upd_same (sR _ _ (sv _ _ upd_same)) (sR _ _ upd_same), no_sh, no_sh, _, rfl, if_f (by decide +kernel) ?_⟩
      exact ⟨_, _, _, _, _, _, _, _, _, rfl, ((bag_ext ((bag_ext B8 e20).same sN1) e22).same sN2).same (sL.trans sD), (T11.ext sN2).ext (sL.trans sD)⟩
  · rintro σ H2 ⟨x2, x3, x4, x5, x6, x7, x8, x9, x10, rfl, B, T2⟩
    refine ⟨sz (by show 2 ≤ 1000; decide), fun t1 n1 => ?_⟩
    refine ⟨t1, [1, 3], 4, rfl, .inr (SqT.of upd_same), fun i hi => ?_, by decide, by decide, fun no => absurd (by decide) no, fun _ _ no => absurd ⟨by decide, [1, 3], by decide +kernel, rfl⟩ no, fun _ _ _ j d h1 e1 H3 s3 => ?_⟩
    · have : i = 1 ∨ i = 3 := by simpa using hi
      rw [big]
      omega
    · have e4 : (CB.combs 4 2)[4]? = some [1, 3] := by decide +kernel
      obtain rfl : j = 4 := (combs_at (a := 4) (k := 2) (by decide) (by decide) e4 h1 e1).symm
      exact ⟨.int 4, .int 4, .int 4, rfl, .int 4, .int 4, fun H4 _ => q H4⟩
end
end K2

set_option maxHeartbeats 4000000
namespace K2
open PySem PySem.Spec PyProof.Rows L2 LamX
theorem exm_of {K : PySem.W.Frag} {S D : Addr} (h1 : PySem.W.subIn K (.ref D) (.type "BaseException") = some true) (h2 : PySem.W.isClsIn K D = true) (h3 : PySem.W.typeIn K (.ref D) = some (.type "type")) (h4 : PySem.W.subIn K (.ref S) (.ref D) = some true) : PySem.W.exmOne K (.ref S) (.ref D) = some true := by
  have h2' : (PySem.W.clsIn K D).isSome = true := h2
  have e1 : (PySem.W.subIn K (.ref D) (.type "BaseException") == some true) = true := by
    rw [h1]; rfl
  have e2 : ((PySem.W.clsIn K D).isSome && PySem.W.typeIn K (.ref D) == some (.type "type")) = true := by
    rw [h2', h3]; rfl
  show (if _ = true then (if _ = true then PySem.W.subIn K (.ref S) (.ref D) else none) else none) = some true
  exact (if_pos e1).trans ((if_pos e2).trans h4)
theorem all_mk {l : PySem.W.OpenLaw} {w : World} {K : PySem.W.Frag} {h : Heap} {mg : Str → Option Value} {fa f1 f2 f3 f4 f5 f6 f7 f8 f9 f10 fL fI C Cu D D2 Pt c Td cda cc  : Addr} (X : K.In h) (G : h.Ns mainGlobals mg) (hfa : mg "law" = some (.ref fa))
    {od1 an1 od2 an2 od3 an3 od4 an4 od5 an5 od6 an6 od7 an7 od8 an8 od9 an9 od10 an10 odL anL odI anI odT odA odX dd ddu dd'  : Option Addr} {sl1 sl2 sl3 sl4 sl5 sl6 sl7 sl8 sl9 sl10 slL slI slT slA slX  : Array (Option Value)}
    {oc1 kV1 dc1 pm1 ct1 oc2 kV2 dc2 pm2 ct2 oc3 kV3 dc3 pm3 ct3 oc4 kV4 dc4 pm4 ct4 oc5 kV5 dc5 pm5 ct5 oc6 kV6 dc6 pm6 ct6 oc7 kV7 dc7 pm7 ct7 oc8 kV8 dc8 pm8 ct8 oc9 kV9 dc9 pm9 ct9 oc10 kV10 dc10 pm10 ct10 ocL kVL dcL pmL ctL ocI kVI dcI pmI ctI cd1 cd2 cd3 cd4 cd5 cd6 cd7 cd8 cd9 cd10 ocT ocA ocX eT : Value} {vsA : Array Value} {nT : Nat} {file qn nm' q' : Str} {tf : Tok} {N' : Addr} {bs' bm' sub' : List Value} {sn' : List Str} {ab' hd' : Bool} {col' : Option Bool} {m0' m1' m2' m3' m5' : Option Value} {nid' : String} {nm q : Str} {tv : Tok} {N : Addr} {bs bm sub : List Value} {sn : List Str} {ab : Bool} {col : Option Bool} {m0 m1 m3 m5 : Option Value} {nmu qu : Str} {tvu : Tok} {Nu : Addr} {bsu bmu subu : List Value} {snu : List Str} {abu : Bool} {colu : Option Bool} {m0u m1u m3u m5u : Option Value} {tM : Tok}
    (a1 : PySem.W.nsIn K mainGlobals "lots" = some (some (.ref f1)))
    (l1 : K.lookup f1 = some ⟨oc1, od1, .func (PySem.W.fnOf "lots" "lots" (defArgs sLots) (defBody sLots) (defScope sLots) .none kV1 dc1 pm1 an1 cd1 ct1), sl1⟩)
    (c1 : PySem.W.codeIn K cd1 "lots" = true)
    (k1 : PySem.W.keepIn K (.ref f1) = true)
    (a2 : PySem.W.nsIn K mainGlobals "place_of" = some (some (.ref f2)))
    (l2 : K.lookup f2 = some ⟨oc2, od2, .func (PySem.W.fnOf "place_of" "place_of" (defArgs sPl) (defBody sPl) (defScope sPl) .none kV2 dc2 pm2 an2 cd2 ct2), sl2⟩)
    (c2 : PySem.W.codeIn K cd2 "place_of" = true)
    (k2 : PySem.W.keepIn K (.ref f2) = true)
    (a3 : PySem.W.nsIn K mainGlobals "_check_many" = some (some (.ref f3)))
    (l3 : K.lookup f3 = some ⟨oc3, od3, .func (PySem.W.fnOf "_check_many" "_check_many" (defArgs sChk) (defBody sChk) (defScope sChk) .none kV3 dc3 pm3 an3 cd3 ct3), sl3⟩)
    (c3 : PySem.W.codeIn K cd3 "_check_many" = true)
    (k3 : PySem.W.keepIn K (.ref f3) = true)
    (a4 : PySem.W.nsIn K mainGlobals "_law_bag" = some (some (.ref f4)))
    (l4 : K.lookup f4 = some ⟨oc4, od4, .func (PySem.W.fnOf "_law_bag" "_law_bag" (defArgs sBag) (defBody sBag) (defScope sBag) .none kV4 dc4 pm4 an4 cd4 ct4), sl4⟩)
    (c4 : PySem.W.codeIn K cd4 "_law_bag" = true)
    (k4 : PySem.W.keepIn K (.ref f4) = true)
    (a5 : PySem.W.nsIn K mainGlobals "_law_pull" = some (some (.ref f5)))
    (l5 : K.lookup f5 = some ⟨oc5, od5, .func (PySem.W.fnOf "_law_pull" "_law_pull" (defArgs sPull) (defBody sPull) (defScope sPull) .none kV5 dc5 pm5 an5 cd5 ct5), sl5⟩)
    (c5 : PySem.W.codeIn K cd5 "_law_pull" = true)
    (k5 : PySem.W.keepIn K (.ref f5) = true)
    (a6 : PySem.W.nsIn K mainGlobals "_law_of" = some (some (.ref f6)))
    (l6 : K.lookup f6 = some ⟨oc6, od6, .func (PySem.W.fnOf "_law_of" "_law_of" (defArgs sOf) (defBody sOf) (defScope sOf) .none kV6 dc6 pm6 an6 cd6 ct6), sl6⟩)
    (c6 : PySem.W.codeIn K cd6 "_law_of" = true)
    (k6 : PySem.W.keepIn K (.ref f6) = true)
    (a7 : PySem.W.nsIn K mainGlobals "_law_far" = some (some (.ref f7)))
    (l7 : K.lookup f7 = some ⟨oc7, od7, .func (PySem.W.fnOf "_law_far" "_law_far" (defArgs sFar) (defBody sFar) (defScope sFar) .none kV7 dc7 pm7 an7 cd7 ct7), sl7⟩)
    (c7 : PySem.W.codeIn K cd7 "_law_far" = true)
    (k7 : PySem.W.keepIn K (.ref f7) = true)
    (a8 : PySem.W.nsIn K mainGlobals "_law_same" = some (some (.ref f8)))
    (l8 : K.lookup f8 = some ⟨oc8, od8, .func (PySem.W.fnOf "_law_same" "_law_same" (defArgs sSame) (defBody sSame) (defScope sSame) .none kV8 dc8 pm8 an8 cd8 ct8), sl8⟩)
    (c8 : PySem.W.codeIn K cd8 "_law_same" = true)
    (k8 : PySem.W.keepIn K (.ref f8) = true)
    (a9 : PySem.W.nsIn K mainGlobals "_law_tried" = some (some (.ref f9)))
    (l9 : K.lookup f9 = some ⟨oc9, od9, .func (PySem.W.fnOf "_law_tried" "_law_tried" (defArgs sTried) (defBody sTried) (defScope sTried) .none kV9 dc9 pm9 an9 cd9 ct9), sl9⟩)
    (c9 : PySem.W.codeIn K cd9 "_law_tried" = true)
    (k9 : PySem.W.keepIn K (.ref f9) = true)
    (a10 : PySem.W.nsIn K mainGlobals "_law_lots" = some (some (.ref f10)))
    (l10 : K.lookup f10 = some ⟨oc10, od10, .func (PySem.W.fnOf "_law_lots" "_law_lots" (defArgs sLL) (defBody sLL) (defScope sLL) .none kV10 dc10 pm10 an10 cd10 ct10), sl10⟩)
    (c10 : PySem.W.codeIn K cd10 "_law_lots" = true)
    (k10 : PySem.W.keepIn K (.ref f10) = true)
    (aL : PySem.W.nsIn K mainGlobals "law" = some (some (.ref fL)))
    (lL : K.lookup fL = some ⟨ocL, odL, .func (PySem.W.fnOf "law" "law" (defArgs sLaw) (defBody sLaw) (defScope sLaw) .none kVL dcL pmL anL (.ref c) ctL), slL⟩)
    (cL : PySem.W.codeIn K (.ref c) "law" = true)
    (z1 : PySem.W.nsIn K mainGlobals "isinstance" = some none)
    (z2 : PySem.W.nsIn K mainGlobals "bool" = some none)
    (z3 : PySem.W.nsIn K mainGlobals "int" = some none)
    (z4 : PySem.W.nsIn K mainGlobals "str" = some none)
    (z5 : PySem.W.nsIn K mainGlobals "list" = some none)
    (z6 : PySem.W.nsIn K mainGlobals "tuple" = some none)
    (z7 : PySem.W.nsIn K mainGlobals "len" = some none)
    (z8 : PySem.W.nsIn K mainGlobals "all" = some none)
    (z9 : PySem.W.nsIn K mainGlobals "range" = some none)
    (z10 : PySem.W.nsIn K mainGlobals "super" = some none)
    (gK : PySem.W.nsIn K mainGlobals "combinations" = some (some (.type "itertools.combinations")))
    (gM : PySem.W.nsIn K mainGlobals "MOST" = some (some (.int 7 tM)))
    (gC : PySem.W.nsIn K mainGlobals "BadCount" = some (some (.ref C)))
    (gCu : PySem.W.nsIn K mainGlobals "BadLot" = some (some (.ref Cu)))
    (gD : PySem.W.nsIn K mainGlobals "CleaveError" = some (some (.ref D)))
    (gE : PySem.W.nsIn K mainGlobals "HouseError" = some (some (.ref D2)))
    (xC : K.lookup C = some (excClassObj nm q C N bs bm true sn sub ab col dd m0 m1 (some (.str "BadCount" tv)) m3 m5 "ValueError.__new__"))
    (xB : HandSPX.refsVE bm = true)
    (xCu : K.lookup Cu = some (excClassObj nmu qu Cu Nu bsu bmu true snu subu abu colu ddu m0u m1u (some (.str "BadLot" tvu)) m3u m5u "ValueError.__new__"))
    (xBu : HandSPX.refsVE bmu = true)
    (xD : K.lookup D = some (excClassObj nm' q' D N' bs' bm' hd' sn' sub' ab' col' dd' m0' m1' m2' m3' m5' nid'))
    (iC : PySem.W.findIn K (.ref C) "__init__" = some (some (.ref fI)))
    (iCu : PySem.W.findIn K (.ref Cu) "__init__" = some (some (.ref fI)))
    (tI : PySem.W.typeIn K (.ref fI) = some (.type "function"))
    (lI : K.lookup fI = some ⟨ocI, odI, .func (PySem.W.ksFn "__init__" qn (PySem.CleX.iA ⟨5, 17, 5, 21⟩ ⟨5, 23, 5, 27⟩ ⟨5, 28, 5, 30⟩) (PySem.CleX.iB ⟨6, 8, 6, 13⟩ ⟨6, 8, 6, 15⟩ ⟨6, 8, 6, 24⟩ ⟨6, 25, 6, 29⟩ ⟨6, 8, 6, 30⟩ ⟨6, 8, 6, 30⟩ ⟨7, 8, 7, 12⟩ ⟨7, 8, 7, 17⟩ ⟨7, 20, 7, 24⟩ ⟨7, 20, 7, 34⟩ ⟨7, 20, 7, 43⟩ ⟨7, 8, 7, 43⟩) PySem.CleX.iS (.ref Td) kVI dcI pmI anI (.ref cda) ctI cc), slI⟩)
    (cI : PySem.W.codeIn K (.ref cda) qn = true)
    (lT : K.lookup Td = some ⟨ocT, odT, .seq #[eT] nT, slT⟩)
    (lA : K.lookup cda = some ⟨ocA, odA, .fields vsA, slA⟩)
    (vA : vsA[2]? = some (.str file tf))
    (fA : ((l.prog.main.file : Str) == file) = true)
    (lX : K.lookup cc = some ⟨ocX, odX, .cell (some (.ref D)), slX⟩)
    (nT0 : (l.prog.main.scope.names.lookup ("super" : Str)).isSome = false)
    (noT : PySem.W.nsIn K cStatics "thirdparty.any" = some none)
    (mD : PySem.W.mroIn K C (.ref D) = some true)
    (mO : PySem.W.mroIn K C (.type "object") = some true)
    (sup : PySem.W.ks_superIn K C D "__init__" = some (some (.builtin "ValueError.__init__")))
    (sVE : PySem.W.subIn K (.ref C) (.type "ValueError") = some true)
    (sa : PySem.W.findIn K (.ref C) "__setattr__" = some (some (.builtin "object.__setattr__")))
    (ga : PySem.W.findIn K (.ref C) "__getattribute__" = some (some (.builtin "BaseException.__getattribute__")))
    (gg : PySem.W.findIn K (.ref C) "__getattr__" = some none)
    (nw : PySem.W.findIn K (.ref C) "word" = some none)
    (cC : PySem.W.findIn K (.ref C) "__class__" = some (some (.builtin "object.__class__")))
    (rd : PySem.W.readsIn K C (.type "type") = true)
    (nmC : PySem.W.findCls K (.ref C) (.type "type") "__name__" = some (.get (.builtin "getset_descriptor.__get__") (.builtin "type.__name__") (.ref C) (.type "type")))
    (kC : PySem.W.keepIn K (.ref C) = true)
    (exC : PySem.W.subIn K (.ref C) (.type "BaseException") = some true)
    (tyC : PySem.W.typeIn K (.ref C) = some (.type "type"))
    (hdC : PySem.W.hasDictIn K C = true)
    (isC : PySem.W.isClsIn K C = true)
    (sCD : PySem.W.subIn K (.ref C) (.ref D) = some true)
    (mDu : PySem.W.mroIn K Cu (.ref D) = some true)
    (mOu : PySem.W.mroIn K Cu (.type "object") = some true)
    (supu : PySem.W.ks_superIn K Cu D "__init__" = some (some (.builtin "ValueError.__init__")))
    (sVEu : PySem.W.subIn K (.ref Cu) (.type "ValueError") = some true)
    (sau : PySem.W.findIn K (.ref Cu) "__setattr__" = some (some (.builtin "object.__setattr__")))
    (gau : PySem.W.findIn K (.ref Cu) "__getattribute__" = some (some (.builtin "BaseException.__getattribute__")))
    (ggu : PySem.W.findIn K (.ref Cu) "__getattr__" = some none)
    (nwu : PySem.W.findIn K (.ref Cu) "word" = some none)
    (cCu : PySem.W.findIn K (.ref Cu) "__class__" = some (some (.builtin "object.__class__")))
    (rdu : PySem.W.readsIn K Cu (.type "type") = true)
    (nmCu : PySem.W.findCls K (.ref Cu) (.type "type") "__name__" = some (.get (.builtin "getset_descriptor.__get__") (.builtin "type.__name__") (.ref Cu) (.type "type")))
    (kCu : PySem.W.keepIn K (.ref Cu) = true)
    (exCu : PySem.W.subIn K (.ref Cu) (.type "BaseException") = some true)
    (tyCu : PySem.W.typeIn K (.ref Cu) = some (.type "type"))
    (hdCu : PySem.W.hasDictIn K Cu = true)
    (isCu : PySem.W.isClsIn K Cu = true)
    (sCDu : PySem.W.subIn K (.ref Cu) (.ref D) = some true)
    (cG : PySem.W.specialIn K (.builtin "object.__class__") "__get__" = some (some (.builtin "getset_descriptor.__get__")))
    (cT : PySem.W.takesIn K (.builtin "object.__class__") = some true)
    (exD : PySem.W.subIn K (.ref D) (.type "BaseException") = some true)
    (isD : PySem.W.isClsIn K D = true)
    (tyD : PySem.W.typeIn K (.ref D) = some (.type "type"))
    (hP : h.get? Pt = some { cls := .none, data := .fields #[] })
    (nP : K.lookup Pt = none)
    (hcP : PySem.W.codeHdIn K c Pt = true) :
    LawAtS l w K CX0 9 63 "_law_script" mg fa h := by
  have e := hfa.symm.trans (PySem.W.mg_of X G aL)
  cases e
  have F1 := fun_mk (st := sLots) l1 c1 k1
  have b1 := F1.binds (ps := ["many", "size"]) fun _ _ _ _ _ _ us hl => match us, hl with | [_, _], _ => rfl
  have g1 := PySem.W.mg_of X G a1
  have F2 := fun_mk (st := sPl) l2 c2 k2
  have b2 := F2.binds (ps := ["lot", "many"]) fun _ _ _ _ _ _ us hl => match us, hl with | [_, _], _ => rfl
  have g2 := PySem.W.mg_of X G a2
  have F3 := fun_mk (st := sChk) l3 c3 k3
  have b3 := F3.binds (ps := ["many"]) fun _ _ _ _ _ _ us hl => match us, hl with | [_], _ => rfl
  have g3 := PySem.W.mg_of X G a3
  have F4 := fun_mk (st := sBag) l4 c4 k4
  have b4 := F4.binds (ps := ["_law_script"]) fun _ _ _ _ _ _ us hl => match us, hl with | [_], _ => rfl
  have g4 := PySem.W.mg_of X G a4
  have F5 := fun_mk (st := sPull) l5 c5 k5
  have b5 := F5.binds (ps := ["_law_bag_here", "_law_many9"]) fun _ _ _ _ _ _ us hl => match us, hl with | [_, _], _ => rfl
  have g5 := PySem.W.mg_of X G a5
  have F6 := fun_mk (st := sOf) l6 c6 k6
  have b6 := F6.binds (ps := ["_law_bag_here", "_law_some"]) fun _ _ _ _ _ _ us hl => match us, hl with | [_, _], _ => rfl
  have g6 := PySem.W.mg_of X G a6
  have F7 := fun_mk (st := sFar) l7 c7 k7
  have b7 := F7.binds (ps := ["_law_bag_here"]) fun _ _ _ _ _ _ us hl => match us, hl with | [_], _ => rfl
  have g7 := PySem.W.mg_of X G a7
  have F8 := fun_mk (st := sSame) l8 c8 k8
  have b8 := F8.binds (ps := ["_law_found", "_law_due"]) fun _ _ _ _ _ _ us hl => match us, hl with | [_, _], _ => rfl
  have g8 := PySem.W.mg_of X G a8
  have F9 := fun_mk (st := sTried) l9 c9 k9
  have b9 := F9.binds (ps := ["_law_ask"]) fun _ _ _ _ _ _ us hl => match us, hl with | [_], _ => rfl
  have g9 := PySem.W.mg_of X G a9
  have F10 := fun_mk (st := sLL) l10 c10 k10
  have b10 := F10.binds (ps := ["_law_many9", "_law_size"]) fun _ _ _ _ _ _ us hl => match us, hl with | [_, _], _ => rfl
  have g10 := PySem.W.mg_of X G a10
  have n1 := PySem.W.mg_none_of X G z1
  have n2 := PySem.W.mg_none_of X G z2
  have n3 := PySem.W.mg_none_of X G z3
  have n4 := PySem.W.mg_none_of X G z4
  have n5 := PySem.W.mg_none_of X G z5
  have n6 := PySem.W.mg_none_of X G z6
  have n7 := PySem.W.mg_none_of X G z7
  have n8 := PySem.W.mg_none_of X G z8
  have n9 := PySem.W.mg_none_of X G z9
  have n10 := PySem.W.mg_none_of X G z10
  have dD : ∃ cdD, PySem.W.clsIn K D = some cdD := by
    have isD' : (PySem.W.clsIn K D).isSome = true := isD
    exact Option.isSome_iff_exists.mp isD'
  have iT : PySem.CleX.InitTxt l.prog K mg D fI := ⟨n10, nT0, noT, dD, tI, _, _, _, _, _, _, _, _, _, _, _, _, _, _, _, _, _, _, _, _, _, _, _, _, _, _, _, by rfl, lI, cI, ⟨_, _, _, lT, rfl⟩, ⟨_, _, _, _, _, _, lA, vA, fA⟩, ⟨_, _, _, lX⟩⟩
  have isC' : (PySem.W.clsIn K C).isSome = true := isC
  have cls : PySem.CleX.ClsTxt K C D fI (.str "BadCount" tv) :=
    { cls := ⟨nm, q, N, bs, bm, sn, sub, ab, col, dd, m0, m1, m3, m5, xC, xB⟩, nvh := rfl, mD := mD, mO := mO, sup := sup, sVE := sVE, sa := sa, ga := ga, gg := gg, noN := nw, cl := PySem.W.findObj_dataE isC' cC cG cT, rd := rd, nm := nmC, iC := iC, kC := kC, exC := exC, tyC := tyC, hdC := hdC }
  have hE := exm_of exD isD tyD sCD
  have isCu' : (PySem.W.clsIn K Cu).isSome = true := isCu
  have clsu : PySem.CleX.ClsTxt K Cu D fI (.str "BadLot" tvu) :=
    { cls := ⟨nmu, qu, Nu, bsu, bmu, snu, subu, abu, colu, ddu, m0u, m1u, m3u, m5u, xCu, xBu⟩, nvh := rfl, mD := mDu, mO := mOu, sup := supu, sVE := sVEu, sa := sau, ga := gau, gg := ggu, noN := nwu, cl := PySem.W.findObj_dataE isCu' cCu cG cT, rd := rdu, nm := nmCu, iC := iCu, kC := kCu, exC := exCu, tyC := tyCu, hdC := hdCu }
  have hEu := exm_of exD isD tyD sCDu
  have T1 : TS1 mg := ⟨n1, n2, n3, n4, n5, n6, n7, n8, n9⟩
  refine ⟨PySem.W.fnOf "law" "law" (defArgs sLaw) (defBody sLaw) (defScope sLaw) .none kVL dcL pmL anL (.ref c) ctL, [(c, Pt)], spLawT Pt K, fun p hp => by rw [List.mem_singleton.mp hp]; exact hP, fun p hp => by rw [List.mem_singleton.mp hp]; exact nP,
    fun p hp => by rw [List.mem_singleton.mp hp]; exact PySem.W.codeHd_of_K X hcP, fun s u => .of_eq rfl, fun H a ns hl _ hT hS => ⟨a, ns, rfl, hS, hl, hT _ List.mem_cons_self, fun _ => rfl⟩, fun base _ _ hTB => ?_⟩
  have TP : TxP l.prog K mg C D fI := ⟨iT, ⟨_, cls, ⟨_, rfl⟩⟩, PySem.W.mg_of X G gC, ⟨_, PySem.W.mg_of X G gM, ⟨_, rfl⟩⟩⟩
  have TLx : TL K mg f4 f5 f6 f8 f2 f10 f7 f9 D D2 := { toTS1 := T1, gB := g4, gP := g5, gO := g6, gS := g8, gL := g2, gG := g10, gF := g7, gT := g9, m1 := PySem.W.mg_of X G gD, m2 := PySem.W.mg_of X G gE }
  have GP : FnOk l.prog w K mg base CX0 1 f5 _ ["_law_bag_here", "_law_many9"] spPull := ok_pull F5 n7
  have GO := ok_of F6 GP F5.kp b5 g5 n7
  have GC := ok_chk (w := w) (base := base) F3 TP
  have GL := ok_lots (w := w) (base := base) F1 TP ⟨n5, n9, n3, PySem.W.mg_of X G gK⟩ GC g3 F3.kp b3
  have G2 := ok_place F2 TP clsu ⟨_, rfl⟩ (PySem.W.mg_of X G gCu) n7 n6 GC g3 F3.kp b3 GL g1 F1.kp b1
  exact ok_law lL cL TLx TP clsu hE hEu (hTB _ List.mem_cons_self) (ok_bag F4 n5) F4.kp b4 GP F5.kp b5 GO F6.kp b6 (ok_same F8 T1 b8 g8 3) F8.kp b8 G2 F2.kp b2 (kb_pl F2) (ok_ll F10 n9) F10.kp b10 (ok_far F7 GP g5 F5.kp b5 GO g6 F6.kp b6) F7.kp b7 F9 b9
end K2
open PySem PySem.W PyProof.Rows
set_option maxRecDepth 100000 in
set_option maxHeartbeats 0 in
theorem PySem.Challenge.cw_signcleave_k02_places_of_lots_holds : PySem.Challenge.rw_signcleave_k02_places_of_lots.Holds := by
  w_on; o_law; k_head; (case hw => w_witness2)
  k_fill
  refine LamX.walk_ofTs (l := PySem.Challenge.rw_signcleave_k02_places_of_lots) (n := 63) (k := 9) (x := "_law_script") (CX := fun _ => L2.CX0) rfl (by decide) rfl ⟨rfl, by decide, by decide⟩ (fun w h Y => PySem.W.km_in_of Y) ?F (fun _ _ _ _ _ h => h)
  case F =>
    intro w mg fa h Y KX G hmg
    refine' K2.all_mk KX G hmg ?a1 ?l1 ?c1 ?k1 ?a2 ?l2 ?c2 ?k2 ?a3 ?l3 ?c3 ?k3 ?a4 ?l4 ?c4 ?k4 ?a5 ?l5 ?c5 ?k5 ?a6 ?l6 ?c6 ?k6 ?a7 ?l7 ?c7 ?k7 ?a8 ?l8 ?c8 ?k8 ?a9 ?l9 ?c9 ?k9 ?a10 ?l10 ?c10 ?k10 ?aL ?lL ?cL ?z1 ?z2 ?z3 ?z4 ?z5 ?z6 ?z7 ?z8 ?z9 ?z10 ?gK ?gM ?gC ?gCu ?gD ?gE ?xC ?xB ?xCu ?xBu ?xD ?iC ?iCu ?tI ?lI ?cI ?lT ?lA ?vA ?fA ?lX ?nT0 ?noT ?mD ?mO ?sup ?sVE ?sa ?ga ?gg ?nw ?cC ?rd ?nmC ?kC ?exC ?tyC ?hdC ?isC ?sCD ?mDu ?mOu ?supu ?sVEu ?sau ?gau ?ggu ?nwu ?cCu ?rdu ?nmCu ?kCu ?exCu ?tyCu ?hdCu ?isCu ?sCDu ?cG ?cT ?exD ?isD ?tyD ?hP ?nP ?hcP
    (case a1 => first | k_is | ks_is | kernel_rfl | decide +kernel)
    (case l1 => first | k_is | ks_is | kernel_rfl | decide +kernel)
    (case c1 => first | k_is | ks_is | kernel_rfl | decide +kernel)
    (case k1 => first | k_is | ks_is | kernel_rfl | decide +kernel)
    (case a2 => first | k_is | ks_is | kernel_rfl | decide +kernel)
    (case l2 => first | k_is | ks_is | kernel_rfl | decide +kernel)
    (case c2 => first | k_is | ks_is | kernel_rfl | decide +kernel)
    (case k2 => first | k_is | ks_is | kernel_rfl | decide +kernel)
    (case a3 => first | k_is | ks_is | kernel_rfl | decide +kernel)
    (case l3 => first | k_is | ks_is | kernel_rfl | decide +kernel)
    (case c3 => first | k_is | ks_is | kernel_rfl | decide +kernel)
    (case k3 => first | k_is | ks_is | kernel_rfl | decide +kernel)
    (case a4 => first | k_is | ks_is | kernel_rfl | decide +kernel)
    (case l4 => first | k_is | ks_is | kernel_rfl | decide +kernel)
    (case c4 => first | k_is | ks_is | kernel_rfl | decide +kernel)
    (case k4 => first | k_is | ks_is | kernel_rfl | decide +kernel)
    (case a5 => first | k_is | ks_is | kernel_rfl | decide +kernel)
    (case l5 => first | k_is | ks_is | kernel_rfl | decide +kernel)
    (case c5 => first | k_is | ks_is | kernel_rfl | decide +kernel)
    (case k5 => first | k_is | ks_is | kernel_rfl | decide +kernel)
    (case a6 => first | k_is | ks_is | kernel_rfl | decide +kernel)
    (case l6 => first | k_is | ks_is | kernel_rfl | decide +kernel)
    (case c6 => first | k_is | ks_is | kernel_rfl | decide +kernel)
    (case k6 => first | k_is | ks_is | kernel_rfl | decide +kernel)
    (case a7 => first | k_is | ks_is | kernel_rfl | decide +kernel)
    (case l7 => first | k_is | ks_is | kernel_rfl | decide +kernel)
    (case c7 => first | k_is | ks_is | kernel_rfl | decide +kernel)
    (case k7 => first | k_is | ks_is | kernel_rfl | decide +kernel)
    (case a8 => first | k_is | ks_is | kernel_rfl | decide +kernel)
    (case l8 => first | k_is | ks_is | kernel_rfl | decide +kernel)
    (case c8 => first | k_is | ks_is | kernel_rfl | decide +kernel)
    (case k8 => first | k_is | ks_is | kernel_rfl | decide +kernel)
    (case a9 => first | k_is | ks_is | kernel_rfl | decide +kernel)
    (case l9 => first | k_is | ks_is | kernel_rfl | decide +kernel)
    (case c9 => first | k_is | ks_is | kernel_rfl | decide +kernel)
    (case k9 => first | k_is | ks_is | kernel_rfl | decide +kernel)
    (case a10 => first | k_is | ks_is | kernel_rfl | decide +kernel)
    (case l10 => first | k_is | ks_is | kernel_rfl | decide +kernel)
    (case c10 => first | k_is | ks_is | kernel_rfl | decide +kernel)
    (case k10 => first | k_is | ks_is | kernel_rfl | decide +kernel)
    (case aL => first | k_is | ks_is | kernel_rfl | decide +kernel)
    (case lL => first | k_is | ks_is | kernel_rfl | decide +kernel)
    (case cL => first | k_is | ks_is | kernel_rfl | decide +kernel)
    (case z1 => first | k_is | ks_is | kernel_rfl | decide +kernel)
    (case z2 => first | k_is | ks_is | kernel_rfl | decide +kernel)
    (case z3 => first | k_is | ks_is | kernel_rfl | decide +kernel)
    (case z4 => first | k_is | ks_is | kernel_rfl | decide +kernel)
    (case z5 => first | k_is | ks_is | kernel_rfl | decide +kernel)
    (case z6 => first | k_is | ks_is | kernel_rfl | decide +kernel)
    (case z7 => first | k_is | ks_is | kernel_rfl | decide +kernel)
    (case z8 => first | k_is | ks_is | kernel_rfl | decide +kernel)
    (case z9 => first | k_is | ks_is | kernel_rfl | decide +kernel)
    (case z10 => first | k_is | ks_is | kernel_rfl | decide +kernel)
    (case gK => first | k_is | ks_is | kernel_rfl | decide +kernel)
    (case gM => first | k_is | ks_is | kernel_rfl | decide +kernel)
    (case gC => first | k_is | ks_is | kernel_rfl | decide +kernel)
    (case gCu => first | k_is | ks_is | kernel_rfl | decide +kernel)
    (case gD => first | k_is | ks_is | kernel_rfl | decide +kernel)
    (case gE => first | k_is | ks_is | kernel_rfl | decide +kernel)
    (case xC => first | k_is | ks_is | kernel_rfl | decide +kernel)
    (case xB => decide +kernel)
    (case xCu => first | k_is | ks_is | kernel_rfl | decide +kernel)
    (case xBu => decide +kernel)
    (case xD => first | k_is | ks_is | kernel_rfl | decide +kernel)
    (case iC => first | k_is | ks_is | kernel_rfl | decide +kernel)
    (case iCu => first | k_is | ks_is | kernel_rfl | decide +kernel)
    (case tI => first | k_is | ks_is | kernel_rfl | decide +kernel)
    (case lI => first | k_is | ks_is | kernel_rfl | decide +kernel)
    (case cI => first | k_is | ks_is | kernel_rfl | decide +kernel)
    (case lT => first | k_is | ks_is | kernel_rfl | decide +kernel)
    (case lA => first | k_is | ks_is | kernel_rfl | decide +kernel)
    (case vA => rfl)
    (case fA => decide +kernel)
    (case lX => first | k_is | ks_is | kernel_rfl | decide +kernel)
    (case nT0 => decide +kernel)
    (case noT => first | k_is | ks_is | kernel_rfl | decide +kernel)
    (case mD => first | k_is | ks_is | kernel_rfl | decide +kernel)
    (case mO => first | k_is | ks_is | kernel_rfl | decide +kernel)
    (case sup => first | k_is | ks_is | kernel_rfl | decide +kernel)
    (case sVE => first | k_is | ks_is | kernel_rfl | decide +kernel)
    (case sa => first | k_is | ks_is | kernel_rfl | decide +kernel)
    (case ga => first | k_is | ks_is | kernel_rfl | decide +kernel)
    (case gg => first | k_is | ks_is | kernel_rfl | decide +kernel)
    (case nw => first | k_is | ks_is | kernel_rfl | decide +kernel)
    (case cC => first | k_is | ks_is | kernel_rfl | decide +kernel)
    (case rd => first | k_is | ks_is | kernel_rfl | decide +kernel)
    (case nmC => first | k_is | ks_is | kernel_rfl | decide +kernel)
    (case kC => first | k_is | ks_is | kernel_rfl | decide +kernel)
    (case exC => first | k_is | ks_is | kernel_rfl | decide +kernel)
    (case tyC => first | k_is | ks_is | kernel_rfl | decide +kernel)
    (case hdC => first | k_is | ks_is | kernel_rfl | decide +kernel)
    (case isC => first | k_is | ks_is | kernel_rfl | decide +kernel)
    (case sCD => first | k_is | ks_is | kernel_rfl | decide +kernel)
    (case mDu => first | k_is | ks_is | kernel_rfl | decide +kernel)
    (case mOu => first | k_is | ks_is | kernel_rfl | decide +kernel)
    (case supu => first | k_is | ks_is | kernel_rfl | decide +kernel)
    (case sVEu => first | k_is | ks_is | kernel_rfl | decide +kernel)
    (case sau => first | k_is | ks_is | kernel_rfl | decide +kernel)
    (case gau => first | k_is | ks_is | kernel_rfl | decide +kernel)
    (case ggu => first | k_is | ks_is | kernel_rfl | decide +kernel)
    (case nwu => first | k_is | ks_is | kernel_rfl | decide +kernel)
    (case cCu => first | k_is | ks_is | kernel_rfl | decide +kernel)
    (case rdu => first | k_is | ks_is | kernel_rfl | decide +kernel)
    (case nmCu => first | k_is | ks_is | kernel_rfl | decide +kernel)
    (case kCu => first | k_is | ks_is | kernel_rfl | decide +kernel)
    (case exCu => first | k_is | ks_is | kernel_rfl | decide +kernel)
    (case tyCu => first | k_is | ks_is | kernel_rfl | decide +kernel)
    (case hdCu => first | k_is | ks_is | kernel_rfl | decide +kernel)
    (case isCu => first | k_is | ks_is | kernel_rfl | decide +kernel)
    (case sCDu => first | k_is | ks_is | kernel_rfl | decide +kernel)
    (case cG => first | k_is | ks_is | kernel_rfl | decide +kernel)
    (case cT => first | k_is | ks_is | kernel_rfl | decide +kernel)
    (case exD => first | k_is | ks_is | kernel_rfl | decide +kernel)
    (case isD => first | k_is | ks_is | kernel_rfl | decide +kernel)
    (case tyD => first | k_is | ks_is | kernel_rfl | decide +kernel)
    (case hP => exact PySem.W.km_tabs_of Y _ (by simp; rfl))
    (case nP => first | k_is | ks_is | kernel_rfl | decide +kernel)
    (case hcP => first | k_is | ks_is | kernel_rfl | decide +kernel)
