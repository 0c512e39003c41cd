import PyProof.Rows.All
import Wide.All
import OpenK.AllK
import Wide.FinOn
import KE.KStateDown
import HandS.ForMost
import HandS.ForExc
import HandS.More
import HandS.Words
import HandS.WordsExc
import HandS.Defaults
import HandS.TryMany
import HandS.ExcIs
import HandS.ExcValue
import HandS.ExcInit
import HandS.RaiseMore
import HandS.DictTup
import HandS.Wide
import HandS.IsInst
import HandS.Conv
import HandS.Head0
import HandS.Head1
import HandS.Head2
import HandS.HeadEnd
import HandS.HeadHook1
import HandS.HeadHook2
import HandS.HeadHook3
import HandS.HeadHook4
import KE.KExcInit
import KE.KExcPX
import KE.KExcIs
import KE.KTryMore
import KE.KCallOwn
import KE.SortData
import KE.SortKeyHeap
import PyProof.StrWalks
import HandS.Base
import HandS.Call
import HandS.List
import HandS.Dict
import HandS.Iter
import HandS.Set
import HandS.SetFor
import HandS.TupSets
import HandS.SetTxt0
import HandS.SortKw
import KE.KSortKey
import HandS.StrMore
import HandS.Text
import HandS.ExcOwn
import HandS.Lambda
import HandS.Style
import HandS.TupMul
import HandS.Walk
import HandS.Steps
import HandS.WideBits
import HandS.TupAny
import PyProof.StrBlock2
import HandS.HeadWalk
import HandS.NestedK
import PySem.Challenge.RW_twowaycuts_k00_integers_letters_and_word
set_option Elab.async false
set_option linter.all false
set_option maxRecDepth 100000
set_option maxHeartbeats 4000000
/-! the draws -/
namespace K0
open PySem PySem.Spec PyProof.Rows L2
def top (i : Nat) : Stmt := PySem.Challenge.pw_twowaycuts_k00_integers_letters_and_word.main.body.getD i (.Pass ⟨0, 0, 0, 0⟩)
abbrev sJug : Stmt := top 22
abbrev sBit : Stmt := top 23
abbrev sPick : Stmt := top 24
abbrev FnP (K : PySem.W.Frag) (x : Str) (st : Stmt) (f : Addr) (fd : FuncData) : Prop := FunD K x x (defArgs st) (defBody st) (defScope st) [] [] f fd

/-! ### a power with a great base -/
def CPowX (i j : Int) : Prop := 0 ≤ j ∧ (Builtin.Int.intBits i : Int) * j ≤ 2 ^ 27
theorem op_powX {X : Cx} : OpR X (binaryOp .Pow) (rI CPowX fun i j => .int (i ^ j.toNat)) := opI fun _ _ _ _ _ _ _ hc q => pow_int hc.1 hc.2 q

/-! ### the jug: a list of three ints, the first at least 0 -/
def JugAt (H : Hp) (j : Addr) : Prop := ∃ a b c : Int, H j = some (.lst [.int a, .int b, .int c]) ∧ 0 ≤ a
/-- all stands but j, which is a jug still -/
def Kj (j : Addr) (H H' : Hp) : Prop := (∀ b o, b ≠ j → H b = some o → H' b = some o) ∧ JugAt H' j
theorem Kj.refl {j : Addr} {H : Hp} (h : JugAt H j) : Kj j H H := ⟨fun _ _ _ e => e, h⟩
theorem Kj.trans {j : Addr} {H H1 H2 : Hp} (a : Kj j H H1) (b : Kj j H1 H2) : Kj j H H2 := ⟨fun c o n e => b.1 c o n (a.1 c o n e), b.2⟩
theorem Kj.put {j : Addr} {H : Hp} {a b c : Int} (h : 0 ≤ a) : Kj j H (upd H j (.lst [.int a, .int b, .int c])) := ⟨fun d o n e => by rw [upd_ne n]; exact e, ⟨a, b, c, upd_same, h⟩⟩
theorem Kj.new {j p : Addr} {H H' : Hp} {o : HO} (k : Kj j H H') (hp : H p = none) (hj : p ≠ j) : Kj j H (upd H' p o) := ⟨fun c u n e => by
  rw [upd_ne (ne_of_none e hp)]; exact k.1 c u n e, by
  obtain ⟨a, b, c, e, h⟩ := k.2
  exact ⟨a, b, c, by rw [upd_ne (Ne.symm hj)]; exact e, h⟩⟩
theorem Kj.rd {j a : Addr} {H H' : Hp} {u : HO} (k : Kj j H H') (n : a ≠ j) (h : Rd H a u) : Rd H' a u := by
  rcases h with h | ⟨o, h⟩
  · exact .inl (k.1 a _ n h)
  · exact .inr ⟨o, k.1 a _ n h⟩
theorem Kj.sqL {K : PySem.W.Frag} {j a : Addr} {H H' : Hp} {xs : List V} (k : Kj j H H') (n : a ≠ j) (h : SqL K H a xs) : SqL K H' a xs := by
  rcases h with h | h
  · exact .inl (k.rd n h)
  · exact .inr h
theorem Kj.sqT {K : PySem.W.Frag} {j a : Addr} {H H' : Hp} {xs : List V} (k : Kj j H H') (n : a ≠ j) (h : SqT K H a xs) : SqT K H' a xs := by
  rcases h with h | h
  · exact .inl (k.rd n h)
  · exact .inr h

/-! ### promises -/
def spJug (K : PySem.W.Frag) : Sp := fun vs H Q _ => ∃ (l : Addr) (ns : List Int) (i : Nat), vs = [.ref l, .int (i : Int)] ∧ SqL K H l (ns.map V.int) ∧
  ∀ j H', H j = none → (∀ b o, H b = some o → H' b = some o) → JugAt H' j → Q (.ref j) H'
def spBit : Sp := fun vs H Q _ => ∃ (j : Addr) (m : Int), vs = [.ref j, .int m] ∧ JugAt H j ∧ 0 < m ∧ m < 2 ^ 200 ∧
  ∀ r H', 0 ≤ r → r < m → Kj j H H' → Q (.int r) H'
def spPick (K : PySem.W.Frag) : Sp := fun vs H Q _ => ∃ (j p : Addr) (xs : List V), vs = [.ref j, .ref p] ∧ JugAt H j ∧ SqL K H p xs ∧ p ≠ j ∧ xs ≠ [] ∧ xs.length ≤ 1000 ∧
  ∀ x H', x ∈ xs → Kj j H H' → Q x H'

section
variable {P : Program} {w : World} {K : PySem.W.Frag} {mg : Str → Option Value} {base : Heap} {f fB fJ : Addr} {fd fdB : FuncData}
theorem scBit : FnScope ["jug", "much", "found", "first", "later"] ["jug", "much"] (defScope sBit) := ⟨rfl, rfl, rfl, by decide +kernel, rfl, by decide +kernel, by decide +kernel⟩
theorem scJug : FnScope ["script", "at", "cell", "great", "blend"] ["script", "at"] (defScope sJug) := ⟨rfl, rfl, rfl, by decide +kernel, rfl, by decide +kernel, by decide +kernel⟩
theorem scPick : FnScope ["jug", "items"] ["jug", "items"] (defScope sPick) := ⟨rfl, rfl, rfl, by decide +kernel, rfl, by decide +kernel, by decide +kernel⟩

theorem ok_bit (F : FnP K "_law_bit" sBit f fd) (mI : mg "int" = none) : FnOk P w K mg base CX0 1 f fd ["jug", "much"] spBit := by
  refine F.ok scBit (fun vs H Q E h => ?_) (fun cdv A outer s H vs Q E hr h => ?_)
  · obtain ⟨j, m, rfl, _⟩ := h
    rfl
  · obtain ⟨j, m, rfl, ⟨a, b, c, ej, ha⟩, hm, hm2, q⟩ := h
    refine ⟨_, PSs.nox (pss_cons (ps_if (pt_cmpR op_gt (pe_ix ix_list (pv 0) pe_int (fun _ _ => rfl)) pe_int (nomark _))
        (pss_cons (ps_set (i := 2) scBit.nd rfl (.inl rfl) (pe_op op_mod (pe_callTy call_int1 (by rfl) mI (by decide +kernel) (pa_cons (pe_ix ix_list (pv 0) pe_int (fun _ _ => rfl)) pa_nil)) (pv 1)))
          (pss_cons (ps_asg (pe_op op_fdivW (pe_ix ix_list (pv 0) pe_int (fun _ _ => rfl)) (pv 1)) (pg_sub (pv 0) pe_int set_list))
          (pss_one (ps_ret (pv 2))))) pss_nil)
      (pss_cons (ps_asg (pe_op op_add (pe_ix ix_list (pv 0) pe_int (fun _ _ => rfl)) pe_int) (pg_sub (pv 0) pe_int set_list))
      (pss_cons (ps_set (i := 3) scBit.nd rfl (.inl rfl) (pe_op op_mod (pe_callTy call_int1 (by rfl) mI (by decide +kernel) (pa_cons (pe_op op_add (pe_ix ix_list (pv 0) pe_int (fun _ _ => rfl)) (pe_op op_mul pe_int (pe_ix ix_list (pv 0) pe_int (fun _ _ => rfl)))) pa_nil)) pe_int))
      (pss_cons (ps_set (i := 4) scBit.nd rfl (.inl rfl) (pe_op op_add (pe_op op_mul (pe_op op_mod (pe_callTy call_int1 (by rfl) mI (by decide +kernel) (pa_cons (pe_op op_mul (pv 3) (pv 3)) pa_nil)) pe_int) (pv 3)) (pe_op op_mul pe_int (pe_ix ix_list (pv 0) pe_int (fun _ _ => rfl)))))
      (pss_one (ps_ret (pe_op op_mod (pe_callTy call_int1 (by rfl) mI (by decide +kernel) (pa_cons (pe_op op_fdiv (pe_op op_mod (pe_callTy call_int1 (by rfl) mI (by decide +kernel) (pa_cons (pv 4) pa_nil)) pe_int) pe_int) pa_nil)) (pv 1)))))))), ?_⟩
    refine ⟨_, rfl, _, _, _, _, rfl, rfl, SqL.of ej, atI_nat (j := 0) rfl, _, _, rfl, rfl, _, rfl, ite2 (fun e => ?_) (fun e => ?_)⟩
    · refine ⟨_, rfl, _, _, _, _, rfl, rfl, SqL.of ej, atI_nat (j := 0) rfl, .inl ⟨_, rfl, _, rfl, _, _, rfl, rfl, hm, ?_⟩⟩
      refine ⟨_, rfl, _, _, _, _, rfl, rfl, SqL.of ej, atI_nat (j := 0) rfl, _, rfl, _, _, rfl, rfl, wide_div hm (b := 200) (by omega) (by decide) (by decide), ?_⟩
      refine ⟨_, rfl, _, _, _, 0, rfl, rfl, ej, rfl, ?_⟩
      refine ⟨_, rfl, ?_⟩
      exact q _ _ (Int.emod_nonneg _ (by omega)) (Int.emod_lt_of_pos _ hm) (Kj.put (Int.ediv_nonneg ha (by omega)))
    · refine ⟨_, rfl, _, _, _, _, rfl, rfl, SqL.of ej, atI_nat (j := 2) rfl, _, _, rfl, rfl, ?_⟩
      refine ⟨_, rfl, _, _, _, 2, rfl, rfl, ej, rfl, ?_⟩
      have ej2 : (upd H j (.lst [V.int a, V.int b, V.int (c + 1)])) j = some (.lst [V.int a, V.int b, V.int (c + 1)]) := upd_same
      refine ⟨_, rfl, _, _, _, _, rfl, rfl, SqL.of ej2, atI_nat (j := 1) rfl, _, rfl, _, _, _, _, rfl, rfl, SqL.of ej2, atI_nat (j := 2) rfl, _, _, rfl, rfl, .inl (by decide), _, _, rfl, rfl, .inl ⟨_, rfl, _, _, rfl, rfl, (by show (0:Int) < _; decide), ?_⟩⟩
      have hf0 := Int.emod_nonneg (b + 1000507 * (c + 1)) (show (2305843009213693951 : Int) ≠ 0 by decide)
      have hf1 := Int.emod_lt_of_pos (b + 1000507 * (c + 1)) (show (0 : Int) < 2305843009213693951 by decide)
      generalize (b + 1000507 * (c + 1)) % 2305843009213693951 = fi at hf0 hf1
      refine ⟨_, rfl, _, rfl, _, _, rfl, rfl, .inl ⟨by omega, by omega⟩, .inl ⟨_, rfl, _, _, rfl, rfl, (by show (0:Int) < _; decide), ?_⟩⟩
      refine ⟨_, rfl, _, _, rfl, rfl, .inr ⟨by omega, by omega⟩, _, rfl, _, _, _, _, rfl, rfl, SqL.of ej2, atI_nat (j := 2) rfl, _, _, rfl, rfl, .inl (by decide), _, _, rfl, rfl, ?_⟩
      refine ⟨_, rfl, .inl ⟨_, rfl, _, _, rfl, rfl, (by show (0:Int) < _; decide), _, _, rfl, rfl, ⟨by decide, by decide⟩, .inl ⟨_, rfl, _, rfl, _, _, rfl, rfl, hm, ?_⟩⟩⟩
      exact q _ _ (Int.emod_nonneg _ (by omega)) (Int.emod_lt_of_pos _ hm) (Kj.put ha)

theorem ok_jug (F : FnP K "_law_jug" sJug f fd) (mI : mg "int" = none) (mL : mg "len" = none) (mA : mg "abs" = none) (mM : mg "max" = none) : FnOk P w K mg base CX0 1 f fd ["script", "at"] (spJug K) := by
  refine F.ok scJug (fun vs H Q E h => ?_) (fun cdv A outer s H vs Q E hr h => ?_)
  · obtain ⟨l, ns, i, rfl, _⟩ := h
    rfl
  · obtain ⟨l, ns, i, rfl, hS, q⟩ := h
    refine ⟨_, PSs.nox (pss_cons (ps_set (i := 2) scJug.nd rfl (.inl rfl) (pe_ifExp (pt_cmpR op_lt (pv 1) (pe_callB call_len_seq (by rfl) mL PySem.boot_len (pa_cons (pv 0) pa_nil)) (nomark _))
          (pe_ix ix_list (pv 0) (pv 1) (fun _ _ => rfl)) (pe_op op_add (pe_op op_mul pe_int (pv 1)) pe_int)))
      (pss_cons (ps_set (i := 3) scJug.nd rfl (.inl rfl) (pe_op op_mod (pe_callTy call_int1 (by rfl) mI (by decide +kernel) (pa_cons (pe_callB call_abs (by rfl) mA (by decide +kernel) (pa_cons (pv 2) pa_nil)) pa_nil)) (pe_op op_powX (pe_op op_powX pe_int pe_int) pe_int)))
      (pss_cons (ps_set (i := 4) scJug.nd rfl (.inl rfl) (pe_op op_add (pe_op op_add (pe_op op_add (pe_op op_mul (pe_op op_mod (pe_callTy call_int1 (by rfl) mI (by decide +kernel) (pa_cons (pv 3) pa_nil)) pe_int) pe_int) (pe_op op_mul pe_int (pv 1))) (pe_op op_mul pe_int (pe_callTy call_int1 (by rfl) mI (by decide +kernel) (pa_cons (pe_cmpR op_lt (pv 2) pe_int (nomark _)) pa_nil)))) pe_int))
      (pss_one (ps_ret (pe_lst (pa_cons (pe_callB (call_max2 rfl) (by rfl) mM (by decide +kernel) (pa_cons pe_int (pa_cons (pe_op op_sub (pv 3) (pe_op op_powX pe_int pe_int)) pa_nil))) (pa_cons (pe_op op_mod (pe_callTy call_int1 (by rfl) mI (by decide +kernel) (pa_cons (pv 4) pa_nil)) pe_int) (pa_cons pe_int pa_nil))))))))), ?_⟩
    refine ⟨_, rfl, _, rfl, _, _, rfl, .inl hS, _, _, rfl, rfl, _, rfl, ite2 (fun e => ?a) (fun e => ?b)⟩
    case' a =>
      have hi : i < ns.length := by
        have z := of_decide_eq_true e
        rw [List.length_map] at z
        omega
      refine ⟨_, rfl, _, rfl, _, _, _, _, rfl, rfl, hS, atI_nat (v := .int (ns[i]'hi)) (by rw [List.getElem?_map, List.getElem?_eq_getElem hi]; rfl), ?_⟩
      generalize ns[i]'hi = cell
    case' b =>
      refine ⟨_, rfl, _, _, rfl, rfl, .inl (by decide), _, _, rfl, rfl, ?_⟩
      generalize 71 * (i : Int) + 41 = cell
    all_goals
      refine ⟨_, rfl, _, rfl, .inl ⟨_, rfl, _, _, rfl, rfl, ⟨by decide, by decide +kernel⟩, _, _, rfl, rfl, ⟨by decide, by decide +kernel⟩, _, _, rfl, rfl, (by show (0:Int) < _; decide +kernel), ?_⟩⟩
      have hb : (0 : Int) < (10 ^ (61 : Int).toNat) ^ (11 : Int).toNat := by decide +kernel
      have hg0 := Int.emod_nonneg (if cell < 0 then -cell else cell) (show ((10 ^ (61 : Int).toNat) ^ (11 : Int).toNat : Int) ≠ 0 by omega)
      generalize (if cell < 0 then -cell else cell) % ((10 ^ (61 : Int).toNat) ^ (11 : Int).toNat : Int) = great at hg0
      refine ⟨_, rfl, .inl ⟨_, rfl, _, _, rfl, rfl, (by show (0:Int) < _; decide), _, _, rfl, rfl, .inr (by decide), _, rfl, _, _, rfl, rfl, .inl (by decide), _, _, rfl, rfl, _, rfl, _, _, rfl, rfl, .inr ⟨_, rfl, _, _, rfl, rfl, .inl (by decide), _, _, rfl, rfl, _, _, rfl, rfl, ?_⟩⟩⟩
      refine ⟨_, rfl, _, _, rfl, rfl, ⟨by decide, by decide +kernel⟩, _, _, rfl, rfl, _, _, rfl, _, rfl, .inl ⟨_, rfl, _, _, rfl, rfl, (by show (0:Int) < _; decide), (by show 3 ≤ sizeLine; decide), fun p hp => ?_⟩⟩
      refine q p _ hp (fun b o e => by rw [upd_ne (ne_of_none e hp)]; exact e) ⟨_, _, _, upd_same, ?_⟩
      split <;> omega

theorem ok_pick (F : FnP K "_law_pick" sPick f fd) (FB : FnOk P w K mg base CX0 1 fB fdB ["jug", "much"] spBit) (gB : mg "_law_bit" = some (.ref fB)) (kB : PySem.W.keepIn K (.ref fB) = true) (bB : Binds K fdB ["jug", "much"] [])
    (mL : mg "len" = none) : FnOk P w K mg base CX0 2 f fd ["jug", "items"] (spPick K) := by
  refine F.ok scPick (fun vs H Q E h => ?_) (fun cdv A outer s H vs Q E hr h => ?_)
  · obtain ⟨j, p, xs, rfl, _⟩ := h
    rfl
  · obtain ⟨j, p, xs, rfl, hj, hS, hpj, hne, hlen, q⟩ := h
    refine ⟨_, PSs.nox (pss_one (ps_ret (pe_ix ix_list (pv 1) (pe_call FB hr rfl gB kB bB .nil pass0 (pa_cons (pv 0) (pa_cons (pe_callB call_len_seq (by rfl) mL PySem.boot_len (pa_cons (pv 1) pa_nil)) pa_nil))) (fun _ _ => rfl)))), ?_⟩
    have h0 : 0 < xs.length := List.length_pos_iff.mpr hne
    refine ⟨_, rfl, _, rfl, _, rfl, _, _, rfl, .inl hS, j, _, rfl, hj, by omega, by omega, fun r H' hr0 hr1 hk => ?_⟩
    have hi : r.toNat < xs.length := by omega
    have er : r = ((r.toNat : Nat) : Int) := by omega
    rw [er]
    refine ⟨_, _, _, _, rfl, rfl, hk.sqL hpj hS, atI_nat (List.getElem?_eq_getElem hi), ?_⟩
    exact q _ _ (List.getElem_mem hi) hk

end
end K0

/-! own exceptions with an own __init__, of any base: fields stored, objects made -/
namespace XE
open PySem PySem.W PySem.Calls PyProof.Rows PySem.Spec Builtin Builtin.ObjectAttr
section
variable {prog : Program} {w : World} {A : Around} {R : Result → Shared → Prop} {hp : Heap} {g : Array GenState} {dr : Drawn} {t : Nat} {os : OsState} {K : Frag} {C : Addr} {B : String} {bmB : List Value}
/-- the first field: the dict is made -/
theorem first_field {x : Addr} {fv : Array Value} {name : Str} {tk : Tok} {v : Value} (SF : StoreFacts B bmB "object.__setattr__" "object") (KI : K.In hp) (ov : excOver K C bmB = true) (tn : takerIn K C name = some none) (hh : hasDictIn K C = true)
    (hx : hp.get? x = some { cls := .ref C, data := .fields fv })
    (fin : ∀ h' tk' dx, (∀ b o, b ≠ x → hp.get? b = some o → h'.get? b = some o) → hp.objs.size ≤ dx → dx ≠ x → h'.get? x = some { cls := .ref C, dict := some dx, data := .fields fv } →
      h'.Ns1 dx (fun y => if y = name then some v else none) → R (.ok (.ret .none)) ⟨h', g, dr, tk', os⟩) :
    codeAny (model prog w) A (.call (.builtin "object.__setattr__") ⟨[.ref x, .str name tk, v], []⟩) R ⟨hp, g, dr, t, os⟩ := by
  have away : x ≠ hp.objs.size := Nat.ne_of_lt (Heap.lt_size hx)
  obtain ⟨cd, hcd, hd1⟩ := any_some hh
  have look : Looks (model prog w) hp (classData C) cd := looks_clsIn KI hcd
  refine osa_openX (s := ⟨hp, g, dr, t, os⟩) (od := none) SF KI ⟨hx, rfl, rfl, trivial⟩ ov tn fun b => ?_
  show wpAny _ _ (storeInOwnDict (.ref x) (.ref C) (.str name tk) name v b) _ _ _
  obtain ⟨nm, bs, mro, ns, qn, hdd, sn, sb, ab, col, del⟩ := cd
  dsimp only at hd1
  subst hd1
  unfold storeInOwnDict ownDictForStores
  repeat (first | with_reducible refine PX.store_in_new ?_ ?_ | with_reducible refine wpAny_loadPart_at hx ?_ | with_reducible refine look.at ?_ | wp_step)
  · exact ⟨_, #[], _, (Heap.get?_update_ne _ _ _ _ away.symm).trans (Heap.get?_push_at rfl rfl), rfl, fun e he => absurd he (by simp), fun _ => rfl⟩
  · intro h' tk' hn' hs
    have hx1 : (hp.push { cls := .type "dict", data := .dict #[] }).get? x = some { cls := .ref C, data := .fields fv } := Heap.get?_push_of_some _ hx
    refine fin h' tk' hp.objs.size (fun b o hb ho => ?_) (Nat.le_refl _) away.symm ?_ hn'
    · exact (hs.2 b (Nat.ne_of_lt (Heap.lt_size ho))).trans ((Heap.get?_update_ne _ _ _ _ hb).trans (Heap.get?_push_of_some _ ho))
    · exact (hs.2 x away).trans (Heap.get?_update_self _ hx1 rfl)
/-- a further field -/
theorem more_field {x dx : Addr} {fv : Array Value} {name : Str} {tk : Tok} {v : Value} {m0 : Str → Option Value} {nl : List Str} (SF : StoreFacts B bmB "object.__setattr__" "object") (KI : K.In hp) (ov : excOver K C bmB = true) (tn : takerIn K C name = some none) (hh : hasDictIn K C = true)
    (hx : hp.get? x = some { cls := .ref C, dict := some dx, data := .fields fv }) (hns : hp.Ns1 dx m0) (hw : Within m0 nl) (hz : nl.length ≤ 1000)
    (fin : ∀ h' tk', (∀ b o, b ≠ dx → hp.get? b = some o → h'.get? b = some o) → h'.Ns1 dx (fun y => if y = name then some v else m0 y) → R (.ok (.ret .none)) ⟨h', g, dr, tk', os⟩) :
    codeAny (model prog w) A (.call (.builtin "object.__setattr__") ⟨[.ref x, .str name tk, v], []⟩) R ⟨hp, g, dr, t, os⟩ := by
  obtain ⟨oD, _, _, hoD, _, _⟩ := hns.count hw
  obtain ⟨cd, hcd, hd1⟩ := any_some hh
  have look : Looks (model prog w) hp (classData C) cd := looks_clsIn KI hcd
  refine osa_openX (s := ⟨hp, g, dr, t, os⟩) (od := some oD) SF KI ⟨hx, rfl, rfl, hoD⟩ ov tn fun b => ?_
  show wpAny _ _ (storeInOwnDict (.ref x) (.ref C) (.str name tk) name v b) _ _ _
  obtain ⟨nm, bs, mro, ns, qn, hdd, sn, sb, ab, col, del⟩ := cd
  dsimp only at hd1
  subst hd1
  unfold storeInOwnDict ownDictForStores
  repeat (first | with_reducible refine PX.store_in_old hns hw hz ?_ | with_reducible refine wpAny_loadPart_at hx ?_ | with_reducible refine look.at ?_ | wp_step)
  intro h' tk' hn' hs
  exact fin h' tk' (fun b o hb ho => (hs.2 b hb).trans ho) hn'
end
end XE

/-! own exceptions with an own __init__, in the layer -/
namespace XE
open PySem PySem.Spec PyProof.Rows L2
open PySem.W (Frag)
/-- what the written part says of an own exception class with its own __init__, of any base -/
structure InitC (K : Frag) (C fI : Addr) : Prop where
  how : ∃ B newId initId bmB, ExcBaseFacts B newId initId bmB ∧ StoreFacts B bmB "object.__setattr__" "object" ∧ PySem.W.excInitIn K C bmB newId = true ∧ PySem.W.excOver K C bmB = true
  sa : PySem.W.findIn K (.ref C) "__setattr__" = some (some (.builtin "object.__setattr__"))
  hd : PySem.W.hasDictIn K C = true
  iC : PySem.W.findIn K (.ref C) "__init__" = some (some (.ref fI))
  fI : PySem.W.isFn K (.ref fI) = true
  kC : PySem.W.keepIn K (.ref C) = true
section
variable {X : Cx} {pins : List (Addr × Obj)} {σ : L2.St} {H : Hp} {s : Shared} {a C fI dx : Addr} {f : Str} {y : V} {u : Value} {fs : List (Str × V)} {Q : Unit → Shared → Prop} {E : Value → Shared → Prop} {A : Around}
theorem put_first (T : InitC X.K C fI) (I : Inv X pins σ H s) (ea : H a = some (exo a C none)) (tn : PySem.W.takerIn X.K C f = some none) (ry : RelV y u)
    (h : ∀ d s', H d = none → d ≠ a → Inv X pins σ (upd (upd H d (exd d [(f, y)])) a (exo a C (some d))) s' → Q () s') : wpAny (model X.prog X.w) A (setAttr (.ref a) f u) Q E s := by
  obtain ⟨B, newId, initId, bmB, FB, SF, -, ov⟩ := T.how
  obtain ⟨tt, there⟩ := exo_at I.hok ea
  obtain ⟨hp, g, dr, t, os⟩ := s
  refine PySem.W.set_plain I.kIn (ox := { cls := .ref C, dict := none, data := .fields #[.ref tt, .none, .none, .none, .bool false, .none] }) (od := none) ⟨there, rfl, rfl, trivial⟩ T.sa ?_
  refine first_field SF I.kIn ov tn T.hd there fun h' tk' d keep dn dne hxa hns => ?_
  have fresh : H d = none := I.hok.fresh dn
  have old : ∀ {b : Addr} {o : Obj}, hp.get? b = some o → b ≠ d := fun {b o} q => Nat.ne_of_lt (Nat.lt_of_lt_of_le (Heap.lt_size q) dn)
  have apart : ∀ {b : Addr}, H b = none → b ≠ a := fun {b} n z => by
    subst z
    rw [ea] at n
    cases n
  refine h d ⟨h', g, dr, tk', os⟩ fresh dne (I.un (t' := tk') ?_ fun b o q => ?_)
  · exact {
      keep := fun b o q n _ _ => keep b o (apart n) q
      slot := fun b o q n _ _ => ⟨o.slots, keep b o (apart n) q⟩
      free := fun b o q n _ => (upd_ne (apart n)).trans ((upd_ne (old q)).trans n)
      there := fun b o q _ => by
        rcases Classical.em (b = a) with e | e
        · subst e
          exact ⟨_, hxa⟩
        · exact ⟨o, keep b o e q⟩
      tups := fun b xs q => (upd_ne (at_ne ea q exo_tup)).trans ((upd_ne (ne_of_none q fresh)).trans q)
      frzs := fun b o v q => (upd_ne (at_ne ea q exo_frz)).trans ((upd_ne (ne_of_none q fresh)).trans q)
      tbls := fun b ps q => ⟨#[], by rw [Array.append_empty]; exact (upd_ne (at_ne ea q exo_tbl)).trans ((upd_ne (ne_of_none q fresh)).trans q)⟩ }
  · rcases Classical.em (b = a) with e | e
    · subst e
      obtain rfl := Option.some.inj (upd_same.symm.trans q)
      exact exo_ok hxa
    · rw [upd_ne e] at q
      rcases Classical.em (b = d) with e2 | e2
      · subst e2
        obtain rfl := Option.some.inj (upd_same.symm.trans q)
        exact exd_ok hns (relO_put (fs := []) ry fun _ => True.intro)
      · rw [upd_ne e2] at q
        refine (I.hok b o q).stay (fun c v hc z => keep c v ?_ z) (fun c hc => (upd_ne (at_ne ea hc exo_own)).trans ((upd_ne (ne_of_none hc fresh)).trans hc)) fun c xs hc => (upd_ne (at_ne ea hc exo_tup)).trans ((upd_ne (ne_of_none hc fresh)).trans hc)
        rcases hc with hc | hc
        · rw [hc]; exact e
        · exact at_ne ea hc exo_own
theorem put_more (T : InitC X.K C fI) (I : Inv X pins σ H s) (ea : H a = some (exo a C (some dx))) (ed : H dx = some (exd dx fs)) (few : fs.length ≤ 900) (tn : PySem.W.takerIn X.K C f = some none) (ry : RelV y u)
    (h : ∀ s', Inv X pins σ (upd H dx (exd dx ((f, y) :: fs))) s' → Q () s') : wpAny (model X.prog X.w) A (setAttr (.ref a) f u) Q E s := by
  obtain ⟨B, newId, initId, bmB, FB, SF, -, ov⟩ := T.how
  obtain ⟨tt, there⟩ := exo_at I.hok ea
  obtain ⟨mA, hns, rel⟩ := exd_at I.hok ed
  have hw := within_of rel
  obtain ⟨hp, g, dr, t, os⟩ := s
  obtain ⟨oD, _, _, hoD, _, _⟩ := hns.count hw
  refine PySem.W.set_plain I.kIn (ox := { cls := .ref C, dict := some dx, data := .fields #[.ref tt, .none, .none, .none, .bool false, .none] }) (od := some oD) ⟨there, rfl, rfl, hoD⟩ T.sa ?_
  refine more_field SF I.kIn ov tn T.hd there hns hw (by rw [List.length_map]; omega) fun h' tk' keep hn => ?_
  have gone : ∃ o, h'.get? dx = some o := ⟨hn.choose, hn.choose_spec.choose_spec.choose_spec.1⟩
  exact h _ (I.write (t' := tk') (x := dx) (e := dx) (o := exd dx ((f, y) :: fs)) (by rw [ed]; exact True.intro) (.inl rfl) keep gone (exd_ok hn (relO_put ry rel)))
end
/-- self.f = e in such an __init__ -/
def tPut (K : Frag) (f : Str) (to te : TE) : TS := fun D σ H => te σ H fun y H1 => to σ H1 fun x H2 => ∃ a C fI : Addr, x = .ref a ∧ InitC K C fI ∧ PySem.W.takerIn K C f = some none ∧
  ((H2 a = some (exo a C none) ∧ ∀ d, H2 d = none → d ≠ a → D.nx σ (upd (upd H2 d (exd d [(f, y)])) a (exo a C (some d)))) ∨
    ∃ (d : Addr) (fs : List (Str × V)), H2 a = some (exo a C (some d)) ∧ H2 d = some (exd d fs) ∧ fs.length ≤ 900 ∧ D.nx σ (upd H2 d (exd d ((f, y) :: fs))))
section
variable {X : Cx} {o e : Expr} {to te : TE} {f : Str} {p' pos : Pos}
theorem ps_put (ho : PE X o to) (he : PE X e te) (hs : swapsWith e (some (.Attribute o f p')) pos.line X.env = pure false := by rfl) : PS X (.Assign [.Attribute o f p'] e pos) (tPut X.K f to te) := by
  refine ⟨fun pins s σ H D I h => ?_⟩
  refine plainObj_wpAny_Assign_Attribute (thn (he.run pins s σ H _ I h) fun v s1 ⟨y, H1, I1, r1, q1⟩ => thn (ho.run pins s1 σ H1 _ I1 q1) fun u s2 ⟨x, H2, I2, r2, hz⟩ => ?_) hs
  obtain ⟨a, C, fI, rfl, T, tn, q⟩ := hz
  cases (show u = Value.ref a from r2)
  rcases q with ⟨ea, q⟩ | ⟨d, fs, ea, ed, few, q⟩
  · exact put_first T I2 ea tn r1 fun d s' n ne J => ⟨σ, _, J, q d n ne⟩
  · exact put_more T I2 ea ed few tn r1 fun s' J => ⟨σ, _, J, q⟩
end
end XE

/-! C(e, ..) for such a class: as a value, and raised -/
namespace XE
open PySem PySem.Spec PyProof.Rows L2
open PySem.W (Frag)
section
variable {X : Cx} {CX : CXT} {pins : List (Addr × Obj)} {σ : L2.St} {H : Hp} {s : Shared} {C fI : Addr} {k : Nat} {fd : FuncData} {ps : List Str} {sp : Sp} {E : XK} {us : List Value} {vs : List V} {Q1 : VK}
/-- the call of the class: what its __init__ leaves -/
theorem run_new {Z : Value → Shared → Prop} (T : InitC X.K C fI) (F1 : FnOk X.prog X.w X.K X.mg X.base CX k fI fd ps sp) (hr : Room (k + 1) X.A) (hb : Binds X.K fd ps []) (hx : Passes CX X E)
    (I : Inv X pins σ H s) (r : Vals vs us) (few : us.length ≤ 1000)
    (h : H (s.heap.objs.size + 1) = none → sp (.ref (s.heap.objs.size + 1) :: vs) (upd H (s.heap.objs.size + 1) (exo (s.heap.objs.size + 1) C none)) Q1 E)
    (fin : ∀ u s' hp2, (∀ b o, s.heap.get? b = some o → hp2.get? b = some o) → CE X.stack X.prog X.w (upd H (s.heap.objs.size + 1) (exo (s.heap.objs.size + 1) C none)) { s with heap := hp2 } Q1 u s' →
      Inv X pins σ (upd H (s.heap.objs.size + 1) (exo (s.heap.objs.size + 1) C none)) { s with heap := hp2 } → u = .none ∧ Z (.ref (s.heap.objs.size + 1)) s') :
    wpAny (model X.prog X.w) X.A (call (.ref C) us) Z X.xe s := by
  obtain ⟨B, newId, initId, bmB, FB, -, ini, -⟩ := T.how
  obtain ⟨nm, N', qn, bs, bm, hdct, sn, sub, ab, col, dd, k0, k1, k2, k3, k5, hC, hT⟩ := PySem.W.excInit_of I.kIn ini
  obtain ⟨hp, g, dr, tk, os⟩ := s
  have next : hp.objs.size ≤ hp.objs.size + 1 := Nat.le_succ _
  have start := h (I.hok.fresh next)
  have grown : ∀ b o, hp.get? b = some o → ((hp.push (PySem.W.kdv_tup us)).push (PX.excO C hp.objs.size)).get? b = some o := fun b o e => Heap.get?_push_of_some _ (Heap.get?_push_of_some _ e)
  have laid : ((hp.push (PySem.W.kdv_tup us)).push (PX.excO C hp.objs.size)).get? (hp.objs.size + 1) = some (PX.excO C hp.objs.size) := by heap_get
  have J : Inv X pins σ (upd H (hp.objs.size + 1) (exo (hp.objs.size + 1) C none)) ⟨(hp.push (PySem.W.kdv_tup us)).push (PX.excO C hp.objs.size), g, dr, tk, os⟩ :=
    I.laid (t' := tk) (a := hp.objs.size + 1) grown next (exo_ok laid)
  have rr : Vals (V.ref (hp.objs.size + 1) :: vs) (Value.ref (hp.objs.size + 1) :: us) := .cons rfl r
  have many : (Value.ref (hp.objs.size + 1) :: us).length = ps.length := (rr.length.symm).trans (F1.len _ _ _ _ start)
  have bound := hb _ (Value.ref (hp.objs.size + 1) :: us) J.kIn (by rw [List.append_nil]; exact many)
  rw [List.append_nil] at bound
  have small : us.length ≤ sizeLine := Nat.le_trans few (by decide)
  have isf : PySem.W.typeIn X.K (.ref fI) = some (.type "function") := beq_iff_eq.mp T.fI
  refine wpAny_call (PX.call_own FB hT hC (PySem.W.looks_findIn I.kIn T.iC) (fun self => PySem.W.bind_fn I.kIn self isf) small
    (codeAny_mono (F1.run _ X.stack _ _ ⟨Value.ref (hp.objs.size + 1) :: us, []⟩ _ _ _ E (hr.make C us []) (J.env0.make C us []) bound rr start) fun r s' done => ?_))
  cases r with
  | error er => exact hx pins σ _ _ er s' J done
  | ok fl =>
    cases fl with
    | ret u => exact fin u s' _ grown done J
    | next => exact False.elim done
    | brk => exact False.elim done
    | cont => exact False.elim done
end
/-- C(e, ..) as a value -/
def tNew (C : Addr) (sp : Sp) (E : XK) (ta : TA) : TE := fun σ H Q => ta σ H fun vs H1 => vs.length ≤ 1000 ∧ ∀ a, H1 a = none → sp (.ref a :: vs) (upd H1 a (exo a C none)) (fun v H2 => v = .non ∧ Q (.ref a) H2) E
/-- C(e, ..) to be raised -/
def tNewX (C : Addr) (sp : Sp) (ta : TA) : L2.St → Hp → XK → Prop := fun σ H Q => ta σ H fun vs H1 => vs.length ≤ 1000 ∧ ∀ a, H1 a = none → sp (.ref a :: vs) (upd H1 a (exo a C none))
  (fun v H2 => v = .non ∧ ∃ (d : Addr) (fs : List (Str × V)), H2 a = some (exo a C (some d)) ∧ H2 d = some (exd d fs) ∧ H1 d = none ∧ Q (.ref C) (some d) (upd (del H2 a) d (.xd fs))) E0
section
variable {X : Cx} {CX : CXT} {C fI : Addr} {k : Nat} {fd : FuncData} {ps : List Str} {sp : Sp} {E : XK} {x : Str} {e : Expr} {es : List Expr} {p pos : Pos} {ta : TA}
theorem pe_new (T : InitC X.K C fI) (F1 : FnOk X.prog X.w X.K X.mg X.base CX k fI fd ps sp) (hr : Room (k + 1) X.A) (hb : Binds X.K fd ps []) (hx : Passes CX X E) (hg : Gl X x) (hm : X.mg x = some (.ref C)) (ha : PA X (e :: es) ta)
    (hdb : (x == ("__debug__" : Str)) = false := by decide) (he : starEach (e :: es) X.env = (false, eval e X.env) :: starEach es X.env := by rfl) (hpl : (backTo pos (starEach es X.env)).any (·.1) = false := by rfl) :
    PE X (.Call (.Name x p) (e :: es) [] pos) (tNew C sp E ta) := by
  refine ⟨fun pins s σ H Q I h => ?_⟩
  refine wpAny_Call_Name_kw (ld_glob I hg hm ?_ hdb)
  refine PySem.W.callWith_K (h₀ := X.base) I.ok.mod.kin T.kC (thn (ha.run pos pins s σ H _ I h) fun us s1 ⟨vs, H1, I1, r1, few, go⟩ => ⟨I1.kIn, ?_⟩) he hpl
  refine run_new T F1 hr hb hx I1 r1 (by rw [List.nil_append, ← r1.length]; exact few) (go _) fun u s' hp2 _ done J => ?_
  obtain ⟨v, H2, J2, rv, rfl, q⟩ := J.after done
  exact ⟨rv, .ref _, H2, J2, rfl, q⟩
theorem pmk_new (T : InitC X.K C fI) (R : Raises X (.ref C)) (F1 : FnOk X.prog X.w X.K X.mg X.base CX0 k fI fd ps sp) (hr : Room (k + 1) X.A) (hb : Binds X.K fd ps []) (hg : Gl X x) (hm : X.mg x = some (.ref C)) (ha : PA X (e :: es) ta)
    (hdb : (x == ("__debug__" : Str)) = false := by decide) (he : starEach (e :: es) X.env = (false, eval e X.env) :: starEach es X.env := by rfl) (hpl : (backTo pos (starEach es X.env)).any (·.1) = false := by rfl) :
    PMk X (.Call (.Name x p) (e :: es) [] pos) (tNewX C sp ta) := by
  intro pins s σ H Q I h
  refine wpAny_Call_Name_kw (ld_glob I hg hm ?_ hdb)
  refine PySem.W.callWith_K (h₀ := X.base) I.ok.mod.kin T.kC (thn (ha.run pos pins s σ H _ I h) fun us s1 ⟨vs, H1, I1, r1, few, go⟩ => ⟨I1.kIn, ?_⟩) he hpl
  refine run_new T F1 hr hb pass0 I1 r1 (by rw [List.nil_append, ← r1.length]; exact few) (go _) fun u s' hp2 grown done J => ?_
  obtain ⟨hp, g, dr, tk, os⟩ := s1
  obtain ⟨h2, g2, d2, t2, o2⟩ := s'
  obtain ⟨v, H2, os2, bare2, un2, hok2, rv, rfl, d, fs, ea, ed, hd1, q⟩ := done
  exact ⟨rv, mk_end R I1 (Nat.le_succ _) grown un2 hok2 os2 bare2 ea ed hd1 q⟩
end
end XE

/-! try: body, then clauses of any kind: one class or a tuple of classes, with a name or without -/
namespace XE
open PySem PySem.Spec PyProof.Rows L2
open PySem.W (Frag)
/-! ### except (C1, C2, ..) -/
theorem loop_pass {M : Model} {A : Around} {E : Value → Shared → Prop} {s : Shared} {f : Value → PUnit → Sem (ForInStep PUnit)} : ∀ (cs : List Value), (∀ c ∈ cs, ∀ Q : ForInStep PUnit → Shared → Prop, Q (.yield PUnit.unit) s → wpAny M A (f c PUnit.unit) Q E s) →
    ∀ {Q : PUnit → Shared → Prop}, Q PUnit.unit s → wpAny M A (forIn cs PUnit.unit f) Q E s
  | [], _, _, q => by
    rw [List.forIn_nil]
    exact wpAny_pure q
  | c :: cs, h, _, q => by
    rw [List.forIn_cons]
    exact wpAny_bind (h c List.mem_cons_self _ (loop_pass cs (fun c' hc => h c' (List.mem_cons_of_mem _ hc)) q))
theorem loop_find {M : Model} {A : Around} {E : Value → Shared → Prop} {s : Shared} {t : Value → Bool} {f : Value → (Option Bool × Unit) → Sem (ForInStep (Option Bool × Unit))} : ∀ (cs : List Value),
    (∀ c ∈ cs, ∀ Q : ForInStep (Option Bool × Unit) → Shared → Prop, Q (if t c = true then .done (some true, ()) else .yield (none, ())) s → wpAny M A (f c (none, ())) Q E s) →
    ∀ {Q : (Option Bool × Unit) → Shared → Prop}, Q (if cs.any t = true then (some true, ()) else (none, ())) s → wpAny M A (forIn cs ((none, ()) : Option Bool × Unit) f) Q E s
  | [], _, _, q => by
    rw [List.forIn_nil]
    exact wpAny_pure q
  | c :: cs, h, _, q => by
    rw [List.forIn_cons]
    refine wpAny_bind (h c List.mem_cons_self _ ?_)
    rw [List.any_cons] at q
    cases e : t c with
    | true =>
      rw [e, Bool.true_or, if_pos rfl] at q
      rw [if_pos rfl]
      exact wpAny_pure q
    | false =>
      rw [e, Bool.false_or] at q
      rw [if_neg Bool.false_ne_true]
      exact loop_find cs (fun c' hc => h c' (List.mem_cons_of_mem _ hc)) q
theorem any_is {K : Frag} {cls : Value} : ∀ (cs : List Value) (b : Bool), PySem.W.exmAny K cls cs = some b → (cs.any fun c => PySem.W.exmOne K cls c == some true) = b ∧ ∀ c ∈ cs, PySem.W.exmOne K cls c = some (PySem.W.exmOne K cls c == some true)
  | [], b, h => ⟨Option.some.inj h, fun _ z => nomatch z⟩
  | c :: cs, b, h => by
    obtain ⟨b1, d1, h1, h2, rfl⟩ := PySem.W.exmAny_cons h
    obtain ⟨i1, i2⟩ := any_is cs d1 h2
    have e1 : (PySem.W.exmOne K cls c == some true) = b1 := by rw [h1]; cases b1 <;> rfl
    refine ⟨by rw [List.any_cons, i1, e1], fun c' hc => ?_⟩
    rcases List.mem_cons.mp hc with rfl | hc
    · rw [e1]; exact h1
    · exact i2 c' hc
theorem tup_matches {M : Model} {K : Frag} {h : Heap} {cls : Value} {e tp : Addr} {n : Nat} (KI : K.In h) (LT : PySem.W.Looks M h (typeOf (.ref e)) cls) :
    ∀ (cs : List Value) (b : Bool), h.get? tp = some { cls := .type "tuple", data := .seq cs.toArray n } → PySem.W.exmAny K cls cs = some b → PySem.W.Looks M h (excMatches (.ref e) (.ref tp)) b := by
  intro cs b htp ok A Q E s k q
  obtain ⟨hh, g, d, tk, os⟩ := s
  obtain ⟨eb, each⟩ := any_is cs b ok
  have isT : PySem.W.Looks M h (isInstance (.ref tp) (.type "tuple")) true := ((PySem.W.Looks.ld htp).andThen .now).andThen (PySem.W.Looks.of_pure isSubtype_tuple_tuple)
  unfold excMatches
  refine wpAny_bind ((isT.keeps k).at ?_)
  dsimp only
  rw [if_pos rfl]
  first
    | refine wpAny_bind (wpAny_seqItems (k _ _ htp) rfl (wpAny_bind (wpAny_pure ?_)))
    | refine wpAny_bind (wpAny_bind (wpAny_seqItems (k _ _ htp) rfl (wpAny_pure ?_)))
  dsimp only [Option.getD_some, Option.getD]
  refine wpAny_bind (loop_pass cs (fun c hc Q1 q1 => ?_) ?_)
  · obtain ⟨x1, _⟩ := PySem.W.exm_cls (M := M) KI (each c hc)
    refine wpAny_bind ((x1.keeps k).at ?_)
    exact wpAny_pure q1
  · refine wpAny_bind ((LT.keeps k).at (wpAny_bind (loop_find (t := fun c => PySem.W.exmOne K cls c == some true) cs (fun c hc Q1 q1 => ?_) ?_)))
    · obtain ⟨_, x2⟩ := PySem.W.exm_cls (M := M) KI (each c hc)
      refine wpAny_bind ((x2.keeps k).at ?_)
      cases e : (PySem.W.exmOne K cls c == some true) with
      | true =>
        simp only [e, if_true] at q1 ⊢
        exact wpAny_pure q1
      | false =>
        simp only [e] at q1 ⊢
        exact wpAny_pure q1
    · rw [eb]
      cases b with
      | true => exact wpAny_pure q
      | false => exact wpAny_pure q
/-! ### the clauses' tests -/
/-- the test of a clause names these classes, whatever exception is handled; it makes nothing but, perhaps, a tuple -/
def Tests (X : Cx) (t : Expr) (cs : List Value) : Prop := ∀ (a : Addr) (oe : Obj) (pn : List (Addr × Obj)) (σ : L2.St) (H : Hp) (s : Shared) (cls : Value) (b : Bool), Inv (X.suite a ((a, oe) :: pn)) [] σ H s → s.heap.get? a = some oe → oe.cls = cls → PySem.W.exmAny X.K cls cs = some b →
  ∀ {Q : Value → Shared → Prop} {E : Value → Shared → Prop}, (∀ h' t' c, (∀ b o, s.heap.get? b = some o → h'.get? b = some o) → PySem.W.Looks (model X.prog X.w) h' (excMatches (.ref a) c) b → Q c { s with heap := h', toks := t' }) →
    wpAny (model X.prog X.w) (X.A.mark (some (.ref a))) (eval t X.env) Q E s
section
variable {X : Cx}
theorem cls_looks {M : Model} {h : Heap} {a : Addr} {oe : Obj} {cls : Value} (he : h.get? a = some oe) (hc : oe.cls = cls) : PySem.W.Looks M h (typeOf (.ref a)) cls := fun A Q E s k q => wpAny_typeOf_ref (k _ _ he) (by rw [hc]; exact q)
/-- a class's name, looked up in an except clause -/
theorem name_eval {x : Str} {c : Value} {np : Pos} {a : Addr} {oe : Obj} {pn : List (Addr × Obj)} {σ : L2.St} {H : Hp} {s : Shared} (hc : Names X x c) (I : Inv (X.suite a ((a, oe) :: pn)) [] σ H s) {Q : Value → Shared → Prop} {E : Value → Shared → Prop} (q : Q c s) :
    wpAny (model X.prog X.w) (X.A.mark (some (.ref a))) (eval (.Name x np) X.env) Q E s := by
  obtain ⟨hg, hdbg, hm | ⟨hm, hv, hnn⟩⟩ := hc
  · exact ld_glob (X := X.suite a ((a, oe) :: pn)) I hg hm q hdbg
  · exact ld_blt (X := X.suite a ((a, oe) :: pn)) I hg hm hv q hnn hdbg
theorem tests_name {x : Str} {c : Value} {np : Pos} (hc : Names X x c) : Tests X (.Name x np) [c] := by
  intro a oe pn σ H s cls b I he hcl ok Q E q
  obtain ⟨b1, d1, h1, h2, rfl⟩ := PySem.W.exmAny_cons ok
  obtain rfl : false = d1 := Option.some.inj h2
  refine name_eval hc I ?_
  rw [Bool.or_false] at q
  exact q s.heap s.toks c (fun _ _ z => z) (PySem.W.exm_one I.kIn (cls_looks he hcl) h1)
/-- the names of a tuple of classes -/
inductive NamesAll (X : Cx) : List Expr → List Value → Prop
  | nil : NamesAll X [] []
  | cons {x : Str} {c : Value} {np : Pos} {es : List Expr} {cs : List Value} (h : Names X x c) (r : NamesAll X es cs) : NamesAll X (.Name x np :: es) (c :: cs)
theorem names_eval {pos : Pos} {a : Addr} {oe : Obj} {pn : List (Addr × Obj)} {σ : L2.St} {H : Hp} {s : Shared} (I : Inv (X.suite a ((a, oe) :: pn)) [] σ H s) {es : List Expr} {cs : List Value} (h : NamesAll X es cs) :
    ∀ {Q : List Value → Shared → Prop} {E : Value → Shared → Prop}, Q cs s → wpAny (model X.prog X.w) (X.A.mark (some (.ref a))) (spliced (backTo pos (starEach es X.env))) Q E s := by
  induction h with
  | nil => exact fun q => wpAny_items_nil q
  | cons h r ih => exact fun q => wpAny_items_cons (name_eval h I (ih q))
theorem tests_tuple {es : List Expr} {cs : List Value} {k : Nat} {np : Pos} (hc : NamesAll X es cs) (few : cs.length ≤ 100) : Tests X (.Tuple es k np) cs := by
  intro a oe pn σ H s cls b I he hcl ok Q E q
  refine wpAny_Tuple (names_eval I hc ⟨Nat.le_trans few (by decide), ?_⟩)
  have grown : ∀ b o, s.heap.get? b = some o → (s.heap.push { cls := .type "tuple", data := .seq cs.toArray }).get? b = some o := fun _ _ z => Heap.get?_push_of_some _ z
  exact q _ s.toks _ grown (tup_matches (PySem.W.Frag.In.keeps I.kIn grown) (cls_looks (grown _ _ he) hcl) cs b (Heap.get?_push_size s.heap rfl) ok)
end
/-! ### the statement -/
/-- a clause: its classes, the slot of its name, its suite -/
structure Cl where
  cs : List Value
  slot : Option Nat
  ts : Addr → Value → Option Addr → TS
/-- the name of a clause is gone behind its suite -/
def wipeE (D : Ends) (i : Nat) : Ends := { nx := fun σ' H' => D.nx (σ'.set i none) H', rt := D.rt, bk := fun σ' H' => D.bk (σ'.set i none) H', ct := fun σ' H' => D.ct (σ'.set i none) H' }
def enters (D : Ends) (c : Cl) (cls : Value) (d : Option Addr) (a : Addr) (σ : L2.St) (H : Hp) : Prop := match c.slot with
  | none => c.ts a cls d D σ H
  | some i => c.ts a cls d (wipeE D i) (σ.set i (some (.ref a))) H
def wAll (K : Frag) (Wout : WX) (D : Ends) : List Cl → WX
  | [] => Wout
  | c :: r => fun cls d σ H => ∃ b, PySem.W.exmAny K cls c.cs = some b ∧ (b = true → ∀ a, H a = none → enters D c cls d a σ H) ∧ (b = false → wAll K Wout D r cls d σ H)
inductive Hds (X : Cx) : List ExceptHandler → List Cl → Prop
  | nil : Hds X [] []
  | plain {t : Expr} {cs : List Value} {ts : Addr → Value → Option Addr → TS} {b₀ : Stmt} {suite : List Stmt} {hp : Pos} {hds : List ExceptHandler} {l : List Cl} (ht : Tests X t cs)
      (hsu : ∀ (a : Addr) (oe : Obj) (cls : Value) (d : Option Addr) (pn : List (Addr × Obj)), Zc cls d oe → (∃ vs, oe.data = .fields vs) → PSs (X.suite a ((a, oe) :: pn)) (b₀ :: suite) (ts a cls d)) (r : Hds X hds l) :
      Hds X (.ExceptHandler (some t) none (b₀ :: suite) hp :: hds) (⟨cs, none, ts⟩ :: l)
  | named {t : Expr} {n : Str} {i : Nat} {cs : List Value} {ts : Addr → Value → Option Addr → TS} {b₀ : Stmt} {suite : List Stmt} {hp : Pos} {hds : List ExceptHandler} {l : List Cl} (ht : Tests X t cs) (hi : X.N[i]? = some n) (hln : X.env.kindOf n = some .local)
      (hsu : ∀ (a : Addr) (oe : Obj) (cls : Value) (d : Option Addr) (pn : List (Addr × Obj)), Zc cls d oe → (∃ vs, oe.data = .fields vs) → PSs (X.suite a ((a, oe) :: pn)) (b₀ :: suite) (ts a cls d)) (r : Hds X hds l) :
      Hds X (.ExceptHandler (some t) (some n) (b₀ :: suite) hp :: hds) (⟨cs, some i, ts⟩ :: l)
theorem flying_grown {base h h' : Heap} {l : List Env} {e : Addr} {Z : Obj → Prop} (fl : PySem.HandSPX.FlyingZ base l e Z h) (k : ∀ b o, h.get? b = some o → h'.get? b = some o) : PySem.HandSPX.FlyingZ base l e Z h' := by
  obtain ⟨k1, k2, k3, oe, vs, T, oT, ts, h1, h2, h3, h4, h5, h6, h7, h8, h9⟩ := fl
  exact ⟨fun b o z => k b o (k1 b o z), k2, k3.of_keeps fun b o z _ => ⟨o, k b o z, rfl⟩, oe, vs, T, oT, ts, k _ _ h1, h2, h3, h4, h5, h6, k _ _ h7, h8, h9⟩
section
variable {X : Cx} {body : List Stmt} {h₀ : ExceptHandler} {hds : List ExceptHandler} {l : List Cl} {pos : Pos} {tb : WX → TS} {Wout : WX}
theorem ps_try_all (hs : X.stack = X.env :: X.outer) (hf : X.env.frame = some X.env.locals) (hN : X.N.Nodup) (tk : Takes X Wout)
    (hb : ∀ (W : WX) (pn : List (Addr × Obj)) (xe : Value → Shared → Prop), Takes (X.tr pn xe) W → PassesOwn (model X.prog X.w) X.A X.env xe → PSs (X.tr pn xe) body (tb W))
    (hh : Hds X (h₀ :: hds) l) : PS X (.Try body (h₀ :: hds) [] [] pos) (fun D σ H => tb (wAll X.K Wout D l) D σ H) := by
  refine ⟨fun pins s σ H D I h => ?_⟩
  have ok := I.ok
  have frames : X.A.frames = some (X.env :: X.outer) := ok.frames.trans (congrArg some hs)
  refine wpAny_Try_except (wpAny_mono ((hb (wAll X.K Wout D l) (X.pn ++ pins) _ (fun u s' xx => ?_) PassesOwn.looking).run [] s σ H D (I.toTry _) h) (fun f s1 out => ?_) fun _ _ z => z)
  · obtain ⟨a, B, sI, pins', σ', H', cls, d, rfl, J', nb, up, sky, na, os, ag, w⟩ := xx
    have J : Inv X pins σ' H' sI := J'.ofTry ok
    rw [hs] at sky
    refine Sky.land Zc.steady frames hf sky fun h3 fl3 up3 => ?_
    obtain ⟨oe3, vs3, he3, hz3, hd3⟩ := fl3.there
    have nofr : a ∉ frs (X.env :: X.outer) := fun hm => by
      obtain ⟨_, o', e', hnf⟩ := fl3.2.2.1.mem hm
      obtain rfl := Option.some.inj (he3.symm.trans e')
      exact hnf _ hd3
    have nL : a ≠ X.env.locals := fun z => nofr (List.mem_filterMap.mpr ⟨X.env, List.mem_cons_self, by rw [hf, z]⟩)
    have nF : a ∉ X.fs := fun hm => by
      obtain ⟨e, he, q⟩ := List.mem_filterMap.mp hm
      exact nofr (List.mem_filterMap.mpr ⟨e, List.mem_cons_of_mem _ he, q⟩)
    have go : ∀ {hds' : List ExceptHandler} {l' : List Cl}, Hds X hds' l' → ∀ (h4 : Heap) (t4 : Nat), PySem.HandSPX.FlyingZ B (X.env :: X.outer) a (Zc cls d) h4 → sI.heap.UpToSlots h4 → wAll X.K Wout D l' cls d σ' H' →
        wpAny (model X.prog X.w) X.A (handleBy (.ref a) X.env hds') (SP X pins D) X.xe { s' with heap := h4, toks := t4 } := by
      intro hds' l' hk
      induction hk with
      | nil =>
        intro h4 t4 fl4 up4 w
        refine wpAny_handleBy_nil ?_
        obtain ⟨k1, k2, k3, oe, vs, T, oT, ts', he, hz, hd, h1, hr⟩ := id fl4
        have J4 : Inv X pins σ' H' { s' with heap := h4, toks := t4 } := J.landed nb fl4.1 up4 os ag
        unfold PySem.passOn
        refine wpAny_bind (wpAny_field he hd h1 ?_)
        rw [if_neg (show ¬ ((Value.ref T == Value.none) = true) from by simp)]
        have last : wpAny (model X.prog X.w) X.A (setFlight (.ref a) X.env.frame) (fun _ s5 => wpAny (model X.prog X.w) X.A (throw (.ref a) : Sem Flow) (SP X pins D) X.xe s5) X.xe { s' with heap := h4, toks := t4 } := by
          rw [hf]
          refine PySem.HandSPX.setFlight_upZ fl4 fun h5 hh5 up5 => wpAny_throw (tk _ _ ?_)
          exact ⟨a, B, sI, pins, σ', H', cls, d, rfl, J, nb, up4.trans up5, .inr (.inr (by rw [hs]; exact hh5)), na, os, ag, w⟩
        first
          | exact wpAny_bind (wpAny_pure (wpAny_bind last))
          | exact wpAny_bind last
      | @plain t cs ts b₀ suite hp hds2 l2 ht hsu r ih =>
        intro h4 t4 fl4 up4 ⟨b, hb1, hyes, hno⟩
        have J4 : Inv X pins σ' H' { s' with heap := h4, toks := t4 } := J.landed nb fl4.1 up4 os ag
        obtain ⟨oe4, vs4, he4, hz4, hd4⟩ := fl4.there
        refine wpAny_handleBy_cons (codeAny_handlers_test ?_) (by intro q; cases q)
        refine ht a oe4 _ σ' H' _ cls b (J4.suite he4 hd4 na nL nF) he4 hz4.1 hb1 fun h5 t5 c k5 LM => LM.here ?_
        have fl5 := flying_grown fl4 k5
        have up5 := up4.trans (Heap.UpToSlots.of_keeps k5)
        cases b with
        | true =>
          refine codeAny_handlers_suite ?_
          refine PySem.HandSPX.lands_againZ fl5 fun h6 fl6 up6 => ?_
          have J6 : Inv X pins σ' H' { s' with heap := h6, toks := t5 } := J.landed nb fl6.1 (up5.trans up6) os ag
          obtain ⟨oe6, vs6, he6, hz6, hd6⟩ := fl6.there
          refine wpAny_mono ((hsu a oe6 cls d (X.pn ++ pins) hz6 ⟨_, hd6⟩).run [] _ _ H' _ (J6.suite he6 hd6 na nL nF) (hyes rfl a na)) (fun f s7 out => ?_) (fun _ _ z => False.elim z)
          cases f with
          | next => exact out.elim fun σ7 z => z.elim fun H7 z => ⟨σ7, H7, z.1.unsuite ok, z.2⟩
          | brk => exact out.elim fun σ7 z => z.elim fun H7 z => ⟨σ7, H7, z.1.unsuite ok, z.2⟩
          | cont => exact out.elim fun σ7 z => z.elim fun H7 z => ⟨σ7, H7, z.1.unsuite ok, z.2⟩
          | ret u =>
            obtain ⟨v7, σ7, H7, S7, r7, q7⟩ := out
            exact ⟨v7, σ7, H7, S7.unsuite ok, r7, q7⟩
        | false => exact ih h5 t5 fl5 up5 (hno rfl)
      | @named t n i cs ts b₀ suite hp hds2 l2 ht hi hln hsu r ih =>
        intro h4 t4 fl4 up4 ⟨b, hb1, hyes, hno⟩
        have J4 : Inv X pins σ' H' { s' with heap := h4, toks := t4 } := J.landed nb fl4.1 up4 os ag
        obtain ⟨oe4, vs4, he4, hz4, hd4⟩ := fl4.there
        refine wpAny_handleBy_cons (codeAny_handlers_test ?_) (by intro q; cases q)
        refine ht a oe4 _ σ' H' _ cls b (J4.suite he4 hd4 na nL nF) he4 hz4.1 hb1 fun h5 t5 c k5 LM => LM.here ?_
        have fl5 := flying_grown fl4 k5
        have up5 := up4.trans (Heap.UpToSlots.of_keeps k5)
        cases b with
        | true =>
          refine codeAny_handlers_suite_as ?_
          refine PySem.HandSPX.lands_againZ fl5 fun h6 fl6 up6 => ?_
          have J6 : Inv X pins σ' H' { s' with heap := h6, toks := t5 } := J.landed nb fl6.1 (up5.trans up6) os ag
          obtain ⟨oe6, vs6, he6, hz6, hd6⟩ := fl6.there
          refine store_ok (X := X.suite a ((a, oe6) :: (X.pn ++ pins))) (v := .ref a) (J6.suite he6 hd6 na nL nF) hN hi (.inl hln) rfl (fun s7 S7 => ?_) (.inr hln)
          refine wpAny_mono ((hsu a oe6 cls d (X.pn ++ pins) hz6 ⟨_, hd6⟩).run [] s7 _ H' _ S7 (hyes rfl a na)) (fun f s8 out => ?_) (fun _ _ z => False.elim z)
          cases f with
          | next => exact out.elim fun σ8 z => z.elim fun H8 z => gone_ok (z.1.unsuite ok) hN hi hln fun s9 J9 => ⟨_, H8, J9, z.2⟩
          | brk => exact out.elim fun σ8 z => z.elim fun H8 z => gone_ok (z.1.unsuite ok) hN hi hln fun s9 J9 => ⟨_, H8, J9, z.2⟩
          | cont => exact out.elim fun σ8 z => z.elim fun H8 z => gone_ok (z.1.unsuite ok) hN hi hln fun s9 J9 => ⟨_, H8, J9, z.2⟩
          | ret u =>
            obtain ⟨v8, σ8, H8, S8, r8, q8⟩ := out
            exact gone_ok (S8.unsuite ok) hN hi hln fun s9 J9 => ⟨v8, _, H8, J9, r8, q8⟩
        | false => exact ih h5 t5 fl5 up5 (hno rfl)
    exact go hh h3 s'.toks fl3 (up.trans up3) w
  · cases f with
    | next => exact out.elim fun σ' z => z.elim fun H' z => wpAny_execs_nil ⟨σ', H', z.1.ofTry ok, z.2⟩
    | brk => exact out.elim fun σ' z => z.elim fun H' z => ⟨σ', H', z.1.ofTry ok, z.2⟩
    | cont => exact out.elim fun σ' z => z.elim fun H' z => ⟨σ', H', z.1.ofTry ok, z.2⟩
    | ret u =>
      obtain ⟨v, σ', H', J', r, q⟩ := out
      exact ⟨v, σ', H', J'.ofTry ok, r, q⟩
end
end XE

/-! defs that may ask for a repr: called where no repr is under way -/
namespace XE
open PySem PySem.Spec PyProof.Rows L2
open PySem.W (Frag)
/-- FnOk, where no repr is under way -/
structure FnG (P : Program) (w : World) (K : Frag) (mg : Str → Option Value) (base : Heap) (CX : CXT) (k : Nat) (f : Addr) (fd : FuncData) (ps : List Str) (sp : Sp) : Prop where
  len : ∀ vs H Q E, sp vs H Q E → vs.length = ps.length
  run : ∀ (A : Around) (outer : List Env) (s : Shared) (H : Hp) (args : Args) (us : List Value) (vs : List V) (Q : VK) (E : XK), A.guards = some [] → Room k A → Env0 P w K mg base A outer s H → BindsTo s fd args (ps.zip us) → Vals vs us → sp vs H Q E →
    codeAny (model P w) A (.call (.ref f) args) (CR CX outer P w H s Q E) s
theorem guards_deeper {A : Around} {env : Env} (h : A.guards = some []) : (A.deeper env).guards = some [] := by
  first
    | exact h
    | (show (pushGuards _ _) = _; rw [h]; rfl)
section
variable {P : Program} {w : World} {K : Frag} {mg : Str → Option Value} {base : Heap} {x qual : Str} {params : Arguments} {body : List Stmt} {scope : Scope} {dvs : List V} {kws : List (Str × V)} {f : Addr} {fd : FuncData}
theorem fnG {CX : CXT} {N ps : List Str} {k : Nat} {sp : Sp} (F : FunD K x qual params body scope dvs kws f fd) (S : FnScope N ps scope) (len : ∀ vs H Q E, sp vs H Q E → vs.length = ps.length)
    (hbody : ∀ (cdv : Value) (A : Around) (outer : List Env) (s : Shared) (H : Hp) (vs : List V) (Q : VK) (E : XK), (A.deeper (envOfC qual scope s.heap.objs.size f cdv)).guards = some [] → Room k (A.deeper (envOfC qual scope s.heap.objs.size f cdv)) → sp vs H Q E →
      ∃ t, PSs (cxOf CX P w K mg base N qual scope f cdv A outer s H E) body t ∧ t { nx := fun _ H' => Q .non H', rt := Q } (start N vs) H) : FnG P w K mg base CX (k + 1) f fd ps sp := by
  obtain ⟨oc, od, dV, kV, doc, pm, an, cdv, ct, osl, rfl, lk, hcd, _, _⟩ := F.ex
  refine ⟨len, fun A outer s H args us vs Q E hg hr e0 hb r hsp => ?_⟩
  have inK : K.In s.heap := PySem.W.Frag.In.keeps e0.mod.kin fun b o e => (e0.bs b o e).1
  have unlim : s.heap.NoLimit := e0.mod.nolimit.keeps fun b o e => (e0.bs b o e).1
  have many := len _ _ _ _ hsp
  refine codeAny_call_function hr.depth (inK _ _ lk) rfl S.co S.gen rfl (PySem.W.codeRec_of inK hcd) (hb _ _ _ _ ?_)
  refine wpAny_newFunctionEnv_cells S.kind (fun y hy => ?_) fun env he s1 into => ?_
  · rcases S.par y.1 (List.of_mem_zip (show (y.1, y.2) ∈ ps.zip us from hy)).1 with q | q
    · exact .inl q
    · exact .inr ⟨q, PySem.W.cellsFrom_some _ _ _ (.inl q)⟩
  · subst he
    obtain ⟨t, body', reads⟩ := hbody cdv A outer s H vs Q E (guards_deeper hg) (hr.deeper _) hsp
    refine ⟨unlim.keeps into.toInCall.keep, codeAny_func (wpAny_mono (body'.run [] s1 (start N vs) H _ (inv_start S hr.hd e0 many r into) reads) (fun fl s' out => ?_) fun _ _ z => z)⟩
    cases fl with
    | ret u => exact out.elim fun v z => z.elim fun σ' z => z.elim fun H' z => ⟨v, H', z.1.os, z.1.bare, z.1.base, z.1.hok, z.2.1, z.2.2⟩
    | next => exact out.elim fun σ' z => z.elim fun H' z => ⟨.non, H', z.1.os, z.1.bare, z.1.base, z.1.hok, rfl, z.2⟩
    | brk => exact out.elim fun _ z => z.elim fun _ z => False.elim z.2
    | cont => exact out.elim fun _ z => z.elim fun _ z => False.elim z.2
end
theorem FnG.mono {P : Program} {w : World} {K : Frag} {mg : Str → Option Value} {base : Heap} {CX : CXT} {j k : Nat} {f : Addr} {fd : FuncData} {ps : List Str} {sp : Sp} (F : FnG P w K mg base CX j f fd ps sp) (h : j ≤ k) : FnG P w K mg base CX k f fd ps sp :=
  ⟨F.len, fun A outer s H args us vs Q E hg hr => F.run A outer s H args us vs Q E hg (hr.mono h)⟩
section
variable {X : Cx} {CX : CXT} {k : Nat} {f : Addr} {fd : FuncData} {ps : List Str} {sp : Sp} {E : XK} {x : Str} {p pos : Pos} {e : Expr} {es : List Expr} {ta : TA}
theorem run_guarded {pins : List (Addr × Obj)} {σ : L2.St} {H : Hp} {s : Shared} {Q : VK} {us : List Value} {vs : List V} (F : FnG X.prog X.w X.K X.mg X.base CX k f fd ps sp) (hg0 : X.A.guards = some []) (hr : Room k X.A) (hb : Binds X.K fd ps []) (hx : Passes CX X E)
    (I : Inv X pins σ H s) (r : Vals vs us) (h : sp vs H Q E) : wpAny (model X.prog X.w) X.A (call (.ref f) us) (EP X pins σ Q) X.xe s := by
  have bound := hb s us I.kIn (by rw [List.append_nil]; exact r.length.symm.trans (F.len _ _ _ _ h))
  rw [List.append_nil] at bound
  refine wpAny_call (codeAny_mono (F.run X.A X.stack s H ⟨us, []⟩ us vs Q E hg0 hr I.env0 bound r h) fun r s' done => ?_)
  cases r with
  | error er => exact hx pins σ H s er s' I done
  | ok fl =>
    cases fl with
    | ret u => exact I.after done
    | next => exact False.elim done
    | brk => exact False.elim done
    | cont => exact False.elim done
theorem pe_callG (F : FnG X.prog X.w X.K X.mg X.base CX k f fd ps sp) (hg0 : X.A.guards = some []) (hr : Room k X.A) (hg : Gl X x) (hm : X.mg x = some (.ref f)) (hk : PySem.W.keepIn X.K (.ref f) = true) (hb : Binds X.K fd ps []) (hx : Passes CX X E) (ha : PA X (e :: es) ta)
    (hdb : (x == ("__debug__" : Str)) = false := by decide) (he : starEach (e :: es) X.env = (false, eval e X.env) :: starEach es X.env := by rfl) (hpl : (backTo pos (starEach es X.env)).any (·.1) = false := by rfl) :
    PE X (.Call (.Name x p) (e :: es) [] pos) (tCall sp [] E ta) := by
  refine ⟨fun pins s σ H Q I h => wpAny_Call_Name_kw (ld_glob I hg hm ?_ hdb)⟩
  refine PySem.W.callWith_K (h₀ := X.base) I.ok.mod.kin hk (thn (ha.run pos pins s σ H _ I h) fun us s1 ⟨vs, H1, I1, r, q⟩ => ⟨I1.kIn, ?_⟩) he hpl
  have q2 : sp (vs ++ []) H1 Q E := q
  rw [List.append_nil] at q2
  exact run_guarded F hg0 hr hb hx I1 r q2
end
/-! ### the end of a law whose def is guarded -/
theorem law_guarded {P : Program} {w : World} {K : Frag} {mg mb : Str → Option Value} {CX : CXT} {k : Nat} {fa a : Addr} {fd : FuncData} {x : Str} {sp : Sp} {s₁ : Shared} {vs : List Value} {ns : List Int}
    (KX : K.In s₁.heap) (hns : s₁.heap.Ns mainGlobals mg) (hb : s₁.heap.Ns builtinsNs mb) (hbb : ∀ x : Str, x ≠ "__name__" → mb x = bootBuiltins x) (hlim : s₁.heap.NoLimit) (hg : s₁.gens = #[])
    (ha : s₁.heap.get? a = some { cls := .type "list", data := .seq vs.toArray }) (hi : IntsAre vs ns) (hl : ns.length ≤ sizeLine) (hr : Room k callerA)
    (F : ∀ base : Heap, K.In base → base.Ns mainGlobals mg → FnG P w K mg base CX k fa fd [x] sp) (hbind : ∀ (s : Shared) (u : Value), BindsTo s fd ⟨[u], []⟩ [(x, u)])
    (hsp : ∀ H : Hp, Only H → SqL K H a (ns.map V.int) → sp [.ref a] H (fun v _ => v = .bl true) fun _ _ _ => False)
    (hCX : ∀ H e s', CX [] H s₁ (fun _ _ _ => False) e s' → False) :
    codeAny (model P w) callerA (.call (.ref fa) ⟨[.ref a], []⟩) (fun r s' => r = .ok (.ret (.bool true)) ∧ OldK s₁.heap s'.heap ∧ s'.os = s₁.os ∧ AllBare s'.gens) s₁ := by
  have values := vals_ints hi
  have howmany := hi.length
  have main : ∀ H : Hp, Only H → SqL K H a (ns.map V.int) → HOk P w H s₁.heap → (∀ b, H b ≠ none → b = a) → (H a ≠ none → K.lookup a = none) →
      codeAny (model P w) callerA (.call (.ref fa) ⟨[.ref a], []⟩) (fun r s' => r = .ok (.ret (.bool true)) ∧ OldK s₁.heap s'.heap ∧ s'.os = s₁.os ∧ AllBare s'.gens) s₁ := by
    intro H hO hS hok hA hK
    have below : ∀ {b : Addr} {o : Obj}, s₁.heap.get? b = some o → H b = none → (hidT s₁.heap H).get? b = some o := fun e n => hidT_get e n
    have nodict : ∀ {b : Addr} {o : Obj} {es : Array DictEntry} {ep : Nat}, s₁.heap.get? b = some o → o.data = .dict es ep → H b = none := by
      intro b o es ep e d
      refine Classical.byContradiction fun z => ?_
      obtain rfl := hA b z
      obtain rfl := Option.some.inj (ha.symm.trans e)
      exact Data.noConfusion d
    have spaces : ∀ {b : Addr} {m : Str → Option Value}, s₁.heap.Ns b m → (hidT s₁.heap H).Ns b m := fun {b m} ⟨o, es, ep, e, d, r⟩ => ⟨o, es, ep, below e (nodict e d), d, r⟩
    have written : K.In (hidT s₁.heap H) := fun b o e => below (KX b o e) (by
      refine Classical.byContradiction fun z => ?_
      obtain rfl := hA b z
      rw [hK z] at e
      cases e)
    have ground : Mod K mg (hidT s₁.heap H) := ⟨written, spaces hns, ⟨mb, spaces hb, hbb⟩, hlim.elim fun mc z => ⟨mc, spaces z.1, z.2⟩⟩
    have entry : Env0 P w K mg (hidT s₁.heap H) callerA [] s₁ H := ⟨rfl, ground, fun b o e => of_hidT e, Nat.le_of_eq (hidT_size _ _), trivial, fun b z => absurd (show b ∈ ([] : List Addr) from z) (by simp), hok, .of_eq hg⟩
    refine codeAny_mono ((F _ written (spaces hns)).run callerA [] s₁ H ⟨[.ref a], []⟩ [.ref a] [.ref a] _ _ rfl hr entry (hbind s₁ (.ref a)) (.cons rfl .nil) (hsp H hO hS)) fun r s' out => ?_
    cases r with
    | error e => exact (hCX H e s' out).elim
    | ok fl =>
      cases fl with
      | next => exact False.elim out
      | brk => exact False.elim out
      | cont => exact False.elim out
      | ret u =>
        obtain ⟨v, H', os, bare, un, hok', rv, rfl⟩ := out
        obtain rfl : u = Value.bool true := rv
        refine ⟨rfl, OldK.of_keep fun b o e => ?_, os, bare⟩
        rcases hO b with z | ⟨ob, xs, z⟩
        · exact un.keep b o e z (fun y => absurd (show b ∈ ([] : List Addr) from y) (by simp)) (by simp)
        · obtain ⟨e1, _⟩ := hok b _ z
          obtain ⟨e2, _⟩ := hok' b _ (un.frzs b ob _ z)
          obtain rfl := Option.some.inj (e1.symm.trans e)
          exact e2
  rcases Option.eq_none_or_eq_some (K.lookup a) with free | ⟨o, own⟩
  · refine main (fun b => if b = a then some (.frz { cls := .type "list", data := .seq vs.toArray } (.lst (ns.map V.int))) else none) (fun b => ?_) (.inl (.inr ⟨{ cls := .type "list", data := .seq vs.toArray }, if_pos rfl⟩)) (fun b u z => ?_) (fun b z => ?_) fun _ => free
    · rcases Classical.em (b = a) with e | e
      · exact .inr ⟨_, _, if_pos e⟩
      · exact .inl (if_neg e)
    · rcases Classical.em (b = a) with e | e
      · subst e
        obtain rfl := Option.some.inj ((if_pos rfl).symm.trans z)
        exact ⟨ha, by rw [List.length_map]; exact hl, vs, _, values, ha⟩
      · have y := (if_neg e).symm.trans z
        cases y
    · exact Classical.byContradiction fun e => z (if_neg e)
  · obtain rfl := Option.some.inj ((KX a o own).symm.trans ha)
    exact main (fun _ => none) (fun _ => .inl rfl) (.inr ⟨_, vs.toArray, _, own, rfl, rfl, rfl, by rw [List.size_toArray, howmany]; exact hl, by simpa using values⟩) (fun b u z => by have y : (none : Option HO) = some u := z; cases y) (fun b z => absurd rfl z) fun z => absurd rfl z
theorem walk_guarded {l : PySem.W.OpenLaw} {n k : Nat} {q : Program} {loose : List Str} {XP : (Str → Option Value) → Heap → Prop} {YP : World → Heap → Prop} {d : DefRec} {CX : CXT} {x : Str}
    (hn : l.most = some n) (hn2 : n ≤ sizeLine) (hdf : d.params.defaults = []) (hr : Room k callerA)
    (F : ∀ (w : World) (mg : Str → Option Value) (fa : Addr) (h : Heap), YP w h → h.Ns mainGlobals mg → mg d.name = some (.ref fa) →
      ∃ (K : Frag) (fd : FuncData) (sp : Sp), K.In h ∧ (∀ (s : Shared) (u : Value), BindsTo s fd ⟨[u], []⟩ [(x, u)]) ∧
        (∀ (H : Hp) (a : Addr) (ns : List Int), ns.length ≤ n → Only H → SqL K H a (ns.map V.int) → sp [.ref a] H (fun v _ => v = .bl true) fun _ _ _ => False) ∧
        ∀ base : Heap, K.In base → base.Ns mainGlobals mg → FnG l.prog w K mg base CX k fa fd [x] sp)
    (hCX : ∀ (H : Hp) (s : Shared) (e : Value) (s' : Shared), CX [] H s (fun _ _ _ => False) e s' → False) :
    PySem.W.WalkO q loose XP YP l.row.toRowW d [] (fun f vs => PySem.call f vs) := by
  refine Att.attach_call hn hdf fun w s₀ s₁ mg mb fa o pm cd doc a vs ns G Y _ _ _ hmg hobj hints hlen hg => ?_
  obtain ⟨K, fd, sp, KX, hb, hsp, hF⟩ := F w mg fa _ Y G.T.g hmg
  exact law_guarded KX G.T.g G.T.b G.T.builtins G.T.nolimit hg hobj hints (Nat.le_trans hlen hn2) hr hF hb (fun H hO hS => hsp H a ns hlen hO hS) fun H e s' => hCX H s₁ e s'
end XE

/-! repr of data; isinstance, fields and str of an own exception that is held -/
namespace XE
open PySem PySem.Spec PyProof.Rows L2
open PySem.W (Frag)
/-! ### repr -/
/-- a value as data; the empty dict, too -/
inductive RepV (K : Frag) (H : Hp) : V → PyData → Prop
  | dat {v : V} {d : PyData} (h : Dp K H v d) : RepV K H v d
  | nul {a : Addr} (h : H a = some (.dK [])) : RepV K H (.ref a) (.dict [])
def rRepr (K : Frag) : List V → Hp → VK → Prop := fun xs H Q => ∃ x d, xs = [x] ∧ RepV K H x d ∧ d.showable = true ∧ d.depth ≤ 60 ∧ d.shown.length ≤ sizeLine ∧ Q (.str d.shown) H
mutual
theorem dp_nodict {K : Frag} {H : Hp} : ∀ (d : PyData) (v : V), Dp K H v d → d.hasDict = false
  | .none, _, h => rfl
  | .bool _, _, h => rfl
  | .int _, _, h => rfl
  | .str _, _, h => rfl
  | .list ds, _, h => by
    cases h with
    | lst _ ha => exact dpAll_nodict ds _ ha
  | .tuple ds, _, h => by
    cases h with
    | tup _ ha => exact dpAll_nodict ds _ ha
  | .dict _, _, h => by cases h
theorem dpAll_nodict {K : Frag} {H : Hp} : ∀ (ds : List PyData) (vs : List V), DpAll K H vs ds → PyData.hasDictAll ds = false
  | [], _, _ => rfl
  | d :: ds, _, h => by
    cases h with
    | cons h1 h2 =>
      show (d.hasDict || PyData.hasDictAll ds) = false
      rw [dp_nodict d _ h1, dpAll_nodict ds _ h2]
      rfl
end
theorem repV_reads {X : Cx} {pins : List (Addr × Obj)} {σ : L2.St} {H : Hp} {s : Shared} (I : Inv X pins σ H s) {v : V} {d : PyData} {u : Value} (h : RepV X.K H v d) (r : RelV v u) : ∃ as, Reads s.heap u d as ∧ (d.hasDict = true → sysModules ∉ as) := by
  cases h with
  | dat h =>
    obtain ⟨as, rd⟩ := Dp.reads I d v u h r
    exact ⟨as, rd, fun z => by rw [dp_nodict d v h] at z; cases z⟩
  | @nul a h =>
    obtain rfl : u = Value.ref a := r
    obtain ⟨_, ns, vs, kv, o, es, ep, e1, e2, e3, _, e5, _⟩ := (show ObjOk X.prog X.w H s.heap a (.dK []) from I.hok a _ h)
    cases kv
    have nil : es.toList = [] := by
      cases q : es.toList with
      | nil => rfl
      | cons x xs =>
        rw [q] at e5
        cases e5
    have rd : Reads s.heap (.ref a) (.dict []) ([a] ++ []) := .dict (as := []) (bs := []) e1 e2.1 e3 (by rw [nil]; exact .nil) (by rw [nil]; exact .nil)
    refine ⟨_, rd, fun _ hm => ?_⟩
    have same : sysModules = a := by simpa using hm
    rw [← same] at ns
    simp at ns
theorem call_repr {X : Cx} (hg0 : X.A.guards = some []) (hu : X.A.units + 64 < cLine) : CallR X (.builtin "repr") (rRepr X.K) := by
  intro pins s σ H xs us Q I r h
  obtain ⟨x, d, rfl, hd, sh, dep, sz, q⟩ := h
  obtain ⟨u, rfl, rx⟩ := vals1 r
  obtain ⟨as, rd, nd⟩ := repV_reads I hd rx
  have fin : ∀ h' t t', (∀ b o, s.heap.get? b = some o → h'.get? b = some o) → EP X pins σ Q (.str d.shown t) { s with heap := h', toks := t' } := fun h' t t' k => ⟨.str d.shown, H, I.kept (t' := t') k, ⟨t, rfl⟩, q⟩
  cases u with
  | ref a => exact repr_of_reads' rd sh nd hg0 (by omega) (fun _ _ e => e) (fun h' t tk k => fin h' t tk k) sz
  | none =>
    cases rd
    exact P.repr_of_none (fin s.heap _ _ fun _ _ z => z)
  | bool b =>
    cases rd
    exact P.repr_of_bool (fin s.heap _ _ fun _ _ z => z)
  | int i t =>
    cases rd
    exact P.repr_of_int (by simpa [PyData.showable] using sh) (fin s.heap _ _ fun _ _ z => z)
  | str y t =>
    cases rd
    exact P.repr_of_str (fin s.heap _ _ fun _ _ z => z) sz
  | _ => cases rd
/-! ### an own exception that is held -/
/-- at a: an exception of the class at C: with a message alone, or with fields in its own dict -/
inductive Held (H : Hp) (a C : Addr) : Prop
  | bare (h : H a = some (ExO (.ref C) a))
  | dict {d : Addr} {fs : List (Str × V)} (h : H a = some (exo a C (some d))) (hd : H d = some (exd d fs))
theorem held_inst {X : Cx} {pins : List (Addr × Obj)} {σ : L2.St} {H : Hp} {s : Shared} {a C : Addr} (I : Inv X pins σ H s) (h : Held H a C) : ∃ ox od, PySem.W.InstAt s.heap a ox C od := by
  cases h with
  | bare h =>
    obtain ⟨⟨oe, vs, e1, z, e2, _⟩, _, _⟩ := (show ObjOk X.prog X.w H s.heap a (ExO (.ref C) a) from I.hok a _ h)
    exact ⟨oe, none, e1, z.1, by unfold PySem.W.notCls; rw [e2], by rw [z.2]; trivial⟩
  | @dict d fs h hd =>
    obtain ⟨t1, e1⟩ := exo_at I.hok h
    obtain ⟨mA, ⟨oD, es, ep, e2, _⟩, _⟩ := exd_at I.hok hd
    exact ⟨_, some oD, e1, rfl, rfl, e2⟩
/-- isinstance(e, c) -/
def rIsH (K : Frag) : List V → Hp → VK → Prop := fun xs H Q => ∃ (a C : Addr) (c : V) (cv : Value) (b : Bool), xs = [.ref a, c] ∧ ExcC K C ∧ Held H a C ∧ ClsV c cv ∧ PySem.W.kitOne K (.ref C) cv = some b ∧ Q (.bl b) H
theorem call_isH {X : Cx} : CallR X (.builtin "isinstance") (rIsH X.K) := by
  intro pins s σ H xs us Q I r h
  obtain ⟨a, C, c, cv, b, rfl, T, hh, k, e, q⟩ := h
  obtain ⟨u1, u2, rfl, r1, r2⟩ := vals2 r
  obtain rfl : u1 = Value.ref a := r1
  obtain rfl := k.eq r2
  obtain ⟨ox, od, J⟩ := held_inst I hh
  obtain ⟨cd, hcd, _⟩ := PySem.W.any_some T.hd
  exact PySem.W.kia_one (PySem.W.kitx_exc (by rw [hcd]; rfl) T.hg T.hk T.hs T.ha T.hn T.ht T.hm) I.kIn J e (fun z => nomatch z) fun tk => ⟨.bl b, H, I.tok tk, rfl, q⟩
/-- e.f -/
def tHeld (K : Frag) (f : Str) (te : TE) : TE := fun σ H Q => te σ H fun x H1 => ∃ (a C d : Addr) (fs : List (Str × V)) (v : V), x = .ref a ∧ ExcC K C ∧ PySem.W.findIn K (.ref C) f = some none ∧ H1 a = some (exo a C (some d)) ∧ H1 d = some (exd d fs) ∧ fs.lookup f = some v ∧ Q v H1
theorem pe_held {X : Cx} {e : Expr} {f : Str} {te : TE} {pos : Pos} (he : PE X e te) (hb : attributeBase e f X.env (eval e X.env) = eval e X.env := by rfl) : PE X (.Attribute e f pos) (tHeld X.K f te) := by
  refine ⟨fun pins s σ H Q I h => attr_of hb (thn (he.run pins s σ H _ I h) fun u s1 ⟨x, H1, I1, rx, a, C, d, fs, v, ex, T, no, ea, ed, hl, q⟩ => ?_)⟩
  subst ex
  obtain rfl : u = Value.ref a := rx
  obtain ⟨t1, e1⟩ := exo_at I1.hok ea
  obtain ⟨mA, hns, rel⟩ := exd_at I1.hok ed
  obtain ⟨oD, hoD, hlook⟩ := lookIn_ns hns
  obtain ⟨w, hw, rw'⟩ := RelO.some_of (v := v) (o := mA f) (by rw [← hl]; exact rel f)
  exact PX.exc_get I1.kIn (ox := { cls := .ref C, dict := some d, data := .fields #[.ref t1, .none, .none, .none, .bool false, .none] }) ⟨e1, rfl, rfl, hoD⟩ T.hg T.hk T.hs (PySem.W.findObj_own T.hd no rfl (by rw [hlook, hw])) (handed_of rw') ⟨v, H1, I1.tok _, rw', q⟩
/-! ### str(e), e's class with its own __str__ -/
def rStrH (C : Addr) (sp : Sp) : List V → Hp → VK → Prop := fun xs H Q => ∃ a, xs = [.ref a] ∧ Held H a C ∧ sp [.ref a] H (fun v H' => ∃ z, v = .str z ∧ Q (.str z) H') E0
theorem call_strH {X : Cx} {k : Nat} {C f : Addr} {fd : FuncData} {sp : Sp} (F : FnG X.prog X.w X.K X.mg X.base CX0 k f fd ["self"] sp) (hg0 : X.A.guards = some []) (hr : Room (k + 2) X.A) (hs : PySem.W.findIn X.K (.ref C) "__str__" = some (some (.ref f)))
    (hf : PySem.W.isFn X.K (.ref f) = true) (hb : Binds X.K fd ["self"] []) : CallR X (.type "str") (rStrH C sp) := by
  intro pins s σ H xs us Q I r h
  obtain ⟨a, rfl, hh, q⟩ := h
  obtain ⟨u, rfl, rx⟩ := vals1 r
  obtain rfl : u = Value.ref a := rx
  obtain ⟨ox, od, J⟩ := held_inst I hh
  have room2 : Room k X.A.in1.in1 := (Room.in1 hr).in1
  refine PySem.W.kso_call room2.units0 I.kIn J hs hf ?_
  have e2 := I.env0.in1.in1
  have bound := hb s [Value.ref a] I.kIn rfl
  refine wpAny_call (codeAny_mono (F.run X.A.in1.in1 X.stack s H ⟨[.ref a], []⟩ [.ref a] [.ref a] _ _ hg0 room2 e2 bound (.cons rfl .nil) q) fun r s' done => ?_)
  cases r with
  | error er => exact False.elim done
  | ok fl =>
    cases fl with
    | ret u =>
      obtain ⟨v, H', I', rv, z, rfl, q'⟩ := I.after done
      obtain ⟨t, rfl⟩ := rv
      exact ⟨.str z, H', I', ⟨t, rfl⟩, q'⟩
    | next => exact False.elim done
    | brk => exact False.elim done
    | cont => exact False.elim done
end XE

/-! Sets of any kind of key: made of an iterable, sorted. What a kind must bring is a SetKit. -/
namespace XSt
open PySem PySem.Spec PyProof.Rows L2

/-- the newly made, empty one -/
def bare (w : World) : Obj := { cls := .type "set", dict := none, data := .set #[] 0 (.fresh 0 0 (!w.params.followText "set-order")) }
/-- the second heap has all that the first one has -/
def Sub (h h' : Heap) : Prop := ∀ b o, h.get? b = some o → h'.get? b = some o

theorem Sub.refl (h : Heap) : Sub h h := fun _ _ e => e
theorem Sub.trans {a b c : Heap} (x : Sub a b) (y : Sub b c) : Sub a c := fun q o e => y q o (x q o e)
theorem Sub.push (h : Heap) (o : Obj) : Sub h (h.push o) := fun _ _ e => Heap.get?_push_of_some _ e
theorem beyond {h : Heap} {b : Addr} (k : h.objs.size ≤ b) : h.get? b = none := by
  cases q : h.get? b with
  | none => rfl
  | some o => exact absurd (Heap.lt_size q) (Nat.not_lt.mpr k)

/-- items, each of them shown by a value -/
inductive Show {ι : Type} (Rel : ι → Value → Prop) : List ι → List Value → Prop
  | nil : Show Rel [] []
  | cons {x v xs vs} : Rel x v → Show Rel xs vs → Show Rel (x :: xs) (v :: vs)

structure SetKit (P : Program) (w : World) (ι κ : Type) where
  key : ι → κ
  Is : Heap → Addr → List ι → Prop
  Elt : Heap → ι → Prop
  Rel : ι → Value → Prop
  room : Around → Prop
  most : Nat
  small : most ≤ scanBound
  move : ∀ {h h' : Heap} {S : Addr} {L : List ι}, Is h S L → (∀ o, h.get? S = some o → h'.get? S = some o) → Is h' S L
  new : ∀ {h : Heap} {S : Addr}, h.get? S = some (bare w) → Is h S []
  step : ∀ {A : Around} {E : Value → Shared → Prop} {s : Shared} {h0 : Heap} {S : Addr} {L : List ι} {x : ι} {v : Value} {Q : Bool → Shared → Prop}, room A → Is s.heap S L →
    Sub h0 s.heap → h0.get? S = none → (∀ y ∈ L, Elt h0 y) → Elt h0 x → Rel x v → L.length + 1 < most →
    (∀ b h' tk L', Heap.SameBut S s.heap h' → s.toks ≤ tk → Is h' S L' → (key x ∈ L.map key → L' = L) → (key x ∉ L.map key → L'.Perm (x :: L)) → Q b { s with heap := h', toks := tk }) →
    wpAny (model P w) A (setAdd S v) Q E s
  open_ : ∀ {h : Heap} {S : Addr} {L : List ι}, Is h S L → ∃ es ep t, SetAt h S es ep t ∧ t.fits es.size = true ∧ es.size < scanBound ∧ Ris t.place.toList ∧ (w.params.followText "set-order" = true ∨ t.led = true) ∧
    Show Rel L (es.toList.map (·.2))

/-- L: what the first i of xs leave, one for each key -/
structure Part {ι κ : Type} (key : ι → κ) (xs : List ι) (i : Nat) (L : List ι) : Prop where
  from_ : ∀ y ∈ L, y ∈ xs.take i
  has : ∀ y ∈ xs.take i, key y ∈ L.map key
  once : (L.map key).Nodup
  few : L.length ≤ i

theorem take_more {α : Type} {l : List α} {i : Nat} {x : α} (e : l[i]? = some x) : l.take (i + 1) = l.take i ++ [x] := by
  rw [List.take_add_one, e]
  rfl
theorem Part.zero {ι κ : Type} (key : ι → κ) (xs : List ι) : Part key xs 0 [] :=
  { from_ := fun _ z => (by cases z), has := fun y z => (by rw [List.take_zero] at z; cases z), once := List.nodup_nil, few := Nat.le_refl _ }
theorem Part.next {ι κ : Type} {key : ι → κ} {xs L L' : List ι} {i : Nat} {x : ι} (p : Part key xs i L) (e : xs[i]? = some x)
    (c1 : key x ∈ L.map key → L' = L) (c2 : key x ∉ L.map key → L'.Perm (x :: L)) : Part key xs (i + 1) L' := by
  by_cases c : key x ∈ L.map key
  · rw [c1 c]
    refine ⟨fun y hy => ?_, fun y hy => ?_, p.once, Nat.le_succ_of_le p.few⟩
    · rw [take_more e, List.mem_append]
      exact Or.inl (p.from_ y hy)
    · rw [take_more e, List.mem_append, List.mem_singleton] at hy
      rcases hy with hy | rfl
      · exact p.has y hy
      · exact c
  · have q := c2 c
    refine ⟨fun y hy => ?_, fun y hy => ?_, ?_, ?_⟩
    · rw [take_more e, List.mem_append, List.mem_singleton]
      rcases List.mem_cons.mp (q.mem_iff.mp hy) with r | r
      · exact Or.inr r
      · exact Or.inl (p.from_ y r)
    · rw [(q.map key).mem_iff, List.map_cons, List.mem_cons]
      rw [take_more e, List.mem_append, List.mem_singleton] at hy
      rcases hy with hy | rfl
      · exact Or.inr (p.has y hy)
      · exact Or.inl rfl
    · refine (q.map key).nodup_iff.mpr ?_
      rw [List.map_cons]
      exact List.nodup_cons.mpr ⟨c, p.once⟩
    · have := q.length_eq
      have := p.few
      simp only [List.length_cons] at *
      omega

section
variable {P : Program} {w : World} {ι κ : Type} {A : Around} {E : Value → Shared → Prop} {s : Shared}

/-- the loop that takes one thing after the other into the set -/
theorem grow (Kt : SetKit P w ι κ) {I : Addr} {fp wr : List Addr} {G : Array GenState → Array GenState → Prop} {n : Nat} {Pv : Nat → Value → Prop} {St : Nat → Shared → Prop} {R : Result → Shared → Prop}
    (W : WalksS P w A.in1 I fp wr G n Pv St) {S : Addr} (hSf : S ∉ fp) {xs : List ι} (hn : n = xs.length) (lim : xs.length < Kt.most) {h0 : Heap}
    (hval : ∀ i v, Pv i v → ∃ x, xs[i]? = some x ∧ Kt.Rel x v) (elt : ∀ x ∈ xs, Kt.Elt h0 x) (hS0 : h0.get? S = none) (hw0 : ∀ b ∈ wr, h0.get? b = none) (rm : Kt.room A.in1) :
    ∀ (m i : Nat) (s : Shared), i + m = n → St i s → Sub h0 s.heap → (∃ L, Kt.Is s.heap S L ∧ Part Kt.key xs i L) →
      (∀ s' L, Moved (S :: wr) G s s' → Kt.Is s'.heap S L → Part Kt.key xs n L → Sub h0 s'.heap → R (.ok (.ret .none)) s') →
      codeAny (model P w) A (.builtin "set.update.loop" ⟨[.ref S, .ref I], []⟩) R s := by
  have wide : ∀ b ∈ wr, b ∈ S :: wr := fun b hb => List.mem_cons_of_mem _ hb
  have out : ∀ {p q : Shared}, Moved wr G p q → Sub h0 p.heap → Sub h0 q.heap := fun mv k b o e => mv.heap b o (fun z => by rw [hw0 b z] at e; cases e) (k b o e)
  have own : ∀ {p q : Shared}, Moved wr G p q → ∀ o, p.heap.get? S = some o → q.heap.get? S = some o := fun mv o e => mv.heap S o (fun z => hSf (W.sub _ z)) e
  intro m
  induction m with
  | zero =>
    intro i s him st k ⟨L, is, pt⟩ fin
    obtain rfl : i = n := by omega
    refine codeAny_builtin F.entry_set_update_loop ?_
    rw [Around.under_plainId F.plain_set_update_loop _]
    show wpAny _ A.in1 (pyNext (.ref I) >>= _) _ _ s
    exact wpAny_bind (W.done s _ _ st fun q mv => wpAny_pure (fin q L (mv.mono wide) (Kt.move is (own mv)) pt (out mv k)))
  | succ m ih =>
    intro i s him st k ⟨L, is, pt⟩ fin
    refine codeAny_builtin F.entry_set_update_loop ?_
    rw [Around.under_plainId F.plain_set_update_loop _]
    show wpAny _ A.in1 (pyNext (.ref I) >>= _) _ _ s
    refine wpAny_bind (W.item i s _ _ (by omega) st fun v q pv st' mv => ?_)
    obtain ⟨x, hx, rel⟩ := hval i v pv
    have k' := out mv k
    show wpAny _ A.in1 (holding [v] (setAdd S v) >>= _) _ _ q
    refine wpAny_bind (wpAny_holding (Kt.step rm (Kt.move is (own mv)) k' hS0 (fun y hy => elt y (List.mem_of_mem_take (pt.from_ y hy))) (elt x (List.mem_of_getElem? hx)) rel ?_ fun b h' tk L' sb tks is' c1 c2 => ?_))
    · have := pt.few
      omega
    · have k2 : Sub h0 h' := fun b o e => (sb.2 b (fun z => by rw [z, hS0] at e; cases e)).trans (k' b o e)
      refine wpAny_pure ⟨plainId_quiet F.plain_set_update_loop _, ih (i + 1) _ (by omega) (W.frame _ q _ _ st' tks fun b hb o e => ?_) k2 ⟨L', is', pt.next hx c1 c2⟩ fun r L2 mv2 is2 pt2 k3 => ?_⟩
      · exact (sb.2 b (fun z => hSf (z ▸ hb))).trans e
      · refine fin r L2 (Moved.trans W.gtrans ((mv.mono wide).then_heap tks fun b o hb e => ?_) mv2) is2 pt2 k3
        exact (sb.2 b (fun z => hb (by rw [z]; exact List.mem_cons_self ..))).trans e

/-- what iter(v) gives, once a new object lies behind the heap -/
def Iterable (P : Program) (w : World) (v : Value) (s : Shared) (n : Nat) (Pv : Nat → Value → Prop) : Prop :=
  ∀ (A' : Around) (E' : Value → Shared → Prop) (o : Obj) (Q : Value → Shared → Prop),
    (∀ (o' : Obj) (fp : List Addr) (St : Nat → Heap → Prop), (∀ A'' : Around, A''.handled = none → Walks P w A'' (s.heap.objs.size + 1) fp [s.heap.objs.size + 1] n Pv St) →
      s.heap.objs.size ∉ fp → St 0 ((s.heap.push o).push o') → Q (.ref (s.heap.objs.size + 1)) { s with heap := (s.heap.push o).push o' }) →
    wpAny (model P w) A' (pyIter v) Q E' { s with heap := s.heap.push o }
end
end XSt

/-! set(x), x of any kind that iterates; sorted(set) -/
namespace XSt
open PySem PySem.Spec PyProof.Rows L2

section
variable {P : Program} {w : World} {ι κ : Type} {A : Around} {E : Value → Shared → Prop} {s : Shared}

set_option maxHeartbeats 3200000 in
theorem set_of (Kt : SetKit P w ι κ) {T : String} {v : Value} {xs : List ι} {n : Nat} {Pv : Nat → Value → Prop} {Q : Value → Shared → Prop} (quiet : A.handled = none)
    (ty : ∀ s' : Shared, Sub s.heap s'.heap → s'.TypeIs v T) (nd : (Value.type T == Value.type "dict") = false) (ns : isSubtype (.type T) (.type "set") = pure false) (nf : isSubtype (.type T) (.type "frozenset") = pure false)
    (it : Iterable P w v s n Pv) (hn : n = xs.length) (lim : xs.length < Kt.most) (hval : ∀ i v, Pv i v → ∃ x, xs[i]? = some x ∧ Kt.Rel x v) (elt : ∀ x ∈ xs, Kt.Elt s.heap x)
    (rm : Kt.room A.in1.in1.in1)
    (fin : ∀ (h' : Heap) (tk : Nat) (L : List ι), Kt.Is h' s.heap.objs.size L → Part Kt.key xs n L → Sub s.heap h' → Q (.ref s.heap.objs.size) { s with heap := h', toks := tk }) :
    wpAny (model P w) A (call (.type "set") [v]) Q E s := by
  obtain ⟨c, tl, hmro⟩ := F.called_set.mro
  have a1 := F.called_set.made
  have a2 := F.called_set.sub
  refine wpAny_call (codeAny_of_tree ?_)
  show wpAny _ _ (callAny (.type "set") _) _ _ _
  refine wpAny_pure ⟨Code.quiet_builtin _ (by decide +kernel), codeAny_builtin F.entry_type_call ?_⟩
  rw [Around.under_plain (weight_type_call_type "set" [v] []) rfl]
  have a3 := F.called_set.notType
  have a4 := F.called_set.canCreate
  have a5 := F.typeCall_set_1 v
  repeat (any_goals (first | assumption | wp_step))
  refine codeAny_mono (code_set_led1 v (E := E) (Q₁ := fun x q => x = .ref s.heap.objs.size ∧ q = { s with heap := s.heap.push (bare w) }) ⟨rfl, rfl⟩) fun r q hr => ?_
  match r, hr with
  | .error e, hr => exact hr
  | .ok (.ret x), hr =>
    obtain ⟨rfl, rfl⟩ := hr
    have at_ : (s.heap.push (bare w)).get? s.heap.objs.size = some (bare w) := Heap.get?_push_size _ rfl
    have tS : Shared.TypeIs { s with heap := s.heap.push (bare w) } (.ref s.heap.objs.size) "set" := ⟨_, at_, rfl⟩
    have a6 := F.called_set.init.lookup
    have a7 := F.called_set.init.bind (.ref s.heap.objs.size)
    repeat (any_goals (first | assumption | wp_step))
    refine codeAny_mono (codeAny_call_builtin (R := wants (fun r q => r = .none ∧ ∃ h' tk L, q = { s with heap := h', toks := tk } ∧ Kt.Is h' s.heap.objs.size L ∧ Part Kt.key xs n L ∧ Sub s.heap h') E)
      F.called_set.init.plain F.entry_set_init (check_set_init_1 tS ?_)) fun r q hr => ?_
    · have tv : Shared.TypeIs { s with heap := s.heap.push (bare w) } v T := ty _ (Sub.push _ _)
      unfold Builtin.«set.__init__» noKeywords Builtin.Frozenset.updateFrom
      generalize hPI : pyIter = PI
      wp_walk
      subst hPI
      refine it A.in1.in1 _ (bare w) _ fun o' fp St wk nfp st0 => ?_
      refine wpAny_bind (wpAny_runValue ?_)
      have hid3 : A.in1.in1.in1.handled = none := by simp [quiet]
      have zz : ((s.heap.push (bare w)).push o').get? s.heap.objs.size = some (bare w) := Heap.get?_push_of_some _ at_
      refine grow Kt (A := A.in1.in1) (wk _ hid3).toS nfp hn lim hval elt (beyond (Nat.le_refl _)) (fun b hb => ?_) rm n 0 _ (Nat.zero_add _) st0
        ((Sub.push _ _).trans (Sub.push _ _)) ⟨[], Kt.new zz, Part.zero _ _⟩ fun q L mv is pt sb => ?_
      · rw [List.mem_singleton.mp hb]
        exact beyond (Nat.le_succ _)
      · obtain ⟨h', g2, d', tk', os'⟩ := q
        obtain rfl : g2 = s.gens := mv.gens
        obtain rfl : d' = s.drawn := mv.drawn
        obtain rfl : os' = s.os := mv.os
        show wpAny _ _ _ _ _ _
        refine wpAny_pure ?_
        show wpAny _ _ (ret Value.none) _ _ _
        exact wpAny_pure ⟨rfl, h', tk', L, rfl, is, pt, sb⟩
    · match r, hr with
      | .error e, hr => exact hr
      | .ok (.ret x), hr =>
        obtain ⟨rfl, h', tk, L, rfl, q1, q2, q3⟩ := hr
        repeat (any_goals (first | assumption | wp_step))
        exact fin _ _ _ q1 q2 q3

theorem iterable_str (x : Str) (t : Tok) : Iterable P w (.str x t) s x.cps.size (SignAt x) := by
  intro A' E' o Q h
  refine wpAny_pyIter_str fun o' St wk st0 => ?_
  have z : (s.heap.push o).objs.size = s.heap.objs.size + 1 := size_push' _ _
  rw [z]
  refine h o' [s.heap.objs.size + 1] St (fun A'' q => ?_) (fun m => absurd (List.mem_singleton.mp m) (Nat.ne_of_lt (Nat.lt_succ_self _))) st0
  have r := wk A'' q
  rw [z] at r
  exact r

theorem iterable_list {l : Addr} {items : Array Value} (hl : s.heap.IsList l items) : Iterable P w (.ref l) s items.size (fun i v => items[i]? = some v) := by
  intro A' E' o Q h
  have z : (s.heap.push o).objs.size = s.heap.objs.size + 1 := size_push' _ _
  have low : l < s.heap.objs.size := by
    obtain ⟨q, hq, _⟩ := hl
    exact Heap.lt_size hq
  refine wpAny_pyIter_list (hl.push o) ?_
  show Q (.ref (s.heap.push o).objs.size) _
  rw [z]
  refine h { cls := .type "list_iterator", data := .fields #[.ref l, .int 0 0] } [s.heap.objs.size + 1, l] _ (fun A'' q => Walks.list q (s.heap.objs.size + 1) l (Nat.ne_of_lt (Nat.lt_succ_of_lt low)) items) (fun m => ?_) ⟨⟨{ cls := .type "list_iterator", data := .fields #[.ref l, .int 0 0] }, ?_, rfl, rfl⟩, (hl.push o).push _⟩
  · rcases List.mem_cons.mp m with m | m
    · exact absurd m (Nat.ne_of_lt (Nat.lt_succ_self _))
    · exact absurd (List.mem_singleton.mp m).symm (Nat.ne_of_lt low)
  · rw [← z]
    exact Heap.get?_push_size _ rfl

theorem iterable_tuple {l : Addr} {items : Array Value} (hl : s.heap.IsTuple l items) : Iterable P w (.ref l) s items.size (fun i v => items[i]? = some v) := by
  intro A' E' o Q h
  have z : (s.heap.push o).objs.size = s.heap.objs.size + 1 := size_push' _ _
  have low : l < s.heap.objs.size := by
    obtain ⟨q, hq, _⟩ := hl
    exact Heap.lt_size hq
  refine wpAny_pyIter_tuple (hl.push o) ?_
  show Q (.ref (s.heap.push o).objs.size) _
  rw [z]
  refine h { cls := .type "tuple_iterator", data := .fields #[.ref l, .int 0 0] } [s.heap.objs.size + 1, l] _ (fun A'' q => Walks.tuple q (s.heap.objs.size + 1) l (Nat.ne_of_lt (Nat.lt_succ_of_lt low)) items) (fun m => ?_) ⟨⟨{ cls := .type "tuple_iterator", data := .fields #[.ref l, .int 0 0] }, ?_, rfl, rfl⟩, (hl.push o).push _⟩
  · rcases List.mem_cons.mp m with m | m
    · exact absurd m (Nat.ne_of_lt (Nat.lt_succ_self _))
    · exact absurd (List.mem_singleton.mp m).symm (Nat.ne_of_lt low)
  · rw [← z]
    exact Heap.get?_push_size _ rfl

theorem set_of_str (Kt : SetKit P w ι κ) {x : Str} {t : Tok} {xs : List ι} {Q : Value → Shared → Prop} (quiet : A.handled = none) (hn : x.cps.size = xs.length) (lim : xs.length < Kt.most)
    (hval : ∀ i v, SignAt x i v → ∃ y, xs[i]? = some y ∧ Kt.Rel y v) (elt : ∀ y ∈ xs, Kt.Elt s.heap y) (rm : Kt.room A.in1.in1.in1)
    (fin : ∀ (h' : Heap) (tk : Nat) (L : List ι), Kt.Is h' s.heap.objs.size L → Part Kt.key xs xs.length L → Sub s.heap h' → Q (.ref s.heap.objs.size) { s with heap := h', toks := tk }) :
    wpAny (model P w) A (call (.type "set") [.str x t]) Q E s :=
  set_of Kt (T := "str") quiet (fun _ _ => rfl) (by decide) F.sub_str_set F.sub_str_frozenset (iterable_str x t) hn lim hval elt rm (by rw [hn]; exact fin)

theorem show_at {Rel : ι → Value → Prop} : ∀ {xs : List ι} {vs : List Value}, Show Rel xs vs → ∀ (i : Nat) (v : Value), vs[i]? = some v → ∃ x, xs[i]? = some x ∧ Rel x v
  | _, _, .nil, i, v, e => by simp at e
  | x :: xs, v0 :: vs, .cons r t, 0, v, e => ⟨x, rfl, by simp at e; rw [← e]; exact r⟩
  | x :: xs, v0 :: vs, .cons r t, i + 1, v, e => show_at t i v (by simpa using e)
theorem show_len {Rel : ι → Value → Prop} : ∀ {xs : List ι} {vs : List Value}, Show Rel xs vs → xs.length = vs.length
  | _, _, .nil => rfl
  | _ :: _, _ :: _, .cons _ t => congrArg (· + 1) (show_len t)

theorem set_of_list (Kt : SetKit P w ι κ) {l : Addr} {items : Array Value} {xs : List ι} {Q : Value → Shared → Prop} (quiet : A.handled = none) (hl : s.heap.IsList l items) (sh : Show Kt.Rel xs items.toList) (lim : xs.length < Kt.most)
    (elt : ∀ y ∈ xs, Kt.Elt s.heap y) (rm : Kt.room A.in1.in1.in1)
    (fin : ∀ (h' : Heap) (tk : Nat) (L : List ι), Kt.Is h' s.heap.objs.size L → Part Kt.key xs xs.length L → Sub s.heap h' → Q (.ref s.heap.objs.size) { s with heap := h', toks := tk }) :
    wpAny (model P w) A (call (.type "set") [.ref l]) Q E s := by
  have hn : items.size = xs.length := by rw [show_len sh, Array.length_toList]
  refine set_of Kt (T := "list") quiet (fun s' k => ?_) (by decide) F.sub_list_set F.sub_list_frozenset (iterable_list hl) hn lim (fun i v e => show_at sh i v (by rw [Array.getElem?_toList]; exact e)) elt rm (by rw [hn]; exact fin)
  obtain ⟨o, ho, hc, _⟩ := hl
  exact ⟨o, k _ _ ho, hc⟩
theorem set_of_tuple (Kt : SetKit P w ι κ) {l : Addr} {items : Array Value} {xs : List ι} {Q : Value → Shared → Prop} (quiet : A.handled = none) (hl : s.heap.IsTuple l items) (sh : Show Kt.Rel xs items.toList) (lim : xs.length < Kt.most)
    (elt : ∀ y ∈ xs, Kt.Elt s.heap y) (rm : Kt.room A.in1.in1.in1)
    (fin : ∀ (h' : Heap) (tk : Nat) (L : List ι), Kt.Is h' s.heap.objs.size L → Part Kt.key xs xs.length L → Sub s.heap h' → Q (.ref s.heap.objs.size) { s with heap := h', toks := tk }) :
    wpAny (model P w) A (call (.type "set") [.ref l]) Q E s := by
  have hn : items.size = xs.length := by rw [show_len sh, Array.length_toList]
  refine set_of Kt (T := "tuple") quiet (fun s' k => ?_) (by decide) F.sub_tuple_set F.sub_tuple_frozenset (iterable_tuple hl) hn lim (fun i v e => show_at sh i v (by rw [Array.getElem?_toList]; exact e)) elt rm (by rw [hn]; exact fin)
  obtain ⟨o, ho, hc, _⟩ := hl
  exact ⟨o, k _ _ ho, hc⟩
end
end XSt

/-! sorted(set) -/
namespace XSt
open PySem PySem.Spec PyProof.Rows L2 PySem.W

theorem show_perm {ι : Type} {Rel : ι → Value → Prop} {us vs : List Value} (p : us.Perm vs) : ∀ {xs : List ι}, Show Rel xs vs → ∃ ys, ys.Perm xs ∧ Show Rel ys us := by
  induction p with
  | nil => intro xs h; exact ⟨xs, List.Perm.refl _, h⟩
  | cons v p ih =>
    intro xs h
    cases h with
    | cons r t =>
      obtain ⟨ys, q, z⟩ := ih t
      exact ⟨_ :: ys, q.cons _, .cons r z⟩
  | swap v u l =>
    intro xs h
    cases h with
    | cons r t =>
      cases t with
      | cons r2 t2 => exact ⟨_, List.Perm.swap _ _ _, .cons r2 (.cons r t2)⟩
  | trans p q ih1 ih2 =>
    intro xs h
    obtain ⟨ys, a, b⟩ := ih2 h
    obtain ⟨zs, c, d⟩ := ih1 b
    exact ⟨zs, c.trans a, d⟩

theorem show_each {ι : Type} {Rel : ι → Value → Prop} {C : ι → Prop} : ∀ {xs : List ι} {vs : List Value}, Show Rel xs vs → (∀ x ∈ xs, C x) → EachIs (fun v x => Rel x v ∧ C x) vs xs
  | _, _, .nil, _ => .nil
  | _, _, .cons r t, k => .cons ⟨r, k _ (List.mem_cons_self ..)⟩ (show_each t fun x hx => k x (List.mem_cons_of_mem _ hx))
theorem each_show {ι : Type} {Rel : ι → Value → Prop} {C : ι → Prop} : ∀ {xs : List ι} {vs : List Value}, EachIs (fun v x => Rel x v ∧ C x) vs xs → Show Rel xs vs
  | _, _, .nil => .nil
  | _, _, .cons r t => .cons r.1 (each_show t)

section
variable {P : Program} {w : World} {ι κ : Type} {A : Around} {E : Value → Shared → Prop} {s : Shared}

theorem sorted_of (Kt : SetKit P w ι κ) {S : Addr} {L : List ι} (enc : ι → PyData) {Q : Value → Shared → Prop} (quiet : A.handled = none) (is : Kt.Is s.heap S L)
    (rd : ∀ h' : Heap, Sub s.heap h' → ∀ x ∈ L, ∀ v, Kt.Rel x v → ∃ as, Reads h' v (enc x) as ∧ ∀ b ∈ as, b < s.heap.objs.size) (al : ∀ x y, alike (enc x) (enc y) = true)
    (so : ∀ l : List ι, Sortable (l.map enc)) (dp : ∀ x ∈ L, A.units + 2 + (enc x).depth < cLine)
    (fin : ∀ s' p (out : Array Value) (c : Nat) (L1 : List ι), Sub s.heap s'.heap → s'.gens = s.gens → s'.os = s.os → s.heap.objs.size ≤ p → s'.heap.get? p = some (seqObj "list" out c) →
      L1.Perm L → Show Kt.Rel (L1.mergeSort (dataLe false enc)) out.toList → Q (.ref p) s') :
    wpAny (model P w) A (call (.builtin "sorted") [.ref S]) Q E s := by
  obtain ⟨es, ep, t, sat, fit, small, ris, led, sh⟩ := Kt.open_ is
  refine Calls.call_function_entry kind_sorted plain_sorted entry_sorted (args_sorted1 _) ?_
  unfold Builtin.«sorted»
  refine wpAny_bind (m := checkCount "sorted" 1 1 _) (wpAny_pure ?_)
  refine wpAny_bind (collect_set (A := A.in1) quiet sat fit small ris led fun q vs sb sz g1 o1 pm => ?_)
  obtain ⟨L1, pL, sh1⟩ := show_perm pm sh
  have len : vs.length = L1.length := (show_len sh1).symm
  have few : L1.length ≤ sizeLine := by
    rw [pL.length_eq, show_len sh, List.length_map, Array.length_toList]
    exact fits_of_scanBound small
  refine wpAny_bind (wpAny_newList ?_ (by rw [len]; exact few))
  have hl : (q.heap.push (seqObj "list" vs.toArray 0)).get? q.heap.objs.size = some (seqObj "list" vs.toArray 0) := Heap.get?_push_size _ rfl
  have all : Sub s.heap (q.heap.push (seqObj "list" vs.toArray 0)) := Sub.trans sb (Sub.push _ _)
  have ea : EachIs (fun v x => Kt.Rel x v ∧ x ∈ L) vs L1 := show_each sh1 fun x hx => pL.mem_iff.mp hx
  have er : EachIs (fun v x => ∃ as, Reads (q.heap.push (seqObj "list" vs.toArray 0)) v (enc x) as ∧ q.heap.objs.size ∉ as) vs L1 := ea.mono fun v x ⟨r, m⟩ => by
    obtain ⟨as, r1, r2⟩ := rd _ all x m v r
    exact ⟨as, r1, fun z => absurd (r2 _ z) (Nat.not_lt.mpr sz)⟩
  have deep : ∀ x, x ∈ L1 → A.in1.units + 1 + (enc x).depth < cLine := fun x hx => by
    have h1 := dp x (pL.mem_iff.mp hx)
    have h2 : A.in1.units ≤ A.units + 1 := by simp [Around.in1]
    omega
  refine wpAny_bind (wpAny_holding (list_sort_data (s := { q with heap := q.heap.push (seqObj "list" vs.toArray 0) }) (enc := enc) hl ea er (AllAlike.of al) (so L1) few deep fun out lo eo => ?_))
  · obtain ⟨c, hc⟩ := sortedHeap_at (vs := vs) (out := out.toArray) hl
    refine wpAny_pure ⟨_, rfl, fin _ q.heap.objs.size out.toArray c L1 (fun b o e => ?_) g1 o1 sz hc pL (by simpa using each_show eo)⟩
    have k1 := sb b o e
    have lt := Heap.lt_size k1
    show (sortedHeap (q.heap.push (seqObj "list" vs.toArray 0)) q.heap.objs.size vs out.toArray).get? b = some o
    rw [sortedHeap_old (Nat.ne_of_lt lt) (by rw [size_push']; exact Nat.lt_succ_of_lt lt)]
    exact Heap.get?_push_of_some _ k1
end
end XSt

/-! the kit of sets of texts -/
namespace XSt
open PySem PySem.Spec PyProof.Rows L2 PySem.W PySem.Froz

section
variable {P : Program} {w : World} {A : Around} {E : Value → Shared → Prop} {s : Shared}

def TxRel (k : Str) (v : Value) : Prop := ∃ u, v = .str k u

structure TxIs (P : Program) (w : World) (h : Heap) (S : Addr) (L : List Str) (D : SD) : Prop where
  ob : h.get? S = some (sObj "set" D)
  el : ElemsOf (strKind P w) D.1.toList
  sh : Show TxRel L (D.1.toList.map (·.2))
  fit : D.2.2.fits D.1.size = true
  ris : Ris D.2.2.place.toList
  led : w.params.followText "set-order" = true ∨ D.2.2.led = true
  lim : L.length < scanBound

theorem is_txt {k : Str} {v : Value} : (strKind P w).is k v = true ↔ TxRel k v := by
  constructor
  · intro q
    have q' : Value.isStrOf k v = true := q
    cases v <;> simp [Value.isStrOf] at q'
    exact ⟨_, by rw [q']⟩
  · rintro ⟨u, rfl⟩
    exact is_str k u

theorem show_mem {ι : Type} {Rel : ι → Value → Prop} : ∀ {xs : List ι} {vs : List Value}, Show Rel xs vs → (∀ x ∈ xs, ∃ v ∈ vs, Rel x v) ∧ ∀ v ∈ vs, ∃ x ∈ xs, Rel x v
  | _, _, .nil => ⟨fun _ z => (by cases z), fun _ z => (by cases z)⟩
  | x :: xs, v :: vs, .cons r t => by
    obtain ⟨a, b⟩ := show_mem t
    refine ⟨fun y hy => ?_, fun u hu => ?_⟩
    · rcases List.mem_cons.mp hy with rfl | hy
      · exact ⟨v, List.mem_cons_self .., r⟩
      · obtain ⟨u, hu, z⟩ := a y hy
        exact ⟨u, List.mem_cons_of_mem _ hu, z⟩
    · rcases List.mem_cons.mp hu with rfl | hu
      · exact ⟨x, List.mem_cons_self .., r⟩
      · obtain ⟨y, hy, z⟩ := b u hu
        exact ⟨y, List.mem_cons_of_mem _ hy, z⟩

theorem TxRel.one {a b : Str} {v : Value} (x : TxRel a v) (y : TxRel b v) : a = b := by
  obtain ⟨u, rfl⟩ := x
  obtain ⟨u', e⟩ := y
  injection e

theorem TxIs.size {h : Heap} {S : Addr} {L : List Str} {D : SD} (T : TxIs P w h S L D) : D.1.size = L.length := by
  rw [show_len T.sh, List.length_map, Array.length_toList]

theorem TxIs.ok {h : Heap} {S : Addr} {L : List Str} {D : SD} (T : TxIs P w h S L D) : TxOk P w D L where
  el := T.el
  mem := fun k => by
    obtain ⟨a, b⟩ := show_mem T.sh
    constructor
    · intro hk
      obtain ⟨v, hv, r⟩ := a k hk
      obtain ⟨e, he, rfl⟩ := List.mem_map.mp hv
      exact ⟨e, he, is_txt.mpr r⟩
    · rintro ⟨e, he, q⟩
      obtain ⟨y, hy, r⟩ := b e.2 (List.mem_map.mpr ⟨e, he, rfl⟩)
      rw [TxRel.one (is_txt.mp q) r]
      exact hy
  sz := T.size
  fit := T.fit

/-- what a new text does to the table beside its order -/
theorem addTx_laid {es : Array (Int × Value)} {ep : Nat} {t : SetTable} {h : Int} {v : Value} (r : Ris t.place.toList) :
    Ris (addTx h v (es, ep, t)).2.2.place.toList ∧ (addTx h v (es, ep, t)).2.2.led = t.led ∧ (addTx h v (es, ep, t)).1.toList.Perm (es.toList ++ [(h, v)]) := by
  have p1 := layNew_ris t es h v r
  have p2 := layNew_led t es h v
  have p3 := layNew_perm t es h v
  rw [Array.toList_push] at p3
  unfold addTx
  dsimp only
  generalize layNew t es h v = N at p1 p2 p3 ⊢
  have q1 : Ris (if N.2.1.plain = true then { N.2.1 with plain := false } else N.2.1).place.toList := by
    split
    · exact p1
    · exact p1
  have q2 : (if N.2.1.plain = true then { N.2.1 with plain := false } else N.2.1).led = t.led := by
    split
    · exact p2
    · exact p2
  generalize (if N.2.1.plain = true then { N.2.1 with plain := false } else N.2.1) = t2 at q1 q2 ⊢
  unfold tailTx
  split
  · exact ⟨relayAll_ris t2 N.1 _, (relayAll_led t2 N.1 _).trans q2, (relayAll_perm t2 N.1 _).trans p3⟩
  · exact ⟨q1, q2, p3⟩

theorem txt_there {S : Addr} {L : List Str} {D : SD} {k : Str} {u : Tok} {Q : Bool → Shared → Prop} (T : TxIs P w s.heap S L D) (hk : k ∈ L) (h : Q false s) :
    wpAny (model P w) A (setAddHashed S (.str k u) (hashStr w k)) Q E s := by
  have ok := T.ok
  obtain ⟨es, ep, t⟩ := D
  have dd : (sObj "set" (es, ep, t)).data = .set es ep t := rfl
  have few : es.size < scanBound := by
    have h1 := T.size
    have h2 := T.lim
    simp only at h1
    omega
  have iself : (strKind P w).is k (.str k u) = true := is_str k u
  unfold setAddHashed setAddHashedIn
  refine wpAny_holding (wpAny_bind (wpAny_setState_of T.ob dd T.fit ?_))
  dsimp only
  rw [byScan_of rfl few T.el]
  simp only [↓reduceIte]
  unfold setAddByScan
  refine wpAny_bind (wpAny_bind (wpAny_rule (wpAny_bind (wpAny_setScan_of (knd := strKind P w) (k := k) iself T.ob dd T.fit T.el ?_))))
  obtain ⟨e, he, q⟩ := (ok.mem k).mp hk
  cases found : List.findIdx? (fun e => (strKind P w).is k e.2) es.toList with
  | none =>
    have bad := List.findIdx?_eq_none_iff.mp found e he
    rw [q] at bad
    exact absurd bad (by decide)
  | some j =>
    dsimp only
    exact wpAny_pure (wpAny_pure h)

def txKit (P : Program) (w : World) : SetKit P w Str Str where
  key := fun k => k
  Is := fun h S L => ∃ D, TxIs P w h S L D
  Elt := fun _ _ => True
  Rel := TxRel
  room := fun _ => True
  most := scanBound
  small := Nat.le_refl _
  move := fun ⟨D, T⟩ k => ⟨D, { T with ob := k _ T.ob }⟩
  new := fun {h S} e => ⟨(#[], 0, .fresh 0 0 (!w.params.followText "set-order")), {
    ob := e
    el := fun e he => by simp at he
    sh := .nil
    fit := rfl
    ris := List.Pairwise.nil
    led := by
      show _ ∨ (!w.params.followText "set-order") = true
      cases w.params.followText "set-order"
      · exact Or.inr rfl
      · exact Or.inl rfl
    lim := by decide }⟩
  step := by
    rintro A E s h0 S L x v Q _ ⟨D, T⟩ _ _ _ _ ⟨u, rfl⟩ lim fin
    unfold setAdd
    refine wpAny_holding (wpAny_bind ((strKind P w).pyHash (k := x) (is_str _ _) ?_))
    by_cases c : x ∈ L
    · refine txt_there (s := { s with toks := s.toks + 1 }) T c ?_
      exact fin false s.heap (s.toks + 1) L (Heap.SameBut.refl _ _) (Nat.le_succ _) ⟨D, T⟩ (fun _ => rfl) fun z => absurd (by rw [List.map_id']; exact c) z
    · refine add_x (s := { s with toks := s.toks + 1 }) T.ob T.ok c lim ?_
      obtain ⟨es, ep, t⟩ := D
      obtain ⟨z1, z2, z3⟩ := addTx_laid (es := es) (ep := ep) (t := t) (h := hashStr w x) (v := .str x u) T.ris
      have z4 := add_ok (k := x) u T.ok
      have z5 : ((addTx (hashStr w x) (.str x u) (es, ep, t)).1.toList.map (·.2)).Perm (.str x u :: es.toList.map (·.2)) := by
        refine (z3.map (·.2)).trans ?_
        rw [List.map_append]
        exact List.perm_append_comm
      obtain ⟨L', pL, sh⟩ := show_perm z5 (.cons ⟨u, rfl⟩ T.sh)
      refine fin true _ (s.toks + 1) L' (Heap.SameBut.update ..) (Nat.le_succ _) ⟨_, ⟨get_upd _ T.ob rfl, z4.el, sh, z4.fit, z1, ?_, ?_⟩⟩ (fun z => absurd (by rw [List.map_id'] at z; exact z) c) fun _ => pL
      · rw [z2]
        exact T.led
      · rw [pL.length_eq]
        exact lim
  open_ := fun ⟨D, T⟩ => ⟨D.1, D.2.1, D.2.2, ⟨_, T.ob, rfl, rfl⟩, T.fit, by rw [T.size]; exact T.lim, T.ris, T.led, T.sh⟩
end
end XSt

/-! the kit of sets of tuples of whole numbers and texts: the questions and the search -/
namespace XSt
open PySem PySem.Spec PyProof.Rows L2 PySem.W

section
variable {P : Program} {w : World} {A : Around} {E : Value → Shared → Prop} {s : Shared}

abbrev Tup (P : Program) (w : World) (h : Heap) (k : List Key) (b : Addr) : Prop := IsTupleKey (mixKind P w) h k b
abbrev tHash (P : Program) (w : World) (k : List Key) : Int := tupleKeyHash (mixKind P w) k

theorem Tup.sub {h h' : Heap} {k : List Key} {b : Addr} (x : Tup P w h k b) (q : Sub h h') : Tup P w h' k b := by
  obtain ⟨o, its, n, e, r⟩ := x
  exact ⟨o, its, n, q b o e, r⟩

/-- a whole number or a text -/
def Plainly (v : Value) : Prop := (∃ i t, v = .int i t) ∨ ∃ x t, v = .str x t
theorem plainly_of {k : List Key} {vs : List Value} (x : ItemsAre (mixKind P w) k vs) : ∀ v ∈ vs, Plainly v := by
  induction x with
  | nil => intro v z; cases z
  | cons q _ ih =>
    intro v z
    rcases List.mem_cons.mp z with rfl | z
    · rcases keyIs_shape q with ⟨i, t, _, e⟩ | ⟨y, t, _, e⟩
      · exact Or.inl ⟨i, t, e⟩
      · exact Or.inr ⟨y, t, e⟩
    · exact ih v z
theorem Plainly.cls {v : Value} (x : Plainly v) (n : Nat) : ofAClassStatement n v = pure false := by
  rcases x with ⟨i, t, rfl⟩ | ⟨y, t, rfl⟩ <;> cases n <;> rfl
theorem Plainly.scan {v : Value} (x : Plainly v) : v.scannable = true := by
  rcases x with ⟨i, t, rfl⟩ | ⟨y, t, rfl⟩ <;> rfl

theorem no_class {k : List Key} {b : Addr} {Q : Bool → Shared → Prop} (x : Tup P w s.heap k b) (fin : Q false s) : wpAny (model P w) A (ofAClassStatement 8 (.ref b)) Q E s := by
  have ty := x.typeIs
  obtain ⟨o, its, n, at_, _, da, all⟩ := x
  unfold ofAClassStatement
  refine wpAny_bind (wpAny_typeOf ty ?_)
  dsimp only
  simp only [show (("tuple" : String) == "tuple") = true from by decide, if_true, Bool.not_true, Bool.false_eq_true, if_false]
  try refine wpAny_bind (wpAny_pure ?_)
  try simp only [Bool.not_true, Bool.false_eq_true, if_false]
  show wpAny _ _ (seqItems? (.ref b) >>= _) _ _ s
  refine wpAny_bind (wpAny_seqItems at_ da ?_)
  dsimp only
  refine wpAny_bind ?_
  show wpAny _ _ (forIn its _ _) _ _ s
  rw [← Array.forIn_toList]
  refine wpAny_forIn_list _ (fun left r q => (r.1 = none ∧ q = s) ∧ ∀ v ∈ left, Plainly v) _ ?_ ?_ _ _ ⟨⟨rfl, rfl⟩, plainly_of all⟩
  · rintro v left r q ⟨⟨e1, rfl⟩, good⟩
    rw [(good v (List.mem_cons_self ..)).cls]
    refine wpAny_bind (wpAny_pure ?_)
    simp only [Bool.false_eq_true, if_false]
    exact wpAny_pure ⟨⟨rfl, rfl⟩, fun u z => good u (List.mem_cons_of_mem _ z)⟩
  · rintro ⟨r1, r2⟩ q ⟨⟨e1, rfl⟩, _⟩
    obtain rfl : r1 = none := e1
    exact wpAny_pure fin

theorem by_value {k : List Key} {b : Addr} {Q : Bool → Shared → Prop} (x : Tup P w s.heap k b) (fin : ∀ c, Q c s) : wpAny (model P w) A (hashByValue 8 (.ref b)) Q E s := by
  have ty := x.typeIs
  obtain ⟨o, its, n, at_, _, da, all⟩ := x
  unfold hashByValue
  refine wpAny_bind (wpAny_specialOf ty F.slot_tuple_hash.lookup ?_)
  show wpAny _ _ (seqItems? (.ref b) >>= _) _ _ s
  refine wpAny_bind (wpAny_seqItems at_ da ?_)
  refine wpAny_bind ?_
  show wpAny _ _ (forIn its _ _) _ _ s
  rw [← Array.forIn_toList]
  refine wpAny_forIn_list _ (fun left r q => (r.1 = none ∧ q = s) ∧ ∀ v ∈ left, Plainly v) _ ?_ ?_ _ _ ⟨⟨rfl, rfl⟩, plainly_of all⟩
  · rintro v left r q ⟨⟨e1, rfl⟩, good⟩
    rw [hashByValue_scannable _ (good v (List.mem_cons_self ..)).scan]
    refine wpAny_bind (wpAny_pure ?_)
    cases plainKind v with
    | true =>
      simp only [Bool.not_true, Bool.false_eq_true, if_false]
      exact wpAny_pure ⟨⟨rfl, rfl⟩, fun u z => good u (List.mem_cons_of_mem _ z)⟩
    | false =>
      simp only [Bool.not_false, if_true]
      exact wpAny_pure (wpAny_pure (fin false))
  · rintro ⟨r1, r2⟩ q ⟨⟨e1, rfl⟩, _⟩
    obtain rfl : r1 = none := e1
    exact wpAny_pure (fin true)

theorem unseen {k : List Key} {b : Addr} {Q : Bool → Shared → Prop} (x : Tup P w s.heap k b) {ys : List Value} (all : ∀ y ∈ ys, ∃ k' c, y = Value.ref c ∧ Tup P w s.heap k' c) (fin : Q false s) :
    wpAny (model P w) A (searchCouldBeSeen (.ref b) ys) Q E s := by
  unfold searchCouldBeSeen
  refine wpAny_bind (wpAny_forIn_list _ (fun left r q => (r.1 = none ∧ q = s) ∧ ∀ y ∈ left, ∃ k' c, y = Value.ref c ∧ Tup P w s.heap k' c) _ ?_ ?_ _ _ ⟨⟨rfl, rfl⟩, all⟩)
  · rintro v left r q ⟨⟨e1, rfl⟩, good⟩
    obtain ⟨k', c, rfl, tc⟩ := good v (List.mem_cons_self ..)
    have tl := fun u (z : u ∈ left) => good u (List.mem_cons_of_mem _ z)
    dsimp only
    by_cases same : (b == c || (carriedByValue (.ref b) && carriedByValue (.ref c))) = true
    · exact wp_if_pos same (wpAny_pure ⟨⟨rfl, rfl⟩, tl⟩)
    · refine wp_if_neg same (wpAny_bind (wpAny_eqIsQuiet_tuple x ?_))
      simp only [Bool.not_true, Bool.false_eq_true, if_false]
      refine wpAny_bind (wpAny_eqIsQuiet_tuple tc ?_)
      simp only [Bool.not_true, Bool.false_eq_true, if_false]
      refine wpAny_bind (no_class x ?_)
      simp only [Bool.false_eq_true, if_false]
      refine wpAny_bind (no_class tc ?_)
      simp only [Bool.false_eq_true, if_false]
      exact wpAny_pure ⟨⟨rfl, rfl⟩, tl⟩
  · rintro ⟨r1, r2⟩ q ⟨⟨e1, rfl⟩, _⟩
    obtain rfl : r1 = none := e1
    exact wpAny_pure fin

/-! the set -/
variable {κ : Type} (f : κ → List Key)
def lined (P : Program) (w : World) (L : List (Addr × κ)) : List (Int × Value) := L.map fun p => (tHash P w (f p.2), Value.ref p.1)
def hashes (P : Program) (w : World) (L : List (Addr × κ)) : List Int := L.map fun p => tHash P w (f p.2)

structure TuIs (P : Program) (w : World) (h : Heap) (S : Addr) (L : List (Addr × κ)) (es : Array (Int × Value)) (ep : Nat) (t : SetTable) : Prop where
  ob : ∃ o, h.get? S = some o ∧ o.ExactSet ∧ o.data = .set es ep t
  line : es.toList = lined f P w L
  tab : TabOk t (hashes f P w L)
  led : w.params.followText "set-order" = true ∨ t.led = true
  room : L.length * 5 < t.mask * 3
  lim : L.length < 64

variable {f} {S : Addr} {L : List (Addr × κ)} {es : Array (Int × Value)} {ep : Nat} {t : SetTable} {h : Heap}
theorem TuIs.len (T : TuIs f P w h S L es ep t) : es.size = L.length := by
  have q := congrArg List.length T.line
  rw [Array.length_toList, lined, List.length_map] at q
  exact q
theorem TuIs.places (T : TuIs f P w h S L es ep t) : t.place.size = L.length := by
  have q := T.tab.sz
  rw [hashes, List.length_map] at q
  exact q
theorem fits_by {t : SetTable} {n : Nat} (a : t.place.size = n) (b : t.dummies = #[]) (c : n ≤ t.mask) : t.fits n = true := by
  unfold SetTable.fits SetTable.fill
  rw [b, Bool.and_eq_true, beq_iff_eq, decide_eq_true_eq]
  refine ⟨a, ?_⟩
  show t.place.size + 0 ≤ t.mask
  omega
theorem TuIs.fit (T : TuIs f P w h S L es ep t) : t.fits es.size = true := by
  rw [T.len]
  refine fits_by T.places T.tab.dm ?_
  have := T.room
  omega
theorem TuIs.entry (T : TuIs f P w h S L es ep t) {i : Nat} {p : Addr × κ} (e : L[i]? = some p) : es[i]? = some (tHash P w (f p.2), Value.ref p.1) := by
  rw [← Array.getElem?_toList, T.line, lined, List.getElem?_map, e]
  rfl
end
end XSt

/-! the search among tuples -/
namespace XSt
open PySem PySem.Spec PyProof.Rows L2 PySem.W

section
variable {P : Program} {w : World} {A : Around} {E : Value → Shared → Prop} {s : Shared} {κ : Type} {f : κ → List Key} {S : Addr} {L : List (Addr × κ)} {es : Array (Int × Value)} {ep : Nat} {t : SetTable} {h : Heap}

/-- the c-th place that a search of the hash g stands at -/
abbrev stand (m : Nat) (g : Int) (c : Nat) : SetTable.Probe := nth m (runAt m (SetTable.bits g % (m + 1)) (SetTable.bits g)) c
theorem stand_plain (m : Nat) (g : Int) : ∀ c, (stand m g c).dummy = none := by
  have all : ∀ (c : Nat) (p : SetTable.Probe), p.dummy = none → (nth m p c).dummy = none := by
    intro c
    induction c with
    | zero => exact fun _ e => e
    | succ c ih =>
      intro p e
      apply ih (adv m p)
      unfold adv
      split <;> exact e
  exact fun c => all c _ rfl
theorem stand_on (m : Nat) (g : Int) (c q : Nat) : nth m (stand m g c) q = stand m g (c + q) := (nth_add m c _ q).symm

theorem seek (T : TuIs f P w s.heap S L es ep t) (here : ∀ p ∈ L, Tup P w s.heap (f p.2) p.1) {x : Addr} {k : κ} (tx : Tup P w s.heap (f k) x) (hu : A.units < cLine) {g : Int} (hg : tHash P w (f k) = g) {K : Nat}
    (kf : K < 10 * SetTable.turns t.mask) (free : (stand t.mask g K).j ∉ t.place.toList) (full : ∀ c, c < K → (stand t.mask g c).j ∈ t.place.toList) {Q : SetFound → Shared → Prop}
    (found : (∃ p ∈ L, f p.2 = f k) → Q (.there none) s) (miss : (∀ p ∈ L, f p.2 ≠ f k) → Q (.free (stand t.mask g K).j false) s) :
    ∀ (fuel c : Nat) (st : Option SetTable.Probe), st.getD (t.probeStart g) = stand t.mask g c → c ≤ K → K < c + fuel →
      (∀ (i : Nat) p, L[i]? = some p → f p.2 = f k → ∃ d, c ≤ d ∧ d < K ∧ t.place.toList[i]? = some (stand t.mask g d).j) →
      wpAny (model P w) A (setSearchFrom S (.ref x) g true fuel st) Q E s := by
  intro fuel
  induction fuel with
  | zero =>
    intro c st _ a b
    exact absurd b (by omega)
  | succ fuel ih =>
    intro c st start ck room ahead
    obtain ⟨o, ho, ex, dat⟩ := T.ob
    rw [setSearchFrom_succ]
    refine wpAny_bind (wpAny_setState_of ho dat T.fit ?_)
    dsimp only
    have even : ¬ t.gaveWay = true := by
      unfold SetTable.gaveWay
      rw [mask_odd T.tab.mok]
      decide
    refine wp_if_neg even ?_
    try refine wpAny_bind (wpAny_pure ?_)
    have hashOf : ∀ (i : Nat) p, L[i]? = some p → (es[i]?.map (·.1)).getD 0 = tHash P w (f p.2) := fun i p e => by
      rw [T.entry e]
      rfl
    have told := go_spec t T.tab.ris T.tab.dm (fun i => (es[i]?.map (·.1)).getD 0) g (10 * SetTable.turns t.mask) (K - c) (stand t.mask g c) (stand_plain _ _ _) (by omega)
      (fun q z => by rw [stand_on]; exact full _ (by omega)) (by rw [stand_on, show c + (K - c) = K from by omega]; exact free)
    have begin_ : t.probe (fun i => (es[i]?.map (·.1)).getD 0) g (st.getD (t.probeStart g)) = SetTable.probe.go t (fun i => (es[i]?.map (·.1)).getD 0) g (10 * SetTable.turns t.mask) (stand t.mask g c) := by
      rw [start]
      rfl
    rw [begin_]
    simp only [stand_on] at told
    rw [show c + (K - c) = K from by omega] at told
    rcases told with ⟨q, i, qk, at_, same, before, ans⟩ | ⟨before, ans⟩
    · rw [ans]
      dsimp only
      have il : i < L.length := by
        have z := (List.getElem?_eq_some_iff.mp at_).1
        rw [Array.length_toList, T.places] at z
        exact z
      obtain ⟨p, hp⟩ : ∃ p, L[i]? = some p := ⟨_, List.getElem?_eq_getElem il⟩
      have mp : p ∈ L := List.mem_of_getElem? hp
      have rest : wpAny (model P w) A (searchRest S (.ref x) g true fuel es t (stand t.mask g (c + q)).j i (stand t.mask g (c + (q + 1)))) Q E s := by
        unfold searchRest
        rw [T.entry hp]
        dsimp only
        refine wpAny_bind (wpAny_holding (wpAny_eqBool_tuple hu (here p mp) tx ?_))
        refine wpAny_bind (wpAny_setState_of ho dat T.fit ?_)
        dsimp only
        by_cases eq : f p.2 = f k
        · exact wp_if_pos (by simp [eq]) (wpAny_pure (found ⟨p, mp, eq⟩))
        · refine wp_if_neg (by simp [eq]) ?_
          try refine wpAny_bind (wpAny_pure ?_)
          rw [sameMem]
          dsimp only
          have live : t.slot (stand t.mask g (c + q)).j = .live i := slot_live T.tab.ris at_
          simp only [if_true, live, T.entry hp]
          refine wpAny_bind (wpAny_isSame_ref_self (wpAny_bind (wpAny_pure ?_)))
          simp only [if_true]
          refine wp_if_neg (by simp [eq]) (ih (c + (q + 1)) _ rfl (by omega) (by omega) fun i' p' e' k' => ?_)
          obtain ⟨d, d1, d2, d3⟩ := ahead i' p' e' k'
          refine ⟨d, ?_, d2, d3⟩
          -- the place of an equal one lies further on: it is neither passed nor this one
          apply Decidable.byContradiction
          intro bad
          by_cases lt : d < c + q
          · refine before (d - c) i' (by omega) (by rw [show c + (d - c) = d from by omega]; exact d3) ?_
            rw [← hg, ← k']
            exact hashOf i' p' e'
          · obtain rfl : d = c + q := by omega
            have z := slot_live T.tab.ris d3
            rw [live] at z
            injection z with z
            rw [← z, hp] at e'
            injection e' with e'
            rw [e'] at eq
            exact eq k'
      by_cases led : t.led = true
      · refine wp_if_neg (by simp [led]) ?_
        try refine wpAny_bind (wpAny_pure ?_)
        exact rest
      · refine wp_if_pos (by simp [led]) (wpAny_bind (unseen tx (fun y hy => ?_) ?_))
        · obtain ⟨e, he, rfl⟩ := List.mem_map.mp hy
          have he' : e ∈ es.toList := (by simpa using he : e ∈ es ∧ e.1 = g).1 |> fun z => by simpa using z
          rw [T.line, lined] at he'
          obtain ⟨p', m', rfl⟩ := List.mem_map.mp he'
          exact ⟨_, p'.1, rfl, here p' m'⟩
        · refine wp_if_neg (by decide) ?_
          try refine wpAny_bind (wpAny_pure ?_)
          exact rest
    · rw [ans]
      dsimp only
      refine wpAny_pure (miss fun p m eq => ?_)
      obtain ⟨i, il, rfl⟩ := List.getElem_of_mem m
      have e : L[i]? = some L[i] := List.getElem?_eq_getElem il
      obtain ⟨d, d1, d2, d3⟩ := ahead i _ e eq
      refine before (d - c) i (by omega) (by rw [show c + (d - c) = d from by omega]; exact d3) ?_
      rw [← hg, ← eq]
      exact hashOf i _ e

theorem seek_all (T : TuIs f P w s.heap S L es ep t) (here : ∀ p ∈ L, Tup P w s.heap (f p.2) p.1) {x : Addr} {k : κ} (tx : Tup P w s.heap (f k) x) (hu : A.units < cLine) {Q : SetFound → Shared → Prop}
    (found : (∃ p ∈ L, f p.2 = f k) → Q (.there none) s)
    (miss : ∀ K, (∀ p ∈ L, f p.2 ≠ f k) → way t.mask (tHash P w (f k)) K ∉ t.place.toList → (∀ c, c < K → way t.mask (tHash P w (f k)) c ∈ t.place.toList) → Q (.free (way t.mask (tHash P w (f k)) K) false) s) :
    wpAny (model P w) A (setSearch S (.ref x) (tHash P w (f k)) true) Q E s := by
  have hl : (hashes f P w L).length = L.length := by rw [hashes, List.length_map]
  obtain ⟨K, k1, k2, k3⟩ := T.tab.first (by have := T.room; omega) (tHash P w (f k))
  have big : K < 100000 := by
    have z : 10 * SetTable.turns t.mask ≤ 2000 := by
      unfold SetTable.turns
      rcases T.tab.mok with e | e | e <;> omega
    omega
  unfold setSearch
  refine seek T here tx hu rfl k1 k2 k3 found (fun n => miss K n k2 k3) 100000 0 none rfl (Nat.zero_le _) (by omega) fun i p e eq => ?_
  have e2 : (hashes f P w L)[i]? = some (tHash P w (f k)) := by
    rw [hashes, List.getElem?_map, e, ← eq]
    rfl
  have il : i < t.place.toList.length := by
    rw [Array.length_toList, T.places]
    exact (List.getElem?_eq_some_iff.mp e).1
  have e3 := List.getElem?_eq_getElem il
  obtain ⟨d, d1, d2⟩ := T.tab.before k2 e2 e3
  exact ⟨d, Nat.zero_le _, d1, by rw [e3]; exact congrArg some d2.symm⟩
end
end XSt

/-! a tuple put into the set; the kit -/
namespace XSt
open PySem PySem.Spec PyProof.Rows L2 PySem.W

section
variable {P : Program} {w : World} {A : Around} {E : Value → Shared → Prop} {s : Shared} {κ : Type} {f : κ → List Key} {S : Addr} {L : List (Addr × κ)} {es : Array (Int × Value)} {ep : Nat} {t : SetTable} {h : Heap}

theorem shuffled (line : es.toList = lined f P w L) {order : Array Nat} (pm : order.toList.Perm (List.range L.length)) :
    ∃ L2, (order.filterMap (es[·]?)).toList = lined f P w L2 ∧ L2.Perm L ∧ hashes f P w L2 = order.toList.map fun i => (es.map (·.1)).getD i 0 := by
  have ent : ∀ i : Nat, es[i]? = (L[i]?).map fun p => (tHash P w (f p.2), Value.ref p.1) := fun i => by
    rw [← Array.getElem?_toList, line, lined, List.getElem?_map]
  refine ⟨order.toList.filterMap (fun i => L[i]?), ?_, ?_, ?_⟩
  · rw [Array.toList_filterMap, lined, List.map_filterMap]
    exact congrArg (fun z => List.filterMap z order.toList) (funext ent)
  · have z := pm.filterMap (fun i => L[i]?)
    rw [List.filterMap_getElem?_range_length] at z
    exact z
  · have all : ∀ l : List Nat, (∀ i ∈ l, i < L.length) → hashes f P w (l.filterMap fun i => L[i]?) = l.map fun i => (es.map (·.1)).getD i 0 := by
      intro l
      induction l with
      | nil => intro _; rfl
      | cons i l ih =>
        intro k
        have il := k i (List.mem_cons_self ..)
        have e := List.getElem?_eq_getElem il
        have e2 : (es.map (·.1)).getD i 0 = tHash P w (f (L[i]).2) := by
          rw [Array.getD_eq_getD_getElem?, Array.getElem?_map, ent i, e]
          rfl
        rw [List.filterMap_cons_some e, List.map_cons, ← ih fun j z => k j (List.mem_cons_of_mem _ z), e2]
        rfl
    exact all _ fun i z => List.mem_range.mp (pm.mem_iff.mp z)

theorem relaid_in {o : Obj} (ho : s.heap.get? S = some o) (ex : o.ExactSet) (dat : o.data = .set es ep t) (line : es.toList = lined f P w L) (pl : t.place.size = L.length) (dm : t.dummies = #[]) (ml : L.length ≤ t.mask)
    (led : w.params.followText "set-order" = true ∨ t.led = true) (lim : L.length < 64) {wanted M : Nat} (size : SetTable.sizeAbove wanted - 1 = M) (ok : MaskOk M) (size2 : SetTable.sizeAbove wanted ≤ 128) (room : L.length * 5 < M * 3)
    {Q : Unit → Shared → Prop} (fin : ∀ h' L' es' ep' t', Heap.SameBut S s.heap h' → TuIs f P w h' S L' es' ep' t' → L'.Perm L → Q () { s with heap := h' }) : wpAny (model P w) A (setRelay S wanted) Q E s := by
  have len : es.size = L.length := by
    have q := congrArg List.length line
    rw [Array.length_toList, lined, List.length_map] at q
    exact q
  have len2 : (es.map (·.1)).size = L.length := by rw [Array.size_map, len]
  have fit : t.fits es.size = true := by
    rw [len]
    exact fits_by pl dm ml
  obtain ⟨t', order, e, pm, tab, e1, e2, e3, e4⟩ := relaid_ok t (hs := es.map (·.1)) (wanted := wanted) size ok (by omega)
  rw [len2] at pm
  obtain ⟨L2, l1, l2, l3⟩ := shuffled (f := f) (P := P) (w := w) line pm
  rw [← l3] at tab
  have len3 : (order.filterMap (es[·]?)).size = L.length := by
    have q := congrArg List.length l1
    rw [Array.length_toList, lined, List.length_map, l2.length_eq] at q
    exact q
  have sl : (64 : Nat) ≤ sizeLine := by rw [sizeLine_eq]; decide
  rw [setRelay_eq]
  refine wpAny_bind (wpAny_setState_of ho dat fit ?_)
  dsimp only
  refine wp_if_neg (by rw [sizeLine_eq]; omega) ?_
  try refine wpAny_bind (wpAny_pure ?_)
  rw [e]
  dsimp only
  refine wpAny_bind (wp_if_neg (by rw [len3, len]; simp) ?_)
  try refine wpAny_bind (wpAny_pure ?_)
  refine wpAny_pure ?_
  dsimp only
  refine wpAny_storeSet_of ho dat (fin _ L2 _ (ep + 1) t' (Heap.SameBut.update ..) ⟨⟨_, store_at ho dat, ex, rfl⟩, l1, tab, by rw [e2]; exact led, ?_, by rw [l2.length_eq]; exact lim⟩ l2) (by omega)
  rw [l2.length_eq, e1]
  exact room

theorem put_in (T : TuIs f P w s.heap S L es ep t) (here : ∀ p ∈ L, Tup P w s.heap (f p.2) p.1) {x : Addr} {k : κ} (tx : Tup P w s.heap (f k) x) (hu : A.units < cLine) (lim : L.length + 1 < 64) {Q : Bool → Shared → Prop}
    (fin : ∀ b h' L' es' ep' t', Heap.SameBut S s.heap h' → TuIs f P w h' S L' es' ep' t' → ((∃ p ∈ L, f p.2 = f k) → L' = L) → ((∀ p ∈ L, f p.2 ≠ f k) → L'.Perm ((x, k) :: L)) → Q b { s with heap := h' }) :
    wpAny (model P w) A (setAddHashed S (.ref x) (tHash P w (f k))) Q E s := by
  obtain ⟨o, ho, ex, dat⟩ := T.ob
  have room := T.room
  have sl : (64 : Nat) ≤ sizeLine := by rw [sizeLine_eq]; decide
  unfold setAddHashed
  refine wpAny_holding ?_
  rw [show (100000 : Nat) = 99999 + 1 from rfl, setAddHashedIn_succ]
  refine wpAny_bind (wpAny_setState_of ho dat T.fit ?_)
  dsimp only
  refine wp_if_neg (by simp [byScan, Value.scannable]) ?_
  try refine wpAny_bind (wpAny_pure ?_)
  refine wpAny_bind (seek_all T here tx hu (fun old => ?_) fun K new k2 k3 => ?_)
  · dsimp only
    refine wpAny_pure (fin false s.heap L es ep t (Heap.SameBut.refl _ _) T (fun _ => rfl) fun z => ?_)
    obtain ⟨p, m, e⟩ := old
    exact absurd e (z p m)
  · dsimp only
    refine wpAny_bind (wpAny_setState_of ho dat T.fit ?_)
    dsimp only
    obtain ⟨b1, b2, b3, b4, b5, b6, b7, b8, b9⟩ := T.tab.put k2 k3
    generalize t.put (way t.mask (tHash P w (f k)) K) = pt at b1 b3 b4 b5 b6 b7 b8 b9 ⊢
    obtain ⟨t1, at_⟩ := pt
    dsimp only at b1 b3 b4 b5 b6 b7 b8 b9 ⊢
    rw [← b1] at b2 b3
    have grown : (SetTable.insertAt es at_ (tHash P w (f k), Value.ref x)).toList = lined f P w (L.take at_ ++ (x, k) :: L.drop at_) := by
      rw [SetTable.toList_insertAt, T.line]
      simp only [lined, List.map_append, List.map_cons, List.map_take, List.map_drop]
    have hs1 : hashes f P w (L.take at_ ++ (x, k) :: L.drop at_) = (hashes f P w L).take at_ ++ tHash P w (f k) :: (hashes f P w L).drop at_ := by
      simp only [hashes, List.map_append, List.map_cons, List.map_take, List.map_drop]
    have pm : (L.take at_ ++ (x, k) :: L.drop at_).Perm ((x, k) :: L) := by
      have z : (L.take at_ ++ (x, k) :: L.drop at_).Perm ((x, k) :: (L.take at_ ++ L.drop at_)) := List.perm_middle
      rw [List.take_append_drop] at z
      exact z
    rw [← hs1] at b3
    have hl : (hashes f P w L).length = L.length := by rw [hashes, List.length_map]
    rw [hl] at b9
    have inner : ∀ t2 : SetTable, t2.place = t1.place → t2.dummies = t1.dummies → t2.mask = t1.mask → t2.led = t1.led →
        wpAny (model P w) A (do
          storeSet S (SetTable.insertAt es at_ (tHash P w (f k), Value.ref x)) t2
          if !false && t2.tooFull then setRelay S (SetTable.grown (es.size + 1))
          return true) Q E s := fun t2 c1 c2 c3 c4 => by
      have tab2 : TabOk t2 (hashes f P w (L.take at_ ++ (x, k) :: L.drop at_)) := by
        obtain ⟨d1, d2, d3, d4, d5, d6⟩ := b3
        exact ⟨by rw [c1]; exact d1, by rw [c2]; exact d2, by rw [c1]; exact d3, by rw [c3]; exact d4, by rw [c1, c3]; exact d5, by rw [c1, c3]; exact d6⟩
      have fill2 : t2.fill = L.length + 1 := by
        rw [← b9]
        show t2.place.size + t2.dummies.size = t1.place.size + t1.dummies.size
        rw [c1, c2]
      have mask2 : t2.mask = t.mask := c3.trans b4
      generalize L.take at_ ++ (x, k) :: L.drop at_ = L1 at grown hs1 pm b3 tab2
      generalize SetTable.insertAt es at_ (tHash P w (f k), Value.ref x) = es1 at grown ⊢
      have n1 : L1.length = L.length + 1 := pm.length_eq
      have n2 : es1.size = L.length + 1 := by
        have q := congrArg List.length grown
        rw [Array.length_toList, lined, List.length_map, n1] at q
        exact q
      refine wpAny_bind (wpAny_storeSet_of ho dat ?_ (by omega))
      have led2 : w.params.followText "set-order" = true ∨ t2.led = true := by
        rw [c4, b5]
        exact T.led
      have sb : Heap.SameBut S s.heap (s.heap.update S (Obj.putSet es1 t2)) := Heap.SameBut.update ..
      have ho1 := store_at (es' := es1) (t' := t2) ho dat
      by_cases full : t2.tooFull = true
      · have f1 := full
        unfold SetTable.tooFull at f1
        rw [decide_eq_true_eq, fill2, mask2] at f1
        have two : (t.mask = 7 ∧ L.length = 4) ∨ (t.mask = 31 ∧ L.length = 18) := by
          rcases T.tab.mok with e | e | e
          · exact Or.inl ⟨e, by omega⟩
          · exact Or.inr ⟨e, by omega⟩
          · omega
        have pl2 : t2.place.size = L1.length := by
          have q := tab2.sz
          rw [hashes, List.length_map] at q
          exact q
        have go : ∀ M, SetTable.sizeAbove (SetTable.grown (es.size + 1)) - 1 = M → MaskOk M → SetTable.sizeAbove (SetTable.grown (es.size + 1)) ≤ 128 → L1.length * 5 < M * 3 →
            wpAny (model P w) A (setRelay S (SetTable.grown (es.size + 1))) (fun _ q => wpAny (model P w) A (pure true) Q E q) E { s with heap := s.heap.update S (Obj.putSet es1 t2) } := fun M m1 m2 m3 m4 => by
          refine relaid_in (s := { s with heap := s.heap.update S (Obj.putSet es1 t2) }) ho1 ex rfl grown pl2 tab2.dm (by rw [n1, mask2]; omega) led2 (by omega) m1 m2 m3 m4 fun h2 L2 es2 ep2 u2 sb2 T2 pm2 => ?_
          refine wpAny_pure (fin true h2 L2 es2 ep2 u2 (sb.trans sb2) T2 (fun z => ?_) fun _ => pm2.trans pm)
          obtain ⟨p, m, e⟩ := z
          exact absurd e (new p m)
        refine wp_if_pos (by simp [full]) (wpAny_bind ?_)
        rw [T.len] at go ⊢
        rcases two with ⟨_, e⟩ | ⟨_, e⟩
        · rw [e] at go ⊢
          exact go 31 (by rw [size_20]) (Or.inr (Or.inl rfl)) (by rw [size_20]; decide) (by omega)
        · rw [e] at go ⊢
          exact go 127 (by rw [size_76]) (Or.inr (Or.inr rfl)) (by rw [size_76]; decide) (by omega)
      · have f1 := full
        unfold SetTable.tooFull at f1
        rw [decide_eq_true_eq, fill2] at f1
        refine wp_if_neg (by simp [full]) ?_
        try refine wpAny_bind (wpAny_pure ?_)
        refine wpAny_pure (fin true _ L1 es1 (ep + 1) t2 sb ⟨⟨_, ho1, ex, rfl⟩, grown, tab2, led2, by omega, by omega⟩ (fun z => ?_) fun _ => pm)
        obtain ⟨p, m, e⟩ := z
        exact absurd e (new p m)
    have tail : ∀ c : Bool, wpAny (model P w) A (do
          storeSet S (SetTable.insertAt es at_ (tHash P w (f k), Value.ref x)) (if c = true then t1 else { t1 with plain := false })
          if !false && (if c = true then t1 else { t1 with plain := false }).tooFull then setRelay S (SetTable.grown (es.size + 1))
          return true) Q E s := fun c => by
      cases c with
      | true => exact inner t1 rfl rfl rfl rfl
      | false => exact inner { t1 with plain := false } rfl rfl rfl rfl
    by_cases pln : t1.plain = true
    · first
        | exact wp_if_pos pln (wpAny_bind (by_value tx tail))
        | exact wpAny_bind (wp_if_pos pln (by_value tx tail))
    · first
        | exact wp_if_neg pln (wpAny_bind (wpAny_pure (tail true)))
        | exact wpAny_bind (wp_if_neg pln (wpAny_pure (tail true)))
end
end XSt

/-! the kit of sets of tuples -/
namespace XSt
open PySem PySem.Spec PyProof.Rows L2 PySem.W

theorem show_map {ι : Type} {Rel : ι → Value → Prop} (g : ι → Value) (k : ∀ x, Rel x (g x)) : ∀ xs : List ι, Show Rel xs (xs.map g)
  | [] => .nil
  | x :: xs => .cons (k x) (show_map g k xs)

def tuKit (P : Program) (w : World) {κ : Type} (f : κ → List Key) (inj : ∀ a b, f a = f b → a = b) : SetKit P w (Addr × κ) κ where
  key := fun p => p.2
  Is := fun h S L => ∃ es ep t, TuIs f P w h S L es ep t
  Elt := fun h p => Tup P w h (f p.2) p.1
  Rel := fun p v => v = .ref p.1
  room := fun A => A.units < cLine
  most := 64
  small := by decide
  move := fun ⟨es, ep, t, T⟩ k => ⟨es, ep, t, { T with ob := let ⟨o, ho, r⟩ := T.ob; ⟨o, k o ho, r⟩ }⟩
  new := fun {h S} e => ⟨#[], 0, .fresh 0 0 (!w.params.followText "set-order"), {
    ob := ⟨_, e, ⟨rfl, rfl, rfl⟩, rfl⟩
    line := rfl
    tab := ⟨List.Pairwise.nil, rfl, rfl, Or.inl rfl, fun x hx => (by cases hx), fun i h j hi => (by simp [hashes] at hi)⟩
    led := by
      show _ ∨ (!w.params.followText "set-order") = true
      cases w.params.followText "set-order"
      · exact Or.inr rfl
      · exact Or.inl rfl
    room := by
      show 0 * 5 < 7 * 3
      decide
    lim := by
      show 0 < 64
      decide }⟩
  step := by
    rintro A E s h0 S L ⟨a, k⟩ v Q hu ⟨es, ep, t, T⟩ sub _ elts elt rfl lim fin
    have tx : Tup P w s.heap (f k) a := Tup.sub elt sub
    unfold setAdd
    refine wpAny_holding (wpAny_bind (wpAny_pyHash_tuple hu tx ?_))
    refine put_in (s := { s with toks := s.toks + ((f k).length + 1) }) T (fun p m => Tup.sub (elts p m) sub) tx hu lim fun b h' L' es' ep' t' sb T' c1 c2 => ?_
    refine fin b h' _ L' sb (Nat.le_add_right _ _) ⟨es', ep', t', T'⟩ (fun z => c1 ?_) fun z => c2 fun p m e => z ?_
    · obtain ⟨p, m, e⟩ := List.mem_map.mp z
      exact ⟨p, m, congrArg f e⟩
    · exact List.mem_map.mpr ⟨p, m, inj _ _ e⟩
  open_ := fun {h S L} ⟨es, ep, t, T⟩ => by
    obtain ⟨o, ho, ex, dat⟩ := T.ob
    refine ⟨es, ep, t, ⟨o, ho, ex.1, dat⟩, T.fit, ?_, T.tab.ris, T.led, ?_⟩
    · rw [T.len]
      exact Nat.lt_trans T.lim (by decide)
    · rw [T.line, lined, List.map_map]
      exact show_map (Rel := fun p v => v = Value.ref p.1) (fun p => Value.ref p.1) (fun _ => rfl) L
end XSt

/-! the orders; set(..) and sorted(..) of texts and of pairs, over the objects -/
namespace XSt
open PySem PySem.Spec PyProof.Rows L2 PySem.W

/-! lists without doubles -/
section
variable {α : Type} [DecidableEq α]
def once : List α → List α
  | [] => []
  | x :: l => if x ∈ l then once l else x :: once l
theorem mem_once {x : α} : ∀ {l : List α}, x ∈ once l ↔ x ∈ l
  | [] => Iff.rfl
  | y :: l => by
    unfold once
    split
    · rename_i c
      rw [mem_once, List.mem_cons]
      exact ⟨Or.inr, fun z => z.elim (fun e => e ▸ c) id⟩
    · rw [List.mem_cons, List.mem_cons, mem_once]
theorem nodup_once : ∀ l : List α, (once l).Nodup
  | [] => List.nodup_nil
  | y :: l => by
    unfold once
    split
    · exact nodup_once l
    · rename_i c
      exact List.nodup_cons.mpr ⟨fun z => c (mem_once.mp z), nodup_once l⟩
theorem once_len : ∀ l : List α, (once l).length ≤ l.length
  | [] => Nat.le_refl _
  | y :: l => by
    have := once_len l
    unfold once
    split <;> simp <;> omega
theorem perm_once {l m : List α} (nd : m.Nodup) (e : ∀ x, x ∈ m ↔ x ∈ l) : m.Perm (once l) :=
  (List.perm_ext_iff_of_nodup nd (nodup_once l)).mpr fun x => (e x).trans mem_once.symm
theorem once_same {l m : List α} (e : ∀ x, x ∈ m ↔ x ∈ l) : (once m).Perm (once l) := perm_once (nodup_once m) fun x => mem_once.trans (e x)
end

/-! one order for each -/
structure Ordly {α : Type} (le : α → α → Bool) : Prop where
  tr : ∀ a b c, le a b = true → le b c = true → le a c = true
  tot : ∀ a b, (le a b || le b a) = true
  anti : ∀ a b, le a b = true → le b a = true → a = b
theorem Ordly.one {α : Type} {le : α → α → Bool} (o : Ordly le) {l m : List α} (p : m.Perm l) (s : m.Pairwise (fun a b => le a b = true)) : m = l.mergeSort le :=
  List.Perm.eq_of_pairwise (fun a b _ _ x y => o.anti a b x y) s (List.pairwise_mergeSort o.tr o.tot l) (p.trans (List.mergeSort_perm l le).symm)
theorem Ordly.same {α : Type} {le : α → α → Bool} (o : Ordly le) {l m : List α} (p : m.Perm l) : m.mergeSort le = l.mergeSort le :=
  o.one ((List.mergeSort_perm m le).trans p) (List.pairwise_mergeSort o.tr o.tot m)

def sLe (a b : Str) : Bool := decide (a.cps.toList ≤ b.cps.toList)
theorem str_by {a b : Str} (e : a.cps.toList = b.cps.toList) : a = b := by
  obtain ⟨⟨a⟩⟩ := a
  obtain ⟨⟨b⟩⟩ := b
  have e' : a = b := e
  rw [e']
theorem sLe_ord : Ordly sLe where
  tr := fun a b c x y => decide_eq_true (List.le_trans (of_decide_eq_true x) (of_decide_eq_true y))
  tot := fun a b => by
    rcases List.le_total a.cps.toList b.cps.toList with z | z
    · exact Bool.or_eq_true_iff.mpr (Or.inl (decide_eq_true z))
    · exact Bool.or_eq_true_iff.mpr (Or.inr (decide_eq_true z))
  anti := fun a b x y => str_by (List.le_antisymm (of_decide_eq_true x) (of_decide_eq_true y))

def pLe (a b : Int × Str) : Bool := decide (a.1 < b.1) || (decide (a.1 = b.1) && sLe a.2 b.2)
theorem pLe_iff {a b : Int × Str} : pLe a b = true ↔ a.1 < b.1 ∨ (a.1 = b.1 ∧ sLe a.2 b.2 = true) := by
  unfold pLe
  rw [Bool.or_eq_true, Bool.and_eq_true, decide_eq_true_eq, decide_eq_true_eq]
theorem pLe_ord : Ordly pLe where
  tr := fun a b c x y => by
    rw [pLe_iff] at *
    rcases x with x | ⟨x, x'⟩ <;> rcases y with y | ⟨y, y'⟩
    · left; omega
    · left; omega
    · left; omega
    · exact Or.inr ⟨x.trans y, sLe_ord.tr _ _ _ x' y'⟩
  tot := fun a b => by
    rw [Bool.or_eq_true, pLe_iff, pLe_iff]
    rcases Int.lt_trichotomy a.1 b.1 with z | z | z
    · exact Or.inl (Or.inl z)
    · rcases Bool.or_eq_true_iff.mp (sLe_ord.tot a.2 b.2) with q | q
      · exact Or.inl (Or.inr ⟨z, q⟩)
      · exact Or.inr (Or.inr ⟨z.symm, q⟩)
    · exact Or.inr (Or.inl z)
  anti := fun a b x y => by
    rw [pLe_iff] at *
    obtain ⟨a1, a2⟩ := a
    obtain ⟨b1, b2⟩ := b
    rcases x with x | ⟨x, x'⟩ <;> rcases y with y | ⟨y, y'⟩ <;> simp only at *
    · omega
    · omega
    · omega
    · rw [x, sLe_ord.anti _ _ x' y']

theorem dataLe_tx : dataLe false (fun k : Str => PyData.str k) = sLe := by
  rw [dataLe_str]
  rfl
theorem dataLt_is (x x' : Int) (y y' : Str) : dataLt (.tuple [.int x, .str y]) (.tuple [.int x', .str y']) = decide (x < x' ∨ (x = x' ∧ y.cps.toList < y'.cps.toList)) := by
  rw [dataLt_pair (by simp [alike]) (by simp [alike]), dataLt_int, W.dataLt_str]
  simp only [PyData.eqv, beq_iff_eq]
  by_cases h1 : x = x' <;> by_cases h2 : y = y'
  · subst h1; subst h2; simp
  · simp [h1, h2]
  · simp [h1, h2]
  · simp [h1, h2]
theorem dataLe_pr : dataLe false (fun p : Addr × Int × Str => PyData.tuple [.int p.2.1, .str p.2.2]) = fun p q => pLe p.2 q.2 := by
  funext p q
  show (!dataLt (.tuple [.int q.2.1, .str q.2.2]) (.tuple [.int p.2.1, .str p.2.2])) = _
  rw [dataLt_is]
  unfold pLe sLe
  by_cases h1 : p.2.1 < q.2.1
  · have : ¬ q.2.1 < p.2.1 := by omega
    have : ¬ q.2.1 = p.2.1 := by omega
    simp [*]
  · by_cases h2 : p.2.1 = q.2.1
    · by_cases h3 : p.2.2.cps.toList ≤ q.2.2.cps.toList
      · simp [h1, h2, h3, List.not_lt.mpr h3]
      · have h4 : q.2.2.cps.toList < p.2.2.cps.toList := List.not_le.mp h3
        simp [h1, h2, h3, h4]
    · have : q.2.1 < p.2.1 := by omega
      simp [*]

/-! the objects -/
def SO {P : Program} {w : World} {ι κ : Type} (Kt : SetKit P w ι κ) (a : Addr) (L : List ι) : HO := .ext fun h => Kt.Is h a L
theorem so_new {P : Program} {w : World} {ι κ : Type} {Kt : SetKit P w ι κ} {H : Hp} {h : Heap} {a : Addr} {L : List ι} (is : Kt.Is h a L) : ObjOk P w H h a (SO Kt a L) := by
  obtain ⟨es, ep, t, ⟨o, ho, _⟩, _⟩ := Kt.open_ is
  exact ⟨is, ⟨o, ho⟩, fun h1 h2 p k => Kt.move p k⟩

def prKit (P : Program) (w : World) : SetKit P w (Addr × Int × Str) (Int × Str) :=
  tuKit P w (fun k => [Sum.inl k.1, Sum.inr k.2]) fun a b e => by
    injection e with e1 e2
    injection e1 with e1
    injection e2 with e2 _
    injection e2 with e2
    exact Prod.ext e1 e2

/-- the signs of a text, each a text -/
def signs (x : Str) : List Str := x.cps.toList.map fun c => ⟨#[c]⟩
/-- what is walked: the signs of a text, the items of a tuple or list -/
def Feeds (K : PySem.W.Frag) (H : Hp) (v : V) (xs : List Str) : Prop := (∃ x, v = .str x ∧ xs = signs x) ∨ ∃ l, v = .ref l ∧ (SqT K H l (xs.map V.str) ∨ SqL K H l (xs.map V.str))
theorem show_txt : ∀ {xs : List Str} {us : List Value}, Vals (xs.map V.str) us → Show TxRel xs us
  | [], _, .nil => .nil
  | _ :: _, _, .cons r t => .cons r (show_txt t)

section
variable {X : Cx}
def rSetS (K : PySem.W.Frag) (P : Program) (w : World) : List V → Hp → VK → Prop := fun vs H Q => ∃ v xs, vs = [v] ∧ Feeds K H v xs ∧ xs.length < scanBound ∧
  ∀ a L, H a = none → L.Perm (once xs) → Q (.ref a) (upd H a (SO (txKit P w) a L))
theorem part_perm {L xs : List Str} (p : Part (fun k : Str => k) xs xs.length L) : L.Perm (once xs) := by
  have nd := p.once
  rw [List.map_id'] at nd
  refine perm_once nd fun k => ⟨fun z => List.mem_of_mem_take (p.from_ k z), fun z => ?_⟩
  have q := p.has k (by rw [List.take_length]; exact z)
  rw [List.map_id'] at q
  exact q

theorem cr_setS (hc : X.calm = true) : CallR X (.type "set") (rSetS X.K X.prog X.w) := by
  intro pins s σ H vs us Q I r h
  obtain ⟨v, xs, rfl, fd, lim, q⟩ := h
  have hn : H s.heap.objs.size = none := I.hok.fresh (Nat.le_refl _)
  have fin : ∀ (h' : Heap) (tk : Nat) (L : List Str), (txKit X.prog X.w).Is h' s.heap.objs.size L → Part (txKit X.prog X.w).key xs xs.length L → Sub s.heap h' →
      EP X pins σ Q (.ref s.heap.objs.size) { s with heap := h', toks := tk } := fun h' tk L is pt k =>
    ⟨.ref s.heap.objs.size, upd H s.heap.objs.size (SO (txKit X.prog X.w) s.heap.objs.size L), I.laid (t' := tk) k (Nat.le_refl _) (so_new is), rfl, q _ L hn (part_perm pt)⟩
  cases r with
  | cons r0 rt =>
    cases rt
    rcases fd with ⟨x, rfl, rfl⟩ | ⟨l, rfl, sq⟩
    · obtain ⟨t, rfl⟩ := r0
      refine set_of_str (txKit X.prog X.w) (I.ok.hd hc) (by rw [signs, List.length_map, Array.length_toList]) lim (fun i v sg => ?_) (fun _ _ => trivial) trivial fin
      obtain ⟨c, u, e, rfl⟩ := sg
      refine ⟨⟨#[c]⟩, ?_, u, rfl⟩
      rw [signs, List.getElem?_map, Array.getElem?_toList, e]
      rfl
    · cases r0
      rcases sq with sq | sq
      · obtain ⟨its, rv, tp, _⟩ := I.tuple sq
        exact set_of_tuple (txKit X.prog X.w) (I.ok.hd hc) tp (show (Show TxRel xs its.toArray.toList) by simpa using show_txt rv) lim (fun _ _ => trivial) trivial fin
      · obtain ⟨its, rv, tp, _⟩ := I.list sq
        exact set_of_list (txKit X.prog X.w) (I.ok.hd hc) tp.isList (show (Show TxRel xs its.toArray.toList) by simpa using show_txt rv) lim (fun _ _ => trivial) trivial fin

/-! sorted(set) -/
theorem vals_txt : ∀ {xs : List Str} {us : List Value}, Show TxRel xs us → Vals (xs.map V.str) us
  | _, _, .nil => .nil
  | _, _, .cons r t => .cons r (vals_txt t)
theorem kept {pins : List (Addr × Obj)} {σ : L2.St} {H : Hp} {s s' : Shared} {p : Addr} {xs : List V} {out : Array Value} {c : Nat} (I : Inv X pins σ H s) (k : Sub s.heap s'.heap) (g : s'.gens = s.gens) (o : s'.os = s.os)
    (hp : s.heap.objs.size ≤ p) (at_ : s'.heap.get? p = some (seqObj "list" out c)) (rv : Vals xs out.toList) (few : xs.length ≤ sizeLine) : Inv X pins σ (upd H p (.lst xs)) s' := by
  have hn : H p = none := I.hok.fresh hp
  have J : Inv X pins σ (upd H p (.lst xs)) { s with heap := s'.heap, gens := s'.gens, drawn := s'.drawn, toks := s'.toks } :=
    I.call (ch := []) (Un.laid k hp hn) (I.hok.laid k hp ⟨few, out.toList, c, rv, at_⟩) (by rw [g]; exact I.bare) (fun _ z => nomatch z)
  obtain ⟨h1, h2, h3, h4, h5⟩ := s'
  obtain rfl : h5 = s.os := o
  exact J

def rSortedS (P : Program) (w : World) : List V → Hp → VK → Prop := fun vs H Q => ∃ a L, vs = [.ref a] ∧ H a = some (SO (txKit P w) a L) ∧ ∀ p, H p = none → Q (.ref p) (upd H p (.lst ((L.mergeSort sLe).map V.str)))
theorem cr_sortedS (hc : X.calm = true) (hu : X.A.units + 64 < cLine) : CallR X (.builtin "sorted") (rSortedS X.prog X.w) := by
  intro pins s σ H vs us Q I r h
  obtain ⟨a, L, rfl, ha, q⟩ := h
  have is : (txKit X.prog X.w).Is s.heap a L := (I.hok a _ ha).1
  have few : L.length < scanBound := let ⟨_, T⟩ := is; T.lim
  rw [Vals.ref1 r]
  refine sorted_of (txKit X.prog X.w) (fun k : Str => PyData.str k) (I.ok.hd hc) is (fun h' _ x _ v rel => ?_) (fun _ _ => by simp [alike]) (fun l => Sortable.others fun b => ⟨fun z => (by cases z), fun xs z => (by cases z)⟩) (fun x _ => ?_)
    fun s' p out c L1 k g o hp at_ pL sh => ?_
  · obtain ⟨u, rfl⟩ := rel
    exact ⟨[], .str x u, fun b z => (by cases z)⟩
  · simp only [PyData.depth]
    omega
  · rw [dataLe_tx, sLe_ord.same pL] at sh
    have few2 : ((L.mergeSort sLe).map V.str).length ≤ sizeLine := by
      rw [List.length_map, List.length_mergeSort]
      exact fits_of_scanBound few
    exact ⟨.ref p, _, kept I k g o hp at_ (vals_txt sh) few2, rfl, q p (I.hok.fresh hp)⟩

/-! pairs of a whole number and a text -/
def rSetP (K : PySem.W.Frag) (P : Program) (w : World) : List V → Hp → VK → Prop := fun vs H Q => ∃ (l : Addr) (ks : List (Addr × Int × Str)), vs = [.ref l] ∧ SqL K H l (ks.map fun p => V.ref p.1) ∧ (∀ p ∈ ks, SqT K H p.1 [.int p.2.1, .str p.2.2]) ∧ ks.length < 64 ∧
  ∀ a L, H a = none → (∀ p ∈ L, p ∈ ks) → (L.map (·.2)).Perm (once (ks.map (·.2))) → Q (.ref a) (upd H a (SO (prKit P w) a L))
theorem show_prs : ∀ {ks : List (Addr × Int × Str)} {us : List Value}, Vals (ks.map fun p => V.ref p.1) us → Show (fun (p : Addr × Int × Str) v => v = .ref p.1) ks us
  | [], _, .nil => .nil
  | _ :: _, _, .cons r t => .cons r (show_prs t)
theorem vals_prs : ∀ {ks : List (Addr × Int × Str)} {us : List Value}, Show (fun (p : Addr × Int × Str) v => v = .ref p.1) ks us → Vals (ks.map fun p => V.ref p.1) us
  | _, _, .nil => .nil
  | _, _, .cons r t => .cons r (vals_prs t)
theorem pair_at {pins : List (Addr × Obj)} {σ : L2.St} {H : Hp} {s : Shared} {b : Addr} {k : Int × Str} (I : Inv X pins σ H s) (h : SqT X.K H b [.int k.1, .str k.2]) : Tup X.prog X.w s.heap [Sum.inl k.1, Sum.inr k.2] b := by
  obtain ⟨its, r, ⟨o, ho, hc, n, hd⟩, _⟩ := I.tuple h
  refine ⟨o, its.toArray, n, ho, hc, hd, ?_⟩
  cases r with
  | cons r1 t =>
    cases t with
    | cons r2 t2 =>
      cases t2
      obtain ⟨u1, rfl⟩ := r1
      obtain ⟨u2, rfl⟩ := r2
      exact .cons (keyIs_int k.1 u1) (.cons (keyIs_str k.2 u2) .nil)
theorem cr_setP (hc : X.calm = true) (hu : X.A.units + 64 < cLine) : CallR X (.type "set") (rSetP X.K X.prog X.w) := by
  intro pins s σ H vs us Q I r h
  obtain ⟨l, ks, rfl, sq, el, lim, q⟩ := h
  have hn : H s.heap.objs.size = none := I.hok.fresh (Nat.le_refl _)
  rw [Vals.ref1 r]
  obtain ⟨its, rv, tp, _⟩ := I.list sq
  refine set_of_list (prKit X.prog X.w) (I.ok.hd hc) tp.isList (show (Show (fun (p : Addr × Int × Str) v => v = .ref p.1) ks its.toArray.toList) by simpa using show_prs rv) lim (fun p m => pair_at I (el p m)) ?_ fun h' tk L is pt k => ?_
  · show X.A.in1.in1.in1.units < cLine
    simp only [Around.in1]
    omega
  · refine ⟨.ref s.heap.objs.size, upd H s.heap.objs.size (SO (prKit X.prog X.w) s.heap.objs.size L), I.laid (t' := tk) k (Nat.le_refl _) (so_new is), rfl, q _ L hn (fun p m => List.mem_of_mem_take (pt.from_ p m)) (perm_once pt.once fun x => ⟨fun z => ?_, fun z => ?_⟩)⟩
    · obtain ⟨p, m, rfl⟩ := List.mem_map.mp z
      exact List.mem_map.mpr ⟨p, List.mem_of_mem_take (pt.from_ p m), rfl⟩
    · obtain ⟨p, m, rfl⟩ := List.mem_map.mp z
      exact pt.has p (by rw [List.take_length]; exact m)

def rSortedP (K : PySem.W.Frag) (P : Program) (w : World) : List V → Hp → VK → Prop := fun vs H Q => ∃ a L, vs = [.ref a] ∧ H a = some (SO (prKit P w) a L) ∧ (∀ p ∈ L, SqT K H p.1 [.int p.2.1, .str p.2.2]) ∧
  ∀ p (L' : List (Addr × Int × Str)), H p = none → L'.Perm L → L'.map (·.2) = (L.map (·.2)).mergeSort pLe → Q (.ref p) (upd H p (.lst (L'.map fun q => V.ref q.1)))
theorem cr_sortedP (hc : X.calm = true) (hu : X.A.units + 64 < cLine) : CallR X (.builtin "sorted") (rSortedP X.K X.prog X.w) := by
  intro pins s σ H vs us Q I r h
  obtain ⟨a, L, rfl, ha, el, q⟩ := h
  have is : (prKit X.prog X.w).Is s.heap a L := (I.hok a _ ha).1
  have few : L.length < 64 := let ⟨_, _, _, T⟩ := is; T.lim
  rw [Vals.ref1 r]
  refine sorted_of (prKit X.prog X.w) (fun p : Addr × Int × Str => PyData.tuple [.int p.2.1, .str p.2.2]) (I.ok.hd hc) is (fun h' k x m v rel => ?_) (fun _ _ => by simp [alike, alikeAll]) (fun l => Sortable.tuples fun b => ⟨_, _, rfl⟩) (fun x _ => ?_)
    fun s' p out c L1 k g o hp at_ pL sh => ?_
  · obtain rfl : v = .ref x.1 := rel
    obtain ⟨o, its, n, e1, e2, e3, all⟩ := Tup.sub (pair_at I (el x m)) k
    refine ⟨[], .tuple e1 e2 e3 ?_, fun b z => (by cases z)⟩
    generalize its.toList = l at all
    cases all with
    | cons k1 t =>
      cases t with
      | cons k2 t2 =>
        cases t2
        rcases keyIs_shape (k := Sum.inl x.2.1) k1 with ⟨i, u, e, rfl⟩ | ⟨y, u, e, rfl⟩
        · rcases keyIs_shape (k := Sum.inr x.2.2) k2 with ⟨i', u', e', rfl⟩ | ⟨y', u', e', rfl⟩
          · cases e'
          · injection e with e
            injection e' with e'
            rw [e, e']
            exact .cons (.int _ _) (.cons (.str _ _) .nil)
        · cases e
  · simp only [PyData.depth, PyData.depthAll]
    omega
  · rw [dataLe_pr] at sh
    have few2 : ((L1.mergeSort fun p q => pLe p.2 q.2).map fun q => V.ref q.1).length ≤ sizeLine := by
      have := sizeLine_eq
      rw [List.length_map, List.length_mergeSort, pL.length_eq]
      omega
    refine ⟨.ref p, _, kept I k g o hp at_ (vals_prs sh) few2, rfl, q p _ (I.hok.fresh hp) ((List.mergeSort_perm _ _).trans pL) ?_⟩
    refine pLe_ord.one (((List.mergeSort_perm _ _).trans pL).map _) ?_
    rw [List.pairwise_map]
    exact List.pairwise_mergeSort (le := fun p q : Addr × Int × Str => pLe p.2 q.2) (fun a b c => pLe_ord.tr _ _ _) (fun a b => pLe_ord.tot _ _) L1
end
end XSt

/-! sorted(xs, key=len), and the order of texts: by length, then as texts -/
namespace XSt
open PySem PySem.Spec PyProof.Rows L2 PySem.W

def lLe (a b : Str) : Bool := decide ((a.length : Int) ≤ (b.length : Int))
theorem dataLe_len : dataLe false (fun k : Str => PyData.int (k.length : Int)) = lLe := by
  rw [dataLe_int]
  rfl

section
variable {X : Cx} {p p2 pos kpos : Pos} {e : Expr} {te : TE}
def tSortLen (K : PySem.W.Frag) (te : TE) : TE := fun σ H Q => te σ H fun x H1 => ∃ (l : Addr) (xs : List Str), x = .ref l ∧ SqL K H1 l (xs.map V.str) ∧ (∀ k ∈ xs, k.length ≤ sizeLine) ∧ ∀ q, H1 q = none → Q (.ref q) (upd H1 q (.lst ((xs.mergeSort lLe).map V.str)))

theorem each_txt : ∀ {xs : List Str} {us : List Value}, Vals (xs.map V.str) us → EachIs (fun v (k : Str) => TxRel k v) us xs
  | [], _, .nil => .nil
  | _ :: _, _, .cons r t => .cons r (each_txt t)
theorem vals_each : ∀ {xs : List Str} {us : List Value}, EachIs (fun v (k : Str) => TxRel k v) us xs → Vals (xs.map V.str) us
  | _, _, .nil => .nil
  | _, _, .cons r t => .cons r (vals_each t)

theorem call_sortLen (hu : X.A.units + 64 < cLine) {pins : List (Addr × Obj)} {s : Shared} {σ : L2.St} {H : Hp} {l : Addr} {xs : List Str} {Q : VK} (I : Inv X pins σ H s) (sq : SqL X.K H l (xs.map V.str)) (few : ∀ k ∈ xs, k.length ≤ sizeLine)
    (h : ∀ q, H q = none → Q (.ref q) (upd H q (.lst ((xs.mergeSort lLe).map V.str)))) : wpAny (model X.prog X.w) X.A (call (.builtin "sorted") [.ref l] [(Str.ofString "key", .builtin "len")]) (EP X pins σ Q) X.xe s := by
  obtain ⟨its, rv, pl, hz⟩ := I.list sq
  have lz : xs.length ≤ sizeLine := by simpa using hz
  refine sorted_key_data (k := fun k : Str => PyData.int (k.length : Int)) (b := false) pl.isList (each_txt rv) (AllAlike.of fun _ _ => by simp [alike]) (Sortable.others fun b => ⟨fun z => (by cases z), fun xs z => (by cases z)⟩) lz (fun x _ => ?_)
    (ksk_s1 _ _) (fun _ => ksk_l1 _ _) (fun a => ksk_t4 "len" a) (fun v k rel m h' tk k1 => ?_) fun out c h' tk k1 z0 at_ lo eo => ?_
  · simp only [PyData.depth]
    omega
  · obtain ⟨u, rfl⟩ := rel
    have z := few k m
    have hl := line63
    have hs : sizeLine = 16777216 := sizeLine_eq
    refine len_str (by omega) ?_
    exact ⟨h', _, rfl, fun _ _ e => e, .int _ _⟩
  · rw [dataLe_len] at eo
    have rv2 : Vals ((xs.mergeSort lLe).map V.str) out := vals_each eo
    have few2 : ((xs.mergeSort lLe).map V.str).length ≤ sizeLine := by
      rw [List.length_map, List.length_mergeSort]
      exact lz
    exact ⟨.ref (s.heap.objs.size + 1), upd H (s.heap.objs.size + 1) (.lst ((xs.mergeSort lLe).map V.str)), I.laid (t' := tk) k1 (Nat.le_succ _) ⟨few2, out, c, rv2, at_⟩, rfl, h _ (I.hok.fresh (Nat.le_succ _))⟩

theorem pe_sortLen (hu : X.A.units + 64 < cLine) (hg : Gl X (Str.ofString "sorted")) (hm : X.mg (Str.ofString "sorted") = none) (hg2 : Gl X (Str.ofString "len")) (hm2 : X.mg (Str.ofString "len") = none) (he : PE X e te)
    (hs : backTo pos (starEach [e] X.env) = (false, eval e X.env) :: backTo pos (starEach [] X.env) := by rfl) (hpl : (backTo pos (starEach [e] X.env)).any (·.1) = false := by rfl) :
    PE X (.Call (.Name (Str.ofString "sorted") p) [e] [⟨some (Str.ofString "key"), .Name (Str.ofString "len") p2, kpos⟩] pos) (tSortLen X.K te) := by
  refine ⟨fun pins s σ H Q I h => ?_⟩
  refine wpAny_Call_Name_kw (ld_blt I hg hm (u := .builtin "sorted") (by kernel_rfl) ?_)
  refine PyProof.Rows.callWith_kw (e := e) (rest := []) (id := "sorted") ?_ hs hpl rfl rfl
  rw [hs]
  refine Calls.spliced_cons (thn (he.run pins s σ H _ I h) fun u s1 ⟨x, H1, I1, r1, l, xs, ex, sq, few, q⟩ => Calls.spliced_nil ?_)
  subst ex
  obtain rfl : u = Value.ref l := r1
  show wpAny _ _ (evalAll ((do let v ← eval (.Name (Str.ofString "len") p2) X.env; standAt pos; pure v) :: [])) _ _ s1
  refine wpAny_evalAll_cons (wpAny_bind (ld_blt I1 hg2 hm2 (u := .builtin "len") (by kernel_rfl) (wpAny_bind (wpAny_standAt (wpAny_pure (wpAny_evalAll_nil ?_))))))
  exact call_sortLen hu I1 sq few q
end
end XSt

/-! texts by length, then as texts: two ways -/
namespace XSt
open PySem PySem.Spec PyProof.Rows L2 PySem.W

def lenOf (k : Str) : Int × Str := ((k.length : Int), k)
def tLe (a b : Str) : Bool := pLe (lenOf a) (lenOf b)
theorem tLe_ord : Ordly tLe where
  tr := fun a b c => pLe_ord.tr _ _ _
  tot := fun a b => pLe_ord.tot _ _
  anti := fun a b x y => congrArg Prod.snd (pLe_ord.anti _ _ x y)
/-- the different ones, shorter ones first -/
def ordT (l : List Str) : List Str := (once l).mergeSort tLe
theorem ordT_mem {l : List Str} {x : Str} : x ∈ ordT l ↔ x ∈ l := by
  unfold ordT
  rw [(List.mergeSort_perm _ _).mem_iff]
  exact mem_once
theorem ordT_same {l m : List Str} (e : ∀ x, x ∈ m ↔ x ∈ l) : ordT m = ordT l := tLe_ord.same (once_same e)

theorem lLe_total : TotalLe lLe where
  trans := fun a b c => by
    unfold lLe
    simp only [decide_eq_true_eq]
    omega
  total := fun a b => by
    unfold lLe
    simp only [decide_eq_true_eq]
    omega

/-- as texts first, then by length: the same -/
theorem twice_sorted (l : List Str) : ((once l).mergeSort sLe).mergeSort lLe = ordT l := by
  symm
  have s1 : (ordT l).Pairwise (fun a b => tLe a b = true) := List.pairwise_mergeSort tLe_ord.tr tLe_ord.tot _
  have s2 : ((once l).mergeSort sLe).Pairwise (fun a b => sLe a b = true) := List.pairwise_mergeSort sLe_ord.tr sLe_ord.tot _
  have pm : (ordT l).Perm ((once l).mergeSort sLe) := (List.mergeSort_perm _ _).trans (List.mergeSort_perm _ _).symm
  refine sort_unique lLe_total (s1.imp fun {a b} q => ?_) fun c => ?_
  · have q' := pLe_iff.mp (show pLe (lenOf a) (lenOf b) = true from q)
    unfold lLe
    rw [decide_eq_true_eq]
    simp only [lenOf] at q'
    rcases q' with q' | ⟨q', _⟩ <;> omega
  · refine List.Perm.eq_of_pairwise (le := fun a b => sLe a b = true) (fun a b _ _ => sLe_ord.anti a b) ?_ (s2.filter _) (pm.filter _)
    refine (s1.filter _).imp_of_mem fun {a b} ma mb q => ?_
    have ka := (List.mem_filter.mp ma).2
    have kb := (List.mem_filter.mp mb).2
    unfold sameRank at ka kb
    simp only [lLe, Bool.and_eq_true, decide_eq_true_eq] at ka kb
    have q' := pLe_iff.mp (show pLe (lenOf a) (lenOf b) = true from q)
    simp only [lenOf] at q'
    rcases q' with q' | ⟨_, q'⟩
    · omega
    · exact q'

/-- by pairs -/
theorem pairs_sorted {l : List Str} {ps : List (Int × Str)} (h : ps.Perm (once (l.map lenOf))) : (ps.mergeSort pLe).map (·.2) = ordT l := by
  have back : ∀ p ∈ ps, p = lenOf p.2 := fun p m => by
    obtain ⟨k, _, rfl⟩ := List.mem_map.mp (mem_once.mp (h.mem_iff.mp m))
    rfl
  have nd : (ps.map (·.2)).Nodup := by
    have n1 : ps.Nodup := h.nodup_iff.mpr (nodup_once _)
    refine List.pairwise_map.mpr (n1.imp_of_mem fun {p q} mp mq ne e => ne ?_)
    rw [back p mp, back q mq, e]
  have mem : ∀ x, x ∈ ps.map (·.2) ↔ x ∈ l := fun x => by
    rw [List.mem_map]
    constructor
    · rintro ⟨p, m, rfl⟩
      obtain ⟨k, mk, rfl⟩ := List.mem_map.mp (mem_once.mp (h.mem_iff.mp m))
      exact mk
    · intro m
      exact ⟨lenOf x, h.mem_iff.mpr (mem_once.mpr (List.mem_map.mpr ⟨x, m, rfl⟩)), rfl⟩
  refine tLe_ord.one (((List.mergeSort_perm _ _).map _).trans (perm_once nd mem)) ?_
  rw [List.pairwise_map]
  refine List.Pairwise.imp_of_mem (fun {p q} mp mq z => ?_) (List.pairwise_mergeSort pLe_ord.tr pLe_ord.tot ps)
  rw [back p ((List.mergeSort_perm _ _).mem_iff.mp mp), back q ((List.mergeSort_perm _ _).mem_iff.mp mq)] at z
  exact z
end XSt

/-! values that are asked; texts as their letters -/
namespace NX
open PySem PySem.Spec PyProof.Rows L2 XSt
open PySem.W (Frag)

/-! isinstance of any value -/
/-- an object of a kind that is no number, no truth value, no text; tup: whether it is a tuple -/
def Thing (K : Frag) (H : Hp) (a : Addr) (tup : Bool) : Prop := ∃ t, TyX K H (.ref a) t ∧ PySem.W.kitOne K t (.type "int") = some false ∧ PySem.W.kitOne K t (.type "bool") = some false ∧ PySem.W.kitOne K t (.type "str") = some false ∧ PySem.W.kitOne K t (.type "tuple") = some tup
def Asked (K : Frag) (H : Hp) : V → Prop
  | .int _ => True
  | .bl _ => True
  | .non => True
  | .str x => x.length ≤ 8000 ∧ PyData.strOk x = true
  | .ref a => ∃ b, Thing K H a b
  | _ => False
def isIntV : V → Bool
  | .int _ => true
  | .bl _ => true
  | _ => false
def isBoolV : V → Bool
  | .bl _ => true
  | _ => false
def isStrV : V → Bool
  | .str _ => true
  | _ => false
section
variable {K : Frag} {H : Hp} {v : V} {Q : VK}
theorem isi_int (h : Asked K H v) : ∃ t, TyX K H v t ∧ PySem.W.kitOne K t (.type "int") = some (isIntV v) := by
  cases v with
  | int i => exact ⟨_, .base (.int i), rfl⟩
  | bl i => exact ⟨_, .base (.bl i), rfl⟩
  | non => exact ⟨_, .base .non, rfl⟩
  | str i => exact ⟨_, .base (.str i), rfl⟩
  | ref a =>
    obtain ⟨b, t, h1, h2, h3, h4, h5⟩ := h
    exact ⟨_, h1, h2⟩
  | _ => exact h.elim
theorem isi_bool (h : Asked K H v) : ∃ t, TyX K H v t ∧ PySem.W.kitOne K t (.type "bool") = some (isBoolV v) := by
  cases v with
  | int i => exact ⟨_, .base (.int i), rfl⟩
  | bl i => exact ⟨_, .base (.bl i), rfl⟩
  | non => exact ⟨_, .base .non, rfl⟩
  | str i => exact ⟨_, .base (.str i), rfl⟩
  | ref a =>
    obtain ⟨b, t, h1, h2, h3, h4, h5⟩ := h
    exact ⟨_, h1, h3⟩
  | _ => exact h.elim
theorem isi_str (h : Asked K H v) : ∃ t, TyX K H v t ∧ PySem.W.kitOne K t (.type "str") = some (isStrV v) := by
  cases v with
  | int i => exact ⟨_, .base (.int i), rfl⟩
  | bl i => exact ⟨_, .base (.bl i), rfl⟩
  | non => exact ⟨_, .base .non, rfl⟩
  | str i => exact ⟨_, .base (.str i), rfl⟩
  | ref a =>
    obtain ⟨b, t, h1, h2, h3, h4, h5⟩ := h
    exact ⟨_, h1, h4⟩
  | _ => exact h.elim
end

/-! what the judges tell -/
def longV : V → Bool
  | .int i => decide ((if i < 0 then -i else i) < (10 ^ 50) ^ 4)
  | _ => false
/-- one to three, ascending, a to z: by the whole and the ends -/
def lettersV : V → Bool
  | .str x => decide (1 ≤ x.length ∧ x.length ≤ 3) && (decide (x = Txt.join ⟨#[]⟩ ((once (XSt.signs x)).mergeSort sLe)) && (decide (97 ≤ x.cps.toList.headD 0) && decide (x.cps.toList.getLastD 0 ≤ 122)))
  | _ => false
def spelledV (s : Str) : V → Bool
  | .str x => decide (Txt.stripChars x s = ⟨#[]⟩)
  | _ => false
end NX

/-! the judges of the names -/
namespace K0
open PySem PySem.Spec PyProof.Rows L2 XSt NX
open PySem.W (Frag)
abbrev sIsInteger : Stmt := top 11
abbrev sIsLetters : Stmt := top 12
abbrev sIsSpelled : Stmt := top 16
abbrev sOrdered : Stmt := top 18
/-- the second tells all that the first tells -/
def Ext (H H' : Hp) : Prop := ∀ b o, H b = some o → H' b = some o
theorem Ext.refl (H : Hp) : Ext H H := fun _ _ e => e
theorem Ext.trans {a b c : Hp} (x : Ext a b) (y : Ext b c) : Ext a c := fun q o e => y q o (x q o e)
theorem Ext.new {H H' : Hp} {p : Addr} {o : HO} (k : Ext H H') (h : H' p = none) : Ext H (upd H' p o) := fun b u e => by rw [upd_ne (ne_of_none (k b u e) h)]; exact k b u e

def spIsInteger (K : Frag) : Sp := fun vs H Q _ => ∃ v, vs = [v] ∧ Asked K H v ∧ Q (.bl (longV v)) H
def spIsLetters (K : Frag) : Sp := fun vs H Q _ => ∃ v, vs = [v] ∧ Asked K H v ∧ ∀ H', Ext H H' → Q (.bl (lettersV v)) H'
def spIsSpelled (K : Frag) : Sp := fun vs H Q _ => ∃ x v, vs = [.str x, v] ∧ Asked K H v ∧ Q (.bl (spelledV x v)) H
def spOrdered (K : Frag) : Sp := fun vs H Q _ => ∃ v xs, vs = [v] ∧ Feeds K H v xs ∧ xs.length < 4096 ∧ (∀ k ∈ xs, k.length ≤ 16777216) ∧ ∀ p H', H p = none → Ext H H' → H' p = some (.tup ((ordT xs).map V.str)) → Q (.ref p) H'
/-- the module's numbers -/
structure Sizes (mg : Str → Option Value) : Prop where
  long : ∃ t, mg "_TOO_LONG" = some (.int ((10 ^ 50) ^ 4) t)
  letters : ∃ t, mg "MAX_LETTERS" = some (.int 3 t)
  text : ∃ t, mg "MAX_TEXT" = some (.int 4000 t)
  word : ∃ t, mg "MAX_WORD" = some (.int 400 t)
structure Free (mg : Str → Option Value) : Prop where
  isi : mg "isinstance" = none
  int : mg "int" = none
  bool : mg "bool" = none
  str : mg "str" = none
  tuple : mg "tuple" = none
  abs : mg "abs" = none
  len : mg "len" = none
  sorted : mg "sorted" = none
  set : mg "set" = none
section
variable {P : Program} {w : World} {K : Frag} {mg : Str → Option Value} {base : Heap} {f : Addr} {fd : FuncData}
theorem scIsInteger : FnScope ["value"] ["value"] (defScope sIsInteger) := ⟨rfl, rfl, rfl, by decide +kernel, rfl, by decide +kernel, by decide +kernel⟩
theorem scIsLetters : FnScope ["value"] ["value"] (defScope sIsLetters) := ⟨rfl, rfl, rfl, by decide +kernel, rfl, by decide +kernel, by decide +kernel⟩
theorem scIsSpelled : FnScope ["letters", "value"] ["letters", "value"] (defScope sIsSpelled) := ⟨rfl, rfl, rfl, by decide +kernel, rfl, by decide +kernel, by decide +kernel⟩
theorem scOrdered : FnScope ["texts"] ["texts"] (defScope sOrdered) := ⟨rfl, rfl, rfl, by decide +kernel, rfl, by decide +kernel, by decide +kernel⟩

theorem ok_is_integer (F : FnP K "is_integer" sIsInteger f fd) (Z : Sizes mg) (M : Free mg) : FnOk P w K mg base CX0 1 f fd ["value"] (spIsInteger K) := by
  obtain ⟨tk, gL⟩ := Z.long
  refine F.ok scIsInteger (fun vs H Q E h => ?_) (fun cdv A outer s H vs Q E hr h => ?_)
  · obtain ⟨v, rfl, _⟩ := h
    rfl
  · obtain ⟨v, rfl, ask, q⟩ := h
    refine ⟨_, PSs.nox (pss_one (ps_ret (pe_and (pe_callB call_isi (by rfl) M.isi (by decide +kernel) (pa_cons (pv 0) (pa_cons (pe_bltn (v := .ty "int") (by rfl) M.int (by decide +kernel) rfl) pa_nil)))
      (pe_and (pe_not (pe_callB call_isi (by rfl) M.isi (by decide +kernel) (pa_cons (pv 0) (pa_cons (pe_bltn (v := .ty "bool") (by rfl) M.bool (by decide +kernel) rfl) pa_nil))))
      (pe_one (pe_cmpR op_lt (pe_callB call_abs (by rfl) M.abs (by decide +kernel) (pa_cons (pv 0) pa_nil)) (pe_glob (v := .int ((10 ^ 50) ^ 4)) (by rfl) gL ⟨tk, rfl⟩) (nomark _))))))), ?_⟩
    obtain ⟨t1, k1, k2⟩ := isi_int ask
    refine ⟨v, rfl, _, _, t1, _, _, rfl, .ty "int", k1, k2, _, rfl, ?_⟩
    cases v with
    | int i =>
      obtain ⟨t2, k3, k4⟩ := isi_bool ask
      exact ⟨_, rfl, _, _, t2, _, _, rfl, .ty "bool", k3, k4, _, rfl, _, rfl, _, rfl, _, rfl, _, _, rfl, rfl, q⟩
    | bl b =>
      obtain ⟨t2, k3, k4⟩ := isi_bool ask
      exact ⟨_, rfl, _, _, t2, _, _, rfl, .ty "bool", k3, k4, _, rfl, _, rfl, q⟩
    | non => exact q
    | str x => exact q
    | ref a => exact q
    | _ => exact ask.elim

theorem ok_is_spelled (F : FnP K "_is_spelled" sIsSpelled f fd) (M : Free mg) : FnOk P w K mg base CX0 1 f fd ["letters", "value"] (spIsSpelled K) := by
  refine F.ok scIsSpelled (fun vs H Q E h => ?_) (fun cdv A outer s H vs Q E hr h => ?_)
  · obtain ⟨x, v, rfl, _⟩ := h
    rfl
  · obtain ⟨x, v, rfl, ask, q⟩ := h
    refine ⟨_, PSs.nox (pss_one (ps_ret (pe_and (pe_callB call_isi (by rfl) M.isi (by decide +kernel) (pa_cons (pv 1) (pa_cons (pe_bltn (v := .ty "str") (by rfl) M.str (by decide +kernel) rfl) pa_nil)))
      (pe_one (pe_cmpR op_eq (pe_bm PySem.F.plainAttrs_str PySem.F.slot_str_strip PySem.F.type_str_strip mt_stripChars (pv 1) (pa_cons (pv 0) pa_nil)) pe_str (nomark _)))))), ?_⟩
    obtain ⟨t1, k1, k2⟩ := isi_str ask
    refine ⟨v, rfl, _, _, t1, _, _, rfl, .ty "str", k1, k2, _, rfl, ?_⟩
    cases v with
    | str y =>
      have hy : y.length ≤ 8000 := ask.1
      have hs : sizeLine = 16777216 := sizeLine_eq
      refine ⟨.str y, rfl, rfl, _, rfl, y, x, rfl, rfl, by omega, rfl, ?_⟩
      have e : decide ((V.str (Txt.stripChars y x)) = V.str (Str.ofString "")) = spelledV x (.str y) := by
        show decide (V.str (Txt.stripChars y x) = V.str ⟨#[]⟩) = decide (Txt.stripChars y x = ⟨#[]⟩)
        simp
      rw [e]
      exact q
    | int i => exact q
    | bl b => exact q
    | non => exact q
    | ref a => exact q
    | _ => exact ask.elim

theorem sum_ones : ∀ l : List Str, (∀ y ∈ l, y.length ≤ 1) → (l.map (·.length)).sum ≤ l.length
  | [], _ => Nat.le_refl _
  | y :: l, h => by
    have a := h y (List.mem_cons_self ..)
    have b := sum_ones l fun z m => h z (List.mem_cons_of_mem _ m)
    simp only [List.map_cons, List.sum_cons, List.length_cons]
    omega
theorem sign_len {x y : Str} (h : y ∈ XSt.signs x) : y.length ≤ 1 := by
  obtain ⟨c, _, rfl⟩ := List.mem_map.mp h
  exact Nat.le_refl _
theorem signs_len (x : Str) : (XSt.signs x).length = x.length := by
  rw [XSt.signs, List.length_map, Array.length_toList]
  rfl
/-- what comes of sorted(set(x)): the sum for join -/
theorem joined_fits {x : Str} {L : List Str} (h : x.length ≤ 8000) (p : L.Perm (once (XSt.signs x))) : ((L.mergeSort sLe).map (·.length)).sum + (L.mergeSort sLe).length * (Str.ofString "").length ≤ 16777216 := by
  have a := once_len (XSt.signs x)
  rw [signs_len] at a
  have b := sum_ones (L.mergeSort sLe) fun y m => sign_len (mem_once.mp (p.mem_iff.mp ((List.mergeSort_perm _ _).mem_iff.mp m)))
  have c : (L.mergeSort sLe).length = (once (XSt.signs x)).length := by rw [List.length_mergeSort, p.length_eq]
  have d : (Str.ofString "").length = 0 := rfl
  rw [d, Nat.mul_zero]
  omega
theorem head_at {x : Str} (h : 1 ≤ x.length) : atI x.cps.toList 0 = some (x.cps.toList.headD 0) := by
  have e : x.cps.toList.length = x.length := by rw [Array.length_toList]; rfl
  cases q : x.cps.toList with
  | nil =>
    rw [q] at e
    simp at e
    omega
  | cons c r => exact atI_nat (j := 0) rfl
theorem last_at {x : Str} (h : 1 ≤ x.length) : atI x.cps.toList (-1) = some (x.cps.toList.getLastD 0) := by
  have e : x.cps.toList.length = x.length := by rw [Array.length_toList]; rfl
  generalize x.cps.toList = l at e ⊢
  have z : ixN l.length (-1) = some (l.length - 1) := by
    unfold ixN
    rw [if_neg (by decide), if_pos (by omega)]
    congr 1
    omega
  unfold atI
  rw [z]
  show l[l.length - 1]? = _
  rw [List.getLastD_eq_getLast?, List.getLast?_eq_getElem?]
  cases q : l[l.length - 1]? with
  | none =>
    have := List.getElem?_eq_none_iff.mp q
    omega
  | some c => rfl
theorem not_below (c d : Nat) : (!decide ([c] < [d])) = decide (d ≤ c) := by
  by_cases h : d ≤ c
  · have : ¬ [c] < [d] := by
      rw [List.cons_lt_cons_iff]
      rintro (z | ⟨_, z⟩)
      · omega
      · exact List.not_lt_nil _ z
    simp [h, this]
  · have : [c] < [d] := List.cons_lt_cons_iff.mpr (Or.inl (by omega))
    simp [h, this]

theorem ok_is_letters (F : FnP K "is_letters" sIsLetters f fd) (Z : Sizes mg) (M : Free mg) : FnOk P w K mg base CX0 1 f fd ["value"] (spIsLetters K) := by
  obtain ⟨tk, gL⟩ := Z.letters
  refine F.ok scIsLetters (fun vs H Q E h => ?_) (fun cdv A outer s H vs Q E hr h => ?_)
  · obtain ⟨v, rfl, _⟩ := h
    rfl
  · obtain ⟨v, rfl, ask, q⟩ := h
    refine ⟨_, PSs.nox (pss_cons (ps_if (PW.pt (pw_or (pt_not (pt_val (pe_callB call_isi (by rfl) M.isi (by decide +kernel) (pa_cons (pv 0) (pa_cons (pe_bltn (v := .ty "str") (by rfl) M.str (by decide +kernel) rfl) pa_nil)))))
        (pw_or1 (pt_not (pt_chain op_le op_le pe_int (pe_callB call_len (by rfl) M.len PySem.boot_len (pa_cons (pv 0) pa_nil)) (pe_glob (v := .int 3) (by rfl) gL ⟨tk, rfl⟩)))))) (pss_one (ps_ret pe_bl)) pss_nil)
      (pss_one (ps_ret (pe_and (pe_cmpR op_eq (pv 0) (pe_bm PySem.F.plainAttrs_str PySem.F.slot_str_join PySem.F.type_str_join mt_join pe_str
          (pa_cons (pe_callB (cr_sortedS rfl hr.units) (by rfl) M.sorted (by decide +kernel) (pa_cons (pe_callTy (cr_setS rfl) (by rfl) M.set (by decide +kernel) (pa_cons (pv 0) pa_nil)) pa_nil)) pa_nil)) (nomark _))
        (pe_and (pe_cmpR op_le_str pe_str (pe_ix ix_str (pv 0) pe_int (fun _ _ => rfl)) (nomark _)) (pe_one (pe_cmpR op_le_str (pe_ix ix_str (pv 0) (pe_un un_neg pe_int) (fun _ _ => rfl)) pe_str (nomark _)))))))), ?_⟩
    obtain ⟨t1, k1, k2⟩ := isi_str ask
    refine ⟨v, rfl, _, _, t1, _, _, rfl, .ty "str", k1, k2, _, rfl, ?_⟩
    cases v with
    | str y =>
      have hy : y.length ≤ 8000 := ask.1
      have hs : sizeLine = 16777216 := sizeLine_eq
      refine ⟨_, rfl, _, y.length, rfl, ⟨by omega, rfl⟩, _, _, rfl, rfl, _, rfl, ?_⟩
      by_cases c1 : 1 ≤ y.length
      · have d1 : decide ((1 : Int) ≤ (y.length : Int)) = true := decide_eq_true (by omega)
        rw [d1]
        refine iteT ⟨_, _, rfl, rfl, _, rfl, ?_⟩
        by_cases c2 : y.length ≤ 3
        · have d2 : decide ((y.length : Int) ≤ 3) = true := decide_eq_true (by omega)
          rw [d2]
          refine iteF ⟨.str y, rfl, rfl, .str y, rfl, .str y, XSt.signs y, rfl, Or.inl ⟨y, rfl, rfl⟩, by rw [signs_len]; show y.length < 4096; omega, fun a L ha pL => ?_⟩
          refine ⟨a, L, rfl, upd_same, fun p hp => ⟨_, p, _, rfl, rfl, Or.inl (SqL.of upd_same), joined_fits hy pL, rfl, _, rfl, ?_⟩⟩
          have same : L.mergeSort sLe = (once (XSt.signs y)).mergeSort sLe := sLe_ord.same pL
          rw [same]
          have ext : Ext H (upd (upd H a (SO (txKit P w) a L)) p (.lst ((L.mergeSort sLe).map V.str))) := ((Ext.refl H).new ha).new hp
          rw [same] at ext
          have d3 : decide (1 ≤ y.length ∧ y.length ≤ 3) = true := decide_eq_true ⟨c1, c2⟩
          have tell : lettersV (.str y) = (decide (y = Txt.join ⟨#[]⟩ ((once (XSt.signs y)).mergeSort sLe)) && (decide (97 ≤ y.cps.toList.headD 0) && decide (y.cps.toList.getLastD 0 ≤ 122))) := by
            show (decide (1 ≤ y.length ∧ y.length ≤ 3) && _) = _
            rw [d3, Bool.true_and]
          have q' := q _ ext
          rw [tell] at q'
          have e1 : decide (V.str y = V.str (Txt.join (Str.ofString "") ((once (XSt.signs y)).mergeSort sLe))) = decide (y = Txt.join ⟨#[]⟩ ((once (XSt.signs y)).mergeSort sLe)) := by
            show decide (V.str y = V.str (Txt.join ⟨#[]⟩ ((once (XSt.signs y)).mergeSort sLe))) = _
            simp
          rw [e1]
          generalize decide (y = Txt.join ⟨#[]⟩ ((once (XSt.signs y)).mergeSort sLe)) = g at q' ⊢
          cases g with
          | false => exact iteF q'
          | true =>
            refine iteT ⟨.str y, rfl, y, 0, _, rfl, rfl, by omega, head_at c1, _, _, rfl, rfl, _, rfl, ?_⟩
            have e2 : (!decide ((⟨#[y.cps.toList.headD 0]⟩ : Str).cps.toList < (Str.ofString "a").cps.toList)) = decide (97 ≤ y.cps.toList.headD 0) := not_below _ 97
            rw [e2]
            generalize decide (97 ≤ y.cps.toList.headD 0) = g2 at q' ⊢
            cases g2 with
            | false => exact iteF q'
            | true =>
              refine iteT ⟨.str y, rfl, 1, rfl, y, -1, _, rfl, rfl, by omega, last_at c1, _, _, rfl, rfl, ?_⟩
              have e3 : (!decide ((Str.ofString "z").cps.toList < (⟨#[y.cps.toList.getLastD 0]⟩ : Str).cps.toList)) = decide (y.cps.toList.getLastD 0 ≤ 122) := not_below 122 _
              rw [e3]
              exact q'
        · have d2 : decide ((y.length : Int) ≤ 3) = false := decide_eq_false (by omega)
          rw [d2]
          refine iteT ?_
          have tell : lettersV (.str y) = false := by
            show (decide (1 ≤ y.length ∧ y.length ≤ 3) && _) = _
            rw [decide_eq_false (fun z => c2 z.2), Bool.false_and]
          have q' := q H (Ext.refl H)
          rw [tell] at q'
          exact q'
      · have d1 : decide ((1 : Int) ≤ (y.length : Int)) = false := decide_eq_false (by omega)
        rw [d1]
        refine iteF ⟨_, rfl, iteT ?_⟩
        have tell : lettersV (.str y) = false := by
          show (decide (1 ≤ y.length ∧ y.length ≤ 3) && _) = _
          rw [decide_eq_false (fun z => c1 z.1), Bool.false_and]
        have q' := q H (Ext.refl H)
        rw [tell] at q'
        exact q'
    | int i => exact q H (Ext.refl H)
    | bl b => exact q H (Ext.refl H)
    | non => exact q H (Ext.refl H)
    | ref a => exact q H (Ext.refl H)
    | _ => exact ask.elim

theorem ok_ordered (F : FnP K "ordered" sOrdered f fd) (M : Free mg) : FnOk P w K mg base CX0 1 f fd ["texts"] (spOrdered K) := by
  refine F.ok scOrdered (fun vs H Q E h => ?_) (fun cdv A outer s H vs Q E hr h => ?_)
  · obtain ⟨v, xs, rfl, _⟩ := h
    rfl
  · obtain ⟨v, xs, rfl, fd, lim, big, q⟩ := h
    refine ⟨_, PSs.nox (pss_one (ps_ret (pe_callTy call_tuple_of (by rfl) M.tuple (by decide +kernel) (pa_cons (pe_sortLen hr.units (by rfl) M.sorted (by rfl) M.len
      (pe_callB (cr_sortedS rfl hr.units) (by rfl) M.sorted (by decide +kernel) (pa_cons (pe_callTy (cr_setS rfl) (by rfl) M.set (by decide +kernel) (pa_cons (pv 0) pa_nil)) pa_nil))) pa_nil)))), ?_⟩
    refine ⟨v, rfl, v, xs, rfl, fd, lim, fun a L ha pL => ⟨a, L, rfl, upd_same, fun p hp => ⟨p, L.mergeSort sLe, rfl, SqL.of upd_same, fun k m => ?_, fun r hr => ⟨r, _, rfl, Or.inl ⟨SqL.of upd_same, fun l hl => ?_⟩⟩⟩⟩⟩
    · rw [sizeLine_eq]
      exact big k (mem_once.mp (pL.mem_iff.mp ((List.mergeSort_perm _ _).mem_iff.mp m)))
    · rw [sLe_ord.same pL, twice_sorted]
      have e1 : Ext H (upd (upd H a (SO (txKit P w) a L)) p (.lst ((L.mergeSort sLe).map V.str))) := ((Ext.refl H).new ha).new hp
      have e2 := e1.new hr (o := .lst (((L.mergeSort sLe).mergeSort lLe).map V.str))
      have e3 := e2.new hl (o := .tup ((ordT xs).map V.str))
      have hl0 : H l = none := by
        cases z : H l with
        | none => rfl
        | some o =>
          have y := hl.symm.trans (e2 _ _ z)
          cases y
      rw [sLe_ord.same pL, twice_sorted] at e3
      exact q l _ hl0 e3 upd_same
end
end K0

/-! what is refused -/
namespace K0
open PySem PySem.Spec PyProof.Rows L2 XSt NX
open PySem.W (Frag)
abbrev sIsText : Stmt := top 13
abbrev sIsWord : Stmt := top 14
abbrev sIsWordOf : Stmt := top 15
abbrev sCheckLetters : Stmt := top 19
abbrev sCheckText : Stmt := top 20
abbrev sInOrder : Stmt := top 17

/-- an own class of error without an own __init__ -/
structure Plain (K : Frag) (mg : Str → Option Value) (x : Str) (C : Addr) : Prop where
  at_ : mg x = some (.ref C)
  keep : PySem.W.keepIn K (.ref C) = true
  exc : PySem.W.excIn K C [.type "ValueError", .type "Exception", .type "BaseException", .type "object"] "ValueError.__new__" = true
  sub : PySem.W.subIn K (.ref C) (.type "BaseException") = some true
  ty : PySem.W.typeIn K (.ref C) = some (.type "type")
structure Refusals (K : Frag) (mg : Str → Option Value) (cL cT cO : Addr) : Prop where
  letters : Plain K mg "InvalidLetters" cL
  text : Plain K mg "InvalidText" cT
  operation : Plain K mg "InvalidOperation" cO

theorem tyx_ext {K : Frag} {H H' : Hp} (k : Ext H H') {v : V} {t : Value} (h : TyX K H v t) : TyX K H' v t := by
  cases h with
  | base b =>
    refine .base ?_
    cases b with
    | non => exact .non
    | bl x => exact .bl x
    | int x => exact .int x
    | str x => exact .str x
    | flt x => exact .flt x
    | lst e => exact .lst (k _ _ e)
    | frz e => exact .frz (k _ _ e)
    | tup e => exact .tup (k _ _ e)
    | dK e => exact .dK (k _ _ e)
    | dT e => exact .dT (k _ _ e)
    | ins e a b c d g => exact .ins (k _ _ e) a b c d g
  | byt b => exact .byt b
  | set e => exact .set (k _ _ e)
  | kList a b => exact .kList a b
  | kTuple a b => exact .kTuple a b
  | kDict a b => exact .kDict a b
  | fTuple e => exact .fTuple (k _ _ e)
  | fDict e => exact .fDict (k _ _ e)
theorem asked_ext {K : Frag} {H H' : Hp} (k : Ext H H') {v : V} (h : Asked K H v) : Asked K H' v := by
  cases v with
  | ref a =>
    obtain ⟨b, t, h1, h2⟩ := h
    exact ⟨b, t, tyx_ext k h1, h2⟩
  | _ => exact h
theorem sqT_ext {K : Frag} {H H' : Hp} (k : Ext H H') {a : Addr} {xs : List V} (h : SqT K H a xs) : SqT K H' a xs := by
  rcases h with (h | ⟨o, h⟩) | h
  · exact Or.inl (Or.inl (k _ _ h))
  · exact Or.inl (Or.inr ⟨o, k _ _ h⟩)
  · exact Or.inr h
theorem sqL_ext {K : Frag} {H H' : Hp} (k : Ext H H') {a : Addr} {xs : List V} (h : SqL K H a xs) : SqL K H' a xs := by
  rcases h with (h | ⟨o, h⟩) | h
  · exact Or.inl (Or.inl (k _ _ h))
  · exact Or.inl (Or.inr ⟨o, k _ _ h⟩)
  · exact Or.inr h
theorem sqT_ty {K : Frag} {H : Hp} {a : Addr} {xs : List V} (h : SqT K H a xs) : TyX K H (.ref a) (.type "tuple") := by
  rcases h with (h | ⟨o, h⟩) | ⟨o, its, n, h1, h2, _⟩
  · exact .base (.tup h)
  · exact .fTuple h
  · exact .kTuple h1 h2

def textV (s : Str) (n : Nat) : V → Bool
  | .str y => decide (Txt.stripChars y s = ⟨#[]⟩) && decide (y.length ≤ n)
  | _ => false
def wordV (s : Str) (n : Nat) : V → Bool
  | .str y => decide (Txt.stripChars y s = ⟨#[]⟩) && (decide (1 ≤ y.length) && decide (y.length ≤ n))
  | _ => false
def NoTuple (K : Frag) (H : Hp) (v : V) : Prop := ∃ t, TyX K H v t ∧ PySem.W.kitOne K t (.type "tuple") = some false

def spCheckLetters (K : Frag) (cL : Addr) : Sp := fun vs H Q E => ∃ v, vs = [v] ∧ Asked K H v ∧ (lettersV v = true → ∀ H', Ext H H' → Q .non H') ∧ (lettersV v = false → ∀ H', Ext H H' → E (.ref cL) none H')
def spIsText (K : Frag) (cL : Addr) : Sp := fun vs H Q E => ∃ u v, vs = [u, v] ∧ Asked K H u ∧ Asked K H v ∧ (lettersV u = false → ∀ H', Ext H H' → E (.ref cL) none H') ∧ (∀ x, u = .str x → lettersV u = true → ∀ H', Ext H H' → Q (.bl (textV x 4000 v)) H')
def spIsWordOf (K : Frag) : Sp := fun vs H Q _ => ∃ x v, vs = [.str x, v] ∧ Asked K H v ∧ Q (.bl (wordV x 400 v)) H
def spIsWord (K : Frag) (cL : Addr) : Sp := fun vs H Q E => ∃ u v, vs = [u, v] ∧ Asked K H u ∧ Asked K H v ∧ (lettersV u = false → ∀ H', Ext H H' → E (.ref cL) none H') ∧ (∀ x, u = .str x → lettersV u = true → ∀ H', Ext H H' → Q (.bl (wordV x 400 v)) H')
def spCheckText (K : Frag) (cT : Addr) : Sp := fun vs H Q E => ∃ x v, vs = [.str x, v] ∧ Asked K H (.str x) ∧ Asked K H v ∧ lettersV (.str x) = true ∧ (textV x 4000 v = true → ∀ H', Ext H H' → Q .non H') ∧ (textV x 4000 v = false → ∀ H', Ext H H' → E (.ref cT) none H')
theorem letters_txt {u : V} (h : lettersV u = true) : ∃ x, u = .str x := by
  cases u with
  | str x => exact ⟨x, rfl⟩
  | _ => cases h

section
variable {P : Program} {w : World} {K : Frag} {mg : Str → Option Value} {base : Heap} {f fL fS fI fT fR fO : Addr} {fd dL dS dI dT dR dO : FuncData} {cL cT cO : Addr}
theorem scCheckLetters : FnScope ["letters"] ["letters"] (defScope sCheckLetters) := ⟨rfl, rfl, rfl, by decide +kernel, rfl, by decide +kernel, by decide +kernel⟩
theorem scIsText : FnScope ["letters", "value"] ["letters", "value"] (defScope sIsText) := ⟨rfl, rfl, rfl, by decide +kernel, rfl, by decide +kernel, by decide +kernel⟩
theorem scIsWordOf : FnScope ["letters", "value"] ["letters", "value"] (defScope sIsWordOf) := ⟨rfl, rfl, rfl, by decide +kernel, rfl, by decide +kernel, by decide +kernel⟩
theorem scIsWord : FnScope ["letters", "value"] ["letters", "value"] (defScope sIsWord) := ⟨rfl, rfl, rfl, by decide +kernel, rfl, by decide +kernel, by decide +kernel⟩
theorem scCheckText : FnScope ["letters", "text"] ["letters", "text"] (defScope sCheckText) := ⟨rfl, rfl, rfl, by decide +kernel, rfl, by decide +kernel, by decide +kernel⟩
theorem scInOrder : FnScope ["letters", "texts", "text"] ["letters", "texts"] (defScope sInOrder) := ⟨rfl, rfl, rfl, by decide +kernel, rfl, by decide +kernel, by decide +kernel⟩

theorem ok_check_letters (F : FnP K "check_letters" sCheckLetters f fd) (R : Refusals K mg cL cT cO) (FL : FnOk P w K mg base CX0 1 fL dL ["value"] (spIsLetters K)) (gL : mg "is_letters" = some (.ref fL)) (kL : PySem.W.keepIn K (.ref fL) = true) (bL : Binds K dL ["value"] []) :
    FnOk P w K mg base (L2.CX P w) 2 f fd ["letters"] (spCheckLetters K cL) := by
  refine F.ok scCheckLetters (fun vs H Q E h => ?_) (fun cdv A outer s H vs Q E hr h => ?_)
  · obtain ⟨v, rfl, _⟩ := h
    rfl
  · obtain ⟨v, rfl, ask, q1, q2⟩ := h
    refine ⟨_, pss_one (ps_if (pt_not (pt_val (pe_call FL hr (by rfl) gL kL bL .nil pass0 (pa_cons (pv 0) pa_nil)))) (pss_one (ps_raise rfl (takes_of rfl rfl rfl rfl) (pmk_own PySem.F.excBase_ValueError R.letters.exc R.letters.at_ R.letters.keep (raises_own R.letters.sub R.letters.ty) (by exact rfl)))) pss_nil), ?_⟩
    refine ⟨v, rfl, v, rfl, ask, fun H' k => ⟨_, rfl, ?_⟩⟩
    cases c : lettersV v with
    | true => exact iteF (q1 c H' k)
    | false => exact iteT (q2 c H' k)

theorem ok_is_text (F : FnP K "is_text" sIsText f fd) (M : Free mg) (Z : Sizes mg) (FL : FnOk P w K mg base (L2.CX P w) 2 fL dL ["letters"] (spCheckLetters K cL)) (gL : mg "check_letters" = some (.ref fL)) (kL : PySem.W.keepIn K (.ref fL) = true) (bL : Binds K dL ["letters"] [])
    (FS : FnOk P w K mg base CX0 1 fS dS ["letters", "value"] (spIsSpelled K)) (gS : mg "_is_spelled" = some (.ref fS)) (kS : PySem.W.keepIn K (.ref fS) = true) (bS : Binds K dS ["letters", "value"] []) :
    FnOk P w K mg base (L2.CX P w) 3 f fd ["letters", "value"] (spIsText K cL) := by
  obtain ⟨tk, gM⟩ := Z.text
  refine F.ok scIsText (fun vs H Q E h => ?_) (fun cdv A outer s H vs Q E hr h => ?_)
  · obtain ⟨u, v, rfl, _⟩ := h
    rfl
  · obtain ⟨u, v, rfl, a1, a2, q1, q2⟩ := h
    refine ⟨_, pss_cons (ps_expr (pe_call FL hr (by rfl) gL kL bL .nil (passes_call (takes_of rfl rfl rfl rfl) (fun _ _ _ _ z => z)) (pa_cons (pv 0) pa_nil)))
      (pss_one (ps_ret (pe_and (pe_call FS (hr.mono (by decide)) (by rfl) gS kS bS .nil pass0 (pa_cons (pv 0) (pa_cons (pv 1) pa_nil))) (pe_one (pe_cmpR op_le (pe_callB call_len (by rfl) M.len PySem.boot_len (pa_cons (pv 1) pa_nil)) (pe_glob (v := .int 4000) (by rfl) gM ⟨tk, rfl⟩) (nomark _)))))), ?_⟩
    refine ⟨u, rfl, u, rfl, a1, fun c H' k => ?_, fun c H' k => q1 c H' k⟩
    obtain ⟨x, rfl⟩ := letters_txt c
    have q3 := q2 x rfl c H' k
    refine ⟨_, rfl, _, rfl, x, v, rfl, asked_ext k a2, _, rfl, ?_⟩
    cases v with
    | str y =>
      have hy : y.length ≤ 8000 := a2.1
      have hs : sizeLine = 16777216 := sizeLine_eq
      have e : textV x 4000 (.str y) = (spelledV x (.str y) && decide (y.length ≤ 4000)) := rfl
      rw [e] at q3
      generalize spelledV x (.str y) = g at q3 ⊢
      cases g with
      | false => exact iteF q3
      | true =>
        refine iteT ⟨.str y, rfl, _, y.length, rfl, ⟨by omega, rfl⟩, _, _, rfl, rfl, ?_⟩
        have e2 : decide ((y.length : Int) ≤ 4000) = decide (y.length ≤ 4000) := by
          by_cases z : y.length ≤ 4000
          · rw [decide_eq_true z, decide_eq_true (by omega)]
          · rw [decide_eq_false z, decide_eq_false (by omega)]
        show Q (.bl (decide ((y.length : Int) ≤ 4000))) H'
        rw [e2]
        exact q3
    | int i => exact iteF q3
    | bl b => exact iteF q3
    | non => exact iteF q3
    | ref a => exact iteF q3
    | _ => exact a2.elim

theorem ok_is_word_of (F : FnP K "_is_word_of" sIsWordOf f fd) (M : Free mg) (Z : Sizes mg)
    (FS : FnOk P w K mg base CX0 1 fS dS ["letters", "value"] (spIsSpelled K)) (gS : mg "_is_spelled" = some (.ref fS)) (kS : PySem.W.keepIn K (.ref fS) = true) (bS : Binds K dS ["letters", "value"] []) :
    FnOk P w K mg base CX0 2 f fd ["letters", "value"] (spIsWordOf K) := by
  obtain ⟨tk, gM⟩ := Z.word
  refine F.ok scIsWordOf (fun vs H Q E h => ?_) (fun cdv A outer s H vs Q E hr h => ?_)
  · obtain ⟨u, v, rfl, _⟩ := h
    rfl
  · obtain ⟨x, v, rfl, a2, q3⟩ := h
    refine ⟨_, PSs.nox (pss_one (ps_ret (pe_and (pe_call FS hr (by rfl) gS kS bS .nil pass0 (pa_cons (pv 0) (pa_cons (pv 1) pa_nil))) (pe_one (pe_chain op_le op_le pe_int (pe_callB call_len (by rfl) M.len PySem.boot_len (pa_cons (pv 1) pa_nil)) (pe_glob (v := .int 400) (by rfl) gM ⟨tk, rfl⟩)))))), ?_⟩
    refine ⟨_, rfl, _, rfl, x, v, rfl, a2, _, rfl, ?_⟩
    cases v with
    | str y =>
      have hy : y.length ≤ 8000 := a2.1
      have hs : sizeLine = 16777216 := sizeLine_eq
      have e : wordV x 400 (.str y) = (spelledV x (.str y) && (decide (1 ≤ y.length) && decide (y.length ≤ 400))) := rfl
      rw [e] at q3
      generalize spelledV x (.str y) = g at q3 ⊢
      cases g with
      | false => exact iteF q3
      | true =>
        refine iteT ⟨.str y, rfl, _, y.length, rfl, ⟨by omega, rfl⟩, _, _, rfl, rfl, _, rfl, ?_⟩
        have e1 : decide ((1 : Int) ≤ (y.length : Int)) = decide (1 ≤ y.length) := by
          by_cases z : 1 ≤ y.length
          · rw [decide_eq_true z, decide_eq_true (by omega)]
          · rw [decide_eq_false z, decide_eq_false (by omega)]
        have e2 : decide ((y.length : Int) ≤ 400) = decide (y.length ≤ 400) := by
          by_cases z : y.length ≤ 400
          · rw [decide_eq_true z, decide_eq_true (by omega)]
          · rw [decide_eq_false z, decide_eq_false (by omega)]
        rw [e1]
        generalize decide (1 ≤ y.length) = g2 at q3 ⊢
        cases g2 with
        | false => exact iteF q3
        | true =>
          refine iteT ⟨_, _, rfl, rfl, ?_⟩
          show Q (.bl (decide ((y.length : Int) ≤ 400))) H
          rw [e2]
          exact q3
    | int i => exact iteF q3
    | bl b => exact iteF q3
    | non => exact iteF q3
    | ref a => exact iteF q3
    | _ => exact a2.elim

theorem ok_is_word (F : FnP K "is_word" sIsWord f fd) (FL : FnOk P w K mg base (L2.CX P w) 2 fL dL ["letters"] (spCheckLetters K cL)) (gL : mg "check_letters" = some (.ref fL)) (kL : PySem.W.keepIn K (.ref fL) = true) (bL : Binds K dL ["letters"] [])
    (FS : FnOk P w K mg base CX0 2 fS dS ["letters", "value"] (spIsWordOf K)) (gS : mg "_is_word_of" = some (.ref fS)) (kS : PySem.W.keepIn K (.ref fS) = true) (bS : Binds K dS ["letters", "value"] []) :
    FnOk P w K mg base (L2.CX P w) 3 f fd ["letters", "value"] (spIsWord K cL) := by
  refine F.ok scIsWord (fun vs H Q E h => ?_) (fun cdv A outer s H vs Q E hr h => ?_)
  · obtain ⟨u, v, rfl, _⟩ := h
    rfl
  · obtain ⟨u, v, rfl, a1, a2, q1, q2⟩ := h
    refine ⟨_, pss_cons (ps_expr (pe_call FL hr (by rfl) gL kL bL .nil (passes_call (takes_of rfl rfl rfl rfl) (fun _ _ _ _ z => z)) (pa_cons (pv 0) pa_nil)))
      (pss_one (ps_ret (pe_call FS hr (by rfl) gS kS bS .nil pass0 (pa_cons (pv 0) (pa_cons (pv 1) pa_nil))))), ?_⟩
    refine ⟨u, rfl, u, rfl, a1, fun c H' k => ?_, fun c H' k => q1 c H' k⟩
    obtain ⟨x, rfl⟩ := letters_txt c
    exact ⟨_, rfl, _, rfl, x, v, rfl, asked_ext k a2, q2 x rfl c H' k⟩

theorem ok_check_text (F : FnP K "check_text" sCheckText f fd) (R : Refusals K mg cL cT cO) (FT : FnOk P w K mg base (L2.CX P w) 3 fT dT ["letters", "value"] (spIsText K cL)) (gT : mg "is_text" = some (.ref fT)) (kT : PySem.W.keepIn K (.ref fT) = true) (bT : Binds K dT ["letters", "value"] []) :
    FnOk P w K mg base (L2.CX P w) 4 f fd ["letters", "text"] (spCheckText K cT) := by
  refine F.ok scCheckText (fun vs H Q E h => ?_) (fun cdv A outer s H vs Q E hr h => ?_)
  · obtain ⟨x, v, rfl, _⟩ := h
    rfl
  · obtain ⟨x, v, rfl, a1, a2, c, q1, q2⟩ := h
    refine ⟨_, pss_one (ps_if (pt_not (pt_val (pe_call FT hr (by rfl) gT kT bT .nil (passes_call (takes_of rfl rfl rfl rfl) (fun _ _ _ _ z => z)) (pa_cons (pv 0) (pa_cons (pv 1) pa_nil)))))
      (pss_one (ps_raise rfl (takes_of rfl rfl rfl rfl) (pmk_own PySem.F.excBase_ValueError R.text.exc R.text.at_ R.text.keep (raises_own R.text.sub R.text.ty) (by exact rfl)))) pss_nil), ?_⟩
    refine ⟨_, rfl, _, rfl, .str x, v, rfl, a1, a2, fun z => (by rw [c] at z; cases z), fun y ey _ H' k => ⟨_, rfl, ?_⟩⟩
    injection ey with ey
    subst ey
    cases g : textV x 4000 v with
    | true => exact iteF (q1 g H' k)
    | false => exact iteT (q2 g H' k)

def spInOrder (K : Frag) (cL cT cO : Addr) : Sp := fun vs H Q E => ∃ u v, vs = [u, v] ∧ Asked K H u ∧
  ((lettersV u = false ∧ ∀ H', Ext H H' → E (.ref cL) none H') ∨
   (lettersV u = true ∧ NoTuple K H v ∧ ∀ H', Ext H H' → E (.ref cO) none H') ∨
   ∃ x p zs, u = .str x ∧ lettersV u = true ∧ v = .ref p ∧ SqT K H p zs ∧ (∀ z ∈ zs, Asked K H z) ∧
    (((∃ z ∈ zs, textV x 4000 z = false) ∧ ∀ H', Ext H H' → E (.ref cT) none H') ∨
     ∃ ys : List Str, zs = ys.map V.str ∧ (∀ y ∈ ys, textV x 4000 (.str y) = true) ∧ ys.length < 4096 ∧ ∀ q H', H q = none → Ext H H' → H' q = some (.tup ((ordT ys).map V.str)) → Q (.ref q) H'))
theorem ok_in_order (F : FnP K "in_order" sInOrder f fd) (M : Free mg) (R : Refusals K mg cL cT cO) (FL : FnOk P w K mg base (L2.CX P w) 2 fL dL ["letters"] (spCheckLetters K cL)) (gL : mg "check_letters" = some (.ref fL)) (kL : PySem.W.keepIn K (.ref fL) = true) (bL : Binds K dL ["letters"] [])
    (FT : FnOk P w K mg base (L2.CX P w) 4 fT dT ["letters", "text"] (spCheckText K cT)) (gT : mg "check_text" = some (.ref fT)) (kT : PySem.W.keepIn K (.ref fT) = true) (bT : Binds K dT ["letters", "text"] [])
    (FO : FnOk P w K mg base CX0 1 fO dO ["texts"] (spOrdered K)) (gO : mg "ordered" = some (.ref fO)) (kO : PySem.W.keepIn K (.ref fO) = true) (bO : Binds K dO ["texts"] []) :
    FnOk P w K mg base (L2.CX P w) 5 f fd ["letters", "texts"] (spInOrder K cL cT cO) := by
  refine F.ok scInOrder (fun vs H Q E h => ?_) (fun cdv A outer s H vs Q E hr h => ?_)
  · obtain ⟨u, v, rfl, _⟩ := h
    rfl
  · obtain ⟨u, v, rfl, a1, modes⟩ := h
    refine ⟨_, pss_cons (ps_expr (pe_call FL (hr.mono (by decide)) (by rfl) gL kL bL .nil (passes_call (takes_of rfl rfl rfl rfl) (fun _ _ _ _ z => z)) (pa_cons (pv 0) pa_nil)))
      (pss_cons (ps_if (pt_not (pt_val (pe_callB call_isi (by rfl) M.isi (by decide +kernel) (pa_cons (pv 1) (pa_cons (pe_bltn (v := .ty "tuple") (by rfl) M.tuple (by decide +kernel) rfl) pa_nil)))))
        (pss_one (ps_raise rfl (takes_of rfl rfl rfl rfl) (pmk_own PySem.F.excBase_ValueError R.operation.exc R.operation.at_ R.operation.keep (raises_own R.operation.sub R.operation.ty) (by exact rfl)))) pss_nil)
      (pss_cons (ps_for (passes_of rfl) rfl (pi_tup (pv 1)) (pg_name (i := 2) scInOrder.nd rfl (.inl rfl)) (pss_one (ps_expr (pe_call FT hr (by rfl) gT kT bT .nil (passes_call (takes_of rfl rfl rfl rfl) (fun _ _ _ _ z => z)) (pa_cons (pv 0) (pa_cons (pv 2) pa_nil))))))
      (pss_one (ps_ret (pe_call FO (hr.mono (by decide)) (by rfl) gO kO bO .nil pass0 (pa_cons (pv 1) pa_nil)))))), ?_⟩
    refine ⟨u, rfl, u, rfl, a1, fun c H' k => ?_, fun c H' k => ?_⟩
    · rcases modes with ⟨m, _⟩ | ⟨_, ⟨t, n1, n2⟩, q⟩ | ⟨x, p, zs, rfl, _, rfl, sq, all, rest⟩
      · rw [c] at m
        cases m
      · exact ⟨v, rfl, _, _, t, _, _, rfl, .ty "tuple", tyx_ext k n1, n2, _, rfl, iteT (q _ k)⟩
      · refine ⟨_, rfl, _, _, _, _, _, rfl, .ty "tuple", tyx_ext k (sqT_ty sq), rfl, _, rfl, iteF ?_⟩
        refine ⟨_, rfl, p, rfl, ⟨zs, sqT_ext k sq⟩, ?_⟩
        refine for_tup (fun i σ H2 => (∃ o, σ = [some (.str x), some (.ref p), o]) ∧ Ext H H2 ∧ ∀ j, j < i → ∀ z, zs[j]? = some z → textV x 4000 z = true) ⟨⟨_, rfl⟩, k, fun j hj => absurd hj (Nat.not_lt_zero _)⟩ (fun i σ H2 _ z => sqT_ext z.2.1 sq) ?_ ?_
        · rintro i z σ H2 ez ⟨⟨o, rfl⟩, k2, done⟩
          have mz : z ∈ zs := List.mem_of_getElem? ez
          refine ⟨_, rfl, _, rfl, x, z, rfl, a1, asked_ext k2 (all z mz), c, fun good H3 k3 => ?_, fun bad H3 k3 => ?_⟩
          · refine ⟨⟨_, rfl⟩, k2.trans k3, fun j hj y ey => ?_⟩
            rcases Nat.lt_succ_iff_lt_or_eq.mp hj with hj | rfl
            · exact done j hj y ey
            · rw [ez] at ey
              cases ey
              exact good
          · rcases rest with ⟨_, q⟩ | ⟨ys, rfl, fine, _⟩
            · exact q H3 (k2.trans k3)
            · obtain ⟨y, my, rfl⟩ := List.mem_map.mp mz
              rw [fine y my] at bad
              cases bad
        · rintro σ H2 ⟨⟨o, rfl⟩, k2, done⟩
          rcases rest with ⟨⟨z, mz, bad⟩, q⟩ | ⟨ys, rfl, fine, few, q⟩
          · obtain ⟨j, hj, ej⟩ := List.getElem_of_mem mz
            have y := done j hj z (by rw [List.getElem?_eq_getElem hj, ej])
            rw [y] at bad
            cases bad
          · refine ⟨_, rfl, _, ys, rfl, Or.inr ⟨p, rfl, Or.inl (sqT_ext k2 sq)⟩, few, fun y my => ?_, fun r H3 hr k3 e3 => ?_⟩
            · have z := fine y my
              have z2 : (decide (Txt.stripChars y x = ⟨#[]⟩) && decide (y.length ≤ 4000)) = true := z
              rw [Bool.and_eq_true, decide_eq_true_eq, decide_eq_true_eq] at z2
              omega
            · refine q r H3 ?_ (k2.trans k3) e3
              cases z : H r with
              | none => rfl
              | some o =>
                rw [k2 _ _ z] at hr
                cases hr
    · rcases modes with ⟨_, q⟩ | ⟨m, _⟩ | ⟨x, p, zs, rfl, m, _⟩
      · exact q H' k
      · rw [c] at m
        cases m
      · rw [c] at m
        cases m
end
end K0

/-! the law's own judges -/
namespace K0
open PySem PySem.Spec PyProof.Rows L2 XSt NX
open PySem.W (Frag)
abbrev sLetter : Stmt := top 25
abbrev sSpelled : Stmt := top 26
abbrev sIsLong : Stmt := top 27
abbrev sAreSigns : Stmt := top 30
abbrev sIsIn : Stmt := top 31

/-! lists of texts as data -/
theorem dpa_txt {K : Frag} {H : Hp} : ∀ l : List Str, DpAll K H (l.map V.str) (l.map PyData.str)
  | [] => .nil
  | x :: l => .cons (.str x) (dpa_txt l)
theorem txt_can : ∀ l : List Str, (∀ x ∈ l, PyData.strOk x = true) → PyData.canLayAll0 (l.map PyData.str) = true
  | [], _ => by simp [PyData.canLayAll0]
  | x :: l, h => by
    rw [List.map_cons, PyData.canLayAll0, txt_can l fun y m => h y (List.mem_cons_of_mem _ m)]
    simp [PyData.canLay0, h x (List.mem_cons_self ..)]
theorem txt_depth : ∀ l : List Str, PyData.depthAll (l.map PyData.str) = 0
  | [] => by simp [PyData.depthAll]
  | x :: l => by
    rw [List.map_cons, PyData.depthAll, txt_depth l]
    simp [PyData.depth]
theorem txt_shaped {l : List Str} (h : ∀ x ∈ l, PyData.strOk x = true) : SeqAt.shaped (.list (l.map PyData.str)) = true := by
  unfold SeqAt.shaped
  rw [Bool.and_eq_true, decide_eq_true_eq]
  refine ⟨?_, ?_⟩
  · show PyData.canLayAll0 _ = true
    exact txt_can l h
  · rw [PyData.depth, txt_depth]
    omega
theorem txt_shapedT {l : List Str} (h : ∀ x ∈ l, PyData.strOk x = true) : SeqAt.shaped (.tuple (l.map PyData.str)) = true := by
  unfold SeqAt.shaped
  rw [Bool.and_eq_true, decide_eq_true_eq]
  refine ⟨?_, ?_⟩
  · show PyData.canLayAll0 _ = true
    exact txt_can l h
  · rw [PyData.depth, txt_depth]
    omega
theorem txt_nil (l : List Str) : PyData.eqv (.list (l.map PyData.str)) (.list []) = l.isEmpty := by
  cases l <;> simp [PyData.eqv, PyData.eqvAll]

theorem strOk_sign {x : Str} {c : Nat} (h : PyData.strOk x = true) (m : c ∈ x.cps.toList) : PyData.strOk ⟨#[c]⟩ = true := by
  unfold PyData.strOk at h ⊢
  rw [Array.all_eq_true'] at h
  have z := h c (Array.mem_toList_iff.mp m)
  simpa using z

def smallAll (x : Str) : Bool := x.cps.toList.all fun c => decide (97 ≤ c) && decide (c ≤ 122)
def spellB : V → Bool
  | .str x => decide (1 ≤ x.length ∧ x.length ≤ 8) && smallAll x
  | _ => false
def spSpelled (K : Frag) : Sp := fun vs H Q _ => ∃ v, vs = [v] ∧ Asked K H v ∧ ∀ H', Ext H H' → Q (.bl (spellB v)) H'
def spIsLong (K : Frag) : Sp := fun vs H Q _ => ∃ v, vs = [v] ∧ Asked K H v ∧ Q (.bl (longV v)) H
theorem mem_small (c : Nat) : decide (c ∈ (Str.ofString "abcdefghijklmnopqrstuvwxyz").cps.toList) = (decide (97 ≤ c) && decide (c ≤ 122)) := by
  have e : (Str.ofString "abcdefghijklmnopqrstuvwxyz").cps.toList = (List.range 26).map (97 + ·) := by decide +kernel
  rw [e]
  by_cases h : 97 ≤ c ∧ c ≤ 122
  · have m : c ∈ (List.range 26).map (97 + ·) := List.mem_map.mpr ⟨c - 97, List.mem_range.mpr (by omega), by omega⟩
    simp [m, h.1, h.2]
  · have m : c ∉ (List.range 26).map (97 + ·) := fun z => by
      obtain ⟨d, hd, e⟩ := List.mem_map.mp z
      have := List.mem_range.mp hd
      omega
    rw [decide_eq_false m]
    by_cases a : 97 ≤ c
    · have b : ¬ c ≤ 122 := fun z => h ⟨a, z⟩
      simp [a, b]
    · simp [a]
/-- what passes the test, of the first i -/
def odds (x : Str) (p : Nat → Bool) (i : Nat) : List Str := ((x.cps.toList.take i).filter fun c => !p c).map fun c => ⟨#[c]⟩
theorem odds_next {x : Str} {p : Nat → Bool} {i c : Nat} (e : x.cps[i]? = some c) : odds x p (i + 1) = odds x p i ++ (if p c = true then [] else [⟨#[c]⟩]) := by
  have e2 : x.cps.toList[i]? = some c := by rw [Array.getElem?_toList]; exact e
  unfold odds
  rw [take_more e2, List.filter_append, List.map_append]
  cases h : p c <;> simp [h]
theorem odds_len (x : Str) (p : Nat → Bool) (i : Nat) : (odds x p i).length ≤ i := by
  unfold odds
  rw [List.length_map]
  exact Nat.le_trans (List.length_filter_le _ _) (List.length_take_le _ _)
theorem odds_none (x : Str) (p : Nat → Bool) : (odds x p x.cps.size).isEmpty = x.cps.toList.all p := by
  have e : x.cps.toList.take x.cps.size = x.cps.toList := by
    rw [← Array.length_toList]
    exact List.take_length
  unfold odds
  rw [e]
  induction x.cps.toList with
  | nil => rfl
  | cons c l ih =>
    cases h : p c
    · simp [h]
    · simp only [List.filter_cons, h, List.all_cons, Bool.true_and]
      exact ih

section
variable {P : Program} {w : World} {K : Frag} {mg : Str → Option Value} {base : Heap} {f fB fS : Addr} {fd dB dS : FuncData}
theorem scSpelled : FnScope ["value", "sign"] ["value"] (defScope sSpelled) := ⟨rfl, rfl, rfl, by decide +kernel, rfl, by decide +kernel, by decide +kernel⟩
theorem scIsLong : FnScope ["value"] ["value"] (defScope sIsLong) := ⟨rfl, rfl, rfl, by decide +kernel, rfl, by decide +kernel, by decide +kernel⟩

theorem ok_law_is_long (F : FnP K "_law_is_long" sIsLong f fd) (M : Free mg) : FnOk P w K mg base CX0 1 f fd ["value"] (spIsLong K) := by
  refine F.ok scIsLong (fun vs H Q E h => ?_) (fun cdv A outer s H vs Q E hr h => ?_)
  · obtain ⟨v, rfl, _⟩ := h
    rfl
  · obtain ⟨v, rfl, ask, q⟩ := h
    refine ⟨_, PSs.nox (pss_cons (ps_if (PW.pt (pw_or (pt_not (pt_val (pe_callB call_isi (by rfl) M.isi (by decide +kernel) (pa_cons (pv 0) (pa_cons (pe_bltn (v := .ty "int") (by rfl) M.int (by decide +kernel) rfl) pa_nil)))))
        (pw_or1 (pt_val (pe_callB call_isi (by rfl) M.isi (by decide +kernel) (pa_cons (pv 0) (pa_cons (pe_bltn (v := .ty "bool") (by rfl) M.bool (by decide +kernel) rfl) pa_nil))))))) (pss_one (ps_ret pe_bl)) pss_nil)
      (pss_one (ps_ret (pe_cmpR op_lt (pe_callB call_abs (by rfl) M.abs (by decide +kernel) (pa_cons (pv 0) pa_nil)) (pe_op op_powX (pe_op op_powX pe_int pe_int) pe_int) (nomark _))))), ?_⟩
    obtain ⟨t1, k1, k2⟩ := isi_int ask
    obtain ⟨t2, k3, k4⟩ := isi_bool ask
    refine ⟨v, rfl, _, _, t1, _, _, rfl, .ty "int", k1, k2, _, rfl, ?_⟩
    cases v with
    | int i =>
      refine iteF ⟨_, rfl, _, _, t2, _, _, rfl, .ty "bool", k3, k4, _, rfl, iteF ?_⟩
      exact ⟨_, rfl, i, rfl, _, _, rfl, rfl, ⟨by decide, by decide +kernel⟩, _, _, rfl, rfl, ⟨by decide, by decide +kernel⟩, _, _, rfl, rfl, q⟩
    | bl b => exact iteF ⟨_, rfl, _, _, t2, _, _, rfl, .ty "bool", k3, k4, _, rfl, iteT q⟩
    | non => exact iteT (iteT q)
    | str x => exact iteT (iteT q)
    | ref a => exact iteT (iteT q)
    | _ => exact ask.elim

theorem ok_law_spelled (F : FnP K "_law_spelled" sSpelled f fd) (M : Free mg) : FnOk P w K mg base CX0 1 f fd ["value"] (spSpelled K) := by
  refine F.ok scSpelled (fun vs H Q E h => ?_) (fun cdv A outer s H vs Q E hr h => ?_)
  · obtain ⟨v, rfl, _⟩ := h
    rfl
  · obtain ⟨v, rfl, ask, q⟩ := h
    refine ⟨_, PSs.nox (pss_cons (ps_if (PW.pt (pw_or (pt_not (pt_val (pe_callB call_isi (by rfl) M.isi (by decide +kernel) (pa_cons (pv 0) (pa_cons (pe_bltn (v := .ty "str") (by rfl) M.str (by decide +kernel) rfl) pa_nil)))))
        (pw_or (pt_cmpR op_eq (pe_callB call_len (by rfl) M.len PySem.boot_len (pa_cons (pv 0) pa_nil)) pe_int (nomark _)) (pw_or1 (pt_cmpR op_gt (pe_callB call_len (by rfl) M.len PySem.boot_len (pa_cons (pv 0) pa_nil)) pe_int (nomark _)))))) (pss_one (ps_ret pe_bl)) pss_nil)
      (pss_one (ps_ret (pe_cmpR (op_eqD hr.units) (pe_lc (own := [("sign", 1)]) (g := gName 1) (tt := tTest (tOp rNotInS (tVar 1) (tC (.str "abcdefghijklmnopqrstuvwxyz")))) (te := tVar 1) rfl scSpelled.nd (pi_str (pv 0)) (blkOk_by (N := ["value", "sign"]) (sc := defScope sSpelled) (by decide +kernel))
        (fun _ _ _ _ _ => pg_name (i := 1) scSpelled.nd rfl (Or.inl rfl)) (fun _ _ _ _ _ => by exact pts_one (pt_cmpR op_notInS (pv 1) pe_str rfl)) (fun _ _ _ _ _ => by exact pv 1)) (pe_lst pa_nil) (nomark _))))), ?_⟩
    obtain ⟨t1, k1, k2⟩ := isi_str ask
    refine ⟨v, rfl, _, _, t1, _, _, rfl, .ty "str", k1, k2, _, rfl, ?_⟩
    cases v with
    | str y =>
      have hy : y.length ≤ 8000 := ask.1
      have hs : sizeLine = 16777216 := sizeLine_eq
      refine iteF ⟨_, rfl, _, y.length, rfl, ⟨by omega, rfl⟩, rfl, _, rfl, ?_⟩
      by_cases c0 : y.length = 0
      · have d0 : decide (V.int (y.length : Int) = V.int 0) = true := by rw [c0]; rfl
        rw [d0]
        have tell : spellB (.str y) = false := by
          show (decide (1 ≤ y.length ∧ y.length ≤ 8) && _) = _
          rw [decide_eq_false (fun z => by omega), Bool.false_and]
        have q' := q H (Ext.refl H)
        rw [tell] at q'
        exact iteT (iteT q')
      · have d0 : decide (V.int (y.length : Int) = V.int 0) = false := decide_eq_false fun z => by
          injection z with z
          omega
        rw [d0]
        refine iteF ⟨.str y, rfl, _, y.length, rfl, ⟨by omega, rfl⟩, _, _, rfl, rfl, _, rfl, ?_⟩
        by_cases c8 : y.length ≤ 8
        · have d8 : decide ((8 : Int) < (y.length : Int)) = false := decide_eq_false (by omega)
          rw [d8]
          refine iteF ⟨.str y, rfl, y, rfl, fun D hD => ?_⟩
          refine lc_it walk_str (fun i H2 => H2 D = some (.lst ((odds y (fun c => decide (97 ≤ c) && decide (c ≤ 122)) i).map V.str)) ∧ Ext H H2) ⟨upd_same, (Ext.refl H).new hD⟩ (fun _ _ _ _ => trivial) ?_ ?_
          · rintro i x H2 H3 hi ⟨e1, e2⟩ ⟨rfl, c, ec, rfl⟩
            refine ⟨rfl, _, rfl, c, _, rfl, rfl, _, rfl, ?_⟩
            rw [mem_small c]
            have nx := odds_next (p := fun c => decide (97 ≤ c) && decide (c ≤ 122)) ec
            have nl := odds_len y (fun c => decide (97 ≤ c) && decide (c ≤ 122)) i
            cases g : (decide (97 ≤ c) && decide (c ≤ 122)) with
            | true =>
              refine iteF ⟨?_, e2⟩
              simp only [g, if_true, List.append_nil] at nx
              rw [nx]
              exact e1
            | false =>
              refine iteT ⟨_, rfl, _, e1, by rw [List.length_map]; have z : y.cps.size = y.length := rfl; omega, ?_, ?_⟩
              · simp only [g, Bool.false_eq_true, if_false] at nx
                rw [nx, List.map_append]
                exact upd_same
              · intro b u e
                have nb : b ≠ D := ne_of_none e hD
                rw [upd_ne nb]
                exact e2 b u e
          · rintro H2 ⟨e1, e2⟩
            refine ⟨by show 0 ≤ sizeLine; decide, fun L hL => ⟨_, .list [], .lst (SqL.of (by rw [upd_ne (ne_of_none e1 hL)]; exact e1)) (dpa_txt _), .lst (SqL.of upd_same) .nil, txt_shaped (fun z m => ?_), by decide +kernel, ?_⟩⟩
            · obtain ⟨c, mc, rfl⟩ := List.mem_map.mp m
              exact strOk_sign ask.2 (List.mem_of_mem_take (List.mem_filter.mp mc).1)
            · rw [txt_nil, odds_none]
              have tell : spellB (.str y) = y.cps.toList.all (fun c => decide (97 ≤ c) && decide (c ≤ 122)) := by
                show (decide (1 ≤ y.length ∧ y.length ≤ 8) && _) = _
                rw [decide_eq_true (by omega), Bool.true_and]
                rfl
              have q' := q _ (e2.new hL (o := .lst []))
              rw [tell] at q'
              exact q'
        · have d8 : decide ((8 : Int) < (y.length : Int)) = true := decide_eq_true (by omega)
          rw [d8]
          have tell : spellB (.str y) = false := by
            show (decide (1 ≤ y.length ∧ y.length ≤ 8) && _) = _
            rw [decide_eq_false (fun z => by omega), Bool.false_and]
          have q' := q H (Ext.refl H)
          rw [tell] at q'
          exact iteT q'
    | int i => exact iteT (iteT (q H (Ext.refl H)))
    | bl b => exact iteT (iteT (q H (Ext.refl H)))
    | non => exact iteT (iteT (q H (Ext.refl H)))
    | ref a => exact iteT (iteT (q H (Ext.refl H)))
    | _ => exact ask.elim
end
end K0

/-! the law's letters are the program's -/
namespace K0
open PySem PySem.Spec PyProof.Rows L2 XSt NX
open PySem.W (Frag)

theorem joinL_nil : ∀ ps : List (List Nat), TL.joinL [] ps = ps.flatten
  | [] => rfl
  | [p] => by simp [TL.joinL]
  | p :: q :: r => by
    show p ++ ([] ++ TL.joinL [] (q :: r)) = _
    rw [joinL_nil (q :: r), List.nil_append]
    rfl
theorem join_list (l : List Str) : (Txt.join ⟨#[]⟩ l).cps.toList = (l.map fun x => x.cps.toList).flatten := by
  rw [TL.join_eq]
  exact (TL.tl_join ⟨#[]⟩ l).trans (joinL_nil _)
theorem flat_ones : ∀ l : List Str, (∀ y ∈ l, ∃ c, y = ⟨#[c]⟩) → l.Pairwise (fun a b => sLe a b = true) → (l.map fun x => x.cps.toList).flatten.Pairwise (· ≤ ·)
  | [], _, _ => List.Pairwise.nil
  | y :: l, h, p => by
    obtain ⟨c, rfl⟩ := h y (List.mem_cons_self ..)
    obtain ⟨p1, p2⟩ := List.pairwise_cons.mp p
    have h2 := fun z m => h z (List.mem_cons_of_mem _ m)
    show (c :: (l.map fun x => x.cps.toList).flatten).Pairwise (· ≤ ·)
    refine List.pairwise_cons.mpr ⟨fun d m => ?_, flat_ones l h2 p2⟩
    obtain ⟨q, mq, md⟩ := List.mem_flatten.mp m
    obtain ⟨s, ms, rfl⟩ := List.mem_map.mp mq
    obtain ⟨e, rfl⟩ := h2 s ms
    obtain rfl : d = e := List.mem_singleton.mp md
    have z := p1 _ ms
    unfold sLe at z
    have z2 : [c] ≤ [d] := of_decide_eq_true z
    rcases Nat.lt_or_ge d c with y | y
    · exact absurd (List.cons_lt_cons_iff.mpr (Or.inl y) : [d] < [c]) (List.not_lt.mpr z2)
    · exact y
theorem asc_ends : ∀ l : List Nat, l ≠ [] → l.Pairwise (· ≤ ·) → (l.all fun c => decide (97 ≤ c) && decide (c ≤ 122)) = (decide (97 ≤ l.headD 0) && decide (l.getLastD 0 ≤ 122)) := by
  intro l ne p
  have last : ∀ (l : List Nat), l.Pairwise (· ≤ ·) → ∀ c ∈ l, c ≤ l.getLastD 0 := by
    intro l
    induction l with
    | nil => intro _ c m; cases m
    | cons a l ih =>
      intro p c m
      obtain ⟨p1, p2⟩ := List.pairwise_cons.mp p
      cases l with
      | nil =>
        obtain rfl := List.mem_singleton.mp m
        exact Nat.le_refl _
      | cons b r =>
        have e : (a :: b :: r).getLastD 0 = (b :: r).getLastD 0 := by simp
        rw [e]
        rcases List.mem_cons.mp m with rfl | m
        · exact Nat.le_trans (p1 b (List.mem_cons_self ..)) (ih p2 b (List.mem_cons_self ..))
        · exact ih p2 c m
  have first : ∀ c ∈ l, l.headD 0 ≤ c := fun c m => by
    cases l with
    | nil => cases m
    | cons a l =>
      rcases List.mem_cons.mp m with rfl | m
      · exact Nat.le_refl _
      · exact (List.pairwise_cons.mp p).1 c m
  have lm : l.getLastD 0 ∈ l := by
    rw [List.getLastD_eq_getLast?, List.getLast?_eq_some_getLast ne]
    exact List.getLast_mem ne
  have fm : l.headD 0 ∈ l := by
    cases l with
    | nil => exact absurd rfl ne
    | cons a l => exact List.mem_cons_self ..
  apply Bool.eq_iff_iff.mpr
  rw [List.all_eq_true, Bool.and_eq_true, decide_eq_true_eq, decide_eq_true_eq]
  constructor
  · intro h
    have a := h _ fm
    have b := h _ lm
    rw [Bool.and_eq_true, decide_eq_true_eq, decide_eq_true_eq] at a b
    exact ⟨a.1, b.2⟩
  · rintro ⟨a, b⟩ c m
    rw [Bool.and_eq_true, decide_eq_true_eq, decide_eq_true_eq]
    exact ⟨Nat.le_trans a (first c m), Nat.le_trans (last l p c m) b⟩

def signsV : V → Bool
  | .str x => decide (1 ≤ x.length ∧ x.length ≤ 3) && (spellB (.str x) && decide (x = Txt.join ⟨#[]⟩ ((once (XSt.signs x)).mergeSort sLe)))
  | _ => false
theorem signs_letters (v : V) : signsV v = lettersV v := by
  cases v with
  | str x =>
    show (decide (1 ≤ x.length ∧ x.length ≤ 3) && ((decide (1 ≤ x.length ∧ x.length ≤ 8) && smallAll x) && decide (x = Txt.join ⟨#[]⟩ ((once (XSt.signs x)).mergeSort sLe)))) =
      (decide (1 ≤ x.length ∧ x.length ≤ 3) && (decide (x = Txt.join ⟨#[]⟩ ((once (XSt.signs x)).mergeSort sLe)) && (decide (97 ≤ x.cps.toList.headD 0) && decide (x.cps.toList.getLastD 0 ≤ 122))))
    by_cases c : 1 ≤ x.length ∧ x.length ≤ 3
    · by_cases e : x = Txt.join ⟨#[]⟩ ((once (XSt.signs x)).mergeSort sLe)
      · have c8 : 1 ≤ x.length ∧ x.length ≤ 8 := ⟨c.1, by omega⟩
        have ne : x.cps.toList ≠ [] := fun z => by
          have y : x.cps.toList.length = x.length := by rw [Array.length_toList]; rfl
          rw [z] at y
          simp at y
          omega
        have p : x.cps.toList.Pairwise (· ≤ ·) := by
          have q := join_list ((once (XSt.signs x)).mergeSort sLe)
          rw [← e] at q
          rw [q]
          refine flat_ones _ (fun y m => ?_) (List.pairwise_mergeSort sLe_ord.tr sLe_ord.tot _)
          obtain ⟨d, _, rfl⟩ := List.mem_map.mp (mem_once.mp ((List.mergeSort_perm _ _).mem_iff.mp m))
          exact ⟨d, rfl⟩
        have z := asc_ends _ ne p
        rw [decide_eq_true c, decide_eq_true c8, decide_eq_true e]
        simp only [Bool.true_and, Bool.and_true]
        exact z
      · simp [e]
    · simp [c]
  | _ => rfl

def spAreSigns (K : Frag) : Sp := fun vs H Q _ => ∃ v, vs = [v] ∧ Asked K H v ∧ ∀ H', Ext H H' → Q (.bl (lettersV v)) H'
section
variable {P : Program} {w : World} {K : Frag} {mg : Str → Option Value} {base : Heap} {f fB fS : Addr} {fd dB dS : FuncData}
theorem scAreSigns : FnScope ["value"] ["value"] (defScope sAreSigns) := ⟨rfl, rfl, rfl, by decide +kernel, rfl, by decide +kernel, by decide +kernel⟩
theorem ok_law_are_signs (F : FnP K "_law_are_signs" sAreSigns f fd) (M : Free mg) (FS : FnOk P w K mg base CX0 1 fS dS ["value"] (spSpelled K)) (gS : mg "_law_spelled" = some (.ref fS)) (kS : PySem.W.keepIn K (.ref fS) = true) (bS : Binds K dS ["value"] []) :
    FnOk P w K mg base CX0 2 f fd ["value"] (spAreSigns K) := by
  refine F.ok scAreSigns (fun vs H Q E h => ?_) (fun cdv A outer s H vs Q E hr h => ?_)
  · obtain ⟨v, rfl, _⟩ := h
    rfl
  · obtain ⟨v, rfl, ask, q⟩ := h
    rw [← signs_letters v] at q
    refine ⟨_, PSs.nox (pss_cons (ps_if (PW.pt (pw_or (pt_not (pt_val (pe_callB call_isi (by rfl) M.isi (by decide +kernel) (pa_cons (pv 0) (pa_cons (pe_bltn (v := .ty "str") (by rfl) M.str (by decide +kernel) rfl) pa_nil)))))
        (pw_or1 (pt_not (pt_chain op_le op_le pe_int (pe_callB call_len (by rfl) M.len PySem.boot_len (pa_cons (pv 0) pa_nil)) pe_int))))) (pss_one (ps_ret pe_bl)) pss_nil)
      (pss_one (ps_ret (pe_and (pe_call FS hr (by rfl) gS kS bS .nil pass0 (pa_cons (pv 0) pa_nil)) (pe_one (pe_cmpR op_eq (pv 0) (pe_bm PySem.F.plainAttrs_str PySem.F.slot_str_join PySem.F.type_str_join mt_join pe_str
          (pa_cons (pe_callB (cr_sortedS rfl hr.units) (by rfl) M.sorted (by decide +kernel) (pa_cons (pe_callTy (cr_setS rfl) (by rfl) M.set (by decide +kernel) (pa_cons (pv 0) pa_nil)) pa_nil)) pa_nil)) (nomark _))))))), ?_⟩
    obtain ⟨t1, k1, k2⟩ := isi_str ask
    refine ⟨v, rfl, _, _, t1, _, _, rfl, .ty "str", k1, k2, _, rfl, ?_⟩
    cases v with
    | str y =>
      have hy : y.length ≤ 8000 := ask.1
      have hs : sizeLine = 16777216 := sizeLine_eq
      refine iteF ⟨_, rfl, _, y.length, rfl, ⟨by omega, rfl⟩, _, _, rfl, rfl, _, rfl, ?_⟩
      by_cases c1 : 1 ≤ y.length
      · have d1 : decide ((1 : Int) ≤ (y.length : Int)) = true := decide_eq_true (by omega)
        rw [d1]
        refine iteT ⟨_, _, rfl, rfl, _, rfl, ?_⟩
        by_cases c2 : y.length ≤ 3
        · have d2 : decide ((y.length : Int) ≤ 3) = true := decide_eq_true (by omega)
          rw [d2]
          have tell : signsV (.str y) = (spellB (.str y) && decide (y = Txt.join ⟨#[]⟩ ((once (XSt.signs y)).mergeSort sLe))) := by
            show (decide (1 ≤ y.length ∧ y.length ≤ 3) && _) = _
            rw [decide_eq_true ⟨c1, c2⟩, Bool.true_and]
          rw [tell] at q
          refine iteF ⟨.str y, rfl, .str y, rfl, ask, fun H1 k1 => ⟨_, rfl, ?_⟩⟩
          generalize spellB (.str y) = g at q ⊢
          cases g with
          | false => exact iteF (q H1 k1)
          | true =>
            refine iteT ⟨.str y, rfl, rfl, .str y, rfl, .str y, XSt.signs y, rfl, Or.inl ⟨y, rfl, rfl⟩, by rw [signs_len]; show y.length < 4096; omega, fun a L ha pL => ?_⟩
            refine ⟨a, L, rfl, upd_same, fun p hp => ⟨_, p, _, rfl, rfl, Or.inl (SqL.of upd_same), joined_fits hy pL, rfl, ?_⟩⟩
            have ext : Ext H (upd (upd H1 a (SO (txKit P w) a L)) p (.lst ((L.mergeSort sLe).map V.str))) := (k1.new ha).new hp
            have q' := q _ ext
            have e1 : decide (V.str y = V.str (Txt.join (Str.ofString "") (L.mergeSort sLe))) = decide (y = Txt.join ⟨#[]⟩ ((once (XSt.signs y)).mergeSort sLe)) := by
              rw [sLe_ord.same pL]
              show decide (V.str y = V.str (Txt.join ⟨#[]⟩ ((once (XSt.signs y)).mergeSort sLe))) = _
              simp
            rw [e1]
            exact q'
        · have d2 : decide ((y.length : Int) ≤ 3) = false := decide_eq_false (by omega)
          rw [d2]
          have tell : signsV (.str y) = false := by
            show (decide (1 ≤ y.length ∧ y.length ≤ 3) && _) = _
            rw [decide_eq_false (fun z => c2 z.2), Bool.false_and]
          have q' := q H (Ext.refl H)
          rw [tell] at q'
          exact iteT q'
      · have d1 : decide ((1 : Int) ≤ (y.length : Int)) = false := decide_eq_false (by omega)
        rw [d1]
        have tell : signsV (.str y) = false := by
          show (decide (1 ≤ y.length ∧ y.length ≤ 3) && _) = _
          rw [decide_eq_false (fun z => c1 z.1), Bool.false_and]
        have q' := q H (Ext.refl H)
        rw [tell] at q'
        exact iteF ⟨_, rfl, iteT q'⟩
    | int i => exact iteT (iteT (q H (Ext.refl H)))
    | bl b => exact iteT (iteT (q H (Ext.refl H)))
    | non => exact iteT (iteT (q H (Ext.refl H)))
    | ref a => exact iteT (iteT (q H (Ext.refl H)))
    | _ => exact ask.elim
end
end K0

/-! texts of letters, two ways -/
namespace K0
open PySem PySem.Spec PyProof.Rows L2 XSt NX
open PySem.W (Frag)
abbrev sSorted : Stmt := top 29

theorem tw_short {p : Nat → Bool} {c : Nat} (h : p c = false) : ∀ xs : List Nat, ((xs ++ [c]).takeWhile p).length ≤ xs.length
  | [] => by simp [h]
  | x :: xs => by
    have := tw_short h xs
    by_cases g : p x = true
    · simp [g]
      exact this
    · simp [g]
theorem dw_head {p : Nat → Bool} : ∀ {l : List Nat} {c : Nat} {r : List Nat}, l.dropWhile p = c :: r → p c = false
  | [], _, _, h => by simp at h
  | x :: l, c, r, h => by
    by_cases g : p x = true
    · rw [List.dropWhile_cons_of_pos g] at h
      exact dw_head h
    · rw [List.dropWhile_cons_of_neg g] at h
      injection h with h _
      rw [← h]
      exact Bool.not_eq_true _ |>.mp g
theorem dw_nil {p : Nat → Bool} : ∀ {l : List Nat}, l.dropWhile p = [] → l.all p = true
  | [], _ => rfl
  | x :: l, h => by
    by_cases g : p x = true
    · rw [List.dropWhile_cons_of_pos g] at h
      rw [List.all_cons, g, dw_nil h]
      rfl
    · rw [List.dropWhile_cons_of_neg g] at h
      cases h
theorem drop_tw (p : Nat → Bool) : ∀ l : List Nat, l.drop (l.takeWhile p).length = l.dropWhile p
  | [] => rfl
  | x :: l => by
    by_cases g : p x = true
    · rw [List.takeWhile_cons_of_pos g, List.dropWhile_cons_of_pos g]
      exact drop_tw p l
    · rw [List.takeWhile_cons_of_neg g, List.dropWhile_cons_of_neg g]
      rfl
theorem all_tw {p : Nat → Bool} : ∀ {l : List Nat}, l.all p = true → l.takeWhile p = l ∧ l.dropWhile p = []
  | [], _ => ⟨rfl, rfl⟩
  | x :: l, h => by
    rw [List.all_cons, Bool.and_eq_true] at h
    obtain ⟨a, b⟩ := all_tw h.2
    rw [List.takeWhile_cons_of_pos h.1, List.dropWhile_cons_of_pos h.1]
    exact ⟨by rw [a], b⟩
theorem strip_all (goes : Nat → Bool) (x : Str) : decide (Txt.stripBy goes true true x = ⟨#[]⟩) = x.cps.toList.all goes := by
  have split := List.takeWhile_append_dropWhile (p := goes) (l := x.cps.toList)
  have len : x.cps.toList.length = x.length := by rw [Array.length_toList]; rfl
  have total : (x.cps.toList.takeWhile goes).length + (x.cps.toList.dropWhile goes).length = x.length := by
    rw [← len, ← List.length_append, split]
  have told : (Txt.stripBy goes true true x = x ∧ (x.cps.toList.takeWhile goes).length = 0) ∨
      Txt.stripBy goes true true x = Builtin.Str.strSub x (x.cps.toList.takeWhile goes).length (x.length - ((x.cps.toList.dropWhile goes).reverse.takeWhile goes).length) := by
    unfold Txt.stripBy
    split
    · rename_i h
      have h2 : ((x.cps.toList.takeWhile goes).length == 0 && _) = true := h
      rw [Bool.and_eq_true, beq_iff_eq] at h2
      exact Or.inl ⟨rfl, h2.1⟩
    · refine Or.inr ?_
      rw [← drop_tw]
      rfl
  cases g : x.cps.toList.all goes with
  | true =>
    refine decide_eq_true ?_
    obtain ⟨a, b⟩ := all_tw g
    rw [b] at total told
    rcases told with ⟨e, h⟩ | e
    · rw [e]
      have z : x.length = 0 := by
        simp only [List.length_nil] at total
        omega
      obtain ⟨⟨y⟩⟩ := x
      have z2 : y.length = 0 := z
      rw [List.length_eq_zero_iff.mp z2]
    · rw [e]
      show (⟨x.cps.extract _ _⟩ : Str) = ⟨#[]⟩
      congr 1
      apply Array.extract_eq_empty_of_le
      have w : x.cps.size = x.length := rfl
      simp only [List.length_nil] at total
      omega
  | false =>
    refine decide_eq_false ?_
    have ne : x.cps.toList.dropWhile goes ≠ [] := fun z => by
      rw [dw_nil z] at g
      cases g
    cases q : x.cps.toList.dropWhile goes with
    | nil => exact absurd q ne
    | cons c r =>
      have hc := dw_head q
      have short : ((c :: r).reverse.takeWhile goes).length ≤ r.length := by
        have z := tw_short hc r.reverse
        rw [List.length_reverse] at z
        rw [List.reverse_cons]
        exact z
      rw [q] at total told
      simp only [List.length_cons] at total
      intro bad
      have z : (Txt.stripBy goes true true x).length = 0 := by
        rw [bad]
        rfl
      rcases told with ⟨e, h⟩ | e
      · rw [e] at z
        omega
      · rw [e] at z
        have y : (Builtin.Str.strSub x (x.cps.toList.takeWhile goes).length (x.length - ((c :: r).reverse.takeWhile goes).length)).length = min (x.length - ((c :: r).reverse.takeWhile goes).length) x.cps.size - (x.cps.toList.takeWhile goes).length := Array.size_extract
        have w : x.cps.size = x.length := rfl
        rw [y] at z
        omega

def inB (s : Str) (lo hi : Nat) : V → Bool
  | .str x => decide (lo ≤ x.length ∧ x.length ≤ hi) && x.cps.toList.all fun c => decide (c ∈ s.cps.toList)
  | _ => false
theorem strip_in (x s : Str) : decide (Txt.stripChars x s = ⟨#[]⟩) = x.cps.toList.all fun c => decide (c ∈ s.cps.toList) := by
  unfold Txt.stripChars
  rw [strip_all]
  congr 1
  funext c
  simp [Array.contains_eq_mem]
theorem text_in (s : Str) (n : Nat) (v : V) : inB s 0 n v = textV s n v := by
  cases v with
  | str x =>
    show (decide (0 ≤ x.length ∧ x.length ≤ n) && _) = (decide (Txt.stripChars x s = ⟨#[]⟩) && decide (x.length ≤ n))
    rw [strip_in, Bool.and_comm]
    simp
  | _ => rfl
theorem word_in (s : Str) (n : Nat) (v : V) : inB s 1 n v = wordV s n v := by
  cases v with
  | str x =>
    show (decide (1 ≤ x.length ∧ x.length ≤ n) && _) = (decide (Txt.stripChars x s = ⟨#[]⟩) && (decide (1 ≤ x.length) && decide (x.length ≤ n)))
    rw [strip_in, Bool.and_comm, Bool.decide_and]
  | _ => rfl
end K0

/-! the law's texts of letters, and its order -/
namespace K0
open PySem PySem.Spec PyProof.Rows L2 XSt NX
open PySem.W (Frag)
def inS (s k : Str) : Bool := k.cps.toList.all fun c => decide (c ∈ s.cps.toList)
def out (s : Str) (l : List Str) (i : Nat) : List Str := (l.take i).filter fun k => !inS s k
theorem out_next {s : Str} {l : List Str} {i : Nat} {k : Str} (e : l[i]? = some k) : out s l (i + 1) = out s l i ++ (if inS s k = true then [] else [k]) := by
  unfold out
  rw [take_more e, List.filter_append]
  cases h : inS s k <;> simp [h]
theorem out_len (s : Str) (l : List Str) (i : Nat) : (out s l i).length ≤ i := by
  unfold out
  exact Nat.le_trans (List.length_filter_le _ _) (List.length_take_le _ _)
theorem out_none (s : Str) (l : List Str) : (out s l l.length).isEmpty = l.all (inS s) := by
  unfold out
  rw [List.take_length]
  induction l with
  | nil => rfl
  | cons k l ih =>
    cases h : inS s k
    · simp [h]
    · simp only [List.filter_cons, h, List.all_cons, Bool.true_and]
      exact ih
theorem all_perm {α : Type} {p : α → Bool} {l m : List α} (h : ∀ x, x ∈ l ↔ x ∈ m) : l.all p = m.all p := by
  apply Bool.eq_iff_iff.mpr
  rw [List.all_eq_true, List.all_eq_true]
  exact ⟨fun z x m => z x ((h x).mpr m), fun z x m => z x ((h x).mp m)⟩
theorem signs_all (s x : Str) : (XSt.signs x).all (inS s) = x.cps.toList.all fun c => decide (c ∈ s.cps.toList) := by
  unfold XSt.signs
  rw [List.all_map]
  congr 1
  funext c
  simp [inS]

def spIsIn (K : Frag) : Sp := fun vs H Q _ => ∃ (s : Str) (v : V) (lo hi : Nat), vs = [.str s, v, .int (lo : Int), .int (hi : Int)] ∧ Asked K H v ∧ hi ≤ 4000 ∧ ∀ H', Ext H H' → Q (.bl (inB s lo hi v)) H'
section
variable {P : Program} {w : World} {K : Frag} {mg : Str → Option Value} {base : Heap} {f fB fS : Addr} {fd dB dS : FuncData}
theorem scIsIn : FnScope ["signs", "value", "least", "most", "sign"] ["signs", "value", "least", "most"] (defScope sIsIn) := ⟨rfl, rfl, rfl, by decide +kernel, rfl, by decide +kernel, by decide +kernel⟩
theorem ok_law_is_in (F : FnP K "_law_is_in" sIsIn f fd) (M : Free mg) : FnOk P w K mg base CX0 1 f fd ["signs", "value", "least", "most"] (spIsIn K) := by
  refine F.ok scIsIn (fun vs H Q E h => ?_) (fun cdv A outer s H vs Q E hr h => ?_)
  · obtain ⟨s, v, lo, hi, rfl, _⟩ := h
    rfl
  · obtain ⟨s0, v, lo, hi, rfl, ask, lim, q⟩ := h
    refine ⟨_, PSs.nox (pss_cons (ps_if (PW.pt (pw_or (pt_not (pt_val (pe_callB call_isi (by rfl) M.isi (by decide +kernel) (pa_cons (pv 1) (pa_cons (pe_bltn (v := .ty "str") (by rfl) M.str (by decide +kernel) rfl) pa_nil)))))
        (pw_or1 (pt_not (pt_chain op_le op_le (pv 2) (pe_callB call_len (by rfl) M.len PySem.boot_len (pa_cons (pv 1) pa_nil)) (pv 3)))))) (pss_one (ps_ret pe_bl)) pss_nil)
      (pss_one (ps_ret (pe_cmpR (op_eqD hr.units) (pe_lc (own := [("sign", 4)]) (g := gName 4) (tt := tTest (tOp rNotInS (tVar 4) (tVar 0))) (te := tVar 4) rfl scIsIn.nd
        (pi_list (pe_callB (cr_sortedS rfl hr.units) (by rfl) M.sorted (by decide +kernel) (pa_cons (pe_callTy (cr_setS rfl) (by rfl) M.set (by decide +kernel) (pa_cons (pv 1) pa_nil)) pa_nil)))
        (blkOk_by (N := ["signs", "value", "least", "most", "sign"]) (sc := defScope sIsIn) (by decide +kernel))
        (fun _ _ _ _ _ => pg_name (i := 4) scIsIn.nd rfl (Or.inl rfl)) (fun _ _ _ _ _ => by exact pts_one (pt_cmpR op_notInS (pv 4) (pv 0) rfl)) (fun _ _ _ _ _ => by exact pv 4)) (pe_lst pa_nil) (nomark _))))), ?_⟩
    obtain ⟨t1, k1, k2⟩ := isi_str ask
    refine ⟨v, rfl, _, _, t1, _, _, rfl, .ty "str", k1, k2, _, rfl, ?_⟩
    cases v with
    | str y =>
      have hy : y.length ≤ 8000 := ask.1
      have hs : sizeLine = 16777216 := sizeLine_eq
      refine iteF ⟨_, rfl, .str y, rfl, _, y.length, rfl, ⟨by omega, rfl⟩, _, _, rfl, rfl, _, rfl, ?_⟩
      by_cases c1 : lo ≤ y.length
      · have d1 : decide ((lo : Int) ≤ (y.length : Int)) = true := decide_eq_true (by omega)
        rw [d1]
        refine iteT ⟨_, rfl, _, _, rfl, rfl, _, rfl, ?_⟩
        by_cases c2 : y.length ≤ hi
        · have d2 : decide ((y.length : Int) ≤ (hi : Int)) = true := decide_eq_true (by omega)
          rw [d2]
          have tell : inB s0 lo hi (.str y) = y.cps.toList.all fun c => decide (c ∈ s0.cps.toList) := by
            show (decide (lo ≤ y.length ∧ y.length ≤ hi) && _) = _
            rw [decide_eq_true ⟨c1, c2⟩, Bool.true_and]
          rw [tell] at q
          refine iteF ⟨.str y, rfl, .str y, XSt.signs y, rfl, Or.inl ⟨y, rfl, rfl⟩, by rw [signs_len]; show y.length < 4096; omega, fun a L ha pL => ⟨a, L, rfl, upd_same, fun p hp => ?_⟩⟩
          have e0 : Ext H (upd (upd H a (SO (txKit P w) a L)) p (.lst ((L.mergeSort sLe).map V.str))) := ((Ext.refl H).new ha).new hp
          have ep : (upd (upd H a (SO (txKit P w) a L)) p (.lst ((L.mergeSort sLe).map V.str))) p = some (.lst ((L.mergeSort sLe).map V.str)) := upd_same
          have mem : ∀ k, k ∈ L.mergeSort sLe ↔ k ∈ XSt.signs y := fun k => ((List.mergeSort_perm _ _).mem_iff.trans pL.mem_iff).trans mem_once
          have lenL : (L.mergeSort sLe).length ≤ 8000 := by
            rw [List.length_mergeSort, pL.length_eq]
            have := once_len (XSt.signs y)
            rw [signs_len] at this
            omega
          generalize L.mergeSort sLe = l at e0 ep mem lenL ⊢
          obtain ⟨H1, eH⟩ : ∃ H1, upd (upd H a (SO (txKit P w) a L)) p (.lst (l.map V.str)) = H1 := ⟨_, rfl⟩
          rw [eH] at e0 ep
          refine ⟨p, rfl, ⟨_, SqL.of upd_same⟩, fun D hD => ?_⟩
          have hD : H1 D = none := by rw [← eH]; exact hD
          have npD : p ≠ D := ne_of_none ep hD
          refine lc_it walk_list (fun i H2 => H2 D = some (.lst ((out s0 l i).map V.str)) ∧ Ext H1 H2) ⟨upd_same, by rw [← eH] at hD ⊢; exact (Ext.refl _).new hD⟩ (fun i H2 _ z => SqL.of (z.2 _ _ ep)) ?_ ?_
          · rintro i x H2 H3 hi ⟨e1, e2⟩ ⟨rfl, ex⟩
            rw [List.getElem?_map] at ex
            cases g : l[i]? with
            | none => rw [g] at ex; cases ex
            | some k =>
              rw [g] at ex
              obtain rfl : V.str k = x := Option.some.inj ex
              obtain ⟨c, mc, rfl⟩ := List.mem_map.mp ((mem k).mp (List.mem_of_getElem? g))
              refine ⟨rfl, _, rfl, _, rfl, c, _, rfl, rfl, _, rfl, ?_⟩
              have nx := out_next (s := s0) g
              have nl := out_len s0 l i
              have same : inS s0 ⟨#[c]⟩ = decide (c ∈ s0.cps.toList) := by simp [inS]
              rw [same] at nx
              cases z : decide (c ∈ s0.cps.toList) with
              | true =>
                refine iteF ⟨?_, e2⟩
                rw [z] at nx
                simp only [if_true, List.append_nil] at nx
                rw [nx]
                exact e1
              | false =>
                refine iteT ⟨_, rfl, _, e1, by rw [List.length_map]; rw [List.length_map] at hi; omega, ?_, ?_⟩
                · rw [z] at nx
                  simp only [Bool.false_eq_true, if_false] at nx
                  rw [nx, List.map_append]
                  exact upd_same
                · intro b u e
                  have nb : b ≠ D := ne_of_none e hD
                  rw [upd_ne nb]
                  exact e2 b u e
          · rintro H2 ⟨e1, e2⟩
            rw [List.length_map] at e1
            refine ⟨by show 0 ≤ sizeLine; decide, fun N hN => ⟨_, .list [], .lst (SqL.of (by rw [upd_ne (ne_of_none e1 hN)]; exact e1)) (dpa_txt _), .lst (SqL.of upd_same) .nil, txt_shaped (fun z m => ?_), by decide +kernel, ?_⟩⟩
            · obtain ⟨c, mc, rfl⟩ := List.mem_map.mp ((mem z).mp (List.mem_of_mem_take (List.mem_filter.mp m).1))
              exact strOk_sign ask.2 mc
            · rw [txt_nil, out_none, all_perm mem, signs_all]
              exact q _ ((e0.trans e2).new hN (o := .lst []))
        · have d2 : decide ((y.length : Int) ≤ (hi : Int)) = false := decide_eq_false (by omega)
          rw [d2]
          have tell : inB s0 lo hi (.str y) = false := by
            show (decide (lo ≤ y.length ∧ y.length ≤ hi) && _) = _
            rw [decide_eq_false (fun z => c2 z.2), Bool.false_and]
          have q' := q H (Ext.refl H)
          rw [tell] at q'
          exact iteT q'
      · have d1 : decide ((lo : Int) ≤ (y.length : Int)) = false := decide_eq_false (by omega)
        rw [d1]
        have tell : inB s0 lo hi (.str y) = false := by
          show (decide (lo ≤ y.length ∧ y.length ≤ hi) && _) = _
          rw [decide_eq_false (fun z => c1 z.1), Bool.false_and]
        have q' := q H (Ext.refl H)
        rw [tell] at q'
        exact iteF ⟨_, rfl, iteT q'⟩
    | int i => exact iteT (iteT (q H (Ext.refl H)))
    | bl b => exact iteT (iteT (q H (Ext.refl H)))
    | non => exact iteT (iteT (q H (Ext.refl H)))
    | ref a => exact iteT (iteT (q H (Ext.refl H)))
    | _ => exact ask.elim
end
end K0

/-! the law's own order -/
namespace K0
open PySem PySem.Spec PyProof.Rows L2 XSt NX
open PySem.W (Frag)
def spSorted (K : Frag) : Sp := fun vs H Q _ => ∃ (l : Addr) (ys : List Str), vs = [.ref l] ∧ SqL K H l (ys.map V.str) ∧ ys.length < 64 ∧ (∀ y ∈ ys, y.length ≤ 8000) ∧ ∀ q H', H q = none → Ext H H' → H' q = some (.tup ((ordT ys).map V.str)) → Q (.ref q) H'
section
variable {P : Program} {w : World} {K : Frag} {mg : Str → Option Value} {base : Heap} {f fB fS : Addr} {fd dB dS : FuncData}
theorem scSorted : FnScope ["lot", "pair", "piece"] ["lot"] (defScope sSorted) := ⟨rfl, rfl, rfl, by decide +kernel, rfl, by decide +kernel, by decide +kernel⟩
theorem ok_law_sorted (F : FnP K "_law_sorted" sSorted f fd) (M : Free mg) : FnOk P w K mg base CX0 1 f fd ["lot"] (spSorted K) := by
  refine F.ok scSorted (fun vs H Q E h => ?_) (fun cdv A outer s H vs Q E hr h => ?_)
  · obtain ⟨l, ys, rfl, _⟩ := h
    rfl
  · obtain ⟨l, ys, rfl, sq, few, short, q⟩ := h
    have hs : sizeLine = 16777216 := sizeLine_eq
    refine ⟨_, PSs.nox (pss_one (ps_ret (pe_callTy call_tuple_of (by rfl) M.tuple (by decide +kernel) (pa_cons (pe_lc (own := [("pair", 1)]) (g := gName 1) (tt := tYes) (te := tOp (rIxT K) (tVar 1) (tC (.int 1))) rfl scSorted.nd
        (pi_list (pe_callB (cr_sortedP rfl hr.units) (by rfl) M.sorted (by decide +kernel) (pa_cons (pe_callTy (cr_setP rfl hr.units) (by rfl) M.set (by decide +kernel)
          (pa_cons (pe_lc (own := [("piece", 2)]) (g := gName 2) (tt := tYes) (te := tTup (tCons (tCB (rLen K) (tCons (tVar 2) tNil)) (tCons (tVar 2) tNil))) rfl scSorted.nd (pi_list (pv 0)) (blkOk_by (N := ["lot", "pair", "piece"]) (sc := defScope sSorted) (by decide +kernel))
            (fun _ _ _ _ _ => pg_name (i := 2) scSorted.nd rfl (Or.inl rfl)) (fun _ _ _ _ _ => pts_nil) (fun _ _ _ _ _ => by exact pe_tup (pa_cons (pe_callB call_len (by rfl) M.len PySem.boot_len (pa_cons (pv 2) pa_nil)) (pa_cons (pv 2) pa_nil)))) pa_nil)) pa_nil)))
        (blkOk_by (N := ["lot", "pair", "piece"]) (sc := defScope sSorted) (by decide +kernel))
        (fun _ _ _ _ _ => pg_name (i := 1) scSorted.nd rfl (Or.inl rfl)) (fun _ _ _ _ _ => pts_nil) (fun _ _ _ _ _ => by exact pe_ix ix_tup (pv 1) pe_int (fun _ _ => rfl))) pa_nil)))), ?_⟩
    refine ⟨_, rfl, l, rfl, ⟨_, sq⟩, fun D hD => ?_⟩
    refine lc_it walk_list (fun i H2 => ∃ ks : List (Addr × Int × Str), H2 D = some (.lst (ks.map fun p => V.ref p.1)) ∧ ks.map (·.2) = (ys.take i).map lenOf ∧ (∀ p ∈ ks, H2 p.1 = some (.tup [.int p.2.1, .str p.2.2])) ∧ Ext H H2)
      ⟨[], upd_same, rfl, fun _ z => (by cases z), (Ext.refl H).new hD⟩ (fun i H2 _ z => by obtain ⟨ks, _, _, _, k⟩ := z; exact sqL_ext k sq) ?_ ?_
    · rintro i x H2 H3 hi ⟨ks, e1, e2, e3, e4⟩ ⟨rfl, ex⟩
      rw [List.getElem?_map] at ex
      cases g : ys[i]? with
      | none => rw [g] at ex; cases ex
      | some y =>
        rw [g] at ex
        obtain rfl : V.str y = x := Option.some.inj ex
        have sy := short y (List.mem_of_getElem? g)
        refine ⟨rfl, _, rfl, _, y.length, rfl, ⟨by omega, rfl⟩, _, rfl, by show 2 ≤ sizeLine; omega, fun T hT => ?_⟩
        have nTD : D ≠ T := ne_of_none e1 hT
        have kl : ks.length = ((ys.take i).map lenOf).length := by rw [← e2, List.length_map]
        refine ⟨ks.map fun p => V.ref p.1, by rw [upd_ne nTD]; exact e1, by rw [List.length_map, kl, List.length_map]; have := List.length_take_le i ys; rw [List.length_map] at hi; omega, ks ++ [(T, lenOf y)], ?_, ?_, fun p m => ?_, fun b u e => ?_⟩
        · rw [List.map_append]
          exact upd_same
        · rw [List.map_append, e2, take_more g, List.map_append]
          rfl
        · rcases List.mem_append.mp m with m | m
          · have z := e3 p m
            have n1 : p.1 ≠ D := fun n => by
              rw [n, e1] at z
              cases z
            rw [upd_ne n1, upd_ne (ne_of_none z hT)]
            exact z
          · rw [List.mem_singleton.mp m]
            rw [upd_ne (Ne.symm nTD)]
            exact upd_same
        · have z := e4 b u e
          rw [upd_ne (ne_of_none e hD), upd_ne (ne_of_none z hT)]
          exact z
    · rintro H2 ⟨ks, e1, e2, e3, e4⟩
      rw [List.length_map, List.take_length] at e2
      have klen : ks.length = ys.length := by
        have z := congrArg List.length e2
        simpa using z
      refine ⟨D, ks, rfl, SqL.of e1, fun p m => SqT.of (e3 p m), by omega, fun a L ha sub pL => ?_⟩
      refine ⟨a, L, rfl, upd_same, fun p m => SqT.of (by rw [upd_ne (ne_of_none (e3 p (sub p m)) ha)]; exact e3 p (sub p m)), fun p L' hp pm eL => ?_⟩
      have told : L'.map (fun z => z.2.2) = ordT ys := by
        have z := congrArg (List.map Prod.snd) eL
        rw [List.map_map] at z
        rw [e2] at pL
        rw [← pairs_sorted pL, ← z]
        rfl
      have here : ∀ z ∈ L', (upd (upd H2 a (SO (prKit P w) a L)) p (.lst (L'.map fun q => V.ref q.1))) z.1 = some (.tup [.int z.2.1, .str z.2.2]) := fun z m => by
        have y := e3 z (sub z (pm.mem_iff.mp m))
        have y2 : (upd H2 a (SO (prKit P w) a L)) z.1 = some (.tup [.int z.2.1, .str z.2.2]) := by
          rw [upd_ne (ne_of_none y ha)]
          exact y
        rw [upd_ne (ne_of_none y2 hp)]
        exact y2
      have ext : Ext H (upd (upd H2 a (SO (prKit P w) a L)) p (.lst (L'.map fun q => V.ref q.1))) := (e4.new ha).new hp
      have lenL : L'.length ≤ 64 := by
        have z := congrArg List.length told
        rw [List.length_map] at z
        rw [z]
        unfold ordT
        rw [List.length_mergeSort]
        have := once_len ys
        omega
      obtain ⟨H3, eH⟩ : ∃ H3, upd (upd H2 a (SO (prKit P w) a L)) p (.lst (L'.map fun q => V.ref q.1)) = H3 := ⟨_, rfl⟩
      have at_ : H3 p = some (.lst (L'.map fun q => V.ref q.1)) := by rw [← eH]; exact upd_same
      rw [eH] at here ext
      refine ⟨_, rfl, ⟨_, SqL.of upd_same⟩, fun D2 hD2 => ?_⟩
      have hD2 : H3 D2 = none := by rw [← eH]; exact hD2
      refine lc_it walk_list (fun i H4 => H4 D2 = some (.lst (((L'.take i).map fun z => z.2.2).map V.str)) ∧ Ext H3 H4) ⟨upd_same, by rw [← eH] at hD2 ⊢; exact (Ext.refl _).new hD2⟩ (fun i H4 _ z => SqL.of (z.2 _ _ at_)) ?_ ?_
      · rintro i x H4 H5 hi ⟨f1, f2⟩ ⟨rfl, ex⟩
        rw [List.getElem?_map] at ex
        cases g : L'[i]? with
        | none => rw [g] at ex; cases ex
        | some z =>
          rw [g] at ex
          obtain rfl : V.ref z.1 = x := Option.some.inj ex
          have hz := f2 _ _ (here z (List.mem_of_getElem? g))
          refine ⟨rfl, _, rfl, z.1, _, _, _, rfl, rfl, SqT.of hz, atI_nat (j := 1) rfl, ?_⟩
          refine ⟨_, f1, by rw [List.length_map, List.length_map]; have := List.length_take_le i L'; have z9 := (List.getElem?_eq_some_iff.mp g).1; omega, ?_, fun b u e => ?_⟩
          · rw [take_more g, List.map_append, List.map_append]
            exact upd_same
          · rw [upd_ne (ne_of_none e hD2)]
            exact f2 b u e
      · rintro H4 ⟨f1, f2⟩
        rw [List.length_map, List.take_length, told] at f1
        refine ⟨D2, _, rfl, Or.inl ⟨SqL.of f1, fun t ht => ?_⟩⟩
        have e5 := (ext.trans f2)
        refine q t _ ?_ (e5.new ht) upd_same
        cases z : H t with
        | none => rfl
        | some o =>
          have y := ht.symm.trans (e5 _ _ z)
          cases y
end
end K0

/-! drawn texts -/
namespace K0
open PySem PySem.Spec PyProof.Rows L2 XSt NX
open PySem.W (Frag)
abbrev sLine : Stmt := top 28
def spPickS (K : Frag) : Sp := fun vs H Q _ => ∃ (j : Addr) (x : V), vs = [.ref j, x] ∧ JugAt H j ∧
  ((∃ p xs, x = .ref p ∧ SqL K H p xs ∧ p ≠ j ∧ xs ≠ [] ∧ xs.length ≤ 1000 ∧ ∀ y H', y ∈ xs → Kj j H H' → Q y H') ∨
   ∃ z : Str, x = .str z ∧ 1 ≤ z.length ∧ z.length ≤ 1000 ∧ ∀ c H', c ∈ z.cps.toList → Kj j H H' → Q (.str ⟨#[c]⟩) H')
def spLetter : Sp := fun vs H Q _ => ∃ j, vs = [.ref j] ∧ JugAt H j ∧ ∀ c H', 97 ≤ c → c ≤ 122 → Kj j H H' → Q (.str ⟨#[c]⟩) H'
def spLine : Sp := fun vs H Q _ => ∃ (j : Addr) (z : Str) (n : Nat), vs = [.ref j, .str z, .int (n : Int)] ∧ JugAt H j ∧ 1 ≤ z.length ∧ z.length ≤ 1000 ∧ n ≤ 1000 ∧
  ∀ x H', (∀ c ∈ x.cps.toList, c ∈ z.cps.toList) → x.length ≤ n → Kj j H H' → Q (.str x) H'
section
variable {P : Program} {w : World} {K : Frag} {mg : Str → Option Value} {base : Heap} {f fB fP : Addr} {fd dB dP : FuncData}
theorem scLetter : FnScope ["jug"] ["jug"] (defScope sLetter) := ⟨rfl, rfl, rfl, by decide +kernel, rfl, by decide +kernel, by decide +kernel⟩
theorem scLine : FnScope ["jug", "signs", "most", "turn"] ["jug", "signs", "most"] (defScope sLine) := ⟨rfl, rfl, rfl, by decide +kernel, rfl, by decide +kernel, by decide +kernel⟩
theorem ok_pickS (F : FnP K "_law_pick" sPick f fd) (FB : FnOk P w K mg base CX0 1 fB dB ["jug", "much"] spBit) (gB : mg "_law_bit" = some (.ref fB)) (kB : PySem.W.keepIn K (.ref fB) = true) (bB : Binds K dB ["jug", "much"] []) (M : Free mg) :
    FnOk P w K mg base CX0 2 f fd ["jug", "items"] (spPickS K) := by
  refine F.ok scPick (fun vs H Q E h => ?_) (fun cdv A outer s H vs Q E hr h => ?_)
  · obtain ⟨j, x, rfl, _⟩ := h
    rfl
  · obtain ⟨j, x, rfl, hj, way⟩ := h
    have hs : sizeLine = 16777216 := sizeLine_eq
    refine ⟨_, PSs.nox (pss_one (ps_ret (pe_ix ix_seq (pv 1) (pe_call FB hr rfl gB kB bB .nil pass0 (pa_cons (pv 0) (pa_cons (pe_callB call_len (by rfl) M.len PySem.boot_len (pa_cons (pv 1) pa_nil)) pa_nil))) (fun _ _ => rfl)))), ?_⟩
    rcases way with ⟨p, xs, rfl, sq, hpj, ne, few, q⟩ | ⟨z, rfl, one, few, q⟩
    · have h0 : 0 < xs.length := List.length_pos_iff.mpr ne
      refine ⟨_, rfl, _, rfl, _, rfl, _, xs.length, rfl, Or.inl ⟨xs, sq, rfl⟩, j, _, rfl, hj, by omega, by omega, fun r H' r0 r1 hk => ?_⟩
      have hi : r.toNat < xs.length := by omega
      have er : r = ((r.toNat : Nat) : Int) := by omega
      rw [er]
      exact Or.inl ⟨_, _, _, _, rfl, rfl, hk.sqL hpj sq, atI_nat (List.getElem?_eq_getElem hi), q _ _ (List.getElem_mem hi) hk⟩
    · refine ⟨_, rfl, _, rfl, _, rfl, _, z.length, rfl, ⟨by omega, rfl⟩, j, _, rfl, hj, by omega, by omega, fun r H' r0 r1 hk => ?_⟩
      have len : z.cps.toList.length = z.length := by rw [Array.length_toList]; rfl
      have hi : r.toNat < z.cps.toList.length := by omega
      have er : r = ((r.toNat : Nat) : Int) := by omega
      rw [er]
      exact Or.inr (Or.inr ⟨_, _, _, rfl, rfl, by omega, atI_nat (List.getElem?_eq_getElem hi), q _ _ (List.getElem_mem hi) hk⟩)

theorem abc_at : ∀ i, i < 26 → (Str.ofString "abcdefghijklmnopqrstuvwxyz").cps.toList[i]? = some (97 + i) := by decide +kernel
theorem ok_letter (F : FnP K "_law_letter" sLetter f fd) (FB : FnOk P w K mg base CX0 1 fB dB ["jug", "much"] spBit) (gB : mg "_law_bit" = some (.ref fB)) (kB : PySem.W.keepIn K (.ref fB) = true) (bB : Binds K dB ["jug", "much"] []) :
    FnOk P w K mg base CX0 2 f fd ["jug"] spLetter := by
  refine F.ok scLetter (fun vs H Q E h => ?_) (fun cdv A outer s H vs Q E hr h => ?_)
  · obtain ⟨j, rfl, _⟩ := h
    rfl
  · obtain ⟨j, rfl, hj, q⟩ := h
    refine ⟨_, PSs.nox (pss_one (ps_ret (pe_ix ix_str pe_str (pe_call FB hr rfl gB kB bB .nil pass0 (pa_cons (pv 0) (pa_cons pe_int pa_nil))) (fun _ _ => rfl)))), ?_⟩
    refine ⟨_, rfl, j, _, rfl, hj, by decide, by decide, fun r H' r0 r1 hk => ?_⟩
    have er : r = ((r.toNat : Nat) : Int) := by omega
    rw [er]
    exact ⟨_, _, _, rfl, rfl, by decide +kernel, atI_nat (abc_at r.toNat (by omega)), q _ _ (by omega) (by omega) hk⟩

theorem ok_line (F : FnP K "_law_line" sLine f fd) (M : Free mg) (mR : mg "range" = none) (FB : FnOk P w K mg base CX0 1 fB dB ["jug", "much"] spBit) (gB : mg "_law_bit" = some (.ref fB)) (kB : PySem.W.keepIn K (.ref fB) = true) (bB : Binds K dB ["jug", "much"] [])
    (FP : FnOk P w K mg base CX0 2 fP dP ["jug", "items"] (spPickS K)) (gP : mg "_law_pick" = some (.ref fP)) (kP : PySem.W.keepIn K (.ref fP) = true) (bP : Binds K dP ["jug", "items"] []) :
    FnOk P w K mg base CX0 3 f fd ["jug", "signs", "most"] spLine := by
  refine F.ok scLine (fun vs H Q E h => ?_) (fun cdv A outer s H vs Q E hr h => ?_)
  · obtain ⟨j, z, n, rfl, _⟩ := h
    rfl
  · obtain ⟨j, z, n, rfl, hj, one, few, lim, q⟩ := h
    have hs : sizeLine = 16777216 := sizeLine_eq
    refine ⟨_, PSs.nox (pss_one (ps_ret (pe_bm PySem.F.plainAttrs_str PySem.F.slot_str_join PySem.F.type_str_join mt_join pe_str
      (pa_cons (pe_lc (own := [("turn", 3)]) (g := gName 3) (tt := tYes) (te := tCall (spPickS K) [] E0 (tCons (tVar 0) (tCons (tVar 1) tNil))) rfl scLine.nd
        (pi_range1 (by rfl) mR (pa_cons (pe_call FB (hr.mono (by decide)) (by rfl) gB kB bB .nil pass0 (pa_cons (pv 0) (pa_cons (pe_op op_add (pv 2) pe_int) pa_nil))) pa_nil))
        (blkOk_by (N := ["jug", "signs", "most", "turn"]) (sc := defScope sLine) (by decide +kernel)) (fun _ _ _ _ _ => pg_name (i := 3) scLine.nd rfl (Or.inl rfl)) (fun _ _ _ _ _ => pts_nil)
        (fun _ _ _ _ _ => by exact pe_call FP hr (by rfl) gP kP bP .nil pass0 (pa_cons (pv 0) (pa_cons (pv 1) pa_nil)))) pa_nil)))), ?_⟩
    refine ⟨rfl, _, rfl, _, rfl, _, _, rfl, rfl, j, _, rfl, hj, by omega, by omega, fun r H1 r0 r1 hk => ?_⟩
    refine ⟨_, rfl, by omega, by omega, fun D hD => ?_⟩
    have nDj : D ≠ j := fun z => by
      obtain ⟨a, b, c, e, _⟩ := hk.2
      rw [z, e] at hD
      cases hD
    have hDH : H D = none := by
      cases e : H D with
      | none => rfl
      | some o =>
        rw [hk.1 D o nDj e] at hD
        cases hD
    refine lc_range (n := r.toNat) (fun i H2 => ∃ l : List Str, H2 D = some (.lst (l.map V.str)) ∧ l.length = i ∧ (∀ y ∈ l, ∃ c, y = ⟨#[c]⟩ ∧ c ∈ z.cps.toList) ∧ Kj j H H2) ⟨[], upd_same, rfl, fun _ y => (by cases y), hk.new hDH nDj⟩ ?_ ?_
    · rintro i H2 hi ⟨l, e1, e2, e3, k2⟩
      refine ⟨rfl, _, rfl, _, rfl, j, _, rfl, k2.2, Or.inr ⟨z, rfl, one, few, fun c H3 mc k3 => ?_⟩⟩
      have e4 := k3.1 D _ nDj e1
      refine ⟨_, e4, by rw [List.length_map]; omega, l ++ [⟨#[c]⟩], ?_, by rw [List.length_append, e2]; rfl, fun y my => ?_, (k2.trans k3).new hDH nDj⟩
      · rw [List.map_append]
        exact upd_same
      · rcases List.mem_append.mp my with my | my
        · exact e3 y my
        · exact ⟨c, List.mem_singleton.mp my, mc⟩
    · rintro H2 ⟨l, e1, e2, e3, k2⟩
      have ones : (l.map (·.length)).sum ≤ l.length := sum_ones l fun y my => by
        obtain ⟨c, rfl, _⟩ := e3 y my
        exact Nat.le_refl _
      have e0 : (Str.ofString "").length = 0 := rfl
      refine ⟨_, D, l, rfl, rfl, Or.inl (SqL.of e1), by rw [e0]; omega, q _ H2 (fun c mc => ?_) ?_ k2⟩
      · have y : (Txt.join (Str.ofString "") l).cps.toList = (l.map fun x => x.cps.toList).flatten := join_list l
        rw [y] at mc
        obtain ⟨t, mt, mc⟩ := List.mem_flatten.mp mc
        obtain ⟨y, my, rfl⟩ := List.mem_map.mp mt
        obtain ⟨d, rfl, md⟩ := e3 y my
        obtain rfl : c = d := List.mem_singleton.mp mc
        exact md
      · have y : (Txt.join (Str.ofString "") l).cps.toList = (l.map fun x => x.cps.toList).flatten := join_list l
        have len : (Txt.join (Str.ofString "") l).cps.toList.length = (Txt.join (Str.ofString "") l).length := by rw [Array.length_toList]; rfl
        have sum : ∀ l : List Str, (l.map fun x => x.cps.toList).flatten.length = (l.map (·.length)).sum := by
          intro l
          induction l with
          | nil => rfl
          | cons a l ih =>
            rw [List.map_cons, List.flatten_cons, List.length_append, ih, List.map_cons, List.sum_cons, Array.length_toList]
            rfl
        rw [← len, y, sum]
        omega
end
end K0

/-! drawn numbers -/
namespace K0
open PySem PySem.Spec PyProof.Rows L2 XSt NX
open PySem.W (Frag)
abbrev sNumbers : Stmt := top 32
/-- a new list of whole numbers -/
def spNumbers : Sp := fun vs H Q _ => ∃ (j : Addr) (c : Int), vs = [.ref j, .int c] ∧ JugAt H j ∧ ∀ p H' (ns : List Int), H p = none → p ≠ j → H' p = some (.lst (ns.map V.int)) → ns.length ≤ 20 → Kj j H H' → Q (.ref p) H'
theorem jug_none {H : Hp} {j p : Addr} (h : JugAt H j) (n : H p = none) : p ≠ j := fun z => by
  obtain ⟨a, b, c, e, _⟩ := h
  rw [z, e] at n
  cases n
theorem Kj.none {H H' : Hp} {j p : Addr} (k : Kj j H H') (n : H' p = none) : H p = none := by
  have d := jug_none k.2 n
  cases e : H p with
  | none => rfl
  | some o =>
    rw [k.1 _ _ d e] at n
    cases n
section
variable {P : Program} {w : World} {K : Frag} {mg : Str → Option Value} {base : Heap} {f fB fP : Addr} {fd dB dP : FuncData}
theorem scNumbers : FnScope ["jug", "cell", "great", "near", "found", "more", "number"] ["jug", "cell"] (defScope sNumbers) := ⟨rfl, rfl, rfl, by decide +kernel, rfl, by decide +kernel, by decide +kernel⟩
theorem ok_numbers (F : FnP K "_law_numbers" sNumbers f fd) (M : Free mg) (FB : FnOk P w K mg base CX0 1 fB dB ["jug", "much"] spBit) (gB : mg "_law_bit" = some (.ref fB)) (kB : PySem.W.keepIn K (.ref fB) = true) (bB : Binds K dB ["jug", "much"] []) :
    FnOk P w K mg base CX0 2 f fd ["jug", "cell"] spNumbers := by
  refine F.ok scNumbers (fun vs H Q E h => ?_) (fun cdv A outer s H vs Q E hr h => ?_)
  · obtain ⟨j, c, rfl, _⟩ := h
    rfl
  · obtain ⟨j, c, rfl, hj, q⟩ := h
    have hs : sizeLine = 16777216 := sizeLine_eq
    refine ⟨_, PSs.nox (pss_cons (ps_asg (pe_tup (pa_cons (pe_op op_mod (pe_callTy call_int1 (by rfl) M.int (by decide +kernel) (pa_cons (pv 1) pa_nil)) (pe_op op_mulX (pe_op op_powX (pe_op op_powX pe_int pe_int) pe_int) (pe_op op_powX pe_int pe_int))) (pa_cons (pe_op op_powX (pe_op op_powX pe_int pe_int) pe_int) pa_nil)))
        (pg_tup (by rfl) (pgs_cons (pg_name (i := 2) scNumbers.nd rfl (.inl rfl)) (pgs_cons (pg_name (i := 3) scNumbers.nd rfl (.inr rfl)) pgs_nil))))
      (pss_cons (ps_set (i := 4) scNumbers.nd rfl (.inl rfl) (pe_op op_cat (pe_lc (own := [("more", 5)]) (g := gName 5) (tt := tYes) (te := tOp (rI0 fun i j => .int (i + j)) (tVar 3) (tVar 5)) rfl scNumbers.nd (pi_tup (pe_tup (pa_cons (pe_op op_sub pe_int pe_int) (pa_cons (pe_op op_sub pe_int pe_int) (pa_cons pe_int (pa_cons pe_int pa_nil))))))
          (blkOk_by (N := ["jug", "cell", "great", "near", "found", "more", "number"]) (sc := defScope sNumbers) (by decide +kernel)) (fun _ _ _ _ _ => pg_name (i := 5) scNumbers.nd rfl (Or.inl rfl)) (fun _ _ _ _ _ => pts_nil) (fun _ _ _ _ _ => by exact pe_op op_add (pv 3) (pv 5)))
        (pe_lst (pa_cons (pv 2) (pa_cons (pe_call FB hr rfl gB kB bB .nil pass0 (pa_cons (pv 0) (pa_cons pe_int pa_nil))) (pa_cons pe_int pa_nil))))))
      (pss_one (ps_ret (pe_op op_cat (pv 4) (pe_lc (own := [("number", 6)]) (g := gName 6) (tt := tYes) (te := tOp (rI0 fun i j => .int (i - j)) (tC (.int 0)) (tVar 6)) rfl scNumbers.nd (pi_list (pv 4))
          (blkOk_by (N := ["jug", "cell", "great", "near", "found", "more", "number"]) (sc := defScope sNumbers) (by decide +kernel)) (fun _ _ _ _ _ => pg_name (i := 6) scNumbers.nd rfl (Or.inl rfl)) (fun _ _ _ _ _ => pts_nil) (fun _ _ _ _ _ => by exact pe_op op_sub pe_int (pv 6)))))))), ?_⟩
    have hpos : (0 : Int) < (10 ^ (50 : Int).toNat) ^ (4 : Int).toNat * 10 ^ (10 : Int).toNat := by decide +kernel
    refine ⟨_, rfl, .inl ⟨c, rfl, _, _, rfl, rfl, ⟨by decide, by decide +kernel⟩, _, _, rfl, rfl, ⟨by decide, by decide +kernel⟩, _, _, rfl, rfl, ⟨by decide, by decide +kernel⟩, _, _, rfl, rfl, (by unfold CMulX; decide +kernel), _, _, rfl, rfl, hpos, ?_⟩⟩
    refine ⟨_, _, rfl, rfl, ⟨by decide, by decide +kernel⟩, _, _, rfl, rfl, ⟨by decide, by decide +kernel⟩, by show 2 ≤ sizeLine; omega, fun T hT => ?_⟩
    have nT := jug_none hj hT
    refine ⟨T, _, rfl, SqT.of upd_same, rfl, _, _, rfl, _, _, rfl, rfl, ?_⟩
    dsimp only
    generalize c % ((10 ^ (50 : Int).toNat) ^ (4 : Int).toNat * 10 ^ (10 : Int).toNat) = great
    generalize ((10 : Int) ^ (50 : Int).toNat) ^ (4 : Int).toNat = near
    have k0 : Kj j H (upd H T (.tup [.int great, .int near])) := (Kj.refl hj).new hT nT
    generalize upd H T (.tup [.int great, .int near]) = H0 at k0
    refine ⟨_, _, rfl, rfl, _, _, rfl, rfl, by show 4 ≤ sizeLine; omega, fun T2 hT2 => ?_⟩
    have k1 : Kj j H (upd H0 T2 (.tup [.int (0 - 2), .int (0 - 1), .int 0, .int 1])) := k0.new (k0.none hT2) (jug_none k0.2 hT2)
    have e1 : (upd H0 T2 (.tup [.int (0 - 2), .int (0 - 1), .int 0, .int 1])) T2 = some (.tup [.int (0 - 2), .int (0 - 1), .int 0, .int 1]) := upd_same
    generalize upd H0 T2 (.tup [.int (0 - 2), .int (0 - 1), .int 0, .int 1]) = H1 at k1 e1
    refine ⟨T2, rfl, ⟨_, SqT.of e1⟩, fun D hD => ?_⟩
    have nD := jug_none k1.2 hD
    have nDT : T2 ≠ D := ne_of_none e1 hD
    refine lc_it walk_tup (fun i H2 => ∃ ns : List Int, H2 D = some (.lst (ns.map V.int)) ∧ ns.length = i ∧ Kj j H H2 ∧ H2 T2 = some (.tup [.int (0 - 2), .int (0 - 1), .int 0, .int 1])) ⟨[], upd_same, rfl, k1.new (k1.none hD) nD, by rw [upd_ne nDT]; exact e1⟩ (fun i H2 _ z => by obtain ⟨_, _, _, _, y⟩ := z; exact SqT.of y) ?_ ?_
    · rintro i x H2 H3 hi ⟨ns, f1, f2, f3, f4⟩ ⟨rfl, ex⟩
      have mx : x ∈ [V.int (0 - 2), .int (0 - 1), .int 0, .int 1] := List.mem_of_getElem? ex
      have ix : ∃ n, x = .int n := by
        simp only [List.mem_cons, List.not_mem_nil, or_false] at mx
        rcases mx with rfl | rfl | rfl | rfl <;> exact ⟨_, rfl⟩
      obtain ⟨n, rfl⟩ := ix
      refine ⟨rfl, _, rfl, _, rfl, _, _, rfl, rfl, _, f1, by rw [List.length_map, f2]; have z : i < 4 := hi; omega, ns ++ [near + n], ?_, by rw [List.length_append, f2]; rfl, f3.new (k1.none hD) nD, by rw [upd_ne nDT]; exact f4⟩
      rw [List.map_append]
      exact upd_same
    · rintro H2 ⟨ns, f1, f2, f3, f4⟩
      have f2 : ns.length = 4 := f2
      refine ⟨_, rfl, _, rfl, j, _, rfl, f3.2, by decide, by decide, fun r H3 r0 r1 hk => ?_⟩
      have g1 := hk.1 D _ nD f1
      have k3 := f3.trans hk
      refine ⟨by show 3 ≤ sizeLine; omega, fun L hL => ?_⟩
      have k4 : Kj j H (upd H3 L (.lst [.int great, .int r, .int 0])) := k3.new (k3.none hL) (jug_none k3.2 hL)
      have g2 : (upd H3 L (.lst [.int great, .int r, .int 0])) D = some (.lst (ns.map V.int)) := by rw [upd_ne (ne_of_none g1 hL)]; exact g1
      have g3 : (upd H3 L (.lst [.int great, .int r, .int 0])) L = some (.lst [.int great, .int r, .int 0]) := upd_same
      generalize upd H3 L (.lst [.int great, .int r, .int 0]) = H4 at k4 g2 g3
      refine ⟨D, L, _, _, rfl, rfl, g2, g3, by rw [List.length_map, f2]; show 4 + 3 ≤ sizeLine; omega, fun p hp => ?_⟩
      have k5 : Kj j H (upd H4 p (.lst (ns.map V.int ++ [.int great, .int r, .int 0]))) := k4.new (k4.none hp) (jug_none k4.2 hp)
      have g5 : (upd H4 p (.lst (ns.map V.int ++ [.int great, .int r, .int 0]))) p = some (.lst ((ns ++ [great, r, 0]).map V.int)) := by rw [List.map_append]; exact upd_same
      have np := jug_none k4.2 hp
      generalize upd H4 p (.lst (ns.map V.int ++ [.int great, .int r, .int 0])) = H5 at k5 g5
      have len : (ns ++ [great, r, 0]).length = 7 := by rw [List.length_append, f2]; rfl
      generalize ns ++ [great, r, 0] = ms at g5 len
      refine ⟨_, rfl, _, rfl, p, rfl, ⟨_, SqL.of g5⟩, fun D2 hD2 => ?_⟩
      have nD2 := jug_none k5.2 hD2
      have npD : p ≠ D2 := ne_of_none g5 hD2
      refine lc_it walk_list (fun i H2 => ∃ ks : List Int, H2 D2 = some (.lst (ks.map V.int)) ∧ ks.length = i ∧ Kj j H H2 ∧ H2 p = some (.lst (ms.map V.int))) ⟨[], upd_same, rfl, k5.new (k5.none hD2) nD2, by rw [upd_ne npD]; exact g5⟩ (fun i H2 _ z => by obtain ⟨_, _, _, _, y⟩ := z; exact SqL.of y) ?_ ?_
      · rintro i x H6 H7 hi ⟨ks, f1, f2, f3, f4⟩ ⟨rfl, ex⟩
        rw [List.getElem?_map] at ex
        cases g : ms[i]? with
        | none => rw [g] at ex; cases ex
        | some m =>
          rw [g] at ex
          obtain rfl : V.int m = x := Option.some.inj ex
          rw [List.length_map] at hi
          refine ⟨rfl, _, rfl, _, _, rfl, rfl, _, f1, by rw [List.length_map, f2]; omega, ks ++ [0 - m], ?_, by rw [List.length_append, f2]; rfl, f3.new (k5.none hD2) nD2, by rw [upd_ne npD]; exact f4⟩
          rw [List.map_append]
          exact upd_same
      · rintro H6 ⟨ks, f1, f2, f3, f4⟩
        rw [List.length_map] at f2
        refine ⟨p, D2, _, _, rfl, rfl, f4, f1, by rw [List.length_map, List.length_map]; omega, fun t ht => ?_⟩
        refine q t _ (ms ++ ks) (f3.none ht) (jug_none f3.2 ht) ?_ (by rw [List.length_append]; omega) (f3.new (f3.none ht) (jug_none f3.2 ht))
        rw [List.map_append]
        exact upd_same
end
end K0

/-! drawn strings -/
namespace K0
open PySem PySem.Spec PyProof.Rows L2 XSt NX
open PySem.W (Frag)
abbrev sStrings : Stmt := top 33
/-- a string that can be asked about -/
def Fine (x : Str) : Prop := x.length ≤ 200 ∧ PyData.strOk x = true
def spStrings : Sp := fun vs H Q _ => ∃ (j : Addr), vs = [.ref j] ∧ JugAt H j ∧ ∀ p H' (xs : List Str), H p = none → p ≠ j → H' p = some (.lst (xs.map V.str)) → (∀ x ∈ xs, Fine x) → Str.ofString "abc" ∈ xs → xs.length ≤ 25 → Kj j H H' → Q (.ref p) H'
theorem strOk_all {x : Str} : PyData.strOk x = true ↔ ∀ c ∈ x.cps.toList, c < 0x110000 := by
  unfold PyData.strOk
  rw [Array.all_eq_true']
  constructor
  · intro h c m
    have z := h c (Array.mem_toList_iff.mp m)
    simpa using z
  · intro h c m
    have z := h c (Array.mem_toList_iff.mpr m)
    simpa using z
theorem cps_app (a b : Str) : (a ++ b).cps.toList = a.cps.toList ++ b.cps.toList := by
  show (a.cps ++ b.cps).toList = _
  rw [Array.toList_append]
theorem len_app (a b : Str) : (a ++ b).length = a.length + b.length := by
  show (a.cps ++ b.cps).size = _
  rw [Array.size_append]
  rfl
theorem strOk_app {a b : Str} (x : PyData.strOk a = true) (y : PyData.strOk b = true) : PyData.strOk (a ++ b) = true := by
  rw [strOk_all] at *
  intro c m
  rw [cps_app, List.mem_append] at m
  exact m.elim (x c) (y c)
theorem cut_mem {z : Str} {lo hi : Option Int} {c : Nat} (m : c ∈ (cutS z lo hi).cps.toList) : c ∈ z.cps.toList := by
  have m2 : c ∈ (z.cps.toList.drop (HT.sIx z.length 0 lo)).take (HT.sIx z.length z.length hi - HT.sIx z.length 0 lo) := by
    have e : (cutS z lo hi).cps.toList = (z.cps.toList.drop (HT.sIx z.length 0 lo)).take (HT.sIx z.length z.length hi - HT.sIx z.length 0 lo) := rfl
    rw [← e]
    exact m
  exact List.mem_of_mem_drop (List.mem_of_mem_take m2)
theorem strOk_cut {z : Str} (lo hi : Option Int) (h : PyData.strOk z = true) : PyData.strOk (cutS z lo hi) = true := by
  rw [strOk_all] at *
  exact fun c m => h c (cut_mem m)
theorem join_sum : ∀ l : List Str, (l.map fun x => x.cps.toList).flatten.length = (l.map (·.length)).sum := by
  intro l
  induction l with
  | nil => rfl
  | cons a l ih =>
    rw [List.map_cons, List.flatten_cons, List.length_append, ih, List.map_cons, List.sum_cons, Array.length_toList]
    rfl
theorem join_len (l : List Str) : (Txt.join ⟨#[]⟩ l).length = (l.map (·.length)).sum := by
  have len : (Txt.join ⟨#[]⟩ l).cps.toList.length = (Txt.join ⟨#[]⟩ l).length := by rw [Array.length_toList]; rfl
  rw [← len, join_list, join_sum]
theorem join_mem {l : List Str} {c : Nat} (m : c ∈ (Txt.join ⟨#[]⟩ l).cps.toList) : ∃ y ∈ l, c ∈ y.cps.toList := by
  rw [join_list] at m
  obtain ⟨t, mt, mc⟩ := List.mem_flatten.mp m
  obtain ⟨y, my, rfl⟩ := List.mem_map.mp mt
  exact ⟨y, my, mc⟩
theorem jug_same {H H' : Hp} {j : Addr} (h : JugAt H j) (k : Ext H H') : JugAt H' j := by
  obtain ⟨a, b, c, e, z⟩ := h
  exact ⟨a, b, c, k _ _ e, z⟩
theorem Kj.ext {H H' H2 : Hp} {j : Addr} (k : Kj j H H') (e : Ext H' H2) : Kj j H H2 := ⟨fun b o n z => e b o (k.1 b o n z), jug_same k.2 e⟩
def firsts : List Str := [Str.ofString "", Str.ofString "abcdefgh", Str.ofString "abcdefghi", Str.ofString "abc", Str.ofString "abcd", Str.ofString "aa", Str.ofString "ba", Str.ofString "az", Str.ofString "A", Str.ofString "a b"]
theorem firsts_ok : (firsts.all fun x => decide (x.length ≤ 200) && PyData.strOk x) = true := by decide +kernel
def oddOnes : List Str := [Str.ofString "A", Str.ofString "Z", Str.ofString "7", Str.ofString " ", Str.ofString "_", Str.ofString "\n", Str.ofString "@", Str.ofString "{", Str.ofString "."]
theorem odd_ok : (oddOnes.all fun x => decide (x.length ≤ 1) && PyData.strOk x) = true := by decide +kernel
section
variable {P : Program} {w : World} {K : Frag} {mg : Str → Option Value} {base : Heap} {f fB fP fL : Addr} {fd dB dP dL : FuncData}
theorem scStrings : FnScope ["jug", "found", "turn", "line", "spot", "odd", "at"] ["jug"] (defScope sStrings) := ⟨rfl, rfl, rfl, by decide +kernel, rfl, by decide +kernel, by decide +kernel⟩
theorem ok_strings (F : FnP K "_law_strings" sStrings f fd) (M : Free mg) (mR : mg "range" = none) (FB : FnOk P w K mg base CX0 1 fB dB ["jug", "much"] spBit) (gB : mg "_law_bit" = some (.ref fB)) (kB : PySem.W.keepIn K (.ref fB) = true) (bB : Binds K dB ["jug", "much"] [])
    (FP : FnOk P w K mg base CX0 2 fP dP ["jug", "items"] (spPickS K)) (gP : mg "_law_pick" = some (.ref fP)) (kP : PySem.W.keepIn K (.ref fP) = true) (bP : Binds K dP ["jug", "items"] [])
    (FL : FnOk P w K mg base CX0 2 fL dL ["jug"] spLetter) (gL : mg "_law_letter" = some (.ref fL)) (kL : PySem.W.keepIn K (.ref fL) = true) (bL : Binds K dL ["jug"] []) :
    FnOk P w K mg base CX0 3 f fd ["jug"] spStrings := by
  refine F.ok scStrings (fun vs H Q E h => ?_) (fun cdv A outer s H vs Q E hr h => ?_)
  · obtain ⟨j, rfl, _⟩ := h
    rfl
  · obtain ⟨j, rfl, hj, q⟩ := h
    have hs : sizeLine = 16777216 := sizeLine_eq
    refine ⟨_, PSs.nox (pss_cons (ps_set (i := 1) scStrings.nd rfl (.inl rfl) (pe_lst (pa_cons pe_str (pa_cons pe_str (pa_cons pe_str (pa_cons pe_str (pa_cons pe_str (pa_cons pe_str (pa_cons pe_str (pa_cons pe_str (pa_cons pe_str (pa_cons pe_str pa_nil))))))))))))
      (pss_cons (ps_for PassesOwn.never rfl (pi_range1 (by rfl) mR (pa_cons pe_int pa_nil)) (pg_name (i := 2) scStrings.nd rfl (.inl rfl))
        (pss_cons (ps_set (i := 3) scStrings.nd rfl (.inl rfl) (pe_bm PySem.F.plainAttrs_str PySem.F.slot_str_join PySem.F.type_str_join mt_join pe_str
          (pa_cons (pe_lc (own := [("at", 6)]) (g := gName 6) (tt := tYes) (te := tCall spLetter [] E0 (tCons (tVar 0) tNil)) rfl scStrings.nd
            (pi_range1 (by rfl) mR (pa_cons (pe_call FB (hr.mono (by decide)) (by rfl) gB kB bB .nil pass0 (pa_cons (pv 0) (pa_cons pe_int pa_nil))) pa_nil))
            (blkOk_by (N := ["jug", "found", "turn", "line", "spot", "odd", "at"]) (sc := defScope sStrings) (by decide +kernel)) (fun _ _ _ _ _ => pg_name (i := 6) scStrings.nd rfl (Or.inl rfl)) (fun _ _ _ _ _ => pts_nil)
            (fun _ _ _ _ _ => by exact pe_call FL hr (by rfl) gL kL bL .nil pass0 (pa_cons (pv 0) pa_nil))) pa_nil)))
        (pss_cons (ps_set (i := 4) scStrings.nd rfl (.inl rfl) (pe_call FB (hr.mono (by decide)) (by rfl) gB kB bB .nil pass0 (pa_cons (pv 0) (pa_cons (pe_op op_add (pe_callB call_len (by rfl) M.len PySem.boot_len (pa_cons (pv 3) pa_nil)) pe_int) pa_nil))))
        (pss_cons (ps_set (i := 5) scStrings.nd rfl (.inl rfl) (pe_call FP hr (by rfl) gP kP bP .nil pass0 (pa_cons (pv 0) (pa_cons (pe_lst (pa_cons pe_str (pa_cons pe_str (pa_cons pe_str (pa_cons pe_str (pa_cons pe_str (pa_cons pe_str (pa_cons pe_str (pa_cons pe_str (pa_cons pe_str pa_nil)))))))))) pa_nil))))
        (pss_one (ps_set (i := 1) scStrings.nd rfl (.inl rfl) (pe_op op_cat (pv 1) (pe_lst (pa_cons (pv 3) (pa_cons (pe_op op_add_str (pe_op op_add_str (pe_slice sl_str (pv 3) po_none (po_some (pv 4))) (pv 5)) (pe_slice sl_str (pv 3) (po_some (pv 4)) po_none))
          (pa_cons (pe_slice sl_str (pe_bm PySem.F.plainAttrs_str PySem.F.slot_str_join PySem.F.type_str_join mt_join pe_str
            (pa_cons (pe_callB (cr_sortedS rfl hr.units) (by rfl) M.sorted (by decide +kernel) (pa_cons (pe_callTy (cr_setS rfl) (by rfl) M.set (by decide +kernel) (pa_cons (pv 3) pa_nil)) pa_nil)) pa_nil)) po_none (po_some (pe_call FB (hr.mono (by decide)) (by rfl) gB kB bB .nil pass0 (pa_cons (pv 0) (pa_cons pe_int pa_nil))))) pa_nil)))))))))))
      (pss_one (ps_ret (pv 1))))), ?_⟩
    refine ⟨by show 10 ≤ sizeLine; omega, fun p0 hp0 => ?_⟩
    have f0 : ∀ x ∈ firsts, Fine x := fun x m => by
      have z := List.all_eq_true.mp firsts_ok x m
      rw [Bool.and_eq_true, decide_eq_true_eq] at z
      exact z
    have k0 : Kj j H (upd H p0 (.lst (firsts.map V.str))) := (Kj.refl hj).new hp0 (jug_none hj hp0)
    refine ⟨5, rfl, by decide, by decide, ?_⟩
    refine for_range (n := 5) (fun i σ H' => ∃ (pf : Addr) (o2 o3 o4 o5 o6 : Option V) (xs : List Str), σ = [some (.ref j), some (.ref pf), o2, o3, o4, o5, o6] ∧ H' pf = some (.lst (xs.map V.str)) ∧ (∀ x ∈ xs, Fine x) ∧ Str.ofString "abc" ∈ xs ∧ xs.length = 10 + 3 * i ∧ pf ≠ j ∧ H pf = none ∧ Kj j H H')
      ⟨p0, _, _, _, _, _, firsts, rfl, upd_same, f0, by decide +kernel, rfl, jug_none hj hp0, hp0, k0⟩ ?_ ?_
    · rintro i σ H0 hi ⟨pf, o2, o3, o4, o5, o6, xs, rfl, e1, fine, abc, len, npf, hpf, k1⟩
      refine ⟨rfl, _, rfl, j, _, rfl, k1.2, by decide, by decide, fun r H1 r0 r1 hk => ⟨_, rfl, by omega, by omega, fun D hD => ?_⟩⟩
      have k2 := k1.trans hk
      have nD := jug_none k2.2 hD
      have hDH := k2.none hD
      have npD : pf ≠ D := ne_of_none (hk.1 pf _ npf e1) hD
      refine lc_range (n := r.toNat) (fun i H2 => ∃ l : List Str, H2 D = some (.lst (l.map V.str)) ∧ l.length = i ∧ (∀ y ∈ l, ∃ c, y = ⟨#[c]⟩ ∧ c ≤ 122) ∧ Kj j H H2 ∧ H2 pf = some (.lst (xs.map V.str))) ⟨[], upd_same, rfl, fun _ y => (by cases y), k2.new hDH nD, ?_⟩ ?_ ?_
      · have e2 := hk.1 pf _ npf e1
        rw [upd_ne (ne_of_none e2 hD)]
        exact e2
      · rintro i2 H2 hi2 ⟨l, g1, g2, g3, g4, g5⟩
        refine ⟨rfl, _, rfl, j, rfl, g4.2, fun c H3 c0 c1 k3 => ?_⟩
        have g6 := k3.1 D _ nD g1
        have g7 := k3.1 pf _ npf g5
        refine ⟨_, g6, by rw [List.length_map]; omega, l ++ [⟨#[c]⟩], ?_, by rw [List.length_append, g2]; rfl, fun y my => ?_, (g4.trans k3).new hDH nD, ?_⟩
        · rw [List.map_append]
          exact upd_same
        · rcases List.mem_append.mp my with my | my
          · exact g3 y my
          · exact ⟨c, List.mem_singleton.mp my, c1⟩
        · rw [upd_ne npD]
          exact g7
      · rintro H2 ⟨l, g1, g2, g3, k3, e3⟩
        have e0 : (Str.ofString "").length = 0 := rfl
        have ones : (l.map (·.length)).sum ≤ l.length := sum_ones l fun y my => by
          obtain ⟨c, rfl, _⟩ := g3 y my
          exact Nat.le_refl _
        have lineLen : (Txt.join (Str.ofString "") l).length ≤ 10 := by
          have z : (Txt.join (Str.ofString "") l).length = (l.map (·.length)).sum := join_len l
          rw [z]
          omega
        have lineOk : PyData.strOk (Txt.join (Str.ofString "") l) = true := strOk_all.mpr fun c mc => by
          obtain ⟨y, my, mc⟩ := join_mem mc
          obtain ⟨d, rfl, hd⟩ := g3 y my
          obtain rfl : c = d := List.mem_singleton.mp mc
          omega
        refine ⟨_, D, l, rfl, rfl, Or.inl (SqL.of g1), by rw [e0]; omega, ?_⟩
        generalize Txt.join (Str.ofString "") l = line at lineLen lineOk
        refine ⟨_, rfl, _, rfl, _, line.length, rfl, ⟨by omega, rfl⟩, _, _, rfl, rfl, j, _, rfl, k3.2, by omega, by omega, fun r2 H3 s0 s1 hk3 => ?_⟩
        have k4 := k3.trans hk3
        have e4 := hk3.1 pf _ npf e3
        refine ⟨_, rfl, by show 9 ≤ sizeLine; omega, fun L hL => ⟨j, .ref L, rfl, (k4.new (k4.none hL) (jug_none k4.2 hL)).2, Or.inl ⟨L, oddOnes.map V.str, rfl, SqL.of upd_same, jug_none k4.2 hL, by decide, by decide, fun y H4 my hk4 => ?_⟩⟩⟩
        have k5 : Kj j H H4 := (k4.new (k4.none hL) (jug_none k4.2 hL)).trans hk4
        have e5 : H4 pf = some (.lst (xs.map V.str)) := hk4.1 pf _ npf (by rw [upd_ne (ne_of_none e4 hL)]; exact e4)
        obtain ⟨od, mo, rfl⟩ := List.mem_map.mp my
        have oddOk := List.all_eq_true.mp odd_ok od mo
        rw [Bool.and_eq_true, decide_eq_true_eq] at oddOk
        have c1 := cutS_length line none (some r2)
        have c2 := cutS_length line (some r2) none
        have e6 : (cutS line none (some r2) ++ od).length = (cutS line none (some r2)).length + od.length := len_app _ _
        refine ⟨_, rfl, _, rfl, _, rfl, _, rfl, r2, rfl, line, rfl, by omega, _, rfl, _, _, rfl, rfl, by omega, _, rfl, _, rfl, r2, rfl, line, rfl, by omega, _, _, rfl, rfl, by omega, ?_⟩
        refine ⟨rfl, .str line, rfl, .str line, XSt.signs line, rfl, Or.inl ⟨line, rfl, rfl⟩, by rw [signs_len]; show line.length < 4096; omega, fun a S ha pS => ⟨a, S, rfl, upd_same, fun p hp => ⟨_, p, _, rfl, rfl, Or.inl (SqL.of upd_same), joined_fits (by omega) pS, ?_⟩⟩⟩
        have ext : Ext H4 (upd (upd H4 a (SO (txKit P w) a S)) p (.lst ((S.mergeSort sLe).map V.str))) := ((Ext.refl H4).new ha).new hp
        have k6 := k5.ext ext
        have e7 := ext _ _ e5
        obtain ⟨H5, eH⟩ : ∃ H5, upd (upd H4 a (SO (txKit P w) a S)) p (.lst ((S.mergeSort sLe).map V.str)) = H5 := ⟨_, rfl⟩
        rw [eH] at k6 e7
        have mem : ∀ k, k ∈ S.mergeSort sLe ↔ k ∈ XSt.signs line := fun k => ((List.mergeSort_perm _ _).mem_iff.trans pS.mem_iff).trans mem_once
        have dLen : (Txt.join (Str.ofString "") (S.mergeSort sLe)).length ≤ 10 := by
          have z : (Txt.join (Str.ofString "") (S.mergeSort sLe)).length = ((S.mergeSort sLe).map (·.length)).sum := join_len _
          rw [z]
          have z1 := sum_ones (S.mergeSort sLe) fun y my => sign_len ((mem y).mp my)
          have z2 : (S.mergeSort sLe).length = (once (XSt.signs line)).length := by rw [List.length_mergeSort, pS.length_eq]
          have z3 := once_len (XSt.signs line)
          rw [signs_len] at z3
          omega
        have dOk : PyData.strOk (Txt.join (Str.ofString "") (S.mergeSort sLe)) = true := strOk_all.mpr fun c mc => by
          obtain ⟨y, my, mc⟩ := join_mem mc
          obtain ⟨d, md, rfl⟩ := List.mem_map.mp ((mem y).mp my)
          obtain rfl : c = d := List.mem_singleton.mp mc
          exact strOk_all.mp lineOk c md
        generalize Txt.join (Str.ofString "") (S.mergeSort sLe) = dl at dLen dOk
        refine ⟨_, rfl, j, _, rfl, by have z := k6.2; rw [← eH] at z; exact z, by decide, by decide, fun r3 H6 t0 t1 hk6 => ?_⟩
        have k7 : Kj j H H6 := k6.trans (by rw [← eH]; exact hk6)
        have e8 : H6 pf = some (.lst (xs.map V.str)) := hk6.1 pf _ npf (by rw [← eH] at e7; exact e7)
        have c3 := cutS_length dl none (some r3)
        refine ⟨_, rfl, dl, rfl, by omega, by show 3 ≤ sizeLine; omega, fun L2 hL2 => ?_⟩
        have n2 : pf ≠ L2 := ne_of_none e8 hL2
        have k8 := k7.new (o := .lst [V.str line, V.str (cutS line none (some r2) ++ od ++ cutS line (some r2) none), V.str (cutS dl none (some r3))]) (k7.none hL2) (jug_none k7.2 hL2)
        refine ⟨pf, L2, _, _, rfl, rfl, by rw [upd_ne n2]; exact e8, upd_same, by rw [List.length_map]; show xs.length + 3 ≤ sizeLine; omega, fun pn hpn => ?_⟩
        refine ⟨pn, _, _, _, _, _, xs ++ [line, cutS line none (some r2) ++ od ++ cutS line (some r2) none, cutS dl none (some r3)], rfl, ?_, fun x m => ?_, List.mem_append_left _ abc, ?_, jug_none k8.2 hpn, k8.none hpn, k8.new (k8.none hpn) (jug_none k8.2 hpn)⟩
        · rw [List.map_append]
          exact upd_same
        · rcases List.mem_append.mp m with m | m
          · exact fine x m
          · simp only [List.mem_cons, List.not_mem_nil, or_false] at m
            rcases m with rfl | rfl | rfl
            · exact ⟨by omega, lineOk⟩
            · refine ⟨?_, strOk_app (strOk_app (strOk_cut _ _ lineOk) oddOk.2) (strOk_cut _ _ lineOk)⟩
              rw [len_app, len_app]
              omega
            · exact ⟨by omega, strOk_cut _ _ dOk⟩
        · rw [List.length_append, len]
          show 10 + 3 * i + 3 = _
          omega
    · rintro σ H0 ⟨pf, o2, o3, o4, o5, o6, xs, rfl, e1, fine, abc, len, npf, hpf, k1⟩
      exact ⟨_, rfl, q pf H0 xs hpf npf e1 fine abc (by omega) k1⟩
end
end K0

/-! what is told of a call -/
namespace K0
open PySem PySem.Spec PyProof.Rows L2 XSt NX LamX
open PySem.W (Frag)
abbrev sTold : Stmt := top 34
/-- the three classes, one against the other -/
structure Apart (K : Frag) (cL cT cO : Addr) : Prop where
  ll : PySem.W.exmOne K (.ref cL) (.ref cL) = some true
  ol : PySem.W.exmOne K (.ref cO) (.ref cL) = some false
  tl : PySem.W.exmOne K (.ref cT) (.ref cL) = some false
  oo : PySem.W.exmOne K (.ref cO) (.ref cO) = some true
  to : PySem.W.exmOne K (.ref cT) (.ref cO) = some false
  tt : PySem.W.exmOne K (.ref cT) (.ref cT) = some true
/-- the word for an error -/
def wordOf (cL cT cO : Addr) (Q : VK) : XK := fun cls _ H' => (cls = .ref cL ∧ Q (.str "letters") H') ∨ (cls = .ref cO ∧ Q (.str "operation") H') ∨ (cls = .ref cT ∧ Q (.str "text") H')
def TTold3 (cL cT cO : Addr) : (XK → Hp → VK → Prop) → Hp → VK → Prop := fun tl H Q => tl (wordOf cL cT cO Q) H Q
theorem told_gives3 {X : Cx} {q : Str} {g : Addr} {cdg : Value} {cL cT cO : Addr} (R : Refusals X.K X.mg cL cT cO) (B : Apart X.K cL cT cO) :
    GivesTo X ["call"] "_law_told" (defScope sTold) g cdg (defBody sTold) "call" q (TTold3 cL cT cO) := by
  intro f c' s H Q tl act hc h
  refine ⟨_, pss_one (ps_try_many (X := (cxOf C8.CX0 X.prog X.w X.K X.mg X.base ["call"] "_law_told" (defScope sTold) g cdg X.A X.stack s H C8.E0).nox)
      (l := [(.ref cL, fun _ _ _ => tRet (tC (.str "letters"))), (.ref cO, fun _ _ _ => tRet (tC (.str "operation"))), (.ref cT, fun _ _ _ => tRet (tC (.str "text")))])
      (tb := fun W D σ H => ∃ Ech : XK, (∀ cls d σ' H', Ech cls d H' → W cls d σ' H') ∧ σ[0]? = some (some (.ref f)) ∧ H c' = some (CodeO c' q) ∧ tl Ech H D.rt)
      rfl rfl LamX.takes0 (fun W pn xe tk _ => ?_) ?_), ?_⟩
  · refine ⟨fun pins s' σ H' D I h' => ?_⟩
    obtain ⟨Ech, hW, h1, h2, h3⟩ := h'
    have hq := fun p1 p2 p3 => pss_one (ps_ret (pos := p3) (act W pn xe Ech p1 p2 tk hW))
    exact (hq _ _ _).run pins s' σ H' D I ⟨h1, h2, h3⟩
  · refine .cons ⟨by rfl, by decide, .inl R.letters.at_⟩ (fun a oe cls d pn _ _ => pss_one (ps_ret pe_str)) (.cons ⟨by rfl, by decide, .inl R.operation.at_⟩ (fun a oe cls d pn _ _ => pss_one (ps_ret pe_str)) (.cons ⟨by rfl, by decide, .inl R.text.at_⟩ (fun a oe cls d pn _ _ => pss_one (ps_ret pe_str)) .nil))
  · refine ⟨wordOf cL cT cO Q, fun cls d σ' H' e => ?_, rfl, hc, h⟩
    rcases e with ⟨rfl, e⟩ | ⟨rfl, e⟩ | ⟨rfl, e⟩
    · exact ⟨true, B.ll, fun _ _ _ => e, fun z => (by cases z)⟩
    · exact ⟨false, B.ol, fun z => (by cases z), fun _ => ⟨true, B.oo, fun _ _ _ => e, fun z => (by cases z)⟩⟩
    · exact ⟨false, B.tl, fun z => (by cases z), fun _ => ⟨false, B.to, fun z => (by cases z), fun _ => ⟨true, B.tt, fun _ _ _ => e, fun z => (by cases z)⟩⟩⟩
end K0

/-! the law's order, and what is refused of it -/
namespace K0
open PySem PySem.Spec PyProof.Rows L2 XSt NX LamX
open PySem.W (Frag)
abbrev sOrderRight : Stmt := top 36
/-- the code object of the def at f -/
def CodeAt (K : Frag) (f c : Addr) : Prop := ∀ oc od fd osl, K.lookup f = some ⟨oc, od, .func fd, osl⟩ → fd.code = .ref c
/-- a def whose code object is known -/
theorem okC {P : Program} {w : World} {K : Frag} {mg : Str → Option Value} {base : Heap} {x qual : Str} {params : Arguments} {body : List Stmt} {scope : Scope} {dvs : List V} {kws : List (Str × V)} {f c : Addr} {fd : FuncData}
    {CX : CXT} {N ps : List Str} {k : Nat} {sp : Sp} (F : FunD K x qual params body scope dvs kws f fd) (C : CodeAt K f c) (S : FnScope N ps scope) (len : ∀ vs H Q E, sp vs H Q E → vs.length = ps.length)
    (hbody : ∀ (A : Around) (outer : List Env) (s : Shared) (H : Hp) (vs : List V) (Q : VK) (E : XK), Room k (A.deeper (envOfC qual scope s.heap.objs.size f (.ref c))) → sp vs H Q E →
      ∃ t, PSs (cxOf CX P w K mg base N qual scope f (.ref c) A outer s H E) body t ∧ t { nx := fun _ H' => Q .non H', rt := Q } (L2.start N vs) H) : FnOk P w K mg base CX (k + 1) f fd ps sp := by
  obtain ⟨oc, od, dV, kV, doc, pm, an, cdv, ct, osl, rfl, lk, hcd, _, _⟩ := F.ex
  have e : cdv = .ref c := C _ _ _ _ lk
  subst e
  exact ⟨len, fun A outer s H args us vs Q E hr e0 hb r hsp => run_ofS lk hcd S hr e0 hb r (len _ _ _ _ hsp) fun room => hbody A outer s H vs Q E room hsp⟩
/-- what goes on: all but the jug and the tables stands -/
structure Kt (T : List (Addr × Str)) (j : Addr) (H H' : Hp) : Prop where
  keep : ∀ b o, b ≠ j → (∀ ps, o ≠ .tbl ps) → H b = some o → H' b = some o
  jug : JugAt H' j
  tabs : Tabs T H'
section
variable {P : Program} {w : World} {K : Frag} {mg : Str → Option Value} {base : Heap} {f fB fP fL fI fS fT c tb : Addr} {fd dB dP dL dI dS dT : FuncData} {cL cT cO : Addr} {T : List (Addr × Str)}
theorem scOrderRight : FnScope ["jug", "signs", "told", "bad", "lot", "odd", "turn"] ["jug", "signs"] (defScope sOrderRight) := ⟨rfl, rfl, rfl, by decide +kernel, rfl, by decide +kernel, by decide +kernel⟩
def spOrderRight (T : List (Addr × Str)) : Sp := fun vs H Q _ => ∃ (j : Addr) (z : Str), vs = [.ref j, .str z] ∧ JugAt H j ∧ lettersV (.str z) = true ∧ z.length ≤ 200 ∧ PyData.strOk z = true ∧ Tabs T H ∧ ∀ H', Kt T j H H' → Q (.bl true) H'
/-- what tells a def that gets a call -/
structure ToldOk (K : Frag) (mg : Str → Option Value) (g : Addr) : Prop where
  at_ : mg "_law_told" = some (.ref g)
  keep : PySem.W.keepIn K (.ref g) = true
  fn : ∃ (fd : FuncData), FunD K "_law_told" "_law_told" (defArgs sTold) (defBody sTold) (defScope sTold) [] [] g fd ∧ Binds K fd ["call"] []
theorem scTold : FnScope ["call"] ["call"] (defScope sTold) := ⟨rfl, rfl, rfl, by decide +kernel, rfl, by decide +kernel, by decide +kernel⟩
/-- _law_told(lambda: body) -/
theorem pe_told {X : Cx} {g c P : Addr} {k : Nat} {params : Arguments} {body : Expr} {scope : Scope} {t : XK → TE} {p lpos pos : Pos} (O : ToldOk X.K X.mg g) (R : Refusals X.K X.mg cL cT cO) (B : Apart X.K cL cT cO) (hg : Gl X "_law_told")
    (TB : TabB X.base X.mg c P) (hcode : X.env.code = .ref c) (hmT : (P, X.env.qual ++ "<lambda>") ∈ T) (hu : ∀ p ∈ T, p.1 = P → p.2 = X.env.qual ++ "<lambda>") (hr : Room (k + 2) X.A) (L : LamS X.env.scope scope) (hdef : defaultsOf params X.env = ([], []))
    (hbind : ∀ (q : Str) (cl : List (Str × Addr)) (pm cv ctv : Value), bindArgs (PySem.W.kla_fn "<lambda>" q params body scope cl pm cv ctv) ⟨[], []⟩ = pure [])
    (hbody : ∀ (A : Around) (outer : List Env) (s : Shared) (H : Hp) (E : XK) (f c' : Addr), Room k (A.deeper (lamEnv X scope s.heap.objs.size f c')) → PE (lamCx X A outer s H E scope f c') body (t E)) :
    PE X (.Call (.Name "_law_told" p) [.Lambda params body scope lpos] [] pos) (tLam T (TTold3 cL cT cO) t) := by
  obtain ⟨fd, F, bd⟩ := O.fn
  obtain ⟨oc, od, dV, kV, doc, pm, an, cdv, ct, osl, rfl, lk, hcd, _, _⟩ := F.ex
  exact pe_lamcall hg O.at_ O.keep lk hcd bd scTold rfl (.inl (by rfl)) (told_gives3 R B) TB hcode hmT hu hr L hdef hbind hbody
end
end K0

/-! the law's order, and what is refused of it -/
namespace K0
open PySem PySem.Spec PyProof.Rows L2 XSt NX LamX
open PySem.W (Frag)
/-- a def by its name, its promise -/
structure Def (P : Program) (w : World) (K : Frag) (mg : Str → Option Value) (base : Heap) (CX : CXT) (k : Nat) (x : Str) (ps : List Str) (sp : Sp) : Prop where
  ex : ∃ (f : Addr) (fd : FuncData), FnOk P w K mg base CX k f fd ps sp ∧ mg x = some (.ref f) ∧ PySem.W.keepIn K (.ref f) = true ∧ Binds K fd ps []
theorem eqvA_self : ∀ l : List Str, PyData.eqvAll (l.map PyData.str) (l.map PyData.str) = true
  | [] => by simp [PyData.eqvAll]
  | x :: l => by
    rw [List.map_cons, PyData.eqvAll, eqvA_self l]
    simp [PyData.eqv]
theorem eqvT_self (l : List Str) : PyData.eqv (.tuple (l.map PyData.str)) (.tuple (l.map PyData.str)) = true := by
  rw [PyData.eqv]
  exact eqvA_self l
theorem eqvL_self (l : List Str) : PyData.eqv (.list (l.map PyData.str)) (.list (l.map PyData.str)) = true := by
  rw [PyData.eqv]
  exact eqvA_self l
theorem letters_asc {x : Str} (h : lettersV (.str x) = true) : x.cps.toList.Pairwise (· ≤ ·) := by
  have w : (_ && (decide (x = Txt.join ⟨#[]⟩ ((once (XSt.signs x)).mergeSort sLe)) && _)) = true := h
  rw [Bool.and_eq_true, Bool.and_eq_true] at w
  have e := of_decide_eq_true w.2.1
  have q := join_list ((once (XSt.signs x)).mergeSort sLe)
  rw [← e] at q
  rw [q]
  refine flat_ones _ (fun y m => ?_) (List.pairwise_mergeSort sLe_ord.tr sLe_ord.tot _)
  obtain ⟨d, _, rfl⟩ := List.mem_map.mp (mem_once.mp ((List.mergeSort_perm _ _).mem_iff.mp m))
  exact ⟨d, rfl⟩
theorem no_ba : lettersV (.str (Str.ofString "ba")) = false := by
  cases h : lettersV (.str (Str.ofString "ba")) with
  | false => rfl
  | true =>
    have p := letters_asc h
    have e : (Str.ofString "ba").cps.toList = [98, 97] := by decide +kernel
    rw [e] at p
    exact absurd p (by decide)
theorem fine_text {z y : Str} (h1 : ∀ c ∈ y.cps.toList, c ∈ z.cps.toList) (h2 : y.length ≤ 5) : textV z 4000 (.str y) = true := by
  rw [← text_in]
  show (decide (0 ≤ y.length ∧ y.length ≤ 4000) && _) = true
  rw [decide_eq_true ⟨Nat.zero_le _, by omega⟩, Bool.true_and, List.all_eq_true]
  exact fun c m => decide_eq_true (h1 c m)
theorem tabs_kj {T : List (Addr × Str)} {H H' : Hp} {j : Addr} (t : Tabs T H) (h : JugAt H j) (k : Kj j H H') : Tabs T H' := fun p hp => by
  obtain ⟨u, v, w, ej, _⟩ := h
  obtain ⟨ps, h1, h2, h3⟩ := t p hp
  refine ⟨ps, k.1 _ _ (fun z => ?_) h1, h2, fun pos cv hc => ?_⟩
  · rw [z, ej] at h1
    cases h1
  · obtain ⟨c, e1, e2⟩ := h3 pos cv hc
    refine ⟨c, e1, k.1 _ _ (fun z => ?_) e2⟩
    rw [z, ej] at e2
    unfold CodeO at e2
    cases e2
theorem tabs_upd {T : List (Addr × Str)} {H : Hp} {p : Addr} {xs ys : List V} (t : Tabs T H) (e : H p = some (.lst xs)) : Tabs T (upd H p (.lst ys)) := fun q hq => by
  obtain ⟨ps, h1, h2, h3⟩ := t q hq
  refine ⟨ps, ?_, h2, fun pos cv hc => ?_⟩
  · rw [upd_ne (fun z => by rw [z, e] at h1; cases h1)]
    exact h1
  · obtain ⟨c, e1, e2⟩ := h3 pos cv hc
    refine ⟨c, e1, ?_⟩
    rw [upd_ne (fun z => by rw [z, e] at e2; unfold CodeO at e2; cases e2)]
    exact e2
theorem not_tbl_lst {xs : List V} : ∀ ps, HO.lst xs ≠ .tbl ps := fun ps y => by cases y
theorem not_tbl_dct {kvs : List (Key × V)} : ∀ ps, HO.dK kvs ≠ .tbl ps := fun ps y => by cases y
theorem ext_n {H H' H2 : Hp} (a : ExtN H H') (b : Ext H' H2) : ExtN H H2 := fun c o e n => b c o (a c o e n)
theorem jug_n {H H' : Hp} {j : Addr} (h : JugAt H j) (k : ExtN H H') : JugAt H' j := by
  obtain ⟨a, b, c, e, z⟩ := h
  exact ⟨a, b, c, k _ _ e (fun ps y => by cases y), z⟩
/-- what was there at first is there -/
structure Going (T : List (Addr × Str)) (j : Addr) (H H' : Hp) : Prop where
  keep : ∀ b o, b ≠ j → (∀ ps, o ≠ .tbl ps) → H b = some o → H' b = some o
  jug : JugAt H' j
  tabs : Tabs T H'
theorem Going.n {T : List (Addr × Str)} {j : Addr} {H H1 H2 : Hp} (k : Going T j H H1) (e : ExtN H1 H2) (t : Tabs T H2) : Going T j H H2 := ⟨fun b o n m z => e _ _ (k.keep b o n m z) m, jug_n k.jug e, t⟩
theorem Going.e {T : List (Addr × Str)} {j : Addr} {H H1 H2 : Hp} (k : Going T j H H1) (e : Ext H1 H2) : Going T j H H2 := ⟨fun b o n m z => e _ _ (k.keep b o n m z), jug_same k.jug e, k.tabs.ext e⟩
theorem Going.fresh {T : List (Addr × Str)} {j : Addr} {H H1 : Hp} {p : Addr} (k : Going T j H H1) (n : H1 p = none) (h : ∀ ps, H p ≠ some (.tbl ps)) : H p = none := by
  cases e : H p with
  | none => rfl
  | some o =>
    have y := k.keep p o (jug_none k.jug n) (fun ps z => h ps (by rw [e, z])) e
    rw [n] at y
    cases y
theorem no_tuple_lst {K : Frag} {H : Hp} {a : Addr} {xs : List V} (e : H a = some (.lst xs)) : NoTuple K H (.ref a) := ⟨_, .base (.lst e), rfl⟩
theorem no_tuple_dct {K : Frag} {H : Hp} {a : Addr} {kvs : List (Key × V)} (e : H a = some (.dK kvs)) : NoTuple K H (.ref a) := ⟨_, .base (.dK e), rfl⟩
theorem thing_lst {K : Frag} {H : Hp} {a : Addr} {xs : List V} (e : H a = some (.lst xs)) : Asked K H (.ref a) := ⟨false, _, .base (.lst e), rfl, rfl, rfl, rfl⟩
theorem thing_tup {K : Frag} {H : Hp} {a : Addr} {xs : List V} (e : H a = some (.tup xs)) : Asked K H (.ref a) := ⟨true, _, .base (.tup e), rfl, rfl, rfl, rfl⟩
theorem thing_dct {K : Frag} {H : Hp} {a : Addr} {kvs : List (Key × V)} (e : H a = some (.dK kvs)) : Asked K H (.ref a) := ⟨false, _, .base (.dK e), rfl, rfl, rfl, rfl⟩
/-- a sign that is none of the letters -/
theorem bad_text {z y : Str} {c : Nat} (lz : lettersV (.str z) = true) (m : c ∈ y.cps.toList) (h : c < 97) : textV z 4000 (.str y) = false := by
  rw [← signs_letters] at lz
  have w : (decide (1 ≤ z.length ∧ z.length ≤ 3) && ((decide (1 ≤ z.length ∧ z.length ≤ 8) && smallAll z) && _)) = true := lz
  rw [Bool.and_eq_true, Bool.and_eq_true, Bool.and_eq_true] at w
  have small := w.2.1.2
  unfold smallAll at small
  rw [List.all_eq_true] at small
  rw [← text_in]
  show (_ && (y.cps.toList.all fun c => decide (c ∈ z.cps.toList))) = false
  have no : (y.cps.toList.all fun c => decide (c ∈ z.cps.toList)) = false := by
    cases g : (y.cps.toList.all fun c => decide (c ∈ z.cps.toList)) with
    | false => rfl
    | true =>
      have a := List.all_eq_true.mp g c m
      have b := small c (of_decide_eq_true a)
      rw [Bool.and_eq_true, decide_eq_true_eq] at b
      omega
  rw [no, Bool.and_false]
theorem jug_eq {H : Hp} {j a : Addr} {xs : List V} (h : JugAt H j) (e : H a = some (.tup xs)) : a ≠ j := fun z => by
  obtain ⟨u, v, w, e2, _⟩ := h
  rw [z, e2] at e
  cases e
section
variable {P : Program} {w : World} {K : Frag} {mg : Str → Option Value} {base : Heap} {f g c tb : Addr} {fd : FuncData} {cL cT cO : Addr} {T : List (Addr × Str)}
theorem ok_order_right (F : FnP K "_law_order_right" sOrderRight f fd) (C : CodeAt K f c) (TB : TabB base mg c tb) (inT : (tb, Str.ofString "_law_order_right" ++ ".<locals>." ++ "<lambda>") ∈ T) (oneT : ∀ p ∈ T, p.1 = tb → p.2 = Str.ofString "_law_order_right" ++ ".<locals>." ++ "<lambda>") (M : Free mg) (mR : mg "range" = none)
    (R : Refusals K mg cL cT cO) (B : Apart K cL cT cO) (O : ToldOk K mg g)
    (DB : Def P w K mg base CX0 1 "_law_bit" ["jug", "much"] spBit) (DP : Def P w K mg base CX0 2 "_law_pick" ["jug", "items"] (spPickS K)) (DL : Def P w K mg base CX0 3 "_law_line" ["jug", "signs", "most"] spLine)
    (DI : Def P w K mg base (L2.CX P w) 5 "in_order" ["letters", "texts"] (spInOrder K cL cT cO)) (DS : Def P w K mg base CX0 1 "_law_sorted" ["lot"] (spSorted K)) :
    FnOk P w K mg base CX0 8 f fd ["jug", "signs"] (spOrderRight T) := by
  obtain ⟨fB, dB, FB, gB, kB, bB⟩ := DB.ex
  obtain ⟨fP, dP, FP, gP, kP, bP⟩ := DP.ex
  obtain ⟨fL, dL, FL, gL, kL, bL⟩ := DL.ex
  obtain ⟨fI, dI, FI, gI, kI, bI⟩ := DI.ex
  obtain ⟨fS, dS, FS, gS, kS, bS⟩ := DS.ex
  refine okC F C scOrderRight (fun vs H Q E h => ?_) (fun A outer s H vs Q E hr h => ?_)
  · obtain ⟨j, z, rfl, _⟩ := h
    rfl
  · obtain ⟨j, z, rfl, hj, lz, zl, zo, hT, q⟩ := h
    have hs : sizeLine = 16777216 := sizeLine_eq
    refine ⟨_, PSs.nox (pss_cons (ps_set (i := 4) scOrderRight.nd rfl (.inr rfl) (pe_lc (own := [("turn", 6)]) (g := gName 6) (tt := tYes) (te := tCall spLine [] E0 (tCons (tVar 0) (tCons (tVar 1) (tCons (tC (.int 5)) tNil)))) rfl scOrderRight.nd
        (pi_range1 (by rfl) mR (pa_cons (pe_call FB (hr.mono (by decide)) (by rfl) gB kB bB .nil pass0 (pa_cons (pv 0) (pa_cons pe_int pa_nil))) pa_nil))
        (blkOk_by (N := ["jug", "signs", "told", "bad", "lot", "odd", "turn"]) (sc := defScope sOrderRight) (by decide +kernel)) (fun _ _ _ _ _ => pg_name (i := 6) scOrderRight.nd rfl (Or.inl rfl)) (fun _ _ _ _ _ => pts_nil)
        (fun _ _ _ _ _ => by exact pe_call FL (hr.mono (by decide)) (by rfl) gL kL bL .nil pass0 (pa_cons (pv 0) (pa_cons (pv 1) (pa_cons pe_int pa_nil))))))
      (pss_cons (ps_if (PW.pt (pw_or (pt_cmpR (op_neD hr.units) (pe_call FI (hr.mono (by decide)) (by rfl) gI kI bI .nil passL (pa_cons (pv 1) (pa_cons (pe_callTy call_tuple_of (by rfl) M.tuple (by decide +kernel) (pa_cons (pv 4) pa_nil)) pa_nil))) (pe_call FS (hr.mono (by decide)) (by rfl) gS kS bS .nil pass0 (pa_cons (pv 4) pa_nil)) (nomark _))
          (pw_or1 (pt_cmpR (op_neD hr.units) (pe_call FI (hr.mono (by decide)) (by rfl) gI kI bI .nil passL (pa_cons (pv 1) (pa_cons (pe_callTy call_tuple_of (by rfl) M.tuple (by decide +kernel) (pa_cons (pe_op op_cat (pv 4) (pe_revL (pv 4))) pa_nil)) pa_nil))) (pe_call FS (hr.mono (by decide)) (by rfl) gS kS bS .nil pass0 (pa_cons (pv 4) pa_nil)) (nomark _))))) (pss_one (ps_ret pe_bl)) pss_nil)
      (pss_cons (ps_set (i := 5) scOrderRight.nd rfl (.inr rfl) (pe_call FP (hr.mono (by decide)) (by rfl) gP kP bP .nil pass0 (pa_cons (pv 0) (pa_cons (pe_lst (pa_cons pe_non (pa_cons pe_int (pa_cons (pv 4) (pa_cons pe_str (pa_cons pe_dnewK (pa_cons pe_bl pa_nil))))))) pa_nil))))
      (pss_cons (ps_set (i := 3) scOrderRight.nd rfl (.inr rfl) (pe_call FP (hr.mono (by decide)) (by rfl) gP kP bP .nil pass0 (pa_cons (pv 0) (pa_cons (pe_lst (pa_cons pe_non (pa_cons pe_int (pa_cons (pe_op op_add_str (pv 1) pe_str) (pa_cons (pe_lst (pa_cons pe_str pa_nil)) (pa_cons (pe_tup (pa_cons (pv 1) pa_nil)) (pa_cons pe_str (pa_cons pe_dnewK pa_nil)))))))) pa_nil))))
      (pss_cons (ps_set (i := 2) scOrderRight.nd rfl (.inl rfl) (pe_lst (pa_cons (pe_told (k := 5) (t := fun E => tCall (spInOrder K cL cT cO) [] E (tCons (tVar 1) (tCons (tVar 5) tNil))) O R B (by rfl) TB rfl inT oneT hr (lamS_by (sc := defScope sOrderRight) (by decide +kernel)) rfl (fun _ _ _ _ _ => rfl)
          (fun A' outer' s' H' E' f' c' room => by exact pe_call FI room (by rfl) gI kI bI .nil (passes_call (takes_of rfl rfl rfl rfl) (fun _ _ _ _ z => z)) (pa_cons (pv 1) (pa_cons (pv 5) pa_nil)))) pa_nil)))
      (pss_cons (ps_expr (pe_bm PySem.F.plainAttrs_list PySem.F.slot_list_append PySem.F.type_list_append mt_append (pv 2) (pa_cons (pe_told (k := 5) (t := fun E => tCall (spInOrder K cL cT cO) [] E (tCons (tVar 1) (tCons (tOp (rCatA K) (tCB (fun xs H Q => ∃ p ys, xs = [.ref p] ∧ ((SqL K H p ys ∧ ∀ l, H l = none → Q (.ref l) (upd H l (.tup ys))) ∨ (SqT K H p ys ∧ Q (.ref p) H))) (tCons (tVar 4) tNil)) (tTup (tCons (tVar 3) tNil))) tNil))) O R B (by rfl) TB rfl inT oneT hr (lamS_by (sc := defScope sOrderRight) (by decide +kernel)) rfl (fun _ _ _ _ _ => rfl)
          (fun A' outer' s' H' E' f' c' room => by exact pe_call FI room (by rfl) gI kI bI .nil (passes_call (takes_of rfl rfl rfl rfl) (fun _ _ _ _ z => z)) (pa_cons (pv 1) (pa_cons (pe_op op_catA (pe_callTy call_tuple_of (by rfl) M.tuple (by decide +kernel) (pa_cons (pv 4) pa_nil)) (pe_tup (pa_cons (pv 3) pa_nil))) pa_nil)))) pa_nil)))
      (pss_one (ps_ret (pe_cmpR (op_eqD hr.units) (pe_op op_cat (pv 2) (pe_lst (pa_cons (pe_told (k := 5) (t := fun E => tCall (spInOrder K cL cT cO) [] E (tCons (tC (.str "ba")) (tCons (tVar 5) tNil))) O R B (by rfl) TB rfl inT oneT hr (lamS_by (sc := defScope sOrderRight) (by decide +kernel)) rfl (fun _ _ _ _ _ => rfl)
          (fun A' outer' s' H' E' f' c' room => by exact pe_call FI room (by rfl) gI kI bI .nil (passes_call (takes_of rfl rfl rfl rfl) (fun _ _ _ _ z => z)) (pa_cons pe_str (pa_cons (pv 5) pa_nil)))) pa_nil))) (pe_lst (pa_cons pe_str (pa_cons pe_str (pa_cons pe_str pa_nil)))) (nomark _)))))))))), ?_⟩
    have one : 1 ≤ z.length ∧ z.length ≤ 3 := by
      have w := lz
      have w2 : (decide (1 ≤ z.length ∧ z.length ≤ 3) && _) = true := w
      rw [Bool.and_eq_true, decide_eq_true_eq] at w2
      exact w2.1
    refine ⟨_, rfl, j, _, rfl, hj, by decide, by decide, fun r H1 r0 r1 hk => ⟨_, rfl, by omega, by omega, fun D hD => ?_⟩⟩
    have nD := jug_none hk.2 hD
    have hDH := hk.none hD
    refine lc_range (n := r.toNat) (fun i H2 => ∃ ys : List Str, H2 D = some (.lst (ys.map V.str)) ∧ ys.length = i ∧ (∀ y ∈ ys, (∀ c ∈ y.cps.toList, c ∈ z.cps.toList) ∧ y.length ≤ 5) ∧ Kj j H H2) ⟨[], upd_same, rfl, fun _ y => (by cases y), hk.new hDH nD⟩ ?_ ?_
    · rintro i H2 hi ⟨ys, e1, e2, e3, k2⟩
      refine ⟨rfl, _, rfl, _, rfl, j, z, 5, rfl, k2.2, one.1, by omega, by decide, fun x H3 hx hl k3 => ?_⟩
      have e4 := k3.1 D _ nD e1
      refine ⟨_, e4, by rw [List.length_map]; omega, ys ++ [x], ?_, by rw [List.length_append, e2]; rfl, fun y my => ?_, (k2.trans k3).new hDH nD⟩
      · rw [List.map_append]
        exact upd_same
      · rcases List.mem_append.mp my with my | my
        · exact e3 y my
        · rw [List.mem_singleton.mp my]
          exact ⟨hx, hl⟩
    · rintro H2 ⟨ys, eD, len, fine, k2⟩
      have few : ys.length ≤ 8 := by omega
      have zs := strOk_all.mp zo
      have ysOk : ∀ y ∈ ys, PyData.strOk y = true := fun y my => strOk_all.mpr fun c mc => zs c ((fine y my).1 c mc)
      have ordOk : ∀ y ∈ ordT ys, PyData.strOk y = true := fun y my => ysOk y (ordT_mem.mp my)
      have asked : ∀ (H' : Hp) (l : List Str), (∀ y ∈ l, y ∈ ys) → ∀ v ∈ l.map V.str, Asked K H' v := fun H' l sub v mv => by
        obtain ⟨y, my, rfl⟩ := List.mem_map.mp mv
        have f := (fine y (sub y my)).2
        exact ⟨by omega, ysOk y (sub y my)⟩
      have texts : ∀ l : List Str, (∀ y ∈ l, y ∈ ys) → ∀ y ∈ l, textV z 4000 (.str y) = true := fun l sub y my => fine_text (fine y (sub y my)).1 (fine y (sub y my)).2
      have zAsk : ∀ H' : Hp, Asked K H' (.str z) := fun _ => ⟨by omega, zo⟩
      refine ⟨_, rfl, _, rfl, D, _, rfl, Or.inl ⟨SqL.of eD, fun t1 ht1 => ?_⟩⟩
      have x1 : Ext H2 (upd H2 t1 (.tup (ys.map V.str))) := (Ext.refl H2).new ht1
      refine ⟨.str z, .ref t1, rfl, zAsk _, Or.inr (Or.inr ⟨z, t1, ys.map V.str, rfl, lz, rfl, SqT.of upd_same, asked _ ys (fun _ m => m), Or.inr ⟨ys, rfl, texts ys (fun _ m => m), by omega, fun q1 H4 hq1 k4 e4 => ?_⟩⟩)⟩
      have x4 := x1.trans k4
      refine ⟨_, rfl, D, ys, rfl, SqL.of (x4 _ _ eD), by omega, fun y my => by have := (fine y my).2; omega, fun q2 H5 hq2 k5 e5 => ?_⟩
      have x5 := x4.trans k5
      refine ⟨_, _, .tup (SqT.of (k5 _ _ e4)) (dpa_txt _), .tup (SqT.of e5) (dpa_txt _), txt_shapedT ordOk, txt_shapedT ordOk, _, rfl, ?_⟩
      rw [eqvT_self]
      refine iteF ⟨_, rfl, _, rfl, _, rfl, D, _, rfl, SqL.of (x5 _ _ eD), fun rv hrv => ?_⟩
      have x6 : Ext H2 (upd H5 rv (.lst (ys.map V.str).reverse)) := x5.new hrv
      have eD6 := x6 _ _ eD
      refine ⟨D, rv, _, _, rfl, rfl, eD6, upd_same, by simp only [List.length_reverse, List.length_map]; omega, fun cc hcc => ?_⟩
      have x7 := x6.new hcc (o := .lst (ys.map V.str ++ (ys.map V.str).reverse))
      refine ⟨cc, _, rfl, Or.inl ⟨SqL.of upd_same, fun t2 ht2 => ?_⟩⟩
      have x8 := x7.new ht2 (o := .tup (ys.map V.str ++ (ys.map V.str).reverse))
      have both : ys.map V.str ++ (ys.map V.str).reverse = (ys ++ ys.reverse).map V.str := by rw [List.map_append, List.map_reverse]
      have sub2 : ∀ y ∈ ys ++ ys.reverse, y ∈ ys := fun y my => by
        rcases List.mem_append.mp my with my | my
        · exact my
        · exact List.mem_reverse.mp my
      refine ⟨.str z, .ref t2, rfl, zAsk _, Or.inr (Or.inr ⟨z, t2, (ys ++ ys.reverse).map V.str, rfl, lz, rfl, SqT.of (by rw [← both]; exact upd_same), asked _ _ sub2, Or.inr ⟨ys ++ ys.reverse, rfl, texts _ sub2, by rw [List.length_append, List.length_reverse]; omega, fun q3 H7 hq3 k7 e7 => ?_⟩⟩)⟩
      have x9 := x8.trans k7
      refine ⟨_, rfl, D, ys, rfl, SqL.of (x9 _ _ eD), by omega, fun y my => by have := (fine y my).2; omega, fun q4 H8 hq4 k8 e8 => ?_⟩
      have x10 := x9.trans k8
      have same : ordT (ys ++ ys.reverse) = ordT ys := ordT_same fun x => ⟨sub2 x, fun m => List.mem_append_left _ m⟩
      rw [same] at e7
      refine ⟨_, _, .tup (SqT.of (k8 _ _ e7)) (dpa_txt _), .tup (SqT.of e8) (dpa_txt _), txt_shapedT ordOk, txt_shapedT ordOk, _, rfl, ?_⟩
      rw [eqvT_self]
      refine iteF ?_
      have k10 := k2.ext x10
      have eD10 := x10 _ _ eD
      have fT : Tabs T H8 := tabs_kj hT hj k10
      refine ⟨_, rfl, _, rfl, fun dd hdd => ?_⟩
      have ddj := jug_none k10.2 hdd
      have a1 := (Kj.refl k10.2).new hdd ddj (o := .dK [])
      refine ⟨by show 6 ≤ sizeLine; omega, fun L hL => ?_⟩
      have a2 := a1.new (a1.none hL) (jug_none a1.2 hL) (o := .lst [V.non, V.int 0, V.ref D, V.str (Str.ofString "a"), V.ref dd, V.bl true])
      have dd2 := (upd_ne (H := upd H8 dd (.dK [])) (o := .lst [V.non, V.int 0, V.ref D, V.str (Str.ofString "a"), V.ref dd, V.bl true]) (ne_of_none (upd_same (H := H8) (a := dd) (o := .dK [])) hL)).trans upd_same
      refine ⟨j, .ref L, rfl, a2.2, Or.inl ⟨L, _, rfl, SqL.of upd_same, jug_none a1.2 hL, by simp, by show 6 ≤ 1000; omega, fun odd H9 modd hk9 => ?_⟩⟩
      have a3 := a2.trans hk9
      have eD9 := a3.1 D _ nD eD10
      have ed9 := hk9.1 dd _ ddj dd2
      have k9 := k10.trans a3
      have oddNT : ∀ H', H' D = some (.lst (ys.map V.str)) → H' dd = some (.dK []) → NoTuple K H' odd := fun H' h1 h2 => by
        simp only [List.mem_cons, List.not_mem_nil, or_false] at modd
        rcases modd with rfl | rfl | rfl | rfl | rfl | rfl
        · exact ⟨_, .base .non, rfl⟩
        · exact ⟨_, .base (.int 0), rfl⟩
        · exact no_tuple_lst h1
        · exact ⟨_, .base (.str _), rfl⟩
        · exact no_tuple_dct h2
        · exact ⟨_, .base (.bl true), rfl⟩
      clear a1 a2 a3 dd2
      -- the one that is no text
      refine ⟨_, rfl, _, rfl, _, _, rfl, rfl, by show z.length + 1 ≤ sizeLine; omega, by show 1 ≤ sizeLine; omega, fun la hla => ?_⟩
      have b1 := (Kj.refl k9.2).new hla (jug_none k9.2 hla) (o := .lst [V.str (Str.ofString "a")])
      have la1 : (upd H9 la (.lst [V.str (Str.ofString "a")])) la = some (.lst [V.str (Str.ofString "a")]) := upd_same
      refine ⟨_, rfl, by show 1 ≤ sizeLine; omega, fun ta hta => ?_⟩
      have b2 := b1.new (b1.none hta) (jug_none b1.2 hta) (o := .tup [V.str z])
      have la2 := (upd_ne (o := .tup [V.str z]) (ne_of_none la1 hta)).trans la1
      have ta2 : (upd (upd H9 la (.lst [V.str (Str.ofString "a")])) ta (.tup [V.str z])) ta = some (.tup [V.str z]) := upd_same
      intro d2 hd2
      have b3 := b2.new (b2.none hd2) (jug_none b2.2 hd2) (o := .dK [])
      have la3 := (upd_ne (o := .dK []) (ne_of_none la2 hd2)).trans la2
      have ta3 := (upd_ne (o := .dK []) (ne_of_none ta2 hd2)).trans ta2
      have dd3 : (upd (upd (upd H9 la (.lst [V.str (Str.ofString "a")])) ta (.tup [V.str z])) d2 (.dK [])) d2 = some (.dK []) := upd_same
      refine ⟨by show 7 ≤ sizeLine; omega, fun L2 hL2 => ?_⟩
      have b4 := b3.new (b3.none hL2) (jug_none b3.2 hL2) (o := .lst [V.non, V.int 0, V.str (z ++ Str.ofString "?"), V.ref la, V.ref ta, V.str (Str.ofString "A"), V.ref d2])
      have la4 := (upd_ne (o := .lst [V.non, V.int 0, V.str (z ++ Str.ofString "?"), V.ref la, V.ref ta, V.str (Str.ofString "A"), V.ref d2]) (ne_of_none la3 hL2)).trans la3
      have ta4 := (upd_ne (o := .lst [V.non, V.int 0, V.str (z ++ Str.ofString "?"), V.ref la, V.ref ta, V.str (Str.ofString "A"), V.ref d2]) (ne_of_none ta3 hL2)).trans ta3
      have dd4 := (upd_ne (o := .lst [V.non, V.int 0, V.str (z ++ Str.ofString "?"), V.ref la, V.ref ta, V.str (Str.ofString "A"), V.ref d2]) (ne_of_none dd3 hL2)).trans dd3
      refine ⟨j, .ref L2, rfl, b4.2, Or.inl ⟨L2, _, rfl, SqL.of upd_same, jug_none b3.2 hL2, by simp, by show 7 ≤ 1000; omega, fun bad H10 mbad hk10 => ?_⟩⟩
      have b5 := b4.trans hk10
      have eD11 := b5.1 D _ nD eD9
      have ed11 := b5.1 dd _ ddj ed9
      have la5 := hk10.1 la _ (jug_none k9.2 hla) la4
      have ta5 := hk10.1 ta _ (jug_none b1.2 hta) ta4
      have dd5 := hk10.1 d2 _ (jug_none b2.2 hd2) dd4
      have k11 := k9.trans b5
      have noText : textV z 4000 bad = false ∧ ∀ H', ExtN H10 H' → Asked K H' bad := by
        simp only [List.mem_cons, List.not_mem_nil, or_false] at mbad
        rcases mbad with rfl | rfl | rfl | rfl | rfl | rfl | rfl
        · exact ⟨rfl, fun _ _ => trivial⟩
        · exact ⟨rfl, fun _ _ => trivial⟩
        · refine ⟨bad_text (c := 63) lz (by rw [cps_app]; exact List.mem_append_right _ (by decide +kernel)) (by omega), fun _ _ => ⟨by rw [len_app]; show z.length + 1 ≤ 8000; omega, strOk_app zo (by decide +kernel)⟩⟩
        · exact ⟨rfl, fun H' e => thing_lst (e _ _ la5 (fun ps y => by cases y))⟩
        · exact ⟨rfl, fun H' e => thing_tup (e _ _ ta5 (fun ps y => by cases y))⟩
        · exact ⟨bad_text (c := 65) lz (by decide +kernel) (by omega), fun _ _ => ⟨by decide +kernel, by decide +kernel⟩⟩
        · exact ⟨rfl, fun H' e => thing_dct (e _ _ dd5 (fun ps y => by cases y))⟩
      clear b1 b2 b3 b4 b5 la1 la2 la3 la4 la5 ta2 ta3 ta4 ta5 dd3 dd4 dd5
      have g10 : Going T j H H10 := ⟨fun b o n _ z => k11.1 b o n z, k11.2, tabs_kj hT hj k11⟩
      refine ⟨g10.tabs, fun H11 n11 t11 => ⟨_, rfl, _, rfl, .str z, odd, rfl, zAsk _, Or.inr (Or.inl ⟨lz, oddNT H11 (n11 _ _ eD11 not_tbl_lst) (n11 _ _ ed11 not_tbl_dct), fun H12 x12 => Or.inr (Or.inl ⟨rfl, ?_⟩)⟩)⟩⟩
      have g12 := (g10.n n11 t11).e x12
      have n12 : ExtN H10 H12 := ext_n n11 x12
      refine ⟨by show 1 ≤ sizeLine; omega, fun pt hpt => ?_⟩
      have ptj := jug_none g12.jug hpt
      have x13 := (Ext.refl H12).new hpt (o := .lst [V.str (Str.ofString "operation")])
      have g13 := g12.e x13
      have n13 := ext_n n12 x13
      have pt13 : (upd H12 pt (.lst [V.str (Str.ofString "operation")])) pt = some (.lst [V.str (Str.ofString "operation")]) := upd_same
      generalize upd H12 pt (.lst [V.str (Str.ofString "operation")]) = H13 at x13 g13 n13 pt13
      refine ⟨_, rfl, .inl ⟨rfl, _, .inl (.inl pt13)⟩, g13.tabs, fun H14 n14 t14 => ?_⟩
      have g14 := g13.n n14 t14
      have n14' : ExtN H10 H14 := n13.trans n14
      have pt14 := n14 _ _ pt13 not_tbl_lst
      have eD14 := n14' _ _ eD11 not_tbl_lst
      have bad14 : Asked K H14 bad := noText.2 _ n14'
      refine ⟨_, rfl, _, rfl, D, _, rfl, Or.inl ⟨SqL.of eD14, fun t3 ht3 => ?_⟩⟩
      have x15 := (Ext.refl H14).new ht3 (o := .tup (ys.map V.str))
      have t3a : (upd H14 t3 (.tup (ys.map V.str))) t3 = some (.tup (ys.map V.str)) := upd_same
      generalize upd H14 t3 (.tup (ys.map V.str)) = H15 at x15 t3a
      refine ⟨_, rfl, by show 1 ≤ sizeLine; omega, fun t4 ht4 => ?_⟩
      have x16 := x15.new ht4 (o := .tup [bad])
      have t4a : (upd H15 t4 (.tup [bad])) t4 = some (.tup [bad]) := upd_same
      have t3b := (upd_ne (o := .tup [bad]) (ne_of_none t3a ht4)).trans t3a
      generalize upd H15 t4 (.tup [bad]) = H16 at x16 t4a t3b
      have all : ∀ (H' : Hp), Ext H14 H' → ∀ v ∈ ys.map V.str ++ [bad], Asked K H' v := fun H' x v mv => by
        rcases List.mem_append.mp mv with mv | mv
        · exact asked H' ys (fun _ m => m) v mv
        · rw [List.mem_singleton.mp mv]
          exact asked_ext x bad14
      have hasBad : ∃ v ∈ ys.map V.str ++ [bad], textV z 4000 v = false := ⟨bad, List.mem_append_right _ (List.mem_singleton.mpr rfl), noText.1⟩
      refine ⟨t3, t4, _, _, rfl, rfl, SqT.of t3b, SqT.of t4a, by rw [List.length_map]; show ys.length + 1 ≤ sizeLine; omega, ?caseA, ?caseB, ?caseC⟩
      case caseB => exact fun _ y => by cases y
      case' caseA =>
        intro e
        have x17 : Ext H14 H16 := x16
        have sq17 : SqT K H16 t4 (ys.map V.str ++ [bad]) := SqT.of (by rw [e]; exact t4a)
        refine ⟨.str z, .ref t4, rfl, zAsk _, Or.inr (Or.inr ⟨z, t4, _, rfl, lz, rfl, sq17, all _ x17, Or.inl ⟨hasBad, fun H18 x18 => Or.inr (Or.inr ⟨rfl, ?_⟩)⟩⟩)⟩
      case' caseC =>
        intro _ _ t5 ht5
        have x17 : Ext H14 (upd H16 t5 (.tup (ys.map V.str ++ [bad]))) := x16.new ht5
        have sq17 : SqT K (upd H16 t5 (.tup (ys.map V.str ++ [bad]))) t5 (ys.map V.str ++ [bad]) := SqT.of upd_same
        refine ⟨.str z, .ref t5, rfl, zAsk _, Or.inr (Or.inr ⟨z, t5, _, rfl, lz, rfl, sq17, all _ x17, Or.inl ⟨hasBad, fun H18 x18 => Or.inr (Or.inr ⟨rfl, ?_⟩)⟩⟩)⟩
      all_goals
        have x19 := x17.trans x18
        have g18 := g14.e x19
        have pt18 := x19 _ _ pt14
        have ed18 := x19 _ _ (n14' _ _ ed11 not_tbl_dct)
        have eD18 := x19 _ _ eD14
        clear x17 x18 x19 sq17
        refine ⟨pt, _, _, rfl, rfl, pt18, by show 1 < sizeLine; omega, ?_⟩
        have g19 : Going T j H (upd H18 pt (.lst [V.str (Str.ofString "operation"), V.str (Str.ofString "text")])) := ⟨fun b o n m w => by
          have nb : b ≠ pt := fun y => by
            have y2 := n12 _ _ (k11.1 b o n w) m
            rw [y, hpt] at y2
            cases y2
          rw [upd_ne nb]
          exact g18.keep b o n m w, by
          obtain ⟨u, v, y, e, e2⟩ := g18.jug
          exact ⟨u, v, y, by rw [upd_ne (Ne.symm ptj)]; exact e, e2⟩, tabs_upd g18.tabs pt18⟩
        have pt19 : (upd H18 pt (.lst [V.str (Str.ofString "operation"), V.str (Str.ofString "text")])) pt = some (.lst [V.str (Str.ofString "operation"), V.str (Str.ofString "text")]) := upd_same
        refine ⟨_, rfl, g19.tabs, fun H20 n20 t20 => ⟨_, rfl, .str (Str.ofString "ba"), odd, rfl, ⟨by decide +kernel, by decide +kernel⟩, Or.inl ⟨no_ba, fun H21 x21 => Or.inl ⟨rfl, ?_⟩⟩⟩⟩
        have g21 := (g19.n n20 t20).e x21
        have pt21 := x21 _ _ (n20 _ _ pt19 not_tbl_lst)
        refine ⟨by show 1 ≤ sizeLine; omega, fun l3 hl3 => ?_⟩
        have g22 := g21.e ((Ext.refl H21).new hl3 (o := .lst [V.str (Str.ofString "letters")]))
        have pt22 := (upd_ne (o := .lst [V.str (Str.ofString "letters")]) (ne_of_none pt21 hl3)).trans pt21
        refine ⟨pt, l3, _, _, rfl, rfl, pt22, upd_same, by show 3 ≤ sizeLine; omega, fun l4 hl4 => ?_⟩
        have g23 := g22.e ((Ext.refl _).new hl4 (o := .lst [V.str (Str.ofString "operation"), V.str (Str.ofString "text"), V.str (Str.ofString "letters")]))
        refine ⟨by show 3 ≤ sizeLine; omega, fun l5 hl5 => ?_⟩
        have g24 := g23.e ((Ext.refl _).new hl5 (o := .lst [V.str (Str.ofString "operation"), V.str (Str.ofString "text"), V.str (Str.ofString "letters")]))
        have words : ∀ y ∈ [Str.ofString "operation", Str.ofString "text", Str.ofString "letters"], PyData.strOk y = true := by decide +kernel
        refine ⟨.list ([Str.ofString "operation", Str.ofString "text", Str.ofString "letters"].map PyData.str), .list ([Str.ofString "operation", Str.ofString "text", Str.ofString "letters"].map PyData.str), .lst (SqL.of ?_) (dpa_txt [Str.ofString "operation", Str.ofString "text", Str.ofString "letters"]), .lst (SqL.of upd_same) (dpa_txt [Str.ofString "operation", Str.ofString "text", Str.ofString "letters"]), txt_shaped words, txt_shaped words, ?_⟩
        · exact (upd_ne (ne_of_none upd_same hl5)).trans upd_same
        · rw [eqvL_self]
          exact q _ ⟨g24.keep, g24.jug, g24.tabs⟩
end
end K0

/-! a text taken so often -/
namespace NX
open PySem PySem.Spec PyProof.Rows L2
def rMulS : R2 := fun x y H Q => ∃ (z : Str) (n : Nat), x = .str z ∧ y = .int (n : Int) ∧ z.length * n ≤ 16777216 ∧ z.length ≤ 16777216 ∧ n ≤ 16777216 ∧ Q (.str (Txt.mul z (n : Int))) H
theorem op_mulS {X : Cx} : OpR X (binaryOp .Mult) rMulS := by
  intro pins s σ H x y v u Q I rx ry h
  obtain ⟨z, n, rfl, rfl, h1, h0, h2, q⟩ := h
  obtain ⟨t, rfl⟩ := rx
  obtain ⟨t2, rfl⟩ := ry
  have hs : sizeLine = 16777216 := sizeLine_eq
  refine PySem.SB.mul ⟨?_, fun n1 _ => ?_, fun _ _ => ?_⟩ (fun t' k => ⟨.str _, H, I.tok k, ⟨t', rfl⟩, q⟩)
  · rw [Bool.or_eq_false_iff, decide_eq_false_iff_not, decide_eq_false_iff_not]
    omega
  · have np : (0 : Int) < (n : Int) := by omega
    have big : (16777216 : Int) ≤ (2 ^ 63 - 1) / (n : Int) := by
      rw [Int.le_ediv_iff_mul_le np]
      have z2 : (16777216 : Int) * (n : Int) ≤ 16777216 * 16777216 := Int.mul_le_mul_of_nonneg_left (by omega) (by decide)
      omega
    omega
  · have e : ((n : Int)).toNat = n := by omega
    rw [e]
    unfold Builtin.Str.tooLong
    rw [decide_eq_false_iff_not, hs]
    omega
theorem fold_rep (c : Nat) : ∀ (k : Nat) (acc : Array Nat), ((List.replicate k #[c]).foldl (· ++ ·) acc).toList = acc.toList ++ List.replicate k c
  | 0, acc => by simp
  | k + 1, acc => by
    rw [List.replicate_succ, List.foldl_cons, fold_rep c k, Array.toList_append, List.append_assoc]
    rfl
theorem mul_sign (c n : Nat) (h : 2 ≤ n) : (Txt.mul ⟨#[c]⟩ (n : Int)).cps.toList = List.replicate n c := by
  unfold Txt.mul
  have e1 : ¬ (n : Int) < 1 := by omega
  have e2 : ((n : Int) == 1 || (⟨#[c]⟩ : Str).length == 0) = false := by
    rw [Bool.or_eq_false_iff]
    refine ⟨?_, rfl⟩
    rw [beq_eq_false_iff_ne]
    omega
  rw [if_neg e1, e2, if_neg (by decide)]
  have e3 : ((n : Int)).toNat = n := by omega
  rw [e3, fold_rep]
  rfl
theorem mul_len (c n : Nat) (h : 2 ≤ n) : (Txt.mul ⟨#[c]⟩ (n : Int)).length = n := by
  have e := congrArg List.length (mul_sign c n h)
  rw [List.length_replicate, Array.length_toList] at e
  exact e
end NX

/-! the law (its own told(word_call(..)) as a rule that is given) -/
namespace K0
open PySem PySem.Spec PyProof.Rows L2 XSt NX LamX XE
open PySem.W (Frag)
abbrev sLaw : Stmt := top 37
/-- as okC, where no repr is under way -/
theorem okG {P : Program} {w : World} {K : Frag} {mg : Str → Option Value} {base : Heap} {x qual : Str} {params : Arguments} {body : List Stmt} {scope : Scope} {dvs : List V} {kws : List (Str × V)} {f c : Addr} {fd : FuncData}
    {CX : CXT} {N ps : List Str} {k : Nat} {sp : Sp} (F : FunD K x qual params body scope dvs kws f fd) (C : CodeAt K f c) (S : FnScope N ps scope) (len : ∀ vs H Q E, sp vs H Q E → vs.length = ps.length)
    (hbody : ∀ (A : Around) (outer : List Env) (s : Shared) (H : Hp) (vs : List V) (Q : VK) (E : XK), (A.deeper (envOfC qual scope s.heap.objs.size f (.ref c))).guards = some [] → Room k (A.deeper (envOfC qual scope s.heap.objs.size f (.ref c))) → sp vs H Q E →
      ∃ t, PSs (cxOf CX P w K mg base N qual scope f (.ref c) A outer s H E) body t ∧ t { nx := fun _ H' => Q .non H', rt := Q } (L2.start N vs) H) : FnG P w K mg base CX (k + 1) f fd ps sp := by
  obtain ⟨oc, od, dV, kV, doc, pm, an, cdv, ct, osl, rfl, lk, hcd, _, _⟩ := F.ex
  have e : cdv = .ref c := C _ _ _ _ lk
  subst e
  exact ⟨len, fun A outer s H args us vs Q E hg hr e0 hb r hsp => run_ofS lk hcd S hr e0 hb r (len _ _ _ _ hsp) fun room => hbody A outer s H vs Q E (guards_deeper hg) room hsp⟩
/-- told(word_call(e)): what is asked of the one, what it tells -/
def tWord (K : Frag) (T : List (Addr × Str)) (te : TE) : TE := fun σ H Q => te σ H fun v H1 => Asked K H1 v ∧ lettersV v = false ∧ Tabs T H1 ∧ ∀ H', ExtN H1 H' → Tabs T H' → Q (.str "letters") H'
def WordRule (P : Program) (w : World) (K : Frag) (mg : Str → Option Value) (base : Heap) (T : List (Addr × Str)) : Prop :=
  ∀ (X : Cx) (e : Expr) (te : TE) (p p2 p3 p4 : Pos), X.prog = P → X.w = w → X.K = K → X.mg = mg → X.base = base → Room 8 X.A → X.calm = true → Gl X "_law_told" → Gl X "_law_word_call" → starEach [e] X.env = (false, eval e X.env) :: starEach [] X.env → PE X e te →
    PE X (.Call (.Name "_law_told" p) [.Call (.Name "_law_word_call" p2) [e] [] p3] [] p4) (tWord K T te)
def spLaw (T : List (Addr × Str)) (K : Frag) : Sp := fun vs H Q _ => ∃ (a : Addr) (ns : List Int), vs = [.ref a] ∧ SqL K H a (ns.map V.int) ∧ ns.length ≤ 63 ∧ Tabs T H ∧ ∀ H', Q (.bl true) H'
/-- what stood at first stands -/
structure Stay (T : List (Addr × Str)) (H H' : Hp) : Prop where
  keep : ∀ b o, (∀ ps, o ≠ .tbl ps) → H b = some o → H' b = some o
  tabs : Tabs T H'
theorem Stay.e {T : List (Addr × Str)} {H H1 H2 : Hp} (k : Stay T H H1) (e : Ext H1 H2) : Stay T H H2 := ⟨fun b o n z => e _ _ (k.keep b o n z), k.tabs.ext e⟩
theorem Stay.n {T : List (Addr × Str)} {H H1 H2 : Hp} (k : Stay T H H1) (e : ExtN H1 H2) (t : Tabs T H2) : Stay T H H2 := ⟨fun b o n z => e _ _ (k.keep b o n z) n, t⟩
theorem abc_letters : lettersV (.str (Str.ofString "abc")) = true := by
  have e : (once (XSt.signs (Str.ofString "abc"))).mergeSort sLe = XSt.signs (Str.ofString "abc") := by
    symm
    refine sLe_ord.one ?_ ?_
    · have z : once (XSt.signs (Str.ofString "abc")) = XSt.signs (Str.ofString "abc") := by decide +kernel
      rw [z]
    · have z : (XSt.signs (Str.ofString "abc")) = [Str.ofString "a", Str.ofString "b", Str.ofString "c"] := by decide +kernel
      rw [z]
      simp only [List.pairwise_cons, List.mem_cons, List.not_mem_nil, or_false, forall_eq_or_imp, forall_eq]
      refine ⟨⟨?_, ?_⟩, ?_, fun a h => h.elim, List.Pairwise.nil⟩ <;> decide +kernel
  show (decide (1 ≤ (Str.ofString "abc").length ∧ (Str.ofString "abc").length ≤ 3) && (decide (Str.ofString "abc" = Txt.join ⟨#[]⟩ ((once (XSt.signs (Str.ofString "abc"))).mergeSort sLe)) && _)) = true
  rw [e]
  decide +kernel
theorem four_ok : ∀ a b c d : Bool, (PyData.list [.bool a, .bool b, .bool c, .bool d]).showable = true ∧ (PyData.list [.bool a, .bool b, .bool c, .bool d]).depth ≤ 60 ∧ (PyData.list [.bool a, .bool b, .bool c, .bool d]).shown.length ≤ sizeLine := by decide +kernel
theorem ext_n0 {H H' : Hp} (e : Ext H H') : ExtN H H' := fun b o h _ => e b o h
theorem letters_len {z : Str} (h : lettersV (.str z) = true) : 1 ≤ z.length ∧ z.length ≤ 3 := by
  have w : (decide (1 ≤ z.length ∧ z.length ≤ 3) && _) = true := h
  rw [Bool.and_eq_true, decide_eq_true_eq] at w
  exact w.1
section
variable {P : Program} {w : World} {K : Frag} {mg : Str → Option Value} {base : Heap} {f g c tb : Addr} {fd : FuncData} {cL cT cO : Addr} {T : List (Addr × Str)}
theorem scLaw : FnScope ["script", "at", "jug", "cell", "lines", "signs", "long", "some", "turn", "told", "due", "value", "line", "much"] ["script"] (defScope sLaw) := ⟨rfl, rfl, rfl, by decide +kernel, rfl, by decide +kernel, by decide +kernel⟩
theorem bRepr : bootBuiltins "repr" = some (.builtin "repr") := by decide +kernel
theorem ok_law (F : FnP K "law" sLaw f fd) (C : CodeAt K f c) (TB : TabB base mg c tb) (inT : (tb, Str.ofString "law" ++ ".<locals>." ++ "<lambda>") ∈ T) (oneT : ∀ p ∈ T, p.1 = tb → p.2 = Str.ofString "law" ++ ".<locals>." ++ "<lambda>") (M : Free mg) (Z : Sizes mg) (mR : mg "range" = none) (mX : mg "max" = none) (mN : mg "min" = none) (mP : mg "repr" = none) (mD : ∃ t, mg "MAX_DIGITS" = some (.int 200 t))
    (R : Refusals K mg cL cT cO) (B : Apart K cL cT cO) (O : ToldOk K mg g) (W : WordRule P w K mg base T)
    (DJ : Def P w K mg base CX0 1 "_law_jug" ["script", "at"] (spJug K)) (DP : Def P w K mg base CX0 2 "_law_pick" ["jug", "items"] (spPickS K)) (DS : Def P w K mg base CX0 3 "_law_strings" ["jug"] spStrings) (DN : Def P w K mg base CX0 2 "_law_numbers" ["jug", "cell"] spNumbers)
    (D1 : Def P w K mg base CX0 1 "is_integer" ["value"] (spIsInteger K)) (D2 : Def P w K mg base CX0 1 "is_letters" ["value"] (spIsLetters K)) (D3 : Def P w K mg base (L2.CX P w) 3 "is_text" ["letters", "value"] (spIsText K cL)) (D4 : Def P w K mg base (L2.CX P w) 3 "is_word" ["letters", "value"] (spIsWord K cL))
    (E1 : Def P w K mg base CX0 1 "_law_is_long" ["value"] (spIsLong K)) (E2 : Def P w K mg base CX0 2 "_law_are_signs" ["value"] (spAreSigns K)) (E3 : Def P w K mg base CX0 1 "_law_is_in" ["signs", "value", "least", "most"] (spIsIn K)) (E4 : Def P w K mg base CX0 8 "_law_order_right" ["jug", "signs"] (spOrderRight T)) :
    FnG P w K mg base CX0 9 f fd ["script"] (spLaw T K) := by
  obtain ⟨fJ, dJ, FJ, gJ, kJ, bJ⟩ := DJ.ex
  obtain ⟨fP, dP, FP, gP, kP, bP⟩ := DP.ex
  obtain ⟨fS, dS, FS, gS, kS, bS⟩ := DS.ex
  obtain ⟨fN, dN, FN, gN, kN, bN⟩ := DN.ex
  obtain ⟨f1, d1, F1, g1, k1, b1⟩ := D1.ex
  obtain ⟨f2, d2, F2, g2, k2, b2⟩ := D2.ex
  obtain ⟨f3, d3, F3, g3, k3, b3⟩ := D3.ex
  obtain ⟨f4, d4, F4, g4, k4, b4⟩ := D4.ex
  obtain ⟨h1, l1, G1, m1, n1, c1⟩ := E1.ex
  obtain ⟨h2, l2, G2, m2, n2, c2⟩ := E2.ex
  obtain ⟨h3, l3, G3, m3, n3, c3⟩ := E3.ex
  obtain ⟨h4, l4, G4, m4, n4, c4⟩ := E4.ex
  obtain ⟨tD, gD⟩ := mD
  obtain ⟨tW, gW⟩ := Z.word
  obtain ⟨tX, gX⟩ := Z.text
  refine okG F C scLaw (fun vs H Q E h => ?_) (fun A outer s H vs Q E hg hr h => ?_)
  · obtain ⟨a, ns, rfl, _⟩ := h
    rfl
  · obtain ⟨a, ns, rfl, sq, few, hT, q⟩ := h
    have hs : sizeLine = 16777216 := sizeLine_eq
    refine ⟨_, PSs.nox (pss_cons (ps_for PassesOwn.never rfl (pi_range1 (by rfl) mR (pa_cons (pe_callB (call_max2 rfl) (by rfl) mX (by decide +kernel) (pa_cons pe_int (pa_cons (pe_callB (call_min2 rfl) (by rfl) mN (by decide +kernel) (pa_cons pe_int (pa_cons (pe_callB call_len_seq (by rfl) M.len PySem.boot_len (pa_cons (pv 0) pa_nil)) pa_nil))) pa_nil))) pa_nil)) (pg_name (i := 1) scLaw.nd rfl (.inl rfl))
      (pss_cons (ps_set (i := 2) scLaw.nd rfl (.inl rfl) (pe_call FJ (hr.mono (by decide)) (by rfl) gJ kJ bJ .nil pass0 (pa_cons (pv 0) (pa_cons (pv 1) pa_nil))))
      (pss_cons (ps_set (i := 3) scLaw.nd rfl (.inl rfl) (pe_ifExp (pt_cmpR op_lt (pv 1) (pe_callB call_len_seq (by rfl) M.len PySem.boot_len (pa_cons (pv 0) pa_nil)) (nomark _)) (pe_ix ix_list (pv 0) (pv 1) (fun _ _ => rfl)) pe_int))
      (pss_cons (ps_set (i := 4) scLaw.nd rfl (.inl rfl) (pe_call FS (hr.mono (by decide)) (by rfl) gS kS bS .nil pass0 (pa_cons (pv 2) pa_nil)))
      (pss_cons (ps_set (i := 5) scLaw.nd rfl (.inr rfl) (pe_call FP (hr.mono (by decide)) (by rfl) gP kP bP .nil pass0 (pa_cons (pv 2) (pa_cons (pe_lc (own := [("line", 12)]) (g := gName 12) (tt := tB (tCall (spAreSigns K) [] E0 (tCons (tVar 12) tNil))) (te := tVar 12) rfl scLaw.nd (pi_list (pv 4))
          (blkOk_by (N := ["script", "at", "jug", "cell", "lines", "signs", "long", "some", "turn", "told", "due", "value", "line", "much"]) (sc := defScope sLaw) (by decide +kernel)) (fun _ _ _ _ _ => pg_name (i := 12) scLaw.nd rfl (Or.inl rfl)) (fun _ _ _ _ _ => by exact pts_one (pt_val (pe_call G2 (hr.mono (by decide)) (by rfl) m2 n2 c2 .nil pass0 (pa_cons (pv 12) pa_nil)))) (fun _ _ _ _ _ => by exact pv 12)) pa_nil))))
      (pss_cons (ps_setLc (i := 6) (own := [("much", 13)]) (g := gName 13) (tt := tYes) (te := tOp rMulS (tOp rIxS (tVar 5) (tC (.int 0))) (tVar 13)) rfl scLaw.nd rfl rfl (sw_true rfl rfl rfl (by decide +kernel)) (pi_tup (pe_tup (pa_cons pe_int (pa_cons pe_int (pa_cons pe_int pa_nil)))))
          (blkOk_by (N := ["script", "at", "jug", "cell", "lines", "signs", "long", "some", "turn", "told", "due", "value", "line", "much"]) (sc := defScope sLaw) (by decide +kernel)) (fun _ _ _ _ _ => pg_name (i := 13) scLaw.nd rfl (Or.inl rfl)) (fun _ _ _ _ _ => pts_nil) (fun _ _ _ _ _ => by exact pe_op op_mulS (pe_ix ix_str (pv 5) pe_int (fun _ _ => rfl)) (pv 13)))
      (pss_cons (ps_set (i := 7) scLaw.nd rfl (.inl rfl) (pe_op op_cat (pe_op op_cat (pe_op op_cat (pe_call FN (hr.mono (by decide)) (by rfl) gN kN bN .nil pass0 (pa_cons (pv 2) (pa_cons (pv 3) pa_nil))) (pv 4)) (pv 6))
          (pe_lst (pa_cons pe_bl (pa_cons pe_bl (pa_cons pe_non (pa_cons (pe_lst pa_nil) (pa_cons pe_dnewK (pa_cons (pe_tup pa_nil) (pa_cons (pe_tup (pa_cons pe_str pa_nil)) (pa_cons (pe_lst (pa_cons pe_str pa_nil)) (pa_cons (pe_disp (trs := [(tC (.str "a"), tC (.int 1))]) (pps_cons pe_str pe_int pps_nil) rfl rfl (by decide) (by decide)) (pa_cons (pe_tup (pa_cons pe_int pa_nil)) pa_nil)))))))))))))
      (pss_cons (ps_for PassesOwn.never rfl (pi_list (pv 7)) (pg_name (i := 11) scLaw.nd rfl (.inr rfl))
        (pss_cons (ps_for PassesOwn.never rfl (pi_range1 (by rfl) mR (pa_cons pe_int pa_nil)) (pg_name (i := 8) scLaw.nd rfl (.inl rfl))
          (pss_cons (ps_set (i := 9) scLaw.nd rfl (.inl rfl) (pe_lst (pa_cons (pe_call F1 (hr.mono (by decide)) (by rfl) g1 k1 b1 .nil pass0 (pa_cons (pv 11) pa_nil)) (pa_cons (pe_call F2 (hr.mono (by decide)) (by rfl) g2 k2 b2 .nil pass0 (pa_cons (pv 11) pa_nil))
            (pa_cons (pe_call F3 (hr.mono (by decide)) (by rfl) g3 k3 b3 .nil passL (pa_cons (pv 5) (pa_cons (pv 11) pa_nil))) (pa_cons (pe_call F4 (hr.mono (by decide)) (by rfl) g4 k4 b4 .nil passL (pa_cons (pv 5) (pa_cons (pv 11) pa_nil))) pa_nil))))))
          (pss_cons (ps_set (i := 10) scLaw.nd rfl (.inl rfl) (pe_lst (pa_cons (pe_call G1 (hr.mono (by decide)) (by rfl) m1 n1 c1 .nil pass0 (pa_cons (pv 11) pa_nil)) (pa_cons (pe_call G2 (hr.mono (by decide)) (by rfl) m2 n2 c2 .nil pass0 (pa_cons (pv 11) pa_nil)) pa_nil))))
          (pss_cons (ps_set (i := 10) scLaw.nd rfl (.inl rfl) (pe_op op_cat (pv 10) (pe_lst (pa_cons (pe_call G3 (hr.mono (by decide)) (by rfl) m3 n3 c3 .nil pass0 (pa_cons (pv 5) (pa_cons (pv 11) (pa_cons pe_int (pa_cons pe_int pa_nil))))) (pa_cons (pe_call G3 (hr.mono (by decide)) (by rfl) m3 n3 c3 .nil pass0 (pa_cons (pv 5) (pa_cons (pv 11) (pa_cons pe_int (pa_cons pe_int pa_nil))))) pa_nil)))))
          (pss_one (ps_if (pt_cmpR op_ne (pe_callB (call_repr hg hr.units) (by rfl) mP bRepr (pa_cons (pv 9) pa_nil)) (pe_callB (call_repr hg hr.units) (by rfl) mP bRepr (pa_cons (pv 10) pa_nil)) (nomark _)) (pss_one (ps_ret pe_bl)) pss_nil))))))
        (pss_one (ps_if (pt_not (pt_val (pe_call G2 (hr.mono (by decide)) (by rfl) m2 n2 c2 .nil pass0 (pa_cons (pv 11) pa_nil))))
          (pss_cons (ps_set (i := 9) scLaw.nd rfl (.inl rfl) (pe_lst (pa_cons (pe_told (T := T) (k := 3) (t := fun E => tCall (spIsText K cL) [] E (tCons (tVar 11) (tCons (tC (.str "a")) tNil))) O R B (by rfl) TB rfl inT oneT (hr.mono (by decide)) (lamS_by (sc := defScope sLaw) (by decide +kernel)) rfl (fun _ _ _ _ _ => rfl)
              (fun A' outer' s' H' E' f' c' room => by exact pe_call F3 room (by rfl) g3 k3 b3 .nil (passes_call (takes_of rfl rfl rfl rfl) (fun _ _ _ _ z => z)) (pa_cons (pv 11) (pa_cons pe_str pa_nil))))
            (pa_cons (W _ _ (tVar 11) _ _ _ _ rfl rfl rfl rfl rfl hr rfl (by rfl) (by rfl) rfl (pv 11)) pa_nil))))
          (pss_one (ps_if (pt_cmpR (op_neD hr.units) (pv 9) (pe_op op_rep (pe_lst (pa_cons pe_str pa_nil)) pe_int) (nomark _)) (pss_one (ps_ret pe_bl)) pss_nil))) pss_nil))))
      (pss_one (ps_if (pt_not (pt_val (pe_call G4 hr (by rfl) m4 n4 c4 .nil pass0 (pa_cons (pv 2) (pa_cons (pv 5) pa_nil))))) (pss_one (ps_ret pe_bl)) pss_nil))))))))))
      (pss_one (ps_ret (pe_cmpR (op_eqD hr.units) (pe_lst (pa_cons (pe_glob (v := .int 200) (by rfl) gD ⟨tD, rfl⟩) (pa_cons (pe_glob (v := .int 400) (by rfl) gW ⟨tW, rfl⟩) (pa_cons (pe_glob (v := .int 4000) (by rfl) gX ⟨tX, rfl⟩) pa_nil)))) (pe_lst (pa_cons pe_int (pa_cons pe_int (pa_cons pe_int pa_nil)))) (nomark _))))), ?_⟩
    have lim : ∃ N : Int, (if (if ((ns.map V.int).length : Int) < 8 then ((ns.map V.int).length : Int) else 8) > 1 then (if ((ns.map V.int).length : Int) < 8 then ((ns.map V.int).length : Int) else 8) else 1) = N ∧ 0 ≤ N ∧ N ≤ 8 := ⟨_, rfl, by split <;> (try split) <;> omega, by split <;> (try split) <;> omega⟩
    obtain ⟨N, eN, N0, N8⟩ := lim
    refine ⟨_, rfl, _, _, rfl, .inl sq, _, _, rfl, _, _, rfl, N, ?_, by omega, by omega, ?_⟩
    · rw [← eN]
    refine for_range (n := N.toNat) (fun i σ H' => (∃ x1 x2 x3 x4 x5 x6 x7 x8 x9 x10 x11 x12 x13 : Option V, σ = [some (.ref a), x1, x2, x3, x4, x5, x6, x7, x8, x9, x10, x11, x12, x13]) ∧ Stay T H H') ⟨⟨_, _, _, _, _, _, _, _, _, _, _, _, _, rfl⟩, ⟨fun _ _ _ z => z, hT⟩⟩ ?_ ?_
    · rintro i σ H0 hi ⟨⟨x1, x2, x3, x4, x5, x6, x7, x8, x9, x10, x11, x12, x13, rfl⟩, s0⟩
      have sq0 : SqL K H0 a (ns.map V.int) := by
        rcases sq with (h | ⟨o, h⟩) | h
        · exact .inl (.inl (s0.keep _ _ not_tbl_lst h))
        · exact .inl (.inr ⟨o, s0.keep _ _ (fun ps y => by cases y) h⟩)
        · exact .inr h
      refine ⟨_, rfl, _, rfl, a, ns, i, by show [V.ref a, V.int (0 + (i : Int))] = [V.ref a, V.int (i : Int)]; rw [Int.zero_add], sq0, fun j H1 hj k1 jug1 => ?_⟩
      have s1 := s0.e k1
      have sq1 := sqL_ext k1 sq0
      refine ⟨_, rfl, _, rfl, _, _, rfl, .inl sq1, _, _, rfl, rfl, _, rfl, ite2 (fun e => ?caseA) (fun e => ?caseB)⟩
      case' caseA =>
        have hi2 : i < ns.length := by
          have z := of_decide_eq_true e
          rw [List.length_map] at z
          omega
        refine ⟨_, rfl, _, rfl, _, _, _, _, rfl, rfl, sq1, (by rw [Int.zero_add]; exact atI_nat (v := .int (ns[i]'hi2)) (by rw [List.getElem?_map, List.getElem?_eq_getElem hi2]; rfl)), ?_⟩
        generalize ns[i]'hi2 = cell
      case' caseB =>
        generalize (7 : Int) = cell
      all_goals
        clear e
        refine ⟨_, rfl, j, rfl, jug1, fun pl H2 xs hpl npl epl fine abc len k2 => ?_⟩
        have jA : Kj j H1 H2 := k2
        have plA : pl ≠ j := npl
        -- the letters
        refine ⟨_, rfl, _, rfl, pl, rfl, ⟨_, SqL.of epl⟩, fun D hD => ?_⟩
        have nDj := jug_none k2.2 hD
        refine lc_it walk_list (fun i H' => ∃ l : List Str, H' D = some (.lst (l.map V.str)) ∧ (∀ y ∈ l, y ∈ xs ∧ lettersV (.str y) = true) ∧ l.length ≤ i ∧ (∀ y ∈ xs.take i, lettersV (.str y) = true → y ∈ l) ∧ Ext H2 H') ⟨[], upd_same, fun _ y => (by cases y), Nat.zero_le _, fun _ y => (by cases y), (Ext.refl H2).new hD⟩ (fun i H' _ w => by obtain ⟨_, _, _, _, _, y⟩ := w; exact SqL.of (y _ _ epl)) ?_ ?_
        · rintro i2 x Ha Hb hi2 ⟨l, e1, e2, e3, e4, e5⟩ ⟨rfl, ex⟩
          rw [List.getElem?_map] at ex
          cases g0 : xs[i2]? with
          | none => rw [g0] at ex; cases ex
          | some y =>
            rw [g0] at ex
            obtain rfl : V.str y = x := Option.some.inj ex
            have my := List.mem_of_getElem? g0
            refine ⟨rfl, _, rfl, .str y, rfl, ⟨Nat.le_trans (fine y my).1 (by decide), (fine y my).2⟩, fun Hc x6 => ⟨_, rfl, ?_⟩⟩
            cases ly : lettersV (.str y) with
            | true =>
              refine iteT ⟨_, rfl, _, x6 _ _ e1, by rw [List.length_map]; rw [List.length_map] at hi2; omega, l ++ [y], ?_, fun w mw => ?_, by rw [List.length_append]; show l.length + 1 ≤ i2 + 1; omega, fun w mw lw => ?_, fun b u e => ?_⟩
              · rw [List.map_append]
                exact upd_same
              · rcases List.mem_append.mp mw with mw | mw
                · exact e2 w mw
                · rw [List.mem_singleton.mp mw]
                  exact ⟨my, ly⟩
              · rw [take_more g0] at mw
                rcases List.mem_append.mp mw with mw | mw
                · exact List.mem_append_left _ (e4 w mw lw)
                · exact List.mem_append_right _ mw
              · have z := x6 _ _ (e5 b u e)
                rw [upd_ne (ne_of_none e hD)]
                exact z
            | false =>
              refine iteF ⟨l, x6 _ _ e1, e2, Nat.le_succ_of_le e3, fun w mw lw => ?_, e5.trans x6⟩
              rw [take_more g0] at mw
              rcases List.mem_append.mp mw with mw | mw
              · exact e4 w mw lw
              · rw [List.mem_singleton.mp mw, ly] at lw
                cases lw
        · rintro H3 ⟨l, e1, e2, e3, e4, e5⟩
          rw [List.length_map] at e3 e4
          rw [List.take_length] at e4
          have jug3 := jug_same k2.2 e5
          have ne : l ≠ [] := fun w => by
            have z := e4 _ abc abc_letters
            rw [w] at z
            cases z
          refine ⟨j, .ref D, rfl, jug3, Or.inl ⟨D, l.map V.str, rfl, SqL.of e1, nDj, by simpa using ne, by rw [List.length_map]; omega, fun zz H4 mz k4 => ?_⟩⟩
          obtain ⟨z, mz2, rfl⟩ := List.mem_map.mp mz
          obtain ⟨mzx, lz⟩ := e2 z mz2
          have one := letters_len lz
          have fz := fine z mzx
          have k34 : Kj j H1 H4 := (k2.ext e5).trans k4
          have epl4 := k4.1 pl _ npl (e5 _ _ epl)
          clear k4 e1 e4 e5 ne jug3
          -- the long ones
          refine ⟨by show 3 ≤ sizeLine; omega, fun T3 hT3 => ?_⟩
          have k5 := k34.new (k34.none hT3) (jug_none k34.2 hT3) (o := .tup [V.int 400, V.int 401, V.int 4000])
          have eT3 : (upd H4 T3 (.tup [V.int 400, V.int 401, V.int 4000])) T3 = some (.tup [V.int 400, V.int 401, V.int 4000]) := upd_same
          have epl5 := (upd_ne (o := .tup [V.int 400, V.int 401, V.int 4000]) (ne_of_none epl4 hT3)).trans epl4
          generalize upd H4 T3 (.tup [V.int 400, V.int 401, V.int 4000]) = H5 at k5 eT3 epl5
          refine ⟨T3, rfl, ⟨_, SqT.of eT3⟩, fun D2 hD2 => ?_⟩
          refine lc_it walk_tup (fun i H' => ∃ l : List Str, H' D2 = some (.lst (l.map V.str)) ∧ l.length = i ∧ (∀ y ∈ l, y.length ≤ 8000 ∧ PyData.strOk y = true) ∧ Ext H5 H') ⟨[], upd_same, rfl, fun _ y => (by cases y), (Ext.refl H5).new hD2⟩ (fun i H' _ w => by obtain ⟨_, _, _, _, y⟩ := w; exact SqT.of (y _ _ eT3)) ?_ ?_
          · rintro i2 x Ha Hb hi2 ⟨l2, f1, f2, f3, f4⟩ ⟨rfl, ex⟩
            have mx : x ∈ [V.int 400, V.int 401, V.int 4000] := List.mem_of_getElem? ex
            have nx : ∃ n : Nat, x = .int (n : Int) ∧ 2 ≤ n ∧ n ≤ 4000 := by
              simp only [List.mem_cons, List.not_mem_nil, or_false] at mx
              rcases mx with rfl | rfl | rfl
              · exact ⟨400, rfl, by omega, by omega⟩
              · exact ⟨401, rfl, by omega, by omega⟩
              · exact ⟨4000, rfl, by omega, by omega⟩
            obtain ⟨n, rfl, n2, n4⟩ := nx
            have l1 : (⟨#[z.cps.toList.headD 0]⟩ : Str).length = 1 := rfl
            refine ⟨rfl, _, rfl, z, 0, _, rfl, rfl, by omega, head_at one.1, _, rfl, _, n, rfl, rfl, by rw [l1]; omega, by rw [l1]; omega, by omega, ?_⟩
            refine ⟨_, f1, by rw [List.length_map, f2]; have w : i2 < 3 := hi2; omega, l2 ++ [Txt.mul ⟨#[z.cps.toList.headD 0]⟩ (n : Int)], ?_, by rw [List.length_append, f2]; rfl, fun y my => ?_, fun b u e => ?_⟩
            · rw [List.map_append]
              exact upd_same
            · rcases List.mem_append.mp my with my | my
              · exact f3 y my
              · rw [List.mem_singleton.mp my]
                refine ⟨by rw [mul_len _ _ n2]; omega, strOk_all.mpr fun c mc => ?_⟩
                rw [mul_sign _ _ n2] at mc
                rw [(List.mem_replicate.mp mc).2]
                refine strOk_all.mp fz.2 _ ?_
                cases w : z.cps.toList with
                | nil =>
                  have y2 : z.cps.toList.length = z.length := by rw [Array.length_toList]; rfl
                  rw [w] at y2
                  simp at y2
                  omega
                | cons c0 r0 => exact List.mem_cons_self ..
            · have y := f4 b u e
              rw [upd_ne (ne_of_none e hD2)]
              exact y
          · rintro H6 ⟨l2, f1, f2, f3, f4⟩
            have f2 : l2.length = 3 := f2
            have k6 := k5.ext f4
            have epl6 := f4 _ _ epl5
            clear k5 k34 epl5 eT3 f4 hT3 hD2
            have sl2 : ∀ {H' : Hp} {p : Addr} {o : HO} (h : H' p = none), Ext H' (upd H' p o) := fun h => (Ext.refl _).new h
            refine ⟨_, rfl, _, rfl, j, cell, rfl, k6.2, fun pn H7 nms hpn npn epn lenn k7 => ?_⟩
            have kk7 := k6.trans k7
            have nD2 : D2 ≠ j := fun w => by
              obtain ⟨u, v, y, e, _⟩ := k6.2
              rw [← w, f1] at e
              injection e with e
              injection e with e
              cases l2 with
              | nil => cases e
              | cons b r =>
                injection e with e _
                cases e
            have eD27 := k7.1 D2 _ nD2 f1
            have epl7 := k7.1 pl _ npl epl6
            refine ⟨_, rfl, pn, pl, _, _, rfl, rfl, epn, epl7, by rw [List.length_map, List.length_map]; omega, fun p1 hp1 => ?_⟩
            have y1 := sl2 hp1 (o := .lst (nms.map V.int ++ xs.map V.str))
            have q1 : (upd H7 p1 (.lst (nms.map V.int ++ xs.map V.str))) p1 = _ := upd_same
            have eD28 := y1 _ _ eD27
            refine ⟨_, rfl, p1, D2, _, _, rfl, rfl, q1, eD28, by rw [List.length_append, List.length_map, List.length_map, List.length_map]; omega, fun p2 hp2 => ?_⟩
            have kk8 := (kk7.ext y1).ext (sl2 hp2 (o := .lst (nms.map V.int ++ xs.map V.str ++ l2.map V.str)))
            have q2 : (upd (upd H7 p1 (.lst (nms.map V.int ++ xs.map V.str))) p2 (.lst (nms.map V.int ++ xs.map V.str ++ l2.map V.str))) p2 = some (.lst (nms.map V.int ++ xs.map V.str ++ l2.map V.str)) := upd_same
            generalize upd (upd H7 p1 (.lst (nms.map V.int ++ xs.map V.str))) p2 (.lst (nms.map V.int ++ xs.map V.str ++ l2.map V.str)) = A0 at kk8 q2
            clear y1 q1 eD28 eD27 epl7 kk7 hp1 hp2
            refine ⟨by show 0 ≤ sizeLine; omega, fun e1 he1 => ?_⟩
            have y1 := sl2 he1 (o := .lst [])
            have r1 : (upd A0 e1 (.lst [])) e1 = some (.lst []) := upd_same
            generalize upd A0 e1 (.lst []) = A1 at y1 r1
            intro d1 hd1
            have y2 := sl2 hd1 (o := .dK [])
            have r2 : (upd A1 d1 (.dK [])) d1 = some (.dK []) := upd_same
            generalize upd A1 d1 (.dK []) = A2 at y2 r2
            refine ⟨by show 0 ≤ sizeLine; omega, fun t0 ht0 => ?_⟩
            have y3 := sl2 ht0 (o := .tup [])
            have r3 : (upd A2 t0 (.tup [])) t0 = some (.tup []) := upd_same
            generalize upd A2 t0 (.tup []) = A3 at y3 r3
            refine ⟨by show 1 ≤ sizeLine; omega, fun t1 ht1 => ?_⟩
            have y4 := sl2 ht1 (o := .tup [V.str (Str.ofString "a")])
            have r4 : (upd A3 t1 (.tup [V.str (Str.ofString "a")])) t1 = some (.tup [V.str (Str.ofString "a")]) := upd_same
            generalize upd A3 t1 (.tup [V.str (Str.ofString "a")]) = A4 at y4 r4
            refine ⟨by show 1 ≤ sizeLine; omega, fun e2 he2 => ?_⟩
            have y5 := sl2 he2 (o := .lst [V.str (Str.ofString "a")])
            have r5 : (upd A4 e2 (.lst [V.str (Str.ofString "a")])) e2 = some (.lst [V.str (Str.ofString "a")]) := upd_same
            generalize upd A4 e2 (.lst [V.str (Str.ofString "a")]) = A5 at y5 r5
            intro d2 hd2
            refine ⟨upd_same, [(.inr (Str.ofString "a"), .int 1)], rfl, by decide, ?_⟩
            have y6 : Ext A5 (upd (upd A5 d2 (.dK [])) d2 (.dK (mergeK [] [(.inr (Str.ofString "a"), .int 1)]))) := fun b o e => by
              rw [upd_ne (ne_of_none e hd2), upd_ne (ne_of_none e hd2)]
              exact e
            have r6 : (upd (upd A5 d2 (.dK [])) d2 (.dK (mergeK [] [(.inr (Str.ofString "a"), .int 1)]))) d2 = some (.dK (mergeK [] [(.inr (Str.ofString "a"), .int 1)])) := upd_same
            generalize upd (upd A5 d2 (.dK [])) d2 (.dK (mergeK [] [(.inr (Str.ofString "a"), .int 1)])) = A6 at y6 r6
            refine ⟨by show 1 ≤ sizeLine; omega, fun t2 ht2 => ?_⟩
            have y7 := sl2 ht2 (o := .tup [V.int 1])
            have r7 : (upd A6 t2 (.tup [V.int 1])) t2 = some (.tup [V.int 1]) := upd_same
            generalize upd A6 t2 (.tup [V.int 1]) = A7 at y7 r7
            refine ⟨by show 10 ≤ sizeLine; omega, fun L hL => ?_⟩
            have y8 := sl2 hL (o := .lst [V.bl true, V.bl false, V.non, V.ref e1, V.ref d1, V.ref t0, V.ref t1, V.ref e2, V.ref d2, V.ref t2])
            have r8 : (upd A7 L (.lst [V.bl true, V.bl false, V.non, V.ref e1, V.ref d1, V.ref t0, V.ref t1, V.ref e2, V.ref d2, V.ref t2])) L = some (.lst [V.bl true, V.bl false, V.non, V.ref e1, V.ref d1, V.ref t0, V.ref t1, V.ref e2, V.ref d2, V.ref t2]) := upd_same
            generalize upd A7 L (.lst [V.bl true, V.bl false, V.non, V.ref e1, V.ref d1, V.ref t0, V.ref t1, V.ref e2, V.ref d2, V.ref t2]) = A8 at y8 r8
            have z2 := y2.trans (y3.trans (y4.trans (y5.trans (y6.trans (y7.trans y8)))))
            refine ⟨p2, L, _, _, rfl, rfl, (y1.trans z2) _ _ q2, r8, by simp only [List.length_append, List.length_map, List.length_cons, List.length_nil]; omega, fun ps hps => ?_⟩
            have kk9 := (kk8.ext (y1.trans z2)).ext (sl2 hps (o := .lst (nms.map V.int ++ xs.map V.str ++ l2.map V.str ++ [V.bl true, V.bl false, V.non, V.ref e1, V.ref d1, V.ref t0, V.ref t1, V.ref e2, V.ref d2, V.ref t2])))
            have y9 := sl2 hps (o := .lst (nms.map V.int ++ xs.map V.str ++ l2.map V.str ++ [V.bl true, V.bl false, V.non, V.ref e1, V.ref d1, V.ref t0, V.ref t1, V.ref e2, V.ref d2, V.ref t2]))
            have eps : (upd A8 ps (.lst (nms.map V.int ++ xs.map V.str ++ l2.map V.str ++ [V.bl true, V.bl false, V.non, V.ref e1, V.ref d1, V.ref t0, V.ref t1, V.ref e2, V.ref d2, V.ref t2]))) ps = some (.lst (nms.map V.int ++ xs.map V.str ++ l2.map V.str ++ [V.bl true, V.bl false, V.non, V.ref e1, V.ref d1, V.ref t0, V.ref t1, V.ref e2, V.ref d2, V.ref t2])) := upd_same
            generalize upd A8 ps (.lst (nms.map V.int ++ xs.map V.str ++ l2.map V.str ++ [V.bl true, V.bl false, V.non, V.ref e1, V.ref d1, V.ref t0, V.ref t1, V.ref e2, V.ref d2, V.ref t2])) = A9 at kk9 y9 eps
            have all : ∀ v ∈ nms.map V.int ++ xs.map V.str ++ l2.map V.str ++ [V.bl true, V.bl false, V.non, V.ref e1, V.ref d1, V.ref t0, V.ref t1, V.ref e2, V.ref d2, V.ref t2], ∀ H', ExtN A9 H' → Asked K H' v := fun v mv H' n => by
              have w8 := y8.trans y9
              have w7 := y7.trans w8
              have w6 := y6.trans w7
              have w5 := y5.trans w6
              have w4 := y4.trans w5
              have w3 := y3.trans w4
              have w2 := y2.trans w3
              rcases List.mem_append.mp mv with mv | mv
              · rcases List.mem_append.mp mv with mv | mv
                · rcases List.mem_append.mp mv with mv | mv
                  · obtain ⟨m, _, rfl⟩ := List.mem_map.mp mv
                    trivial
                  · obtain ⟨y, my, rfl⟩ := List.mem_map.mp mv
                    exact ⟨Nat.le_trans (fine y my).1 (by decide), (fine y my).2⟩
                · obtain ⟨y, my, rfl⟩ := List.mem_map.mp mv
                  exact f3 y my
              · simp only [List.mem_cons, List.not_mem_nil, or_false] at mv
                rcases mv with rfl | rfl | rfl | rfl | rfl | rfl | rfl | rfl | rfl | rfl
                · trivial
                · trivial
                · trivial
                · exact thing_lst (n _ _ (w2 _ _ r1) (fun ps y => by cases y))
                · exact thing_dct (n _ _ (w3 _ _ r2) (fun ps y => by cases y))
                · exact thing_tup (n _ _ (w4 _ _ r3) (fun ps y => by cases y))
                · exact thing_tup (n _ _ (w5 _ _ r4) (fun ps y => by cases y))
                · exact thing_lst (n _ _ (w6 _ _ r5) (fun ps y => by cases y))
                · exact thing_dct (n _ _ (w7 _ _ r6) (fun ps y => by cases y))
                · exact thing_tup (n _ _ (w8 _ _ r7) (fun ps y => by cases y))
            have tabs9 : Tabs T A9 := tabs_kj s1.tabs jug1 kk9
            clear y1 y2 y3 y4 y5 y6 y7 y8 y9 z2 r1 r2 r3 r4 r5 r6 r7 r8 he1 hd1 ht0 ht1 he2 hd2 ht2 hL hps q2 sl2 epn k7
            generalize nms.map V.int ++ xs.map V.str ++ l2.map V.str ++ [V.bl true, V.bl false, V.non, V.ref e1, V.ref d1, V.ref t0, V.ref t1, V.ref e2, V.ref d2, V.ref t2] = vals at eps all
            have zAsk : ∀ H' : Hp, Asked K H' (.str z) := fun _ => ⟨Nat.le_trans fz.1 (by decide), fz.2⟩
            refine ⟨_, rfl, ps, rfl, ⟨vals, SqL.of eps⟩, ?_⟩
            refine for_list (fun i σ H' => (∃ o1 o3 o4 o6 o8 o9 o10 o11 o12 o13 : Option V, σ = [some (.ref a), o1, some (.ref j), o3, o4, some (.str z), o6, some (.ref ps), o8, o9, o10, o11, o12, o13]) ∧ ExtN A9 H' ∧ Tabs T H') ⟨⟨_, _, _, _, _, _, _, _, _, _, rfl⟩, ExtN.refl _, tabs9⟩ (fun i σ H' _ w => SqL.of (w.2.1 _ _ eps not_tbl_lst)) ?_ ?_
            · rintro i2 v σ B0 ev ⟨⟨o1, o3, o4, o6, o8, o9, o10, o11, o12, o13, rfl⟩, b0, tb0⟩
              have ask := all v (List.mem_of_getElem? ev)
              refine ⟨2, rfl, by decide, by decide, ?_⟩
              refine for_range (n := 2) (fun i σ H' => (∃ o8 o9 o10 : Option V, σ = [some (.ref a), o1, some (.ref j), o3, o4, some (.str z), o6, some (.ref ps), o8, o9, o10, some v, o12, o13]) ∧ ExtN A9 H' ∧ Tabs T H') ⟨⟨_, _, _, rfl⟩, b0, tb0⟩ ?_ ?_
              · rintro i3 σ B1 hi3 ⟨⟨o8, o9, o10, rfl⟩, b1, tb1⟩
                refine ⟨_, rfl, v, rfl, ask _ b1, _, rfl, v, rfl, ask _ b1, fun B2 x2 => ?_⟩
                have b2 := ext_n b1 x2
                refine ⟨_, rfl, _, rfl, .str z, v, rfl, zAsk _, ask _ b2, fun w => (by rw [lz] at w; cases w), fun zx ez _ B3 x3 => ?_⟩
                injection ez with ez
                subst ez
                have b3 := ext_n b2 x3
                refine ⟨_, rfl, _, rfl, .str z, v, rfl, zAsk _, ask _ b3, fun w => (by rw [lz] at w; cases w), fun zx ez _ B4 x4 => ?_⟩
                injection ez with ez
                subst ez
                have b4 := ext_n b3 x4
                refine ⟨by show 4 ≤ sizeLine; omega, fun p9 hp9 => ?_⟩
                have x5 := (Ext.refl B4).new hp9 (o := .lst [V.bl (longV v), V.bl (lettersV v), V.bl (textV z 4000 v), V.bl (wordV z 400 v)])
                have e9 : (upd B4 p9 (.lst [V.bl (longV v), V.bl (lettersV v), V.bl (textV z 4000 v), V.bl (wordV z 400 v)])) p9 = some (.lst [V.bl (longV v), V.bl (lettersV v), V.bl (textV z 4000 v), V.bl (wordV z 400 v)]) := upd_same
                generalize upd B4 p9 (.lst [V.bl (longV v), V.bl (lettersV v), V.bl (textV z 4000 v), V.bl (wordV z 400 v)]) = B5 at x5 e9
                have b5 := ext_n b4 x5
                refine ⟨_, rfl, v, rfl, ask _ b5, _, rfl, v, rfl, ask _ b5, fun B6 x6 => ⟨by show 2 ≤ sizeLine; omega, fun p10 hp10 => ?_⟩⟩
                have x7 := (Ext.refl B6).new hp10 (o := .lst [V.bl (longV v), V.bl (lettersV v)])
                have e10 : (upd B6 p10 (.lst [V.bl (longV v), V.bl (lettersV v)])) p10 = some (.lst [V.bl (longV v), V.bl (lettersV v)]) := upd_same
                generalize upd B6 p10 (.lst [V.bl (longV v), V.bl (lettersV v)]) = B7 at x7 e10
                have b7 := ext_n (ext_n b5 x6) x7
                refine ⟨_, rfl, _, rfl, _, rfl, z, v, 0, 4000, rfl, ask _ b7, by decide, fun B8 x8 => ?_⟩
                have b8 := ext_n b7 x8
                refine ⟨_, rfl, _, rfl, z, v, 1, 400, rfl, ask _ b8, by decide, fun B9 x9 => ⟨by show 2 ≤ sizeLine; omega, fun p11 hp11 => ?_⟩⟩
                have x10 := (Ext.refl B9).new hp11 (o := .lst [V.bl (inB z 0 4000 v), V.bl (inB z 1 400 v)])
                have e11 : (upd B9 p11 (.lst [V.bl (inB z 0 4000 v), V.bl (inB z 1 400 v)])) p11 = some (.lst [V.bl (inB z 0 4000 v), V.bl (inB z 1 400 v)]) := upd_same
                generalize upd B9 p11 (.lst [V.bl (inB z 0 4000 v), V.bl (inB z 1 400 v)]) = B10 at x10 e11
                refine ⟨p10, p11, _, _, rfl, rfl, x10 _ _ (x9 _ _ (x8 _ _ e10)), e11, by show 4 ≤ sizeLine; omega, fun p12 hp12 => ?_⟩
                have x11 := (Ext.refl B10).new hp12 (o := .lst ([V.bl (longV v), V.bl (lettersV v)] ++ [V.bl (inB z 0 4000 v), V.bl (inB z 1 400 v)]))
                have e12 : (upd B10 p12 (.lst ([V.bl (longV v), V.bl (lettersV v)] ++ [V.bl (inB z 0 4000 v), V.bl (inB z 1 400 v)]))) p12 = some (.lst [V.bl (longV v), V.bl (lettersV v), V.bl (textV z 4000 v), V.bl (wordV z 400 v)]) := by
                  rw [← text_in, ← word_in]
                  exact upd_same
                generalize upd B10 p12 (.lst ([V.bl (longV v), V.bl (lettersV v)] ++ [V.bl (inB z 0 4000 v), V.bl (inB z 1 400 v)])) = B11 at x11 e12
                have xx : Ext B5 B11 := x6.trans (x7.trans (x8.trans (x9.trans (x10.trans x11))))
                have xa : Ext B1 B11 := x2.trans (x3.trans (x4.trans (x5.trans xx)))
                have d4 := four_ok (longV v) (lettersV v) (textV z 4000 v) (wordV z 400 v)
                refine ⟨_, rfl, _, .list [.bool (longV v), .bool (lettersV v), .bool (textV z 4000 v), .bool (wordV z 400 v)], rfl, .dat (.lst (SqL.of (xx _ _ e9)) (.cons (.bl _) (.cons (.bl _) (.cons (.bl _) (.cons (.bl _) .nil))))), d4.1, d4.2.1, d4.2.2, ?_⟩
                refine ⟨_, rfl, _, .list [.bool (longV v), .bool (lettersV v), .bool (textV z 4000 v), .bool (wordV z 400 v)], rfl, .dat (.lst (SqL.of e12) (.cons (.bl _) (.cons (.bl _) (.cons (.bl _) (.cons (.bl _) .nil))))), d4.1, d4.2.1, d4.2.2, rfl, _, rfl, iteNS rfl ?_⟩
                exact ⟨⟨_, _, _, rfl⟩, ext_n b1 xa, tb1.ext xa⟩
              · rintro σ B1 ⟨⟨o8, o9, o10, rfl⟩, b1, tb1⟩
                refine ⟨_, rfl, v, rfl, ask _ b1, fun B2 x2 => ⟨_, rfl, ?_⟩⟩
                have b2 := ext_n b1 x2
                have tb2 := tb1.ext x2
                cases lv : lettersV v with
                | true => exact iteF ⟨⟨_, _, _, _, _, _, _, _, _, _, rfl⟩, b2, tb2⟩
                | false =>
                  refine iteT ⟨tb2, fun B3 n3 t3 => ⟨_, rfl, v, .str (Str.ofString "a"), rfl, ask _ (b2.trans n3), ⟨by decide +kernel, by decide +kernel⟩, fun _ B4 x4 => Or.inl ⟨rfl, ?_⟩, fun x ex c => (by rw [lv] at c; cases c)⟩⟩
                  have b4 := ext_n (b2.trans n3) x4
                  refine ⟨_, rfl, ask _ b4, lv, t3.ext x4, fun B5 n5 t5 => ⟨by show 2 ≤ sizeLine; omega, fun pw hpw => ?_⟩⟩
                  have b5 := b4.trans n5
                  have x6 := (Ext.refl B5).new hpw (o := .lst [V.str (Str.ofString "letters"), V.str (Str.ofString "letters")])
                  have ew : (upd B5 pw (.lst [V.str (Str.ofString "letters"), V.str (Str.ofString "letters")])) pw = some (.lst [V.str (Str.ofString "letters"), V.str (Str.ofString "letters")]) := upd_same
                  generalize upd B5 pw (.lst [V.str (Str.ofString "letters"), V.str (Str.ofString "letters")]) = B6 at x6 ew
                  refine ⟨_, rfl, by show 1 ≤ sizeLine; omega, fun pa hpa => ?_⟩
                  have x7 := (Ext.refl B6).new hpa (o := .lst [V.str (Str.ofString "letters")])
                  have ea : (upd B6 pa (.lst [V.str (Str.ofString "letters")])) pa = some (.lst [V.str (Str.ofString "letters")]) := upd_same
                  generalize upd B6 pa (.lst [V.str (Str.ofString "letters")]) = B7 at x7 ea
                  refine ⟨pa, 2, _, rfl, rfl, ea, by decide, by decide, by show 2 ≤ sizeLine; omega, fun pr hpr => ?_⟩
                  have x8 := (Ext.refl B7).new hpr (o := .lst (List.replicate (2 : Int).toNat [V.str (Str.ofString "letters")]).flatten)
                  have words : ∀ y ∈ [Str.ofString "letters", Str.ofString "letters"], PyData.strOk y = true := by decide +kernel
                  refine ⟨.list ([Str.ofString "letters", Str.ofString "letters"].map PyData.str), .list ([Str.ofString "letters", Str.ofString "letters"].map PyData.str), .lst (SqL.of (x8 _ _ (x7 _ _ ew))) (dpa_txt [Str.ofString "letters", Str.ofString "letters"]), .lst (SqL.of upd_same) (dpa_txt [Str.ofString "letters", Str.ofString "letters"]), txt_shaped words, txt_shaped words, _, rfl, ?_⟩
                  rw [eqvL_self]
                  have xz : Ext B5 _ := x6.trans (x7.trans x8)
                  exact iteF ⟨⟨_, _, _, _, _, _, _, _, _, _, rfl⟩, ext_n b5 xz, t5.ext xz⟩
            · rintro σ B1 ⟨⟨o1, o3, o4, o6, o8, o9, o10, o11, o12, o13, rfl⟩, b1, tb1⟩
              refine ⟨_, rfl, _, rfl, j, z, rfl, jug_n kk9.2 b1, lz, fz.1, fz.2, tb1, fun B2 kt => ⟨_, rfl, iteF ?_⟩⟩
              refine ⟨⟨_, _, _, _, _, _, _, _, _, _, _, _, _, rfl⟩, ⟨fun b o n e => ?_, kt.tabs⟩⟩
              have e0 := s0.keep b o n e
              have nb : b ≠ j := fun w => by
                rw [w, hj] at e0
                cases e0
              exact kt.keep b o nb n (b1 _ _ (kk9.1 b o nb (s1.keep b o n e)) n)
    · rintro σ H' ⟨⟨x1, x2, x3, x4, x5, x6, x7, x8, x9, x10, x11, x12, x13, rfl⟩, st⟩
      refine ⟨by show 3 ≤ sizeLine; omega, fun p hp => ⟨by show 3 ≤ sizeLine; omega, fun p2 hp2 => ?_⟩⟩
      have e0 : (upd H' p (.lst [V.int 200, V.int 400, V.int 4000])) p = some (.lst [V.int 200, V.int 400, V.int 4000]) := upd_same
      have e1 : (upd (upd H' p (.lst [V.int 200, V.int 400, V.int 4000])) p2 (.lst [V.int 200, V.int 400, V.int 4000])) p = some (.lst [V.int 200, V.int 400, V.int 4000]) := (upd_ne (ne_of_none e0 hp2)).trans e0
      refine ⟨.list [.int 200, .int 400, .int 4000], .list [.int 200, .int 400, .int 4000], .lst (SqL.of e1) (.cons (.int _) (.cons (.int _) (.cons (.int _) .nil))), .lst (SqL.of upd_same) (.cons (.int _) (.cons (.int _) (.cons (.int _) .nil))), by decide +kernel, by decide +kernel, ?_⟩
      have same : PyData.eqv (.list [.int 200, .int 400, .int 4000]) (.list [.int 200, .int 400, .int 4000]) = true := by simp [PyData.eqv, PyData.eqvAll]
      rw [same]
      exact q _
end
end K0

/-! a lambda that outlives the def that made it -/
namespace EX
open PySem PySem.Spec PyProof.Rows L2 LamX
open PySem.W (Frag)
/-- what a made closure is, once its maker's frame is gone: the object at f, its one cell cc, the value in it -/
structure Esc (P : Program) (w : World) (fs : List Addr) (H : Hp) (h : Heap) (f cc c' : Addr) (a q : Str) (params : Arguments) (body : Expr) (scope : Scope) (v : V) : Prop where
  obj : ∃ cl pm ctv, h.get? f = some (PySem.W.kla_obj "<lambda>" q params body scope cl pm c' ctv) ∧ cl.lookup a = some cc ∧ ∀ y z, cl.lookup y = some z → y = a ∧ z = cc
  fn : H f = none
  ffr : f ∉ fs
  cell : ∃ u, h.IsCell cc (some u) ∧ RelV v u
  cn : H cc = none
  code : H c' = some (CodeO c' q)

theorem frs_tail {e : Env} {l : List Env} {b : Addr} (h : b ∉ frs (e :: l)) : b ∉ frs l := fun m => h (by
  obtain ⟨x, mx, ex⟩ := List.mem_filterMap.mp m
  exact List.mem_filterMap.mpr ⟨x, List.mem_cons_of_mem _ mx, ex⟩)
/-- clos of a scope whose only free name is a -/
theorem clo_one {cells : List (Str × Addr)} {a : Str} {cc : Addr} : ∀ {names : List (Str × NameKind)} {acc : List (Str × Addr)}, (∀ y ∈ names, y.2 = .free → y.1 = a) → cells.lookup a = some cc → (∀ p ∈ acc, p = (a, cc)) → ∀ p ∈ cloFrom cells names acc, p = (a, cc) := by
  intro names acc h e k p hp
  rcases cloFrom_mem hp with m | ⟨m1, m2⟩
  · exact k p m
  · have z := h _ m1 rfl
    have z2 : p.1 = a := z
    obtain ⟨p1, p2⟩ := p
    simp only at z2 m2
    subst z2
    rw [m2, e]
    rfl

section
variable {X : Cx} {pins : List (Addr × Obj)} {σ : L2.St} {H : Hp} {s : Shared} {T : List (Addr × Str)} {fw c P : Addr} {x a : Str} {params lp : Arguments} {lb : Expr} {ls scope : Scope} {lpos rpos : Pos} {fd : FuncData} {v : V} {u : Value}
theorem esc_call (F : FunD X.K x x params [.Return (some (.Lambda lp lb ls lpos)) rpos] scope [] [] fw fd) (C : ∀ oc od fd' osl, X.K.lookup fw = some ⟨oc, od, .func fd', osl⟩ → fd'.code = .ref c) (S : FnScope [a] [a] scope) (acell : scope.names.lookup a = some .cell)
    (TB : TabB X.base X.mg c P) (inT : (P, x ++ ".<locals>." ++ "<lambda>") ∈ T) (oneT : ∀ p ∈ T, p.1 = P → p.2 = x ++ ".<locals>." ++ "<lambda>") (bd : Binds X.K fd [a] []) (hr : Room 1 X.A)
    (L : LamS scope ls) (only : ∀ y ∈ ls.names, y.2 = .free → y.1 = a) (has : (a, NameKind.free) ∈ ls.names) (hdef : ∀ env, defaultsOf lp env = ([], []))
    (I : Inv X pins σ H s) (tabs : Tabs T H) (r : RelV v u) (E : Value → Shared → Prop) (Q : Value → Shared → Prop)
    (fin : ∀ f cc c' H1 s', Inv X pins σ H1 s' → ExtN H H1 → Tabs T H1 → Esc X.prog X.w (frs X.stack) H1 s'.heap f cc c' a (x ++ ".<locals>." ++ "<lambda>") lp lb ls v → Q (.ref f) s') :
    wpAny (model X.prog X.w) X.A (call (.ref fw) [u]) Q E s := by
  obtain ⟨oc, od, dV, kV, doc, pm, an, cdv, ct, osl, rfl, lk, hcd, _, _⟩ := F.ex
  have ec : cdv = .ref c := C _ _ _ _ lk
  subst ec
  have KX : X.K.In s.heap := I.kIn
  have e0 := I.env0
  have lim : s.heap.NoLimit := e0.mod.nolimit.keeps fun b o e => (e0.bs b o e).1
  have bound := bd s [u] I.kIn rfl
  let R : Result → Shared → Prop := fun r s' => match r with
    | .ok (.ret y) => ∃ f cc c' H1, y = .ref f ∧ s'.os = s.os ∧ AllBare s'.gens ∧ Un (frs X.stack) [] H H1 s.heap s'.heap ∧ HOk X.prog X.w H1 s'.heap ∧ ExtN H H1 ∧ Tabs T H1 ∧
        Esc X.prog X.w (frs X.stack) H1 s'.heap f cc c' a (x ++ ".<locals>." ++ "<lambda>") lp lb ls v
    | _ => False
  have rc : codeAny (model X.prog X.w) X.A (.call (.ref fw) ⟨[u], []⟩) R s := by
    have hkind : ∀ y ∈ [a].zip [u], scope.names.lookup y.1 = some .local ∨ (scope.names.lookup y.1 = some .cell ∧ ((cellsFrom (s.heap.objs.size + 1) scope.names []).lookup y.1).isSome = true) := fun ⟨n, w⟩ hy => by
      rcases S.par n (List.of_mem_zip hy).1 with q | q
      · exact .inl q
      · exact .inr ⟨q, PySem.W.cellsFrom_some _ _ _ (.inl q)⟩
    refine codeAny_call_function hr.depth (KX _ _ lk) rfl S.co S.gen rfl (PySem.W.codeRec_of KX hcd) (bound _ _ _ _ ?_)
    refine wpAny_newFunctionEnv_cells S.kind hkind fun env he s1 xx => ?_
    subst he
    refine ⟨lim.keeps xx.toInCall.keep, codeAny_func ?_⟩
    have I2 : Inv (cxOf C8.CX0 X.prog X.w X.K X.mg X.base [a] x scope fw (.ref c) X.A X.stack s H C8.E0) [] (L2.start [a] [v]) H s1 := inv_start S hr.hd e0 rfl (.cons r .nil) xx
    refine wpAny_execs_cons (wpAny_Return_some (lam_make2 I2 TB rfl inT oneT tabs (hdef _) (LamS.has (X := cxOf C8.CX0 X.prog X.w X.K X.mg X.base [a] x scope fw (.ref c) X.A X.stack s H C8.E0) L I2.ok) fun f c' pm' ctv H1 s2 J eN T1 hf hfn hfr hco => ?_))
    obtain ⟨m, hn, hl⟩ := J.loc
    obtain ⟨w', rw', q⟩ := hl 0 a v rfl rfl (.inr (.inl acell))
    rcases q with ⟨k', _⟩ | ⟨_, cc, e', z⟩
    · have k2 : scope.names.lookup a = some .local := k'
      rw [acell] at k2
      cases k2
    · refine ⟨f, cc, c', H1, rfl, J.os, J.bare, J.base, J.hok, eN, T1, ⟨⟨_, pm', ctv, hf, ?_, ?_⟩, hfn, frs_tail hfr, ⟨w', z, rw'⟩, J.freeC a cc e', hco⟩⟩
      · have one := clo_one (names := ls.names) (acc := []) only e' (fun p hp => by cases hp)
        obtain ⟨c1, h1⟩ := mem_lookup (cloFrom_has (cells := (cxOf C8.CX0 X.prog X.w X.K X.mg X.base [a] x scope fw (.ref c) X.A X.stack s H C8.E0).env.cells) (acc := []) has)
        have z1 := one _ (PySem.mem_of_lookup h1)
        injection z1 with _ z1
        rw [← z1]
        exact h1
      · intro y zz hy
        have z1 := clo_one (names := ls.names) (acc := []) only e' (fun p hp => by cases hp) _ (PySem.mem_of_lookup hy)
        injection z1 with z1 z2
        exact ⟨z1, z2⟩
  refine wpAny_call (codeAny_mono rc fun r s' hq => ?_)
  cases r with
  | error e => exact (show False from hq).elim
  | ok fl =>
    cases fl with
    | ret y =>
      obtain ⟨f, cc, c', H1, rfl, os, bare, un, hok, eN, t1, esc⟩ := (show ∃ f cc c' H1, y = .ref f ∧ s'.os = s.os ∧ AllBare s'.gens ∧ Un (frs X.stack) [] H H1 s.heap s'.heap ∧ HOk X.prog X.w H1 s'.heap ∧ ExtN H H1 ∧ Tabs T H1 ∧ Esc X.prog X.w (frs X.stack) H1 s'.heap f cc c' a (x ++ ".<locals>." ++ "<lambda>") lp lb ls v from hq)
      obtain ⟨hh, g, d, t, os'⟩ := s'
      obtain rfl : os' = s.os := os
      exact fin f cc c' H1 _ (I.call (h' := hh) (g' := g) (d' := d) (t' := t) (ch := []) un hok bare (fun b z => absurd z (by simp))) eN t1 esc
    | next => exact (show False from hq).elim
    | brk => exact (show False from hq).elim
    | cont => exact (show False from hq).elim
end
end EX

/-! such a lambda is called -/
namespace EX
open PySem PySem.Spec PyProof.Rows L2 LamX
open PySem.W (Frag)
abbrev escEnv (q : Str) (scope : Scope) (cl : List (Str × Addr)) (Ad f c' : Addr) : Env := PySem.W.envX q scope Ad f (.ref c') cl
def escCx (X : Cx) (a q : Str) (cl : List (Str × Addr)) (A : Around) (outer : List Env) (s : Shared) (H : Hp) (E : XK) (scope : Scope) (f c' : Addr) : Cx where
  prog := X.prog
  w := X.w
  K := X.K
  mg := X.mg
  base := X.base
  A := A.deeper (escEnv q scope cl s.heap.objs.size f c')
  N := [a]
  s_0 := s
  H_0 := H
  env := escEnv q scope cl s.heap.objs.size f c'
  outer := outer
  stack := escEnv q scope cl s.heap.objs.size f c' :: outer
  ex := []
  fn := fun _ => false
  calm := true
  pn := []
  xe := fun e s' => wpAny (model X.prog X.w) (A.deeper (escEnv q scope cl s.heap.objs.size f c')) (leaving (escEnv q scope cl s.heap.objs.size f c') e) (fun _ s'' => L2.CX X.prog X.w outer H s E e s'') (fun e' s'' => L2.CX X.prog X.w outer H s E e' s'') s'
section
variable {X : Cx} {pins : List (Addr × Obj)} {σ : L2.St} {H HZ : Hp} {s s1 : Shared} {a q : Str} {cl : List (Str × Addr)} {cc : Addr} {sc scope : Scope} {v : V}
theorem esc_start {A : Around} {outer : List Env} {E : XK} {f c' : Addr} {h₁ : Heap} {tk : Nat} {u : Value} (L : LamS sc scope) (e0 : Env0 X.prog X.w X.K X.mg X.base A outer s1 HZ) (quiet : A.handled = none)
    (c1 : cl.lookup a = some cc) (c2 : ∀ y z, cl.lookup y = some z → y = a ∧ z = cc) (only : ∀ y ∈ scope.names, y.2 = .free → y.1 = a) (cell : s1.heap.IsCell cc (some u)) (rv : RelV v u) (cn : HZ cc = none)
    (hns : h₁.Ns s1.heap.objs.size fun y => ([] : List (Str × Value)).reverse.lookup y) (kp : ∀ b o, s1.heap.get? b = some o → h₁.get? b = some o) :
    Inv (escCx X a q cl A outer s1 HZ E scope f c') [] [some v] HZ { s1 with heap := h₁, toks := tk } := by
  have cell1 : h₁.IsCell cc (some u) := by
    obtain ⟨o, ho, hd⟩ := cell
    exact ⟨o, kp _ _ ho, hd⟩
  have none_ : ∀ b : Addr, b ∉ (escCx X a q cl A outer s1 HZ E scope f c').ex := fun b z => absurd (show b ∈ ([] : List Addr) from z) (by simp)
  refine ⟨⟨e0.mod, L.kind, rfl, rfl, Nat.le_refl _, fun y z c e1 e2 => ?_, fun y hy => ?_, fun y c z _ => ?_, fun _ => quiet, Around.frames_deeper e0.frames, .inr ⟨rfl, rfl⟩, fun b z => absurd z (none_ b), e0.bs, e0.bsz, fun b _ _ => none_ b,
      fun b z => absurd z (none_ b), e0.funs, e0.frf⟩,
    rfl, e0.bare, Un.kept kp, ⟨_, hns, fun i y w e1 e2 e3 => ?_⟩, fun y c e => ?_, e0.hok.fresh (Nat.le_refl _), fun y c e => ?_, fun p hp => absurd (show p ∈ ([] : List (Addr × Obj)) ++ [] from hp) (by simp), e0.hok.kept kp, rfl⟩
  · rw [(c2 y c e1).1, (c2 z c e2).1]
  · have hy : scope.names.lookup y = some .cell ∨ scope.names.lookup y = some .free := hy
    rcases hy with hy | hy
    · exact absurd rfl (L.own _ (PySem.mem_of_lookup hy)).2
    · have z := only _ (PySem.mem_of_lookup hy) rfl
      have z : y = a := z
      rw [z]
      exact ⟨cc, c1⟩
  · have z : false = true := z
    cases z
  · have e3 : Vis scope y := e3
    rcases e3 with k | k | k
    · exact absurd rfl (L.own _ (PySem.mem_of_lookup k)).1
    · exact absurd rfl (L.own _ (PySem.mem_of_lookup k)).2
    · cases i with
      | zero =>
        have ey : a = y := Option.some.inj e1
        have ew : v = w := Option.some.inj (Option.some.inj e2)
        subst ey
        subst ew
        exact ⟨u, rv, .inr ⟨.inr k, cc, c1, cell1⟩⟩
      | succ i => cases e1
  · rw [(c2 y c e).2]
    exact ⟨_, cell1⟩
  · rw [(c2 y c e).2]
    exact cn

theorem pe_esc {CXg : CXT} {Eg : XK} {Ng : List Str} {qg : Str} {sg : Scope} {g f c' : Addr} {cdg : Value} {params : Arguments} {body : Expr} {k i : Nat} {b : Str} {pn : List (Addr × Obj)} {xe : Value → Shared → Prop} {W : WX} {E : XK} {tb : TE} {p1 p2 : Pos}
    (esc : Esc X.prog X.w (frs X.stack) H s.heap f cc c' a q params body scope v) (L : LamS sc scope) (only : ∀ y ∈ scope.names, y.2 = .free → y.1 = a)
    (hbind : ∀ (cl : List (Str × Addr)) (pm cv ctv : Value), bindArgs (PySem.W.kla_fn "<lambda>" q params body scope cl pm cv ctv) ⟨[], []⟩ = pure [])
    (tk : Takes ((cxOf CXg X.prog X.w X.K X.mg X.base Ng qg sg g cdg X.A X.stack s H Eg).tr pn xe) W) (hW : ∀ cls d σ' H', E cls d H' → W cls d σ' H') (hr : Room (k + 1) (X.A.deeper (envOfC qg sg s.heap.objs.size g cdg)))
    (hbody : ∀ (cl : List (Str × Addr)) (A : Around) (outer : List Env) (s : Shared) (H : Hp), Room k (A.deeper (escEnv q scope cl s.heap.objs.size f c')) → PE (escCx X a q cl A outer s H E scope f c') body tb)
    (hN : Ng[i]? = some b) (hv : Vis sg b) (hd : (b == ("__debug__" : Str)) = false := by decide) (hcd : (b == ("__classdict__" : Str)) = false := by decide) :
    PE ((cxOf CXg X.prog X.w X.K X.mg X.base Ng qg sg g cdg X.A X.stack s H Eg).tr pn xe) (.Call (.Name b p1) [] [] p2)
      (fun σZ HZ Q => σZ[i]? = some (some (.ref f)) ∧ HZ c' = some (CodeO c' q) ∧ tb [some v] HZ Q) := by
  obtain ⟨⟨cl, pm, ctv, hf, c1, c2⟩, hfn, hfr, ⟨u0, hcell, rv⟩, cn, _⟩ := esc
  refine ⟨fun pinsZ sZ σZ HZ Q IZ h => ?_⟩
  obtain ⟨h1, h2, h3⟩ := h
  refine wpAny_Call_Name_kw (thn ((pe_var (pos := p1) (i := i) hN hv hd hcd).run pinsZ sZ σZ HZ (fun y H1 => y = .ref f ∧ H1 = HZ) IZ ⟨.ref f, h1, rfl, rfl⟩) fun u s1 ⟨y, H1, I1, r1, q1⟩ => ?_)
  obtain ⟨ey, eH⟩ := q1
  subst ey
  rw [eH] at I1
  obtain rfl : u = Value.ref f := r1
  have un : Un (frs X.stack) [] H HZ s.heap s1.heap := I1.base
  have of1 := un.keep f _ hf hfn hfr (fun z => nomatch (show f ∈ ([] : List Addr) from z))
  have cell1 : s1.heap.IsCell cc (some u0) := by
    obtain ⟨o, ho, hdat⟩ := hcell
    obtain ⟨sl, z⟩ := un.any ho cn (by simp)
    exact ⟨_, z, hdat⟩
  have cn1 : HZ cc = none := by
    obtain ⟨o, ho, _⟩ := hcell
    exact un.free cc o ho cn (by simp)
  refine PySem.W.callWith_F0 ⟨_, _, _, _, of1⟩ ?_
  obtain ⟨⟨oc, vs, t, hoc, hdc, hvc⟩, _, _⟩ := I1.hok c' _ h2
  have rc : codeAny (model X.prog X.w) (X.A.deeper (envOfC qg sg s.heap.objs.size g cdg)) (.call (.ref f) ⟨[], []⟩) (CR (L2.CX X.prog X.w) (envOfC qg sg s.heap.objs.size g cdg :: X.stack) X.prog X.w HZ s1 Q E) s1 := by
    refine PySem.W.kla_callFunE hr.depth of1 rfl L.co L.gen rfl ⟨c', oc, vs, t, rfl, hoc, hdc, hvc⟩ ?_
    rw [hbind]
    refine wpAny_pure (wpAny_newFunctionEnv (fun y hy => (L.own y hy).2) (fun y hy => absurd hy (by simp)) (fun h₁ hns hsb => ⟨I1.nolimit.fresh _ hsb, ?_⟩) L.kind)
    show codeAny _ _ (.expr body (escEnv q scope cl s1.heap.objs.size f c')) _ _
    have kp : ∀ b o, s1.heap.get? b = some o → h₁.get? b = some o := fun b o e => hsb.extBut b o (Nat.ne_of_lt (Heap.lt_size e)) (Heap.get?_push_of_some _ e)
    have J : Inv (escCx X a q cl (X.A.deeper (envOfC qg sg s.heap.objs.size g cdg)) (envOfC qg sg s.heap.objs.size g cdg :: X.stack) s1 HZ E scope f c') [] [some v] HZ { s1 with heap := h₁, toks := s1.toks + ([] : List (Str × Value)).length } :=
      esc_start L I1.env0 hr.hd c1 c2 only cell1 rv cn1 hns kp
    refine PySem.W.kla_codeExpr (wpAny_mono ((hbody cl _ _ s1 HZ (hr.deeper _)).run [] _ _ HZ Q J h3) (fun y s' hq => ?_) fun e s' hq => hq)
    obtain ⟨w', H', J', ry, z⟩ := hq
    exact ⟨w', H', J'.os, J'.bare, J'.base, J'.hok, ry, z⟩
  have hx : Passes (L2.CX X.prog X.w) ((cxOf CXg X.prog X.w X.K X.mg X.base Ng qg sg g cdg X.A X.stack s H Eg).tr pn xe) E := passes_call tk hW
  refine wpAny_call (codeAny_mono rc fun r s' hq => ?_)
  cases r with
  | error e => exact hx pinsZ σZ HZ s1 e s' I1 hq
  | ok fl =>
    cases fl with
    | ret y => exact I1.after hq
    | next => exact False.elim hq
    | brk => exact False.elim hq
    | cont => exact False.elim hq
end
end EX

/-! told(word_call(e)) -/
namespace K0
open PySem PySem.Spec PyProof.Rows L2 XSt NX LamX XE EX
open PySem.W (Frag)
abbrev sWordCall : Stmt := top 35
def lamPars : Stmt → Arguments
  | .Return (some (.Lambda p _ _ _)) _ => p
  | _ => default
def lamBody : Stmt → Expr
  | .Return (some (.Lambda _ b _ _)) _ => b
  | _ => default
def lamScope : Stmt → Scope
  | .Return (some (.Lambda _ _ s _)) _ => s
  | _ => default
def lamPos : Stmt → Pos
  | .Return (some (.Lambda _ _ _ l)) _ => l
  | _ => default
def retPos : Stmt → Pos
  | .Return _ l => l
  | _ => default
abbrev sRet : Stmt := (defBody sWordCall).getD 0 (.Pass ⟨0, 0, 0, 0⟩)
section
variable {P : Program} {w : World} {K : Frag} {mg : Str → Option Value} {base : Heap} {f g c tb : Addr} {fd : FuncData} {cL cT cO : Addr} {T : List (Addr × Str)}
theorem scWordCall : FnScope ["value"] ["value"] (defScope sWordCall) := ⟨rfl, rfl, rfl, by decide +kernel, rfl, by decide +kernel, by decide +kernel⟩
theorem word_body : defBody sWordCall = [.Return (some (.Lambda (lamPars sRet) (lamBody sRet) (lamScope sRet) (lamPos sRet))) (retPos sRet)] := rfl
theorem lam_only : ∀ y ∈ (lamScope sRet).names, y.2 = .free → y.1 = Str.ofString "value" := by decide +kernel
theorem lam_has : (Str.ofString "value", NameKind.free) ∈ (lamScope sRet).names := by decide +kernel
theorem tyx_n {K : Frag} {H H' : Hp} (k : ExtN H H') {v : V} {t : Value} (h : TyX K H v t) : TyX K H' v t := by
  cases h with
  | base b =>
    refine .base ?_
    cases b with
    | non => exact .non
    | bl x => exact .bl x
    | int x => exact .int x
    | str x => exact .str x
    | flt x => exact .flt x
    | lst e => exact .lst (k _ _ e (fun ps y => by cases y))
    | frz e => exact .frz (k _ _ e (fun ps y => by cases y))
    | tup e => exact .tup (k _ _ e (fun ps y => by cases y))
    | dK e => exact .dK (k _ _ e (fun ps y => by cases y))
    | dT e => exact .dT (k _ _ e (fun ps y => by cases y))
    | ins e a b c d g => exact .ins (k _ _ e (fun ps y => by cases y)) a b c d g
  | byt b => exact .byt b
  | set e => exact .set (k _ _ e (fun ps y => by cases y))
  | kList a b => exact .kList a b
  | kTuple a b => exact .kTuple a b
  | kDict a b => exact .kDict a b
  | fTuple e => exact .fTuple (k _ _ e (fun ps y => by cases y))
  | fDict e => exact .fDict (k _ _ e (fun ps y => by cases y))
theorem asked_n {K : Frag} {H H' : Hp} (k : ExtN H H') {v : V} (h : Asked K H v) : Asked K H' v := by
  cases v with
  | ref a =>
    obtain ⟨b, t, h1, h2⟩ := h
    exact ⟨b, t, tyx_n k h1, h2⟩
  | _ => exact h
theorem word_rule (F : FnP K "_law_word_call" sWordCall f fd) (at_ : mg "_law_word_call" = some (.ref f)) (kp : PySem.W.keepIn K (.ref f) = true) (bd : Binds K fd ["value"] []) (C : CodeAt K f c) (TB : TabB base mg c tb)
    (inT : (tb, Str.ofString "_law_word_call" ++ ".<locals>." ++ "<lambda>") ∈ T) (oneT : ∀ p ∈ T, p.1 = tb → p.2 = Str.ofString "_law_word_call" ++ ".<locals>." ++ "<lambda>")
    (R : Refusals K mg cL cT cO) (B : Apart K cL cT cO) (O : ToldOk K mg g) (D4 : Def P w K mg base (L2.CX P w) 3 "is_word" ["letters", "value"] (spIsWord K cL)) : WordRule P w K mg base T := by
  obtain ⟨f4, d4, F4, g4, k4, b4⟩ := D4.ex
  obtain ⟨fdT, FT, bT⟩ := O.fn
  intro X e te p p2 p3 p4 e1 e2 e3 e4 e5 hr hc hg1 hg2 hs he
  subst e1 e2 e3 e4 e5
  obtain ⟨oc, od, dV, kV, doc, pm, an, cdv, ct, osl, rfl, lk, hcd, _, _⟩ := FT.ex
  refine ⟨fun pins s σ H Q I h => ?_⟩
  refine wpAny_Call_Name_kw (ld_glob I hg1 O.at_ ?_)
  refine PySem.W.callWith_K (h₀ := X.base) I.ok.mod.kin O.keep ?_ (by rfl) (by rfl)
  show wpAny _ _ (spliced ((false, eval (.Call (.Name (Str.ofString "_law_word_call") p2) [e] [] p3) X.env) :: backTo p4 (starEach [] X.env))) _ _ s
  refine Calls.spliced_cons (wpAny_Call_Name_kw (ld_glob I hg2 at_ ?_))
  refine PySem.W.callWith_K (h₀ := X.base) I.ok.mod.kin kp ?_ hs (by rfl)
  rw [hs]
  show wpAny _ _ (spliced ((false, eval e X.env) :: backTo p3 (starEach [] X.env))) _ _ s
  refine Calls.spliced_cons (thn (he.run pins s σ H _ I h) fun u s1 ⟨v, H1, I1, r1, q1⟩ => Calls.spliced_nil ⟨I1.kIn, ?_⟩)
  obtain ⟨ask, lv, tabs, fin⟩ := q1
  have F' : FunD X.K (Str.ofString "_law_word_call") (Str.ofString "_law_word_call") (defArgs sWordCall) [.Return (some (.Lambda (lamPars sRet) (lamBody sRet) (lamScope sRet) (lamPos sRet))) (retPos sRet)] (defScope sWordCall) [] [] f fd := F
  refine esc_call (T := T) F' C scWordCall (by rfl) TB inT oneT bd (hr.mono (by decide)) (lamS_by (sc := defScope sWordCall) (by decide +kernel)) lam_only lam_has (fun _ => rfl) I1 tabs r1 X.xe _ fun f' cc c' H2 s2 I2 eN t2 esc => ?_
  refine Calls.spliced_nil ⟨I2.kIn, ?_⟩
  have rc : codeAny (model X.prog X.w) X.A (.call (.ref g) ⟨[.ref f'], []⟩) (CR C8.CX0 X.stack X.prog X.w H2 s2 Q C8.E0) s2 := by
    refine run_ofS (k := 7) (N := [Str.ofString "call"]) (ps := [Str.ofString "call"]) (us := [.ref f']) (vs := [.ref f']) lk hcd scTold hr I2.env0 (bT s2 [.ref f'] I2.kIn rfl) (.cons rfl .nil) rfl fun hr' => ?_
    have key := told_gives3 (X := X) (q := Str.ofString "_law_word_call" ++ ".<locals>." ++ "<lambda>") (g := g) (cdg := cdv) R B f' c' s2 H2 Q (fun E H' Q' => tCall (spIsWord X.K cL) [] E (tCons (tVar 0) (tCons (tC (.int 1)) tNil)) [some v] H' Q')
      (fun W pn xe E p1 p2 tk hW => pe_esc (k := 6) (i := 0) (tb := tCall (spIsWord X.K cL) [] E (tCons (tVar 0) (tCons (tC (.int 1)) tNil))) esc (lamS_by (sc := defScope sWordCall) (by decide +kernel)) lam_only (fun _ _ _ _ => rfl) tk hW hr'
        (fun cl A outer s H room => by exact pe_call F4 (room.mono (by decide)) (by rfl) g4 k4 b4 .nil (passes_call (takes_of rfl rfl rfl rfl) (fun _ _ _ _ z => z)) (pa_cons (pv 0) (pa_cons pe_int pa_nil))) rfl (.inl (by rfl)))
      esc.code
    obtain ⟨t', ht', hq'⟩ := key (by
      refine ⟨v, rfl, v, .int 1, rfl, ?_, trivial, fun _ H' x => Or.inl ⟨rfl, fin H' (ext_n eN x) (t2.ext x)⟩, fun x ex c => ?_⟩
      · exact asked_n eN ask
      · rw [lv] at c
        cases c)
    exact ⟨t', ht'.nox, hq'⟩
  refine wpAny_call (codeAny_mono rc fun r s' hq => ?_)
  cases r with
  | error e => exact (show False from hq).elim
  | ok fl =>
    cases fl with
    | ret u => exact I2.after hq
    | next => exact False.elim hq
    | brk => exact False.elim hq
    | cont => exact False.elim hq
end
end K0

/-! the end of a law whose def is guarded, where the defs' tables of nested code are told of -/
namespace XE
open PySem PySem.Spec PyProof.Rows L2 LamX
open PySem.W (Frag)
/-- the tables, and at most the script -/
structure OnlyT (tabs : List Addr) (a : Addr) (H : Hp) : Prop where
  tab : ∀ b ∈ tabs, H b = some (.tbl #[])
  own : ∀ b, b ∉ tabs → H b = none ∨ (b = a ∧ ∃ o xs, H b = some (.frz o (.lst xs)))
def hpT (tabs : List Addr) (more : Hp) : Hp := fun b => if b ∈ tabs then some (.tbl #[]) else more b
theorem hpT_in {tabs : List Addr} {more : Hp} {b : Addr} (h : b ∈ tabs) : hpT tabs more b = some (.tbl #[]) := if_pos h
theorem hpT_out {tabs : List Addr} {more : Hp} {b : Addr} (h : b ∉ tabs) : hpT tabs more b = more b := if_neg h
theorem law_guardedT {P : Program} {w : World} {K : Frag} {mg mb : Str → Option Value} {CX : CXT} {k : Nat} {fa a : Addr} {cs : List (Addr × Addr)} {fd : FuncData} {x : Str} {sp : Sp} {s₁ : Shared} {vs : List Value} {ns : List Int}
    (KX : K.In s₁.heap) (hns : s₁.heap.Ns mainGlobals mg) (hb : s₁.heap.Ns builtinsNs mb) (hbb : ∀ x : Str, x ≠ "__name__" → mb x = bootBuiltins x) (hlim : s₁.heap.NoLimit) (hg : s₁.gens = #[])
    (hT : ∀ p ∈ cs, s₁.heap.get? p.2 = some { cls := .none, data := .fields #[] }) (nT : ∀ p ∈ cs, K.lookup p.2 = none) (hd : ∀ p ∈ cs, PySem.W.codeHdIn K p.1 p.2 = true)
    (hbm : ∃ (bm : Addr) (ob : Obj), mg "__builtins__" = some (.ref bm) ∧ bm ≠ builtinsNs ∧ s₁.heap.get? bm = some ob ∧ ob.cls = .type "module" ∧ ob.dict = some builtinsNs ∧ ob.data = .plain)
    (ha : s₁.heap.get? a = some { cls := .type "list", data := .seq vs.toArray }) (hi : IntsAre vs ns) (hl : ns.length ≤ sizeLine) (hr : Room k callerA)
    (F : ∀ base : Heap, K.In base → base.Ns mainGlobals mg → (∀ p ∈ cs, TabB base mg p.1 p.2) → FnG P w K mg base CX k fa fd [x] sp) (hbind : ∀ (s : Shared) (u : Value), BindsTo s fd ⟨[u], []⟩ [(x, u)])
    (hsp : ∀ H : Hp, (∀ p ∈ cs, H p.2 = some (.tbl #[])) → SqL K H a (ns.map V.int) → sp [.ref a] H (fun v _ => v = .bl true) fun _ _ _ => False)
    (hCX : ∀ H e s', CX [] H s₁ (fun _ _ _ => False) e s' → False) :
    codeAny (model P w) callerA (.call (.ref fa) ⟨[.ref a], []⟩) (fun r s' => r = .ok (.ret (.bool true)) ∧ OldK s₁.heap s'.heap ∧ s'.os = s₁.os ∧ AllBare s'.gens) s₁ := by
  have values := vals_ints hi
  have howmany := hi.length
  have tabAt : ∀ b ∈ cs.map (·.2), s₁.heap.get? b = some { cls := .none, data := .fields #[] } := fun b hb => by
    obtain ⟨p, hp, rfl⟩ := List.mem_map.mp hb
    exact hT p hp
  have tabK : ∀ b ∈ cs.map (·.2), K.lookup b = none := fun b hb => by
    obtain ⟨p, hp, rfl⟩ := List.mem_map.mp hb
    exact nT p hp
  have inT : ∀ p ∈ cs, p.2 ∈ cs.map (·.2) := fun p hp => List.mem_map_of_mem hp
  have notT : a ∉ cs.map (·.2) := fun z => by
    have y := congrArg Obj.data (Option.some.inj (ha.symm.trans (tabAt a z)))
    exact Data.noConfusion y
  have main : ∀ H : Hp, OnlyT (cs.map (·.2)) a H → SqL K H a (ns.map V.int) → HOk P w H s₁.heap → (H a ≠ none → K.lookup a = none) →
      codeAny (model P w) callerA (.call (.ref fa) ⟨[.ref a], []⟩) (fun r s' => r = .ok (.ret (.bool true)) ∧ OldK s₁.heap s'.heap ∧ s'.os = s₁.os ∧ AllBare s'.gens) s₁ := by
    intro H hO hS hok hK
    have below : ∀ {b : Addr} {o : Obj}, s₁.heap.get? b = some o → H b = none → (hidT s₁.heap H).get? b = some o := fun e n => hidT_get e n
    have free : ∀ {b : Addr} {o : Obj}, s₁.heap.get? b = some o → (∀ vs n, o.data ≠ .seq vs n) → o.data ≠ .fields #[] → H b = none := by
      intro b o e n1 n2
      rcases Classical.em (b ∈ cs.map (·.2)) with i | i
      · obtain rfl := Option.some.inj (e.symm.trans (tabAt b i))
        exact absurd rfl n2
      · rcases hO.own b i with z | ⟨rfl, _⟩
        · exact z
        · obtain rfl := Option.some.inj (e.symm.trans ha)
          exact absurd rfl (n1 _ _)
    have spaces : ∀ {b : Addr} {m : Str → Option Value}, s₁.heap.Ns b m → (hidT s₁.heap H).Ns b m := fun {b m} ⟨o, es, ep, e, d, r⟩ => ⟨o, es, ep, below e (free e (fun vs n z => by rw [d] at z; cases z) (fun z => by rw [d] at z; cases z)), d, r⟩
    have written : K.In (hidT s₁.heap H) := fun b o e => below (KX b o e) (by
      rcases Classical.em (b ∈ cs.map (·.2)) with i | i
      · rw [tabK b i] at e
        cases e
      · rcases hO.own b i with z | ⟨rfl, o', xs, z⟩
        · exact z
        · rw [hK (by rw [z]; simp)] at e
          cases e)
    have ground : Mod K mg (hidT s₁.heap H) := ⟨written, spaces hns, ⟨mb, spaces hb, hbb⟩, hlim.elim fun mc z => ⟨mc, spaces z.1, z.2⟩⟩
    have tables : ∀ p ∈ cs, TabB (hidT s₁.heap H) mg p.1 p.2 := fun p hp => by
      have nsD := hns
      obtain ⟨o, es, ep, e, d, _⟩ := nsD
      refine NdefX.tabB_of_K written (hd p hp) ?_ fun z => ?_
      · obtain ⟨bm, ob, b1, b2, b3, b4, b5, b6⟩ := hbm
        refine ⟨bm, ob, b1, b2, fun z => ?_, fun z => ?_, below b3 (free b3 (fun vs n z => by rw [b6] at z; cases z) fun z => by rw [b6] at z; cases z), b4, b5, b6⟩
        · rw [z] at b3
          obtain rfl := Option.some.inj (e.symm.trans b3)
          rw [d] at b6
          cases b6
        · rw [z] at b3
          obtain rfl := Option.some.inj ((hT p hp).symm.trans b3)
          cases b6
      · rw [z] at e
        obtain rfl := Option.some.inj ((hT p hp).symm.trans e)
        cases d
    have entry : Env0 P w K mg (hidT s₁.heap H) callerA [] s₁ H := ⟨rfl, ground, fun b o e => of_hidT e, Nat.le_of_eq (hidT_size _ _), trivial, fun b z => absurd (show b ∈ ([] : List Addr) from z) (by simp), hok, .of_eq hg⟩
    refine codeAny_mono ((F _ written (spaces hns) tables).run callerA [] s₁ H ⟨[.ref a], []⟩ [.ref a] [.ref a] _ _ rfl hr entry (hbind s₁ (.ref a)) (.cons rfl .nil) (hsp H (fun p hp => hO.tab _ (inT p hp)) hS)) fun r s' out => ?_
    cases r with
    | error e => exact (hCX H e s' out).elim
    | ok fl =>
      cases fl with
      | next => exact False.elim out
      | brk => exact False.elim out
      | cont => exact False.elim out
      | ret u =>
        obtain ⟨v, H', os, bare, un, hok', rv, rfl⟩ := out
        obtain rfl : u = Value.bool true := rv
        have stays : ∀ b o, b ∉ cs.map (·.2) → s₁.heap.get? b = some o → s'.heap.get? b = some o := fun b o i e => by
          rcases hO.own b i with z | ⟨_, ob, xs, z⟩
          · exact un.keep b o e z (fun y => absurd (show b ∈ ([] : List Addr) from y) (by simp)) (by simp)
          · obtain ⟨e1, _⟩ := hok b _ z
            obtain ⟨e2, _⟩ := hok' b _ (un.frzs b ob _ z)
            obtain rfl := Option.some.inj (e1.symm.trans e)
            exact e2
        have grows : ∀ b ∈ cs.map (·.2), ∃ more : Array Value, s'.heap.get? b = some { cls := .none, data := .fields more } := fun b i => by
          obtain ⟨more, z⟩ := un.tbls b #[] (hO.tab b i)
          exact ⟨_, hok' b _ z⟩
        refine ⟨rfl, ⟨fun b o e => ?_, fun b o e => ?_⟩, os, bare⟩
        · rcases Classical.em (b ∈ cs.map (·.2)) with i | i
          · obtain ⟨more, hm⟩ := grows b i
            obtain rfl := Option.some.inj ((tabAt b i).symm.trans e)
            obtain ⟨p, hp, rfl⟩ := List.mem_map.mp i
            exact .inr (.inl ⟨((PySem.W.codeHd_of_K KX (hd p hp)).tab (hT p hp)).isCodeTable, rfl, #[], more, rfl, by rw [Array.empty_append]; exact hm⟩)
          · exact .inl (stays b o i e)
        · rcases Classical.em (b ∈ cs.map (·.2)) with i | i
          · obtain ⟨more, hm⟩ := grows b i
            exact ⟨_, hm⟩
          · exact ⟨o, stays b o i e⟩
  rcases Option.eq_none_or_eq_some (K.lookup a) with freeK | ⟨o, own⟩
  · refine main (hpT (cs.map (·.2)) fun b => if b = a then some (.frz { cls := .type "list", data := .seq vs.toArray } (.lst (ns.map V.int))) else none) ⟨fun b i => hpT_in i, fun b i => ?_⟩ (.inl (.inr ⟨{ cls := .type "list", data := .seq vs.toArray }, (hpT_out notT).trans (if_pos rfl)⟩)) (fun b u z => ?_) fun _ => freeK
    · rcases Classical.em (b = a) with e | e
      · exact .inr ⟨e, _, _, (hpT_out i).trans (if_pos e)⟩
      · exact .inl ((hpT_out i).trans (if_neg e))
    · rcases Classical.em (b ∈ cs.map (·.2)) with i | i
      · obtain rfl := Option.some.inj ((hpT_in i).symm.trans z)
        exact tabAt b i
      · have z2 := (hpT_out i).symm.trans z
        rcases Classical.em (b = a) with e | e
        · subst e
          obtain rfl := Option.some.inj ((if_pos rfl).symm.trans z2)
          exact ⟨ha, by rw [List.length_map]; exact hl, vs, _, values, ha⟩
        · have y := (if_neg e).symm.trans z2
          cases y
  · obtain rfl := Option.some.inj ((KX a o own).symm.trans ha)
    refine main (hpT (cs.map (·.2)) fun _ => none) ⟨fun b i => hpT_in i, fun b i => .inl (hpT_out i)⟩ (.inr ⟨_, vs.toArray, _, own, rfl, rfl, rfl, by rw [List.size_toArray, howmany]; exact hl, by simpa using values⟩) (fun b u z => ?_) fun z => absurd (hpT_out notT) z
    rcases Classical.em (b ∈ cs.map (·.2)) with i | i
    · obtain rfl := Option.some.inj ((hpT_in i).symm.trans z)
      exact tabAt b i
    · have y := (hpT_out i).symm.trans z
      cases y
theorem walk_guardedT {l : PySem.W.OpenLaw} {n k : Nat} {q : Program} {loose : List Str} {XP : (Str → Option Value) → Heap → Prop} {YP : World → Heap → Prop} {d : DefRec} {CX : CXT} {x : Str}
    (hn : l.most = some n) (hn2 : n ≤ sizeLine) (hdf : d.params.defaults = []) (hr : Room k callerA)
    (F : ∀ (w : World) (mg : Str → Option Value) (fa : Addr) (h : Heap), YP w h → h.Ns mainGlobals mg → mg d.name = some (.ref fa) →
      ∃ (K : Frag) (fd : FuncData) (cs : List (Addr × Addr)) (sp : Sp), K.In h ∧ (∀ p ∈ cs, h.get? p.2 = some { cls := .none, data := .fields #[] }) ∧ (∀ p ∈ cs, K.lookup p.2 = none) ∧ (∀ p ∈ cs, PySem.W.codeHdIn K p.1 p.2 = true) ∧ (∀ (s : Shared) (u : Value), BindsTo s fd ⟨[u], []⟩ [(x, u)]) ∧
        (∀ (H : Hp) (a : Addr) (ns : List Int), ns.length ≤ n → (∀ p ∈ cs, H p.2 = some (.tbl #[])) → SqL K H a (ns.map V.int) → sp [.ref a] H (fun v _ => v = .bl true) fun _ _ _ => False) ∧
        ∀ base : Heap, K.In base → base.Ns mainGlobals mg → (∀ p ∈ cs, TabB base mg p.1 p.2) → FnG l.prog w K mg base CX k fa fd [x] sp)
    (hCX : ∀ (H : Hp) (s : Shared) (e : Value) (s' : Shared), CX [] H s (fun _ _ _ => False) e s' → False) :
    PySem.W.WalkO q loose XP YP l.row.toRowW d [] (fun f vs => PySem.call f vs) := by
  refine Att.attach_callB hn hdf fun w s₀ s₁ mg mb fa o pm cd doc a vs ns G Y _ _ _ hmg hobj hints hlen _ hg => ?_
  obtain ⟨K, fd, cs, sp, KX, hT, nT, hd, hb, hsp, hF⟩ := F w mg fa _ Y G.T.g hmg
  exact law_guardedT KX G.T.g G.T.b G.T.builtins G.T.nolimit hg hT nT hd G.T.bmain hobj hints (Nat.le_trans hlen hn2) hr hF hb (fun H h1 h2 => hsp H a ns hlen h1 h2) fun H e s' => hCX H s₁ e s'
end XE

/-! the head's facts -/
namespace K0
open PySem PySem.Spec PyProof.Rows L2 XE
open PySem.W (Frag)
def dG (x : Str) (st : Stmt) : He.DefD := ⟨(x, none), x, x, defArgs st, defBody st, defScope st, [], []⟩
def fn : List He.DefD := [dG "is_integer" sIsInteger, dG "is_letters" sIsLetters, dG "is_text" sIsText, dG "is_word" sIsWord, dG "_is_word_of" sIsWordOf, dG "_is_spelled" sIsSpelled, dG "in_order" sInOrder, dG "ordered" sOrdered, dG "check_letters" sCheckLetters, dG "check_text" sCheckText,
  dG "_law_jug" sJug, dG "_law_bit" sBit, dG "_law_pick" sPick, dG "_law_letter" sLetter, dG "_law_spelled" sSpelled, dG "_law_is_long" sIsLong, dG "_law_line" sLine, dG "_law_sorted" sSorted, dG "_law_are_signs" sAreSigns, dG "_law_is_in" sIsIn,
  dG "_law_numbers" sNumbers, dG "_law_strings" sStrings, dG "_law_told" sTold, dG "_law_word_call" sWordCall, dG "_law_order_right" sOrderRight, dG "law" sLaw]
def names : List Str := ["is_integer", "is_letters", "is_text", "is_word", "_is_word_of", "_is_spelled", "in_order", "ordered", "check_letters", "check_text",
  "_law_jug", "_law_bit", "_law_pick", "_law_letter", "_law_spelled", "_law_is_long", "_law_line", "_law_sorted", "_law_are_signs", "_law_is_in",
  "_law_numbers", "_law_strings", "_law_told", "_law_word_call", "_law_order_right", "law"]
def fa : List He.Fa := names.map He.Fa.glo ++ ([.glo "InvalidLetters", .glo "InvalidText", .glo "InvalidOperation",
  .int "_TOO_LONG" ((10 ^ 50) ^ 4), .int "MAX_LETTERS" 3, .int "MAX_TEXT" 4000, .int "MAX_WORD" 400, .int "MAX_DIGITS" 200,
  .free "isinstance", .free "int", .free "bool", .free "str", .free "tuple", .free "abs", .free "len", .free "sorted", .free "set", .free "range", .free "max", .free "min", .free "repr",
  .exc "InvalidLetters", .exc "InvalidText", .exc "InvalidOperation",
  .exm "InvalidLetters" "InvalidLetters" true, .exm "InvalidOperation" "InvalidLetters" false, .exm "InvalidText" "InvalidLetters" false, .exm "InvalidOperation" "InvalidOperation" true, .exm "InvalidText" "InvalidOperation" false, .exm "InvalidText" "InvalidText" true] : List He.Fa)
def tf : List He.Defn := [("_law_order_right", none), ("_law_word_call", none), ("law", none)]
/-- the tables are three -/
def chk (K : Frag) : Bool := decide ((tf.map fun p => (He.cT K p).2).Nodup)
abbrev R : PySem.W.OpenRow := PySem.W.OpenLaw.row PySem.Challenge.rw_twowaycuts_k00_integers_letters_and_word
abbrev hk : PySem.W.Hook := He.hookX 6 fa fn [] tf chk
def ob (s : PySem.W.SharedT) : He.AlX := He.obsX 6 fa fn [] tf chk (HandSHeadRun.getT s)
theorem ob_eq (s : PySem.W.SharedT) : ob s = hk.obs s.abs := He.obsX_eq (HandSHeadRun.getT_eq s)
def loose : List Str := (["BookError", "InvalidLetters", "InvalidText", "InvalidOperation", "MAX_DIGITS", "MAX_WORD", "MAX_TEXT", "MAX_LETTERS", "_TOO_LONG"] : List Str) ++ names
set_option maxHeartbeats 0 in
theorem run (w : World) : HandSHeadRun.RunEq R (PySem.W.view R.prog [37]) hk ob 4000 loose w := by
  intro os
  kernel_rfl
end K0

namespace K0
open PySem PySem.Spec PyProof.Rows L2 XE LamX
open PySem.W (Frag)
theorem ab {a b : Bool} (h : (a && b) = true) : a = true ∧ b = true := Bool.and_eq_true_iff.mp h
theorem plain_ok {K : Frag} {mg : Str → Option Value} {x : Str} (at_ : mg x = some (.ref (He.ga K x))) (h : (He.Fa.exc x).ok K = true) : Plain K mg x (He.ga K x) := by
  have h : (PySem.W.excIn K (He.ga K x) He.veBase "ValueError.__new__" && (PySem.W.keepIn K (.ref (He.ga K x)) && (decide (PySem.W.subIn K (.ref (He.ga K x)) (.type "BaseException") = some true) && decide (PySem.W.typeIn K (.ref (He.ga K x)) = some (.type "type"))))) = true := h
  obtain ⟨h1, h⟩ := ab h
  obtain ⟨h2, h⟩ := ab h
  obtain ⟨h3, h4⟩ := ab h
  exact ⟨at_, h2, h1, of_decide_eq_true h3, of_decide_eq_true h4⟩
theorem codeAt {K : Frag} {x qual : Str} {params : Arguments} {body : List Stmt} {scope : Scope} {dvs : List V} {kws : List (Str × V)} {p : He.Defn} {fd : FuncData} (F : FunD K x qual params body scope dvs kws (He.fAd K p) fd) : CodeAt K (He.fAd K p) (He.cT K p).1 := by
  obtain ⟨oc, od, dV, kV, doc, pm, an, cdv, ct, osl, rfl, lk, hcd, _, _⟩ := F.ex
  obtain ⟨c, rfl⟩ := He.codeIn_ref hcd
  intro oc' od' fd' osl' lk'
  have e : He.codeOf K p = c := He.codeOf_eq lk rfl
  rw [lk] at lk'
  cases lk'
  show (Value.ref c) = .ref (He.codeOf K p)
  rw [e]
def lamOf (p : He.Defn) : Str := p.1 ++ ".<locals>." ++ "<lambda>"
def tabs (K : Frag) : List (Addr × Str) := tf.map fun p => ((He.cT K p).2, lamOf p)
theorem tab_in {K : Frag} {q : He.Defn} (h : q ∈ tf) : ((He.cT K q).2, lamOf q) ∈ tabs K := List.mem_map.mpr ⟨q, h, rfl⟩
theorem in1 : (("_law_order_right", none) : He.Defn) ∈ tf := List.mem_cons_self
theorem in2 : (("_law_word_call", none) : He.Defn) ∈ tf := List.mem_cons_of_mem _ List.mem_cons_self
theorem in3 : (("law", none) : He.Defn) ∈ tf := List.mem_cons_of_mem _ (List.mem_cons_of_mem _ List.mem_cons_self)
theorem of3 {q : He.Defn} (h : q ∈ tf) : q = (("_law_order_right", none) : He.Defn) ∨ q = (("_law_word_call", none) : He.Defn) ∨ q = (("law", none) : He.Defn) := by
  rcases List.mem_cons.mp h with e | h
  · exact .inl e
  rcases List.mem_cons.mp h with e | h
  · exact .inr (.inl e)
  · exact .inr (.inr (List.mem_singleton.mp h))
theorem tab_one {K : Frag} (h : chk K = true) {q : He.Defn} (hq : q ∈ tf) : ∀ p ∈ tabs K, p.1 = (He.cT K q).2 → p.2 = lamOf q := by
  intro p hp e
  obtain ⟨r, hr, rfl⟩ := List.mem_map.mp hp
  have e : (He.cT K r).2 = (He.cT K q).2 := e
  have n : ([(He.cT K ("_law_order_right", none)).2, (He.cT K ("_law_word_call", none)).2, (He.cT K ("law", none)).2] : List Addr).Nodup := of_decide_eq_true h
  simp only [List.nodup_cons, List.mem_cons, List.not_mem_nil, or_false, not_or] at n
  obtain ⟨⟨n1, n2⟩, n3, _⟩ := n
  have hq : q = (("_law_order_right", none) : He.Defn) ∨ q = (("_law_word_call", none) : He.Defn) ∨ q = (("law", none) : He.Defn) := of3 hq
  have hr : r = (("_law_order_right", none) : He.Defn) ∨ r = (("_law_word_call", none) : He.Defn) ∨ r = (("law", none) : He.Defn) := of3 hr
  rcases hq with rfl | rfl | rfl <;> rcases hr with rfl | rfl | rfl
  · rfl
  · exact absurd e.symm n1
  · exact absurd e.symm n2
  · exact absurd e n1
  · rfl
  · exact absurd e.symm n3
  · exact absurd e n2
  · exact absurd e n3
  · rfl
set_option maxHeartbeats 0 in
theorem all_facts {P : Program} {w : World} {K : Frag} {h : Heap} {mg : Str → Option Value} {f : Addr} (X : K.In h) (G : h.Ns mainGlobals mg) (hfa : mg ("law" : Str) = some (.ref f)) (c : He.SaysX fa fn [] tf chk w h K) :
    ∃ fd : FuncData, (∀ (s : Shared) (v : Value), BindsTo s fd ⟨[v], []⟩ [("script", v)]) ∧ ∀ base : Heap, K.In base → base.Ns mainGlobals mg → (∀ p ∈ tf.map (He.cT K), TabB base mg p.1 p.2) → FnG P w K mg base CX0 9 f fd ["script"] (spLaw (tabs K) K) := by
  have cd := c.t.d
  obtain ⟨dIsInteger, FIsInteger⟩ := cd.def_ 0 (d := dG "is_integer" sIsInteger) rfl
  have bIsInteger : Binds K dIsInteger ["value"] [] := FunD.bindsN FIsInteger fun _ _ _ _ _ _ us hl => match us, hl with | [_], _ => rfl
  obtain ⟨dIsLetters, FIsLetters⟩ := cd.def_ 1 (d := dG "is_letters" sIsLetters) rfl
  have bIsLetters : Binds K dIsLetters ["value"] [] := FunD.bindsN FIsLetters fun _ _ _ _ _ _ us hl => match us, hl with | [_], _ => rfl
  obtain ⟨dIsText, FIsText⟩ := cd.def_ 2 (d := dG "is_text" sIsText) rfl
  have bIsText : Binds K dIsText ["letters", "value"] [] := FunD.bindsN FIsText fun _ _ _ _ _ _ us hl => match us, hl with | [_, _], _ => rfl
  obtain ⟨dIsWord, FIsWord⟩ := cd.def_ 3 (d := dG "is_word" sIsWord) rfl
  have bIsWord : Binds K dIsWord ["letters", "value"] [] := FunD.bindsN FIsWord fun _ _ _ _ _ _ us hl => match us, hl with | [_, _], _ => rfl
  obtain ⟨dIsWordOf, FIsWordOf⟩ := cd.def_ 4 (d := dG "_is_word_of" sIsWordOf) rfl
  have bIsWordOf : Binds K dIsWordOf ["letters", "value"] [] := FunD.bindsN FIsWordOf fun _ _ _ _ _ _ us hl => match us, hl with | [_, _], _ => rfl
  obtain ⟨dIsSpelled, FIsSpelled⟩ := cd.def_ 5 (d := dG "_is_spelled" sIsSpelled) rfl
  have bIsSpelled : Binds K dIsSpelled ["letters", "value"] [] := FunD.bindsN FIsSpelled fun _ _ _ _ _ _ us hl => match us, hl with | [_, _], _ => rfl
  obtain ⟨dInOrder, FInOrder⟩ := cd.def_ 6 (d := dG "in_order" sInOrder) rfl
  have bInOrder : Binds K dInOrder ["letters", "texts"] [] := FunD.bindsN FInOrder fun _ _ _ _ _ _ us hl => match us, hl with | [_, _], _ => rfl
  obtain ⟨dOrdered, FOrdered⟩ := cd.def_ 7 (d := dG "ordered" sOrdered) rfl
  have bOrdered : Binds K dOrdered ["texts"] [] := FunD.bindsN FOrdered fun _ _ _ _ _ _ us hl => match us, hl with | [_], _ => rfl
  obtain ⟨dCheckLetters, FCheckLetters⟩ := cd.def_ 8 (d := dG "check_letters" sCheckLetters) rfl
  have bCheckLetters : Binds K dCheckLetters ["letters"] [] := FunD.bindsN FCheckLetters fun _ _ _ _ _ _ us hl => match us, hl with | [_], _ => rfl
  obtain ⟨dCheckText, FCheckText⟩ := cd.def_ 9 (d := dG "check_text" sCheckText) rfl
  have bCheckText : Binds K dCheckText ["letters", "text"] [] := FunD.bindsN FCheckText fun _ _ _ _ _ _ us hl => match us, hl with | [_, _], _ => rfl
  obtain ⟨dJug, FJug⟩ := cd.def_ 10 (d := dG "_law_jug" sJug) rfl
  have bJug : Binds K dJug ["script", "at"] [] := FunD.bindsN FJug fun _ _ _ _ _ _ us hl => match us, hl with | [_, _], _ => rfl
  obtain ⟨dBit, FBit⟩ := cd.def_ 11 (d := dG "_law_bit" sBit) rfl
  have bBit : Binds K dBit ["jug", "much"] [] := FunD.bindsN FBit fun _ _ _ _ _ _ us hl => match us, hl with | [_, _], _ => rfl
  obtain ⟨dPick, FPick⟩ := cd.def_ 12 (d := dG "_law_pick" sPick) rfl
  have bPick : Binds K dPick ["jug", "items"] [] := FunD.bindsN FPick fun _ _ _ _ _ _ us hl => match us, hl with | [_, _], _ => rfl
  obtain ⟨dLetter, FLetter⟩ := cd.def_ 13 (d := dG "_law_letter" sLetter) rfl
  have bLetter : Binds K dLetter ["jug"] [] := FunD.bindsN FLetter fun _ _ _ _ _ _ us hl => match us, hl with | [_], _ => rfl
  obtain ⟨dSpelled, FSpelled⟩ := cd.def_ 14 (d := dG "_law_spelled" sSpelled) rfl
  have bSpelled : Binds K dSpelled ["value"] [] := FunD.bindsN FSpelled fun _ _ _ _ _ _ us hl => match us, hl with | [_], _ => rfl
  obtain ⟨dIsLong, FIsLong⟩ := cd.def_ 15 (d := dG "_law_is_long" sIsLong) rfl
  have bIsLong : Binds K dIsLong ["value"] [] := FunD.bindsN FIsLong fun _ _ _ _ _ _ us hl => match us, hl with | [_], _ => rfl
  obtain ⟨dLine, FLine⟩ := cd.def_ 16 (d := dG "_law_line" sLine) rfl
  have bLine : Binds K dLine ["jug", "signs", "most"] [] := FunD.bindsN FLine fun _ _ _ _ _ _ us hl => match us, hl with | [_, _, _], _ => rfl
  obtain ⟨dSorted, FSorted⟩ := cd.def_ 17 (d := dG "_law_sorted" sSorted) rfl
  have bSorted : Binds K dSorted ["lot"] [] := FunD.bindsN FSorted fun _ _ _ _ _ _ us hl => match us, hl with | [_], _ => rfl
  obtain ⟨dAreSigns, FAreSigns⟩ := cd.def_ 18 (d := dG "_law_are_signs" sAreSigns) rfl
  have bAreSigns : Binds K dAreSigns ["value"] [] := FunD.bindsN FAreSigns fun _ _ _ _ _ _ us hl => match us, hl with | [_], _ => rfl
  obtain ⟨dIsIn, FIsIn⟩ := cd.def_ 19 (d := dG "_law_is_in" sIsIn) rfl
  have bIsIn : Binds K dIsIn ["signs", "value", "least", "most"] [] := FunD.bindsN FIsIn fun _ _ _ _ _ _ us hl => match us, hl with | [_, _, _, _], _ => rfl
  obtain ⟨dNumbers, FNumbers⟩ := cd.def_ 20 (d := dG "_law_numbers" sNumbers) rfl
  have bNumbers : Binds K dNumbers ["jug", "cell"] [] := FunD.bindsN FNumbers fun _ _ _ _ _ _ us hl => match us, hl with | [_, _], _ => rfl
  obtain ⟨dStrings, FStrings⟩ := cd.def_ 21 (d := dG "_law_strings" sStrings) rfl
  have bStrings : Binds K dStrings ["jug"] [] := FunD.bindsN FStrings fun _ _ _ _ _ _ us hl => match us, hl with | [_], _ => rfl
  obtain ⟨dTold, FTold⟩ := cd.def_ 22 (d := dG "_law_told" sTold) rfl
  have bTold : Binds K dTold ["call"] [] := FunD.bindsN FTold fun _ _ _ _ _ _ us hl => match us, hl with | [_], _ => rfl
  obtain ⟨dWordCall, FWordCall⟩ := cd.def_ 23 (d := dG "_law_word_call" sWordCall) rfl
  have bWordCall : Binds K dWordCall ["value"] [] := FunD.bindsN FWordCall fun _ _ _ _ _ _ us hl => match us, hl with | [_], _ => rfl
  obtain ⟨dOrderRight, FOrderRight⟩ := cd.def_ 24 (d := dG "_law_order_right" sOrderRight) rfl
  have bOrderRight : Binds K dOrderRight ["jug", "signs"] [] := FunD.bindsN FOrderRight fun _ _ _ _ _ _ us hl => match us, hl with | [_, _], _ => rfl
  obtain ⟨dLaw, FLaw⟩ := cd.def_ 25 (d := dG "law" sLaw) rfl
  have bLaw : Binds K dLaw ["script"] [] := FunD.bindsN FLaw fun _ _ _ _ _ _ us hl => match us, hl with | [_], _ => rfl
  have gIsInteger := He.glo_ok X G (cd.fact 0 (f := .glo "is_integer") rfl)
  have gIsLetters := He.glo_ok X G (cd.fact 1 (f := .glo "is_letters") rfl)
  have gIsText := He.glo_ok X G (cd.fact 2 (f := .glo "is_text") rfl)
  have gIsWord := He.glo_ok X G (cd.fact 3 (f := .glo "is_word") rfl)
  have gIsWordOf := He.glo_ok X G (cd.fact 4 (f := .glo "_is_word_of") rfl)
  have gIsSpelled := He.glo_ok X G (cd.fact 5 (f := .glo "_is_spelled") rfl)
  have gInOrder := He.glo_ok X G (cd.fact 6 (f := .glo "in_order") rfl)
  have gOrdered := He.glo_ok X G (cd.fact 7 (f := .glo "ordered") rfl)
  have gCheckLetters := He.glo_ok X G (cd.fact 8 (f := .glo "check_letters") rfl)
  have gCheckText := He.glo_ok X G (cd.fact 9 (f := .glo "check_text") rfl)
  have gJug := He.glo_ok X G (cd.fact 10 (f := .glo "_law_jug") rfl)
  have gBit := He.glo_ok X G (cd.fact 11 (f := .glo "_law_bit") rfl)
  have gPick := He.glo_ok X G (cd.fact 12 (f := .glo "_law_pick") rfl)
  have gLetter := He.glo_ok X G (cd.fact 13 (f := .glo "_law_letter") rfl)
  have gSpelled := He.glo_ok X G (cd.fact 14 (f := .glo "_law_spelled") rfl)
  have gIsLong := He.glo_ok X G (cd.fact 15 (f := .glo "_law_is_long") rfl)
  have gLine := He.glo_ok X G (cd.fact 16 (f := .glo "_law_line") rfl)
  have gSorted := He.glo_ok X G (cd.fact 17 (f := .glo "_law_sorted") rfl)
  have gAreSigns := He.glo_ok X G (cd.fact 18 (f := .glo "_law_are_signs") rfl)
  have gIsIn := He.glo_ok X G (cd.fact 19 (f := .glo "_law_is_in") rfl)
  have gNumbers := He.glo_ok X G (cd.fact 20 (f := .glo "_law_numbers") rfl)
  have gStrings := He.glo_ok X G (cd.fact 21 (f := .glo "_law_strings") rfl)
  have gTold := He.glo_ok X G (cd.fact 22 (f := .glo "_law_told") rfl)
  have gWordCall := He.glo_ok X G (cd.fact 23 (f := .glo "_law_word_call") rfl)
  have gOrderRight := He.glo_ok X G (cd.fact 24 (f := .glo "_law_order_right") rfl)
  have gLaw := He.glo_ok X G (cd.fact 25 (f := .glo "law") rfl)
  have g_cL := He.glo_ok X G (cd.fact 26 (f := .glo "InvalidLetters") rfl)
  have g_cT := He.glo_ok X G (cd.fact 27 (f := .glo "InvalidText") rfl)
  have g_cO := He.glo_ok X G (cd.fact 28 (f := .glo "InvalidOperation") rfl)
  have i__TOO_LONG := He.int_ok X G (cd.fact 29 (f := .int "_TOO_LONG" ((10 ^ 50) ^ 4)) rfl)
  have i_MAX_LETTERS := He.int_ok X G (cd.fact 30 (f := .int "MAX_LETTERS" 3) rfl)
  have i_MAX_TEXT := He.int_ok X G (cd.fact 31 (f := .int "MAX_TEXT" 4000) rfl)
  have i_MAX_WORD := He.int_ok X G (cd.fact 32 (f := .int "MAX_WORD" 400) rfl)
  have i_MAX_DIGITS := He.int_ok X G (cd.fact 33 (f := .int "MAX_DIGITS" 200) rfl)
  have m_isinstance := He.free_ok X G (cd.fact 34 (f := .free "isinstance") rfl)
  have m_int := He.free_ok X G (cd.fact 35 (f := .free "int") rfl)
  have m_bool := He.free_ok X G (cd.fact 36 (f := .free "bool") rfl)
  have m_str := He.free_ok X G (cd.fact 37 (f := .free "str") rfl)
  have m_tuple := He.free_ok X G (cd.fact 38 (f := .free "tuple") rfl)
  have m_abs := He.free_ok X G (cd.fact 39 (f := .free "abs") rfl)
  have m_len := He.free_ok X G (cd.fact 40 (f := .free "len") rfl)
  have m_sorted := He.free_ok X G (cd.fact 41 (f := .free "sorted") rfl)
  have m_set := He.free_ok X G (cd.fact 42 (f := .free "set") rfl)
  have m_range := He.free_ok X G (cd.fact 43 (f := .free "range") rfl)
  have m_max := He.free_ok X G (cd.fact 44 (f := .free "max") rfl)
  have m_min := He.free_ok X G (cd.fact 45 (f := .free "min") rfl)
  have m_repr := He.free_ok X G (cd.fact 46 (f := .free "repr") rfl)
  have p_cL := plain_ok g_cL (cd.fact 47 (f := .exc "InvalidLetters") rfl)
  have p_cT := plain_ok g_cT (cd.fact 48 (f := .exc "InvalidText") rfl)
  have p_cO := plain_ok g_cO (cd.fact 49 (f := .exc "InvalidOperation") rfl)
  have e_ll := of_decide_eq_true (show decide (PySem.W.exmOne K (.ref (He.ga K "InvalidLetters")) (.ref (He.ga K "InvalidLetters")) = some true) = true from cd.fact 50 (f := .exm "InvalidLetters" "InvalidLetters" true) rfl)
  have e_ol := of_decide_eq_true (show decide (PySem.W.exmOne K (.ref (He.ga K "InvalidOperation")) (.ref (He.ga K "InvalidLetters")) = some false) = true from cd.fact 51 (f := .exm "InvalidOperation" "InvalidLetters" false) rfl)
  have e_tl := of_decide_eq_true (show decide (PySem.W.exmOne K (.ref (He.ga K "InvalidText")) (.ref (He.ga K "InvalidLetters")) = some false) = true from cd.fact 52 (f := .exm "InvalidText" "InvalidLetters" false) rfl)
  have e_oo := of_decide_eq_true (show decide (PySem.W.exmOne K (.ref (He.ga K "InvalidOperation")) (.ref (He.ga K "InvalidOperation")) = some true) = true from cd.fact 53 (f := .exm "InvalidOperation" "InvalidOperation" true) rfl)
  have e_to := of_decide_eq_true (show decide (PySem.W.exmOne K (.ref (He.ga K "InvalidText")) (.ref (He.ga K "InvalidOperation")) = some false) = true from cd.fact 54 (f := .exm "InvalidText" "InvalidOperation" false) rfl)
  have e_tt := of_decide_eq_true (show decide (PySem.W.exmOne K (.ref (He.ga K "InvalidText")) (.ref (He.ga K "InvalidText")) = some true) = true from cd.fact 55 (f := .exm "InvalidText" "InvalidText" true) rfl)
  have ef := hfa.symm.trans gLaw
  cases ef
  refine ⟨dLaw, fun s v => FunD.bindsA (ps := ["script"]) FLaw (fun _ _ _ _ _ _ us hl => match us, hl with | [_], _ => rfl) s [v] rfl, fun base _ _ TB => ?_⟩
  have R : Refusals K mg (He.ga K "InvalidLetters") (He.ga K "InvalidText") (He.ga K "InvalidOperation") := ⟨p_cL, p_cT, p_cO⟩
  have B : Apart K (He.ga K "InvalidLetters") (He.ga K "InvalidText") (He.ga K "InvalidOperation") := ⟨e_ll, e_ol, e_tl, e_oo, e_to, e_tt⟩
  have M : Free mg := ⟨m_isinstance, m_int, m_bool, m_str, m_tuple, m_abs, m_len, m_sorted, m_set⟩
  have Z : Sizes mg := ⟨i__TOO_LONG, i_MAX_LETTERS, i_MAX_TEXT, i_MAX_WORD⟩
  have O : ToldOk K mg (He.ga K "_law_told") := ⟨gTold, FTold.kp, _, FTold, bTold⟩
  have kBit := ok_bit (P := P) (w := w) (base := base) FBit m_int
  have kJug := ok_jug (P := P) (w := w) (base := base) FJug m_int m_len m_abs m_max
  have kIsInteger := ok_is_integer (P := P) (w := w) (base := base) FIsInteger Z M
  have kIsLetters := ok_is_letters (P := P) (w := w) (base := base) FIsLetters Z M
  have kIsSpelled := ok_is_spelled (P := P) (w := w) (base := base) FIsSpelled M
  have kOrdered := ok_ordered (P := P) (w := w) (base := base) FOrdered M
  have kCheckLetters := ok_check_letters FCheckLetters R kIsLetters gIsLetters FIsLetters.kp bIsLetters
  have kIsText := ok_is_text FIsText M Z kCheckLetters gCheckLetters FCheckLetters.kp bCheckLetters kIsSpelled gIsSpelled FIsSpelled.kp bIsSpelled
  have kIsWordOf := ok_is_word_of FIsWordOf M Z kIsSpelled gIsSpelled FIsSpelled.kp bIsSpelled
  have kIsWord := ok_is_word FIsWord kCheckLetters gCheckLetters FCheckLetters.kp bCheckLetters kIsWordOf gIsWordOf FIsWordOf.kp bIsWordOf
  have kCheckText := ok_check_text FCheckText R kIsText gIsText FIsText.kp bIsText
  have kInOrder := ok_in_order FInOrder M R kCheckLetters gCheckLetters FCheckLetters.kp bCheckLetters kCheckText gCheckText FCheckText.kp bCheckText kOrdered gOrdered FOrdered.kp bOrdered
  have kIsLong := ok_law_is_long (P := P) (w := w) (base := base) FIsLong M
  have kSpelled := ok_law_spelled (P := P) (w := w) (base := base) FSpelled M
  have kAreSigns := ok_law_are_signs FAreSigns M kSpelled gSpelled FSpelled.kp bSpelled
  have kIsIn := ok_law_is_in (P := P) (w := w) (base := base) FIsIn M
  have kSorted := ok_law_sorted (P := P) (w := w) (base := base) FSorted M
  have kPick := ok_pickS FPick kBit gBit FBit.kp bBit M
  have kLetter := ok_letter FLetter kBit gBit FBit.kp bBit
  have kLine := ok_line FLine M m_range kBit gBit FBit.kp bBit kPick gPick FPick.kp bPick
  have kNumbers := ok_numbers FNumbers M kBit gBit FBit.kp bBit
  have kStrings := ok_strings FStrings M m_range kBit gBit FBit.kp bBit kPick gPick FPick.kp bPick kLetter gLetter FLetter.kp bLetter
  have D4 : Def P w K mg base (L2.CX P w) 3 "is_word" ["letters", "value"] (spIsWord K (He.ga K "InvalidLetters")) := ⟨⟨_, _, kIsWord, gIsWord, FIsWord.kp, bIsWord⟩⟩
  have W : WordRule P w K mg base (tabs K) := word_rule FWordCall gWordCall FWordCall.kp bWordCall (codeAt FWordCall) (TB _ (List.mem_map_of_mem in2)) (tab_in in2) (tab_one c.more in2) R B O D4
  have kOrderRight := ok_order_right FOrderRight (codeAt FOrderRight) (TB _ (List.mem_map_of_mem in1)) (tab_in in1) (tab_one c.more in1) M m_range R B O ⟨⟨_, _, kBit, gBit, FBit.kp, bBit⟩⟩ ⟨⟨_, _, kPick, gPick, FPick.kp, bPick⟩⟩ ⟨⟨_, _, kLine, gLine, FLine.kp, bLine⟩⟩ ⟨⟨_, _, kInOrder, gInOrder, FInOrder.kp, bInOrder⟩⟩ ⟨⟨_, _, kSorted, gSorted, FSorted.kp, bSorted⟩⟩
  exact ok_law FLaw (codeAt FLaw) (TB _ (List.mem_map_of_mem in3)) (tab_in in3) (tab_one c.more in3) M Z m_range m_max m_min m_repr i_MAX_DIGITS R B O W ⟨⟨_, _, kJug, gJug, FJug.kp, bJug⟩⟩ ⟨⟨_, _, kPick, gPick, FPick.kp, bPick⟩⟩ ⟨⟨_, _, kStrings, gStrings, FStrings.kp, bStrings⟩⟩ ⟨⟨_, _, kNumbers, gNumbers, FNumbers.kp, bNumbers⟩⟩ ⟨⟨_, _, kIsInteger, gIsInteger, FIsInteger.kp, bIsInteger⟩⟩ ⟨⟨_, _, kIsLetters, gIsLetters, FIsLetters.kp, bIsLetters⟩⟩ ⟨⟨_, _, kIsText, gIsText, FIsText.kp, bIsText⟩⟩ D4
    ⟨⟨_, _, kIsLong, gIsLong, FIsLong.kp, bIsLong⟩⟩ ⟨⟨_, _, kAreSigns, gAreSigns, FAreSigns.kp, bAreSigns⟩⟩ ⟨⟨_, _, kIsIn, gIsIn, FIsIn.kp, bIsIn⟩⟩ ⟨⟨_, _, kOrderRight, gOrderRight, FOrderRight.kp, bOrderRight⟩⟩
end K0
open PySem PySem.W PySem.Calls PyProof.Rows
set_option maxRecDepth 100000 in
set_option maxHeartbeats 0 in
theorem PySem.Challenge.cw_twowaycuts_k00_integers_letters_and_word_holds : PySem.Challenge.rw_twowaycuts_k00_integers_letters_and_word.Holds := by
  w_on; o_law
  refine HandSHeadRun.head_any (r := OpenLaw.row PySem.Challenge.rw_twowaycuts_k00_integers_letters_and_word) (q := view (OpenLaw.row PySem.Challenge.rw_twowaycuts_k00_integers_letters_and_word).prog [37]) (H := K0.hk) (ob := K0.ob) (M := 4000) (loose := K0.loose) (d := HandSHeadRun.topDef (OpenLaw.row PySem.Challenge.rw_twowaycuts_k00_integers_letters_and_word).prog 37) (kwd := []) K0.ob_eq
    (by kernel_rfl) (fun s => by kernel_rfl) K0.run (by kernel_rfl) (by kernel_rfl) (by kernel_rfl) (by rfl) (by first | assumption | decide +kernel) (by decide +kernel) ⟨rfl, rfl, rfl, rfl, rfl, by decide +kernel⟩ ?hw ?hc
  case hw => w_witness2
  case hc =>
    refine XE.walk_guardedT (l := PySem.Challenge.rw_twowaycuts_k00_integers_letters_and_word) (n := 63) (k := 9) (x := "script") (CX := L2.CX0) rfl (by decide) (by kernel_rfl) ⟨rfl, by decide, by decide⟩ ?F (fun _ _ _ _ z => z)
    intro w mg fa h Y G hmg0
    obtain ⟨K, KX, c⟩ := Y
    have hmg : mg ("law" : PySem.Str) = some (.ref fa) := by
      have e : (HandSHeadRun.topDef (OpenLaw.row PySem.Challenge.rw_twowaycuts_k00_integers_letters_and_word).prog 37).name = ("law" : PySem.Str) := by kernel_rfl
      rw [← e]
      exact hmg0
    obtain ⟨fd, hb, hF⟩ := K0.all_facts (P := (PySem.Challenge.rw_twowaycuts_k00_integers_letters_and_word).prog) (w := w) KX G hmg c
    refine ⟨K, fd, K0.tf.map (He.cT K), K0.spLaw (K0.tabs K) K, KX, fun p hp => ?_, fun p hp => ?_, fun p hp => ?_, hb, fun H a ns hl hT hS => ⟨a, ns, rfl, hS, hl, fun p hp => ?_, fun _ => rfl⟩, hF⟩
    · obtain ⟨r, hr, rfl⟩ := List.mem_map.mp hp
      exact c.empty r hr
    · obtain ⟨r, hr, rfl⟩ := List.mem_map.mp hp
      exact c.out r hr
    · obtain ⟨r, hr, rfl⟩ := List.mem_map.mp hp
      exact c.hd r hr
    · obtain ⟨r, hr, rfl⟩ := List.mem_map.mp hp
      exact LamX.TabS.nil (hT _ (List.mem_map_of_mem hr))
